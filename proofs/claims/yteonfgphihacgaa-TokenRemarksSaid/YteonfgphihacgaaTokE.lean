/- All numbers of a text, over any memory. Condition: the greatest number fits, the text is short. -/
import Derived.Test.YteonfgphihacgaaTokD
import Derived.Lib.Hide
namespace Go.Proofs.Yteonfgphihacgaa
open Go.RowKit
set_option linter.unusedVariables false

theorem value_s {w : World} {b : Nat} {m : Int} {s : Tk.S} (h : RdS w b m s) :
    Calls Try.prog 21 #[.pointer (some ⟨b, 0, none⟩)] w fun e w' => e = .returned (.tuple #[.int .i64 (Tk.val s).1, .int .i64 (Tk.val s).2]) ∧ w.grownBy w' none := by
  obtain ⟨⟨h1, h2, h3, h4, h5, h6, h7, h8⟩, v, f, x, r1, r2, r3, r4⟩ := h
  obtain ⟨k, n, er, bg⟩ := s
  simp only at h1 h2 h3 h4 h5 h6 h7 h8 r2 r3 r4
  by_cases k4 : k = 4
  · subst k4
    have hv := r2 (by omega)
    have he := h5 rfl
    subst hv he
    have r1' : RdC w b m v bg 1 f x := r1
    have hc1 := r1'.c1
    have hc3 := r1'.c3
    clear r1 r1' r2 r3 r4 h1 h2 h3 h4 h5 h6 h7 h8
    go_enter Try.func21, Try.ntmps21
    go_wp2
    go_ret2
    exact ⟨rfl, .refl _ _⟩
  by_cases k5 : k = 5
  · subst k5
    have hf := r4 rfl
    have he : er ≠ 0 := by have := h6 rfl; omega
    subst hf
    have r1' : RdC w b m v bg 2 f x := r1
    have X : Hid (Tk.val ⟨5, n, f, bg⟩ = (0, f)) := by show _ = _; unfold Tk.val; exact if_neg he
    have hc4 := r1'.c4
    have hc3 := r1'.c3
    clear r1 r1' r2 r3 r4 h1 h2 h3 h4 h5 h6 h7 h8 he
    go_enter Try.func21, Try.ntmps21
    go_wp2_with (go_quiet (fail))
    go_ret2
    exact ⟨(by rw [X.out]; rfl), grown_drew _ _ _⟩
  · have he := h4 (by omega)
    subst he
    have hst : Tk.st ⟨k, n, 9, bg⟩ = 0 := by unfold Tk.st; simp [k4, k5]
    rw [hst] at r1
    have hc3 := r1.c3
    clear r1 r2 r3 r4 h1 h2 h3 h4 h5 h6 h7 h8 hst
    go_enter Try.func21, Try.ntmps21
    go_wp2
    go_ret2
    exact ⟨rfl, .refl _ _⟩
theorem RdS.not_row {w : World} {b : Nat} {m : Int} {s : Tk.S} (h : RdS w b m s) {e : TypeId} (hte : 90 ≠ e) {base size k : Nat} {v : Value} {xs : List Value} (hr : w.ownsRow base e size v k xs) : some b ≠ v.ownBlock := by
  obtain ⟨_, _, f, x, h1, _⟩ := h
  have h1' : w.heap[b]? = _ := h1
  rcases hr.2 with ⟨hv, _⟩ | ⟨j, cap, cur, hv, _, hj, _⟩
  · rw [hv]; simp [Value.ownBlock]
  · rw [hv]; intro e2
    have e2 : b = j := by simpa [Value.ownBlock] using e2
    subst e2
    rw [h1'] at hj
    injection hj with hj
    injection hj with _ ht _
    exact hte ht
theorem row_keep {w w' : World} {b base size k : Nat} {e : TypeId} {v : Value} {xs : List Value} (hr : w.ownsRow base e size v k xs) (hg : w.grownBy w' (some b)) (hne : some b ≠ v.ownBlock) : w'.ownsRow base e size v k xs := hr.kept hg (.inr (Ne.symm hne))
theorem row_none {w w' : World} {base size k : Nat} {e : TypeId} {v : Value} {xs : List Value} (hr : w.ownsRow base e size v k xs) (hg : w.grownBy w' none) : w'.ownsRow base e size v k xs := by
  refine hr.kept hg ?_
  cases h : v.ownBlock with
  | none => exact .inl rfl
  | some j => exact .inr (by simp)
theorem row_below {w w' : World} {base size k : Nat} {e : TypeId} {v : Value} {xs : List Value} (hr : w.ownsRow base e size v k xs) (hb : Below w.heap.size w w') : w'.ownsRow base e size v k xs := row_none hr ⟨hb.os, hb.tape, hb.output, hb.size, fun k hk _ => hb.block k hk⟩
theorem Try.info_i : (Try.prog.info? 3).map (fun i => (i.zero, i.size, i.bytes)) = some (some (.int .i64 0), 1, 8) := by kernel_rfl
/-- all numbers of a text, handed back -/
def AllR (s : ByteArray) (m : Int) (w : World) (e : Ending) (w' : World) : Prop :=
  ∃ ad cap acc u er, e = .returned (.tuple #[.slice ad acc.length cap, .int .i64 u, .int .i64 er]) ∧ Tk.allV (bytesOf s) m = (acc, u, er) ∧ OwnK .i64 w.heap.size w' ad acc ∧ acc.length ≤ cap ∧ acc.length ≤ 1000 ∧ Below w.heap.size w w'
theorem Tk.allF_nil (m : Int) (s : S) (i : Nat) (u : Int) (acc : List Int) : allF m s i u acc [] = (acc, u, if s.bg = true then 6 else 0) := by rw [allF]
theorem Tk.allF_wrong {m : Int} {s t : S} {i : Nat} {u : Int} {acc : List Int} {c : Int} {cs : List Int} (ht : put m s c = t) (h : t.k = 5) : allF m s i u acc (c :: cs) = (acc, u, t.e) := by rw [allF, ht, if_pos h]
theorem Tk.allF_over {m : Int} {s t : S} {i : Nat} {u : Int} {acc : List Int} {c : Int} {cs : List Int} (ht : put m s c = t) (h : t.k = 4) : allF m s i u acc (c :: cs) = allF m new (i + 1) ((i : Int) + 1) (acc ++ [t.n]) cs := by rw [allF, ht, if_neg (by omega), if_pos h]
theorem Tk.allF_more {m : Int} {s t : S} {i : Nat} {u : Int} {acc : List Int} {c : Int} {cs : List Int} (ht : put m s c = t) (h : t.k ≤ 3) : allF m s i u acc (c :: cs) = allF m t (i + 1) u acc cs := by rw [allF, ht, if_neg (by omega), if_neg (by omega)]
theorem all_fin {s : ByteArray} {m : Int} {w w' : World} {v : Value} {acc : List Int} {u er : Int} (hr : w'.ownsRow w.heap.size 3 1 v acc.length (acc.map (Value.int .i64))) (hV : Tk.allV (bytesOf s) m = (acc, u, er)) (hB : Below w.heap.size w w') (hl : acc.length ≤ 1000) :
    AllR s m w (.returned (.tuple #[v, .int .i64 u, .int .i64 er])) w' := by
  obtain ⟨ad, cap, rfl, ho, hle⟩ := ownK_row rfl hr
  exact ⟨ad, cap, acc, u, er, rfl, hV, ho, hle, hl, hB⟩
set_option maxRecDepth 100000 in
set_option maxHeartbeats 4000000 in
theorem all_any (s : ByteArray) (m : Int) (m0 : 0 ≤ m) (m1 : m ≤ 4611686018427387903) (hs : s.size ≤ 1000) (w : World) :
    Calls Try.prog 24 #[.string s, .int .i64 m] w (AllR s m w) := by
  obtain ⟨i0, hi, hz0, hz1, hz2⟩ := info_parts Try.info_i
  have HM := Lib.hid m1
  clear m1
  go_enter Try.func24, Try.ntmps24
  go_wp2_with (go_at_call 14; refine (tokNew_s m m0 _).mono ?_; rintro e w1 ⟨rfl, hR, hB1⟩)
  go_loopw [7, 8, 9, 18] (fun u7 u8 u9 u18 wr => ∃ (i : Nat) (t : Tk.S) (u : Int) (acc : List Int) (b : Nat), i ≤ s.size ∧ wr.ownsRow w.heap.size 3 1 u7 acc.length (acc.map (Value.int .i64)) ∧ u8 = .int .i64 u ∧ u9 = .pointer (some ⟨b, 0, none⟩) ∧ u18 = .int .i64 i ∧ RdS wr b m t ∧ t.k ≤ 3 ∧ Below w.heap.size w wr ∧ w.heap.size ≤ b ∧ acc.length ≤ i ∧ Tk.allV (bytesOf s) m = Tk.allF m t i u acc ((bytesOf s).drop i)) (fun _ _ _ u18 _ => s.size - (intOf u18).toNat)
  case atStart => exact ⟨0, Tk.new, 0, [], w.heap.size, Nat.zero_le _, World.ownsRow_nil _ _ _ _, rfl, rfl, rfl, hR, by decide, hB1, Nat.le_refl _, Nat.le_refl _, rfl⟩
  case round =>
    obtain ⟨i, t, u, acc, b, hi1, hrow, rfl, rfl, rfl, hRd, htk, hB, hbb, hacc, hV⟩ := hrel
    have hG := hRd.1
    by_cases hlt : i < s.size
    · rw [bytesOf_drop s i hlt] at hV
      have c0 : (0 : Int) ≤ (s[i].toNat : Int) := by omega
      have c1 : (s[i].toNat : Int) ≤ 255 := by have := s[i].toNat_lt; omega
      obtain ⟨t', ht'⟩ : ∃ t', Tk.put m t (s[i].toNat : Int) = t' := ⟨_, rfl⟩
      have HP := (put_both hG HM.out (s[i].toNat : Int) c0 c1).1
      rw [ht'] at HP
      have hG' := Tk.good_put hG (s[i].toNat : Int)
      rw [ht'] at hG'
      have HB := Lib.hid hB
      have HROW := Lib.hid hrow
      have HRD := Lib.hid hRd
      have HNR := Lib.hid (hRd.not_row (by decide) hrow)
      have hk5 : t'.k ≤ 5 := hG'.1
      have HV : Hid (Tk.allV (bytesOf s) m = Tk.allF m t i u acc ((s[i].toNat : Int) :: (bytesOf s).drop (i + 1))) := hV
      clear hV hB hrow hRd hR hB1
      have hwz := HB.out.size
      by_cases h5 : t'.k = 5
      · have HV2 : Hid (Tk.allV (bytesOf s) m = (acc, u, t'.e)) := by show _ = _; rw [HV.out, Tk.allF_wrong ht' h5]
        have HPC : Hid (∀ W, RdS W b m t → Calls Try.prog 17 #[.pointer (some ⟨b, 0, none⟩), .int .u8 (s[i].toNat : Int)] W fun e w' => e = .returned (.int .i64 2) ∧ RdS w' b m t' ∧ W.grownBy w' (some b)) := fun W hr => (HP W b hr).mono fun e w' hh => ⟨by rw [hh.1]; unfold Tk.st; rw [if_neg (by omega), if_pos h5], hh.2⟩
        have hv2 : (Tk.val t').2 = t'.e := by
          have := hG'.2.2.2.2.2.1 h5
          unfold Tk.val; rw [if_neg (by omega)]
        have HVC : Hid (∀ W, RdS W b m t' → Calls Try.prog 21 #[.pointer (some ⟨b, 0, none⟩)] W fun e w' => e = .returned (.tuple #[.int .i64 (Tk.val t').1, .int .i64 t'.e]) ∧ W.grownBy w' none) := fun W hr => (value_s hr).mono fun e w' hh => ⟨by rw [hh.1, hv2], hh.2⟩
        clear HP hG' ht' hv2 HV hG
        go_wp2_with (first
          | (go_at_call 17; refine (HPC.out _ HRD.out).mono ?_; rintro e w2 ⟨rfl, hr2, hg2⟩; have HR2 := Lib.hid hr2; have HG2 := Lib.hid hg2; clear hr2 hg2)
          | (go_at_call 21; refine (HVC.out _ HR2.out).mono ?_; rintro e w3 ⟨rfl, hg3⟩; have HG3 := Lib.hid hg3; clear hg3))
        go_ret3
        exact all_fin (row_none (row_keep HROW.out HG2.out HNR.out) HG3.out) HV2.out ((HB.out.grown HG2.out hwz (by intro k e; cases e; exact hbb)).grown HG3.out (Nat.le_trans hwz HG2.out.size) (by intro k e; cases e)) (Nat.le_trans hacc (Nat.le_trans hi1 hs))
      by_cases h4 : t'.k = 4
      · have HV2 : Hid (Tk.allV (bytesOf s) m = Tk.allF m Tk.new (i + 1) ((i : Int) + 1) (acc ++ [t'.n]) ((bytesOf s).drop (i + 1))) := by show _ = _; rw [HV.out, Tk.allF_over ht' h4]
        have HPC : Hid (∀ W, RdS W b m t → Calls Try.prog 17 #[.pointer (some ⟨b, 0, none⟩), .int .u8 (s[i].toNat : Int)] W fun e w' => e = .returned (.int .i64 1) ∧ RdS w' b m t' ∧ W.grownBy w' (some b)) := fun W hr => (HP W b hr).mono fun e w' hh => ⟨by rw [hh.1]; unfold Tk.st; rw [if_pos h4], hh.2⟩
        have hv2 : Tk.val t' = (t'.n, 0) := by
          have := hG'.2.2.2.2.1 h4
          unfold Tk.val; rw [if_pos this]
        have HVC : Hid (∀ W, RdS W b m t' → Calls Try.prog 21 #[.pointer (some ⟨b, 0, none⟩)] W fun e w' => e = .returned (.tuple #[.int .i64 t'.n, .int .i64 0]) ∧ W.grownBy w' none) := fun W hr => (value_s hr).mono fun e w' hh => ⟨by rw [hh.1, hv2], hh.2⟩
        clear HP hG' ht' hv2 HV hG h5
        go_wp2_with (first
          | (go_at_call 17; refine (HPC.out _ HRD.out).mono ?_; rintro e w2 ⟨rfl, hr2, hg2⟩; have HR2 := Lib.hid hr2; have HG2 := Lib.hid hg2; clear hr2 hg2)
          | (go_at_call 21; refine (HVC.out _ HR2.out).mono ?_; rintro e w3 ⟨rfl, hg3⟩; have HG3 := Lib.hid hg3; clear hg3; have ROW3 := Lib.hid (row_none (row_keep HROW.out HG2.out HNR.out) HG3.out); have B3 := Lib.hid ((HB.out.grown HG2.out hwz (by intro k e; cases e; exact hbb)).grown HG3.out (Nat.le_trans hwz HG2.out.size) (by intro k e; cases e)); have hz3 := B3.out.size)
          | (at_builtin; refine wpList_append_own _ rfl _ _ 40 rfl w.heap.size 3 i0 (.int .i64 0) 1 8 Try.underlying40 hi hz0 hz1 hz2 rfl (by decide) _ acc.length (acc.map (Value.int .i64)) rfl (ROW3.out.alloc _) ⟨w3.heap.size, 0, none⟩ 1 1 [.int .i64 t'.n] rfl rfl (cell_one_new _ _ _) (by simp [Value.oneCell']) (by unfold maxLen; omega) (by omega) (by simp; omega) ?_; intro v' w4 hown' hgrow _; have HO := Lib.hid hown'; have HW := Lib.hid hgrow; clear hown' hgrow; have B4 := Lib.hid ((B3.out.alloc hz3 _).grown HW.out (by simp; omega) (fun j ej => (ROW3.out.lt j ej).1)))
          | (go_at_call 14; refine (tokNew_s m m0 _).mono ?_; rintro e w5 ⟨rfl, hr5, hb5⟩; have HR5 := Lib.hid hr5; have HB5 := Lib.hid hb5; clear hr5 hb5))
        go_roundw
        case rel => exact ⟨i + 1, Tk.new, (i : Int) + 1, acc ++ [t'.n], w4.heap.size, by omega, by have := row_below HO.out HB5.out; simpa using this, by go_num, rfl, by go_num, HR5.out, by decide, B4.out.trans (HB5.out.mono B4.out.size), B4.out.size, by simp; omega, HV2.out⟩
        case measure => simp [intOf]; omega
      · have HV2 : Hid (Tk.allV (bytesOf s) m = Tk.allF m t' (i + 1) u acc ((bytesOf s).drop (i + 1))) := by show _ = _; rw [HV.out, Tk.allF_more ht' (by omega)]
        have HPC : Hid (∀ W, RdS W b m t → Calls Try.prog 17 #[.pointer (some ⟨b, 0, none⟩), .int .u8 (s[i].toNat : Int)] W fun e w' => e = .returned (.int .i64 0) ∧ RdS w' b m t' ∧ W.grownBy w' (some b)) := fun W hr => (HP W b hr).mono fun e w' hh => ⟨by rw [hh.1]; unfold Tk.st; rw [if_neg h4, if_neg h5], hh.2⟩
        clear HP hG' ht' HV hG
        go_wp2_with (go_at_call 17; refine (HPC.out _ HRD.out).mono ?_; rintro e w2 ⟨rfl, hr2, hg2⟩; have HR2 := Lib.hid hr2; have HG2 := Lib.hid hg2; clear hr2 hg2)
        go_roundw
        case rel => exact ⟨i + 1, t', u, acc, b, by omega, row_keep HROW.out HG2.out HNR.out, rfl, rfl, by go_num, HR2.out, by omega, HB.out.grown HG2.out hwz (by intro k e; cases e; exact hbb), hbb, by omega, HV2.out⟩
        case measure => simp [intOf]; omega
    · have HD : Hid ((bytesOf s).drop i = []) := List.drop_eq_nil_of_le (by rw [bytesOf_length]; omega)
      have HV2 : Hid (Tk.allV (bytesOf s) m = (acc, u, if t.bg = true then 6 else 0)) := by show _ = _; rw [hV, HD.out, Tk.allF_nil]
      obtain ⟨bg, hbg⟩ : ∃ bg, t.bg = bg := ⟨_, rfl⟩
      have HBC : Hid (∀ W, RdS W b m t → Calls Try.prog 18 #[.pointer (some ⟨b, 0, none⟩)] W fun e w' => e = .returned (.bool bg) ∧ W = w') := fun W hr => by have := begun_s hr; rw [hbg] at this; exact this
      rw [hbg] at HV2
      have HRD := Lib.hid hRd
      have HROW := Lib.hid hrow
      have HB := Lib.hid hB
      clear hV hRd hrow hB hR hB1 hbg hG
      cases bg with
      | true =>
        go_wp2_with (go_at_call 18; refine (HBC.out _ HRD.out).mono ?_; rintro e w2 ⟨rfl, rfl⟩)
        go_ret3
        exact all_fin HROW.out HV2.out HB.out (Nat.le_trans hacc (Nat.le_trans hi1 hs))
      | false =>
        go_wp2_with (go_at_call 18; refine (HBC.out _ HRD.out).mono ?_; rintro e w2 ⟨rfl, rfl⟩)
        go_ret3
        exact all_fin HROW.out HV2.out HB.out (Nat.le_trans hacc (Nat.le_trans hi1 hs))
end Go.Proofs.Yteonfgphihacgaa
