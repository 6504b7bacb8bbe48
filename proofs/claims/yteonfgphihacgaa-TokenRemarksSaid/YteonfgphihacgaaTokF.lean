/- What is left out ahead of a number, by the code and by the document, and a text's first bytes, over any memory. Condition: the text is short. -/
import Derived.Test.YteonfgphihacgaaTokE
namespace Go.Proofs.Yteonfgphihacgaa
open Go.RowKit
set_option linter.unusedVariables false

def Tk.rem (t : S) : Bool := decide (t.k = 1)
/-- what a reader of the number 0 says ahead of a number is what is left out -/
theorem Tk.skip_step {t : S} (hG : Good 0 t) (hk : t.k ≤ 1) (i : Nat) (c : Int) (cs : List Int) {t' : S} (ht : put 0 t c = t') :
    (t'.k ≤ 1 ∧ t'.bg = false ∧ skipF (rem t) i (c :: cs) = skipF (rem t') (i + 1) cs) ∨ (t'.k = 2 ∧ t'.bg = true ∧ skipF (rem t) i (c :: cs) = i) ∨ (t'.k = 5 ∧ skipF (rem t) i (c :: cs) = i) := by
  obtain ⟨h1, h2, h3, h4, h5, h6, h7, h8⟩ := hG
  obtain ⟨k, n, e, bg⟩ := t
  simp only at h1 h2 h3 h4 h5 h6 h7 h8 hk
  obtain ⟨rfl, rfl⟩ := h7 hk
  have h9 := h4 (by omega)
  subst h9
  rcases (by omega : k = 0 ∨ k = 1) with rfl | rfl
  · by_cases hc : c = 35
    · subst hc; subst ht
      exact .inl ⟨by decide, rfl, rfl⟩
    by_cases hb : blank c = true
    · have e1 : put 0 ⟨0, 0, 9, false⟩ c = ⟨0, 0, 9, false⟩ := by simp [put, hc, hb]
      rw [e1] at ht; subst ht
      exact .inl ⟨by decide, rfl, by simp [rem, skipF, hc, hb]⟩
    · have e2 : skipF (rem ⟨0, 0, 9, false⟩) i (c :: cs) = i := by simp [rem, skipF, hc, hb]
      by_cases he : (Nu.stepV 0 c 0).2 = 0
      · have e1 : put 0 ⟨0, 0, 9, false⟩ c = ⟨2, (Nu.stepV 0 c 0).1, 9, true⟩ := by simp [put, hc, hb, he]
        rw [e1] at ht; subst ht
        exact .inr (.inl ⟨rfl, rfl, e2⟩)
      · have e1 : put 0 ⟨0, 0, 9, false⟩ c = ⟨5, 0, (Nu.stepV 0 c 0).2, false⟩ := by simp [put, hc, hb, he]
        rw [e1] at ht; subst ht
        exact .inr (.inr ⟨rfl, e2⟩)
  · by_cases hl : line c = true
    · have e1 : put 0 ⟨1, 0, 9, false⟩ c = ⟨0, 0, 9, false⟩ := by simp [put, hl]
      rw [e1] at ht; subst ht
      exact .inl ⟨by decide, rfl, by simp [rem, skipF, hl]⟩
    · have e1 : put 0 ⟨1, 0, 9, false⟩ c = ⟨1, 0, 9, false⟩ := by simp [put, hl]
      rw [e1] at ht; subst ht
      exact .inl ⟨by decide, rfl, by simp [rem, skipF, hl]⟩
theorem Tk.skipF_nil (r : Bool) (i : Nat) : skipF r i [] = i := by cases r <;> rfl
def SkipR (s : ByteArray) (w : World) (e : Ending) (w' : World) : Prop := e = .returned (.int .i64 (Tk.skipV (bytesOf s))) ∧ Below w.heap.size w w'
set_option maxRecDepth 100000 in
set_option maxHeartbeats 4000000 in
theorem skip_any (s : ByteArray) (hs : s.size ≤ 1000) (w : World) :
    Calls Try.prog 27 #[.string s] w (SkipR s w) := by
  go_enter Try.func27, Try.ntmps27
  go_wp2_with (go_at_call 14; refine (tokNew_s 0 (by omega) _).mono ?_; rintro e w1 ⟨rfl, hR, hB1⟩)
  go_loopw [8] (fun u8 wr => ∃ (i : Nat) (t : Tk.S), i ≤ s.size ∧ u8 = .int .i64 i ∧ RdS wr w.heap.size 0 t ∧ t.k ≤ 1 ∧ Below w.heap.size w wr ∧ Tk.skipV (bytesOf s) = Tk.skipF (Tk.rem t) i ((bytesOf s).drop i)) (fun u8 _ => s.size - (intOf u8).toNat)
  case atStart => exact ⟨0, Tk.new, Nat.zero_le _, rfl, hR, by decide, hB1, rfl⟩
  case round =>
    obtain ⟨i, t, hi1, rfl, hRd, htk, hB, hV⟩ := hrel
    have hG := hRd.1
    by_cases hlt : i < s.size
    · rw [bytesOf_drop s i hlt] at hV
      have c0 : (0 : Int) ≤ (s[i].toNat : Int) := by omega
      have c1 : (s[i].toNat : Int) ≤ 255 := by have := s[i].toNat_lt; omega
      obtain ⟨t', ht'⟩ : ∃ t', Tk.put 0 t (s[i].toNat : Int) = t' := ⟨_, rfl⟩
      have HP := (put_both hG (by omega) (s[i].toNat : Int) c0 c1).1
      rw [ht'] at HP
      have hcase := Tk.skip_step hG htk i (s[i].toNat : Int) ((bytesOf s).drop (i + 1)) ht'
      have HB := Lib.hid hB
      have HRD := Lib.hid hRd
      have HV : Hid (Tk.skipV (bytesOf s) = Tk.skipF (Tk.rem t) i ((s[i].toNat : Int) :: (bytesOf s).drop (i + 1))) := hV
      clear hV hB hRd hR hB1
      have hwz := HB.out.size
      rcases hcase with ⟨hk, hbg, hX⟩ | ⟨hk, hbg, hX⟩ | ⟨hk, hX⟩
      · have HV2 : Hid (Tk.skipV (bytesOf s) = Tk.skipF (Tk.rem t') (i + 1) ((bytesOf s).drop (i + 1))) := by show _ = _; rw [HV.out, hX]
        have HPC : Hid (∀ W, RdS W w.heap.size 0 t → Calls Try.prog 17 #[.pointer (some ⟨w.heap.size, 0, none⟩), .int .u8 (s[i].toNat : Int)] W fun e w' => e = .returned (.int .i64 0) ∧ RdS w' w.heap.size 0 t' ∧ W.grownBy w' (some w.heap.size)) := fun W hr => (HP W _ hr).mono fun e w' hh => ⟨by rw [hh.1]; unfold Tk.st; rw [if_neg (by omega), if_neg (by omega)], hh.2⟩
        have HBC : Hid (∀ W, RdS W w.heap.size 0 t' → Calls Try.prog 18 #[.pointer (some ⟨w.heap.size, 0, none⟩)] W fun e w' => e = .returned (.bool false) ∧ W = w') := fun W hr => by have := begun_s hr; rw [hbg] at this; exact this
        clear HP ht' hbg hX HV hG
        go_wp2_with (first
          | (go_at_call 17; refine (HPC.out _ HRD.out).mono ?_; rintro e w2 ⟨rfl, hr2, hg2⟩; have HR2 := Lib.hid hr2; have HG2 := Lib.hid hg2; clear hr2 hg2)
          | (go_at_call 18; refine (HBC.out _ HR2.out).mono ?_; rintro e w3 ⟨rfl, rfl⟩))
        go_roundw
        case rel => exact ⟨i + 1, t', by omega, by go_num, HR2.out, hk, HB.out.grown HG2.out hwz (by intro k e; cases e; exact Nat.le_refl _), HV2.out⟩
        case measure => simp [intOf]; omega
      · have HV2 : Hid (Tk.skipV (bytesOf s) = i) := by show _ = _; rw [HV.out, hX]
        have HPC : Hid (∀ W, RdS W w.heap.size 0 t → Calls Try.prog 17 #[.pointer (some ⟨w.heap.size, 0, none⟩), .int .u8 (s[i].toNat : Int)] W fun e w' => e = .returned (.int .i64 0) ∧ RdS w' w.heap.size 0 t' ∧ W.grownBy w' (some w.heap.size)) := fun W hr => (HP W _ hr).mono fun e w' hh => ⟨by rw [hh.1]; unfold Tk.st; rw [if_neg (by omega), if_neg (by omega)], hh.2⟩
        have HBC : Hid (∀ W, RdS W w.heap.size 0 t' → Calls Try.prog 18 #[.pointer (some ⟨w.heap.size, 0, none⟩)] W fun e w' => e = .returned (.bool true) ∧ W = w') := fun W hr => by have := begun_s hr; rw [hbg] at this; exact this
        clear HP ht' hbg hX HV hG
        go_wp2_with (first
          | (go_at_call 17; refine (HPC.out _ HRD.out).mono ?_; rintro e w2 ⟨rfl, hr2, hg2⟩; have HR2 := Lib.hid hr2; have HG2 := Lib.hid hg2; clear hr2 hg2)
          | (go_at_call 18; refine (HBC.out _ HR2.out).mono ?_; rintro e w3 ⟨rfl, rfl⟩))
        go_ret
        exact ⟨Ar.ret_i HV2.out.symm, HB.out.grown HG2.out hwz (by intro k e; cases e; exact Nat.le_refl _)⟩
      · have HV2 : Hid (Tk.skipV (bytesOf s) = i) := by show _ = _; rw [HV.out, hX]
        have HPC : Hid (∀ W, RdS W w.heap.size 0 t → Calls Try.prog 17 #[.pointer (some ⟨w.heap.size, 0, none⟩), .int .u8 (s[i].toNat : Int)] W fun e w' => e = .returned (.int .i64 2) ∧ RdS w' w.heap.size 0 t' ∧ W.grownBy w' (some w.heap.size)) := fun W hr => (HP W _ hr).mono fun e w' hh => ⟨by rw [hh.1]; unfold Tk.st; rw [if_neg (by omega), if_pos hk], hh.2⟩
        clear HP ht' hX HV hG
        go_wp2_with (go_at_call 17; refine (HPC.out _ HRD.out).mono ?_; rintro e w2 ⟨rfl, hr2, hg2⟩; have HR2 := Lib.hid hr2; have HG2 := Lib.hid hg2; clear hr2 hg2)
        go_ret
        exact ⟨Ar.ret_i HV2.out.symm, HB.out.grown HG2.out hwz (by intro k e; cases e; exact Nat.le_refl _)⟩
    · have hle : i = s.size := by omega
      have HV2 : Hid (Tk.skipV (bytesOf s) = (s.size : Int)) := by show _ = _; rw [hV, List.drop_eq_nil_of_le (by rw [bytesOf_length]; omega), Tk.skipF_nil, hle]
      have HB := Lib.hid hB
      clear hV hRd hB hR hB1 hG hle
      go_wp2
      go_ret
      exact ⟨Ar.ret_i HV2.out.symm, HB.out⟩
set_option maxRecDepth 100000 in
set_option maxHeartbeats 4000000 in
theorem refSkip_any (s : ByteArray) (hs : s.size ≤ 1000) (w : World) :
    Calls Try.prog 28 #[.string s] w (SkipR s w) := by
  go_enter Try.func28, Try.ntmps28
  go_wp2
  go_loop [3, 4] (fun u3 u4 => ∃ (i : Nat) (r : Bool), i ≤ s.size ∧ u3 = .bool r ∧ u4 = .int .i64 i ∧ Tk.skipV (bytesOf s) = Tk.skipF r i ((bytesOf s).drop i)) (fun _ u4 => s.size - (intOf u4).toNat)
  case atStart => exact ⟨0, false, Nat.zero_le _, rfl, rfl, rfl⟩
  case round =>
    obtain ⟨i, r, hi1, rfl, rfl, hV⟩ := hrel
    by_cases hlt : i < s.size
    · rw [bytesOf_drop s i hlt] at hV
      have c0 : (0 : Int) ≤ (s[i].toNat : Int) := by omega
      have c1 : (s[i].toNat : Int) ≤ 255 := by have := s[i].toNat_lt; omega
      have HV : Hid (Tk.skipV (bytesOf s) = Tk.skipF r i ((s[i].toNat : Int) :: (bytesOf s).drop (i + 1))) := hV
      clear hV
      cases r with
      | true =>
        by_cases h10 : (s[i].toNat : Int) = 10
        · have k1 : ((s[i].toNat : Int) == 10) = true := by simp [h10]
          have HV2 : Hid (Tk.skipV (bytesOf s) = Tk.skipF false (i + 1) ((bytesOf s).drop (i + 1))) := by show _ = _; rw [HV.out, h10]; rfl
          clear HV h10
          go_wp2
          go_round
          case rel => exact ⟨i + 1, false, by omega, rfl, by go_num, HV2.out⟩
          case measure => simp [intOf]; omega
        have k1 : ((s[i].toNat : Int) == 10) = false := by simpa using h10
        by_cases h13 : (s[i].toNat : Int) = 13
        · have k2 : ((s[i].toNat : Int) == 13) = true := by simp [h13]
          have HV2 : Hid (Tk.skipV (bytesOf s) = Tk.skipF false (i + 1) ((bytesOf s).drop (i + 1))) := by show _ = _; rw [HV.out, h13]; rfl
          clear HV h13 h10
          go_wp2
          go_round
          case rel => exact ⟨i + 1, false, by omega, rfl, by go_num, HV2.out⟩
          case measure => simp [intOf]; omega
        · have k2 : ((s[i].toNat : Int) == 13) = false := by simpa using h13
          have HV2 : Hid (Tk.skipV (bytesOf s) = Tk.skipF true (i + 1) ((bytesOf s).drop (i + 1))) := by
            show _ = _
            have hl : Tk.line (s[i].toNat : Int) = false := by unfold Tk.line; exact decide_eq_false (by omega)
            rw [HV.out, Tk.skipF, hl]; rfl
          clear HV h13 h10
          go_wp2
          go_round
          case rel => exact ⟨i + 1, true, by omega, rfl, by go_num, HV2.out⟩
          case measure => simp [intOf]; omega
      | false =>
        by_cases h35 : (s[i].toNat : Int) = 35
        · have k1 : ((s[i].toNat : Int) == 35) = true := by simp [h35]
          have HV2 : Hid (Tk.skipV (bytesOf s) = Tk.skipF true (i + 1) ((bytesOf s).drop (i + 1))) := by show _ = _; rw [HV.out, h35]; rfl
          clear HV h35
          go_wp2
          go_round
          case rel => exact ⟨i + 1, true, by omega, rfl, by go_num, HV2.out⟩
          case measure => simp [intOf]; omega
        have k1 : ((s[i].toNat : Int) == 35) = false := by simpa using h35
        have HBC := refBlank_any (s[i].toNat : Int) c0 c1
        by_cases hb : Tk.blank (s[i].toNat : Int) = true
        · rw [hb] at HBC
          have HBC2 := Lib.hid HBC
          have HV2 : Hid (Tk.skipV (bytesOf s) = Tk.skipF false (i + 1) ((bytesOf s).drop (i + 1))) := by show _ = _; rw [HV.out, Tk.skipF, if_neg h35, if_pos hb]
          clear HV h35 hb HBC
          go_wp2_with (go_at_call 20; refine (HBC2.out _).mono ?_; rintro e w1 ⟨rfl, rfl⟩)
          go_round
          case rel => exact ⟨i + 1, false, by omega, rfl, by go_num, HV2.out⟩
          case measure => simp [intOf]; omega
        · have hb' : Tk.blank (s[i].toNat : Int) = false := by simpa using hb
          rw [hb'] at HBC
          have HBC2 := Lib.hid HBC
          have HV2 : Hid (Tk.skipV (bytesOf s) = i) := by show _ = _; rw [HV.out, Tk.skipF, if_neg h35, if_neg hb]
          clear HV h35 hb hb' HBC
          go_wp2_with (go_at_call 20; refine (HBC2.out _).mono ?_; rintro e w1 ⟨rfl, rfl⟩)
          go_ret
          exact ⟨Ar.ret_i HV2.out.symm, .refl _ _⟩
    · have hle : i = s.size := by omega
      have HV2 : Hid (Tk.skipV (bytesOf s) = (s.size : Int)) := by show _ = _; rw [hV, List.drop_eq_nil_of_le (by rw [bytesOf_length]; omega), Tk.skipF_nil, hle]
      clear hV hle
      go_wp2
      go_ret
      exact ⟨Ar.ret_i HV2.out.symm, .refl _ _⟩
end Go.Proofs.Yteonfgphihacgaa
