/- Samples of bytes, and with which byte a raster is wrong, by the document, over any memory. Condition: not too many bytes. -/
import Derived.Test.YtflpocnbmpdhiaaZgAC
import Derived.Test.YtflpocnbmpdhiaaZgAB
namespace Go.Proofs.Ytflpocnbmpdhiaa
open Go.RowKit
set_option linter.unusedVariables false
namespace Rw
theorem take_snoc1 (bs : List Int) (i : Nat) (h : i < bs.length) : bs.take (i + 1) = bs.take i ++ [bs.getD i 0] := by
  rw [List.take_succ_eq_append_getElem h, List.getD_eq_getElem?_getD, List.getElem?_eq_getElem h]; rfl
theorem smp_one {h : Hd.H} (hw : wide h = 1) {l : List Int} (hl : rest h l = []) (x : Int) : smp h (l ++ [x]) = smp h l ++ [x] ∧ rest h (l ++ [x]) = [] := by
  have hl' : (parts (wide h) l).2 = [] := hl
  have hf : (parts (wide h) l).2.length + 1 = wide h := by rw [hl', hw]; rfl
  refine ⟨?_, ?_⟩
  · rw [smp_more hf, hl']; simp [val_one]
  · unfold rest; rw [parts_full hf]
theorem smp_two {h : Hd.H} (hw : wide h = 2) {l : List Int} (hl : rest h l = []) (x y : Int) : smp h (l ++ [x] ++ [y]) = smp h l ++ [x * 256 + y] ∧ rest h (l ++ [x] ++ [y]) = [] := by
  have hl' : (parts (wide h) l).2 = [] := hl
  have hf : ¬ (parts (wide h) l).2.length + 1 = wide h := by rw [hl', hw]; decide
  have h2 : (parts (wide h) (l ++ [x])).2 = [x] := by rw [parts_wait hf, hl']; rfl
  have hf2 : (parts (wide h) (l ++ [x])).2.length + 1 = wide h := by rw [h2, hw]; rfl
  refine ⟨?_, ?_⟩
  · rw [smp_more hf2, smp_wait hf, h2]; show _ ++ [val [x, y]] = _; rw [val_two]
  · unfold rest; rw [parts_full hf2]
theorem smp_tail {h : Hd.H} {l t : List Int} (hl : rest h l = []) (ht : t.length < wide h) : smp h (l ++ t) = smp h l := by
  have hw := wide_at h
  match t, ht with
  | [], _ => rw [List.append_nil]
  | [x], ht =>
    have hl' : (parts (wide h) l).2 = [] := hl
    exact smp_wait (by rw [hl']; simp at ht ⊢; omega)
  | x :: y :: t, ht => simp at ht; omega
theorem smp_le (h : Hd.H) (l : List Int) : (smp h l).length ≤ l.length := by
  have h1 := smp_len h l
  have h2 := wide_pos h
  have : (smp h l).length * 1 ≤ (smp h l).length * wide h := Nat.mul_le_mul_left _ h2
  omega
theorem smp_in {h : Hd.H} {r : List Int} (hr : ∀ x ∈ r, 0 ≤ x ∧ x ≤ 255) : ∀ x ∈ smp h r, 0 ≤ x ∧ x ≤ 65535 := by
  revert hr
  refine snoc_ind (P := fun r => (∀ x ∈ r, 0 ≤ x ∧ x ≤ 255) → ∀ x ∈ smp h r, 0 ≤ x ∧ x ≤ 65535) (fun _ x hx => by cases hx) (fun l c ih hr => ?_) r
  have hl : ∀ x ∈ l, 0 ≤ x ∧ x ≤ 255 := fun x hx => hr x (List.mem_append_left _ hx)
  have hc := hr c (by simp)
  by_cases hf : (parts (wide h) l).2.length + 1 = wide h
  · rw [smp_more hf]
    intro x hx
    rcases List.mem_append.1 hx with hx | hx
    · exact ih hl x hx
    · rw [List.mem_singleton.1 hx]
      rcases wait_in (h := h) hl with e | ⟨y, e, y0, y1, _⟩
      · rw [e]; show 0 ≤ val [c] ∧ _ ≤ _; rw [show ([] : List Int) ++ [c] = [c] from rfl, val_one]; omega
      · rw [e]; show 0 ≤ val [y, c] ∧ val [y, c] ≤ _; rw [val_two]; omega
  · rw [smp_wait hf]; exact ih hl
/-- the number of the byte with which samples are wrong -/
def badL (w m : Int) : List Int → Int → Int
  | [], _ => 0
  | x :: l, i => if m < x then w * (i + 1) else badL w m l (i + 1)
def badV (h : Hd.H) (bs : List Int) : Int := if h.kd = 4 then 0 else badL (wide h) h.m (smp h (bs.take (Hj.size h).toNat)) 0
end Rw
theorem Rw.row_cap {w : World} {base n c : Nat} {e : TypeId} {a : Option Addr} {xs : List Value} (h : w.ownsRow base e 1 (.slice a n c) n xs) : n ≤ c := by
  rcases h.2 with ⟨hv, he⟩ | ⟨g, cap, cur, hv, hb, hg, hle, _⟩
  · cases hv; exact Nat.le_refl _
  · cases hv; exact hle
/-- samples, told -/
def SmpR (w : World) (l : List Int) (n : Nat) (e : Ending) (w' : World) : Prop :=
  ∃ a c, e = .returned (.slice a n c) ∧ SlK .i64 w' a n l ∧ n ≤ c ∧ Below w.heap.size w w'
set_option maxRecDepth 100000 in
set_option maxHeartbeats 4000000 in
theorem refSamples_1 (ab : Option Addr) (nb cb : Nat) (bs : List Int) (hnb : nb ≤ 100000) (h : Hd.H) (hw : Rw.wide h = 1) (w : World) (hs : Bt.Bs w ab nb cb bs) :
    Calls Try.prog 59 #[.slice ab nb cb, agH h] w (SmpR w (Rw.smp h bs) (Rw.smp h bs).length) := by
  have HW := Lib.hid (fun W => refWide_any h W)
  rw [hw] at HW
  obtain ⟨i0, hi, hz0, hz1, hz2⟩ : ∃ i, Try.prog.info? 3 = some i ∧ i.zero = some (.int .i64 0) ∧ i.size = 1 ∧ i.bytes = 8 := (by have h := Try.info_in8; cases hh : Try.prog.info? 3 with | none => rw [hh] at h; cases h | some i => rw [hh] at h; simp at h; exact ⟨i, rfl, h.1, h.2.1, h.2.2⟩)
  have HSB := Lib.hid hs.1
  have HBY := Lib.hid hs.2.2.2
  have HLB : Hid (bs.length = nb) := Lib.hid hs.1.1
  have HWD := Lib.hid hw
  clear hs hw
  unfold agH at HW ⊢
  go_enter Try.func59, Try.ntmps59
  go_wp2_with (go_at_call 58; refine (HW.out _).mono ?_; rintro e w9 ⟨rfl, hb9⟩; have HB1 := Lib.hid (((Below.refl _ w).alloc (Nat.le_refl _) _).trans (hb9.mono (by simp))))
  go_loopw [5, 7] (fun u5 u7 wr => ∃ (i : Nat) (v : Value), i ≤ nb ∧ u7 = .int .i64 i ∧ v = u5 ∧ Rw.rest h (bs.take i) = [] ∧ wr.ownsRow w.heap.size 3 1 v (Rw.smp h (bs.take i)).length (ints (Rw.smp h (bs.take i))) ∧ Below w.heap.size w wr) (fun _ u7 _ => nb - (intOf u7).toNat)
  case atStart => exact ⟨0, _, Nat.zero_le _, rfl, rfl, rfl, World.ownsRow_nil _ _ _ _, HB1.out⟩
  case round =>
    obtain ⟨i, v, hi1, rfl, rfl, hrs, hrow, hB⟩ := hrel
    have HRS := Lib.hid hrs
    have HB := Lib.hid hB
    have HRW := Lib.hid hrow
    have hle := Rw.smp_le h (bs.take i)
    rw [List.length_take] at hle
    obtain ⟨n, hn⟩ : ∃ n, (Rw.smp h (bs.take i)).length = n := ⟨_, rfl⟩
    have HNL := Lib.hid hn
    rw [hn] at hrow hle
    have HROW := Lib.hid hrow
    have hn9 : n ≤ 100000 := by omega
    have hsl := HSB.out.below hB
    have q1 : n + 1 ≤ maxLen := by unfold maxLen; omega
    have q2 : (n + 1) * 8 ≤ 140737488355328 := by omega
    have q3 := hB.size
    clear hrow hrs hle hn hB
    have bw : -9223372036854775808 ≤ (i : Int) + 1 ∧ (i : Int) + 1 ≤ 9223372036854775807 := by omega
    by_cases hlt : i + 1 ≤ nb
    · have hle : (i : Int) + 1 ≤ (nb : Int) := by omega
      obtain ⟨bg, bo, hba, hbc⟩ := Rw.slk_pos hsl (by omega)
      have hcell := hbc i (by omega)
      obtain ⟨c, hc⟩ : ∃ c, bs.getD i 0 = c := ⟨_, rfl⟩
      obtain ⟨c0, c1⟩ := HBY.out c (by rw [← hc, List.getD_eq_getElem?_getD, List.getElem?_eq_getElem (by rw [HLB.out]; omega)]; exact List.getElem_mem _)
      rw [hc] at hcell
      have HST : Hid (Rw.smp h (bs.take (i + 1)) = Rw.smp h (bs.take i) ++ [c] ∧ Rw.rest h (bs.take (i + 1)) = []) := Lib.hid (by
        rw [Rw.take_snoc1 bs i (by rw [HLB.out]; omega), hc]
        exact Rw.smp_one HWD.out HRS.out c)
      have hx : (i : Int) < (nb : Int) := by omega
      subst hba
      clear hbc hsl hc bw
      go_wp2_with (at_builtin; refine Rw.wpList_app1 rfl _ _ 69 rfl w.heap.size 3 i0 (.int .i64 0) 8 Try.underlying69 hi hz0 rfl hz1 hz2 v n (ints (Rw.smp h (bs.take i))) rfl (HROW.out.alloc _) wr.heap.size (.int .i64 (c)) rfl rfl (by rw [World.cell?_alloc_at _ _ _ _ rfl]; rfl) q1 q2 (Nat.le_trans q3 (by simp)) ?_; intro v3 w3 hown hgrow hat; have HO3 := Lib.hid hown; have HB3 := Lib.hid ((HB.out.alloc q3 _).grown hgrow (Nat.le_trans q3 (by simp)) (fun j ej => (HROW.out.lt j ej).1)); clear hown hgrow hat)
      go_roundw
      case rel => exact ⟨i + 1, v3, hlt, by go_num, rfl, HST.out.2, by rw [HST.out.1, List.length_append, HNL.out]; have h := HO3.out; unfold ints at h ⊢; rw [List.map_append]; exact h, HB3.out⟩
      case measure => simp [intOf]; omega
    · have hle : ¬ (i : Int) + 1 ≤ (nb : Int) := by omega
      have HE : Hid (Rw.smp h bs = Rw.smp h (bs.take i)) := Lib.hid (by
        conv => lhs; rw [← List.take_append_drop i bs]
        exact Rw.smp_tail HRS.out (by rw [List.length_drop, HLB.out, HWD.out]; omega))
      clear hsl bw
      go_wp2
      go_ret
      rw [HE.out]
      obtain ⟨a, c, rfl, hsl⟩ := sl_of_row (z := 0) rfl HRW.out rfl
      exact ⟨a, c, rfl, hsl, Rw.row_cap HRW.out, HB.out⟩
set_option maxRecDepth 100000 in
set_option maxHeartbeats 4000000 in
theorem refSamples_2 (ab : Option Addr) (nb cb : Nat) (bs : List Int) (hnb : nb ≤ 100000) (h : Hd.H) (hw : Rw.wide h = 2) (w : World) (hs : Bt.Bs w ab nb cb bs) :
    Calls Try.prog 59 #[.slice ab nb cb, agH h] w (SmpR w (Rw.smp h bs) (Rw.smp h bs).length) := by
  have HW := Lib.hid (fun W => refWide_any h W)
  rw [hw] at HW
  obtain ⟨i0, hi, hz0, hz1, hz2⟩ : ∃ i, Try.prog.info? 3 = some i ∧ i.zero = some (.int .i64 0) ∧ i.size = 1 ∧ i.bytes = 8 := (by have h := Try.info_in8; cases hh : Try.prog.info? 3 with | none => rw [hh] at h; cases h | some i => rw [hh] at h; simp at h; exact ⟨i, rfl, h.1, h.2.1, h.2.2⟩)
  have HSB := Lib.hid hs.1
  have HBY := Lib.hid hs.2.2.2
  have HLB : Hid (bs.length = nb) := Lib.hid hs.1.1
  have HWD := Lib.hid hw
  clear hs hw
  unfold agH at HW ⊢
  go_enter Try.func59, Try.ntmps59
  go_wp2_with (go_at_call 58; refine (HW.out _).mono ?_; rintro e w9 ⟨rfl, hb9⟩; have HB1 := Lib.hid (((Below.refl _ w).alloc (Nat.le_refl _) _).trans (hb9.mono (by simp))))
  go_loopw [5, 7] (fun u5 u7 wr => ∃ (i : Nat) (v : Value), i ≤ nb ∧ u7 = .int .i64 i ∧ v = u5 ∧ Rw.rest h (bs.take i) = [] ∧ wr.ownsRow w.heap.size 3 1 v (Rw.smp h (bs.take i)).length (ints (Rw.smp h (bs.take i))) ∧ Below w.heap.size w wr) (fun _ u7 _ => nb - (intOf u7).toNat)
  case atStart => exact ⟨0, _, Nat.zero_le _, rfl, rfl, rfl, World.ownsRow_nil _ _ _ _, HB1.out⟩
  case round =>
    obtain ⟨i, v, hi1, rfl, rfl, hrs, hrow, hB⟩ := hrel
    have HRS := Lib.hid hrs
    have HB := Lib.hid hB
    have HRW := Lib.hid hrow
    have hle := Rw.smp_le h (bs.take i)
    rw [List.length_take] at hle
    obtain ⟨n, hn⟩ : ∃ n, (Rw.smp h (bs.take i)).length = n := ⟨_, rfl⟩
    have HNL := Lib.hid hn
    rw [hn] at hrow hle
    have HROW := Lib.hid hrow
    have hn9 : n ≤ 100000 := by omega
    have hsl := HSB.out.below hB
    have q1 : n + 1 ≤ maxLen := by unfold maxLen; omega
    have q2 : (n + 1) * 8 ≤ 140737488355328 := by omega
    have q3 := hB.size
    clear hrow hrs hle hn hB
    have bw : -9223372036854775808 ≤ (i : Int) + 2 ∧ (i : Int) + 2 ≤ 9223372036854775807 := by omega
    by_cases hlt : i + 2 ≤ nb
    · have hle : (i : Int) + 2 ≤ (nb : Int) := by omega
      obtain ⟨bg, bo, hba, hbc⟩ := Rw.slk_pos hsl (by omega)
      have hcell := hbc i (by omega)
      obtain ⟨c, hc⟩ : ∃ c, bs.getD i 0 = c := ⟨_, rfl⟩
      obtain ⟨c0, c1⟩ := HBY.out c (by rw [← hc, List.getD_eq_getElem?_getD, List.getElem?_eq_getElem (by rw [HLB.out]; omega)]; exact List.getElem_mem _)
      rw [hc] at hcell
      have hcell2 := hbc (i + 1) (by omega)
      obtain ⟨d, hd⟩ : ∃ d, bs.getD (i + 1) 0 = d := ⟨_, rfl⟩
      obtain ⟨d0, d1⟩ := HBY.out d (by rw [← hd, List.getD_eq_getElem?_getD, List.getElem?_eq_getElem (by rw [HLB.out]; omega)]; exact List.getElem_mem _)
      rw [hd] at hcell2
      have HST : Hid (Rw.smp h (bs.take (i + 2)) = Rw.smp h (bs.take i) ++ [c * 256 + d] ∧ Rw.rest h (bs.take (i + 2)) = []) := Lib.hid (by
        rw [Rw.take_snoc1 bs (i + 1) (by rw [HLB.out]; omega), Rw.take_snoc1 bs i (by rw [HLB.out]; omega), hc, hd]
        exact Rw.smp_two HWD.out HRS.out c d)
      have hx : (i : Int) + 1 < (nb : Int) := by omega
      have hx0 : (i : Int) < (nb : Int) := by omega
      subst hba

      clear hbc hsl hc bw hd
      go_wp2_with (at_builtin; refine Rw.wpList_app1 rfl _ _ 69 rfl w.heap.size 3 i0 (.int .i64 0) 8 Try.underlying69 hi hz0 rfl hz1 hz2 v n (ints (Rw.smp h (bs.take i))) rfl (HROW.out.alloc _) wr.heap.size (.int .i64 (c * 256 + d)) rfl rfl (by rw [World.cell?_alloc_at _ _ _ _ rfl]; rfl) q1 q2 (Nat.le_trans q3 (by simp)) ?_; intro v3 w3 hown hgrow hat; have HO3 := Lib.hid hown; have HB3 := Lib.hid ((HB.out.alloc q3 _).grown hgrow (Nat.le_trans q3 (by simp)) (fun j ej => (HROW.out.lt j ej).1)); clear hown hgrow hat)
      go_roundw
      case rel => exact ⟨i + 2, v3, hlt, by go_num, rfl, HST.out.2, by rw [HST.out.1, List.length_append, HNL.out]; have h := HO3.out; unfold ints at h ⊢; rw [List.map_append]; exact h, HB3.out⟩
      case measure => simp [intOf]; omega
    · have hle : ¬ (i : Int) + 2 ≤ (nb : Int) := by omega
      have HE : Hid (Rw.smp h bs = Rw.smp h (bs.take i)) := Lib.hid (by
        conv => lhs; rw [← List.take_append_drop i bs]
        exact Rw.smp_tail HRS.out (by rw [List.length_drop, HLB.out, HWD.out]; omega))
      clear hsl bw
      go_wp2
      go_ret
      rw [HE.out]
      obtain ⟨a, c, rfl, hsl⟩ := sl_of_row (z := 0) rfl HRW.out rfl
      exact ⟨a, c, rfl, hsl, Rw.row_cap HRW.out, HB.out⟩
theorem refSamples_any (ab : Option Addr) (nb cb : Nat) (bs : List Int) (hnb : nb ≤ 100000) (h : Hd.H) (w : World) (hs : Bt.Bs w ab nb cb bs) :
    Calls Try.prog 59 #[.slice ab nb cb, agH h] w (SmpR w (Rw.smp h bs) (Rw.smp h bs).length) := by
  rcases Rw.wide_at h with ⟨_, h1⟩ | ⟨_, h1⟩
  · exact refSamples_2 ab nb cb bs hnb h h1 w hs
  · exact refSamples_1 ab nb cb bs hnb h h1 w hs
end Go.Proofs.Ytflpocnbmpdhiaa

/- With which byte a raster is wrong, by the document, over any memory. Condition: not too many bytes, the head may be. -/
namespace Go.Proofs.Ytflpocnbmpdhiaa
open Go.RowKit
set_option linter.unusedVariables false
theorem Rw.badL_cons (w m x : Int) (l : List Int) (i : Int) : Rw.badL w m (x :: l) i = if m < x then w * (i + 1) else Rw.badL w m l (i + 1) := by rw [Rw.badL]
theorem Rw.badL_le (w m : Int) (w0 : 0 ≤ w) : ∀ (l : List Int) (i : Int), 0 ≤ i → 0 ≤ Rw.badL w m l i
  | [], i, _ => by unfold badL; omega
  | x :: l, i, hi => by
    unfold badL
    split
    · exact Int.mul_nonneg w0 (by omega)
    · exact Rw.badL_le w m w0 l (i + 1) (by omega)
theorem Rw.mul12 {w : Nat} (hw : w = 1 ∨ w = 2) (i : Nat) (hi : i ≤ 100000) : 0 ≤ (w : Int) * ((i : Int) + 1) ∧ (w : Int) * ((i : Int) + 1) ≤ 1000000 := by
  rcases hw with rfl | rfl <;> constructor <;> simp <;> omega
set_option maxRecDepth 100000 in
set_option maxHeartbeats 4000000 in
theorem refBad_any (ab : Option Addr) (nb cb : Nat) (bs : List Int) (hnb : nb ≤ 100000) (hcb : nb ≤ cb) (h : Hd.H) (hm : Rw.May h) (w : World) (hs : Bt.Bs w ab nb cb bs) :
    Calls Try.prog 31 #[.slice ab nb cb, agH h] w fun e w' => e = .returned (.int .i64 (Rw.badV h bs)) ∧ Below w.heap.size w w' := by
  by_cases h4 : h.kd = 4
  · have HV : Hid (Rw.badV h bs = 0) := Lib.hid (by unfold Rw.badV; rw [if_pos h4])
    rw [HV.out]
    unfold agH
    have hk : (h.kd == 4) = true := by simpa using h4
    clear h4 hs hm
    go_enter Try.func31, Try.ntmps31
    go_wp2
    go_returns
    exact ⟨rfl, by go_grown⟩
  have hmm := hm.m
  have hS := refSize_any h hm.1
  have hsz0 : 0 ≤ Hj.size h := by rw [Rw.size_eq hm]; exact Int.mul_nonneg (by omega) (by omega)
  obtain ⟨sz, hsz⟩ : ∃ sz : Nat, Hj.size h = (sz : Int) := ⟨(Hj.size h).toNat, by omega⟩
  have hsz9 : (sz : Int) ≤ 1610612736 := by
    have := Rw.left_le (Rw.good_new hm)
    have e : (Rw.new h).left = Hj.size h := rfl
    rw [e, hsz] at this; exact this
  obtain ⟨m, hmn⟩ : ∃ m : Nat, min nb sz = m := ⟨_, rfl⟩
  have hmi : (if (sz : Int) < (nb : Int) then (sz : Int) else (nb : Int)) = (m : Int) := by split <;> omega
  have hmb : m ≤ nb := by omega
  have hbs : Bt.Bs w ab m cb (bs.take m) := ⟨⟨by rw [List.length_take, hs.1.1]; omega, by
      rcases hs.1.2 with h0 | ⟨g', o', e, hc⟩
      · exact .inl (by omega)
      · refine .inr ⟨g', o', e, fun i hi => ?_⟩
        rw [hc i (by omega), List.getD_eq_getElem?_getD, List.getD_eq_getElem?_getD, List.getElem?_take_of_lt hi]⟩, by omega, hs.2.2.1, fun z hz => hs.2.2.2 z (List.mem_of_mem_take hz)⟩
  have hty : bs.take (Hj.size h).toNat = bs.take m := by
    rw [hsz]
    show bs.take sz = _
    by_cases h1 : sz ≤ nb
    · congr 1; omega
    · rw [List.take_of_length_le (by rw [hs.1.1]; omega), List.take_of_length_le (by rw [hs.1.1]; omega)]
  have hV : Rw.badV h bs = Rw.badL (Rw.wide h) h.m (Rw.smp h (bs.take m)) 0 := by unfold Rw.badV; rw [if_neg h4, hty]
  have hA := fun W hb => refSamples_any ab m cb (bs.take m) (by omega) h W (hbs.below hb)
  obtain ⟨zs, hz⟩ : ∃ zs, Rw.smp h (bs.take m) = zs := ⟨_, rfl⟩
  have hzin : ∀ x ∈ zs, 0 ≤ x ∧ x ≤ 65535 := by rw [← hz]; exact Rw.smp_in hbs.2.2.2
  have hzl := Rw.smp_le h (bs.take m)
  rw [List.length_take] at hzl
  rw [hz] at hV hA hzl
  obtain ⟨n, hn⟩ : ∃ n, zs.length = n := ⟨_, rfl⟩
  rw [hn] at hA hzl
  obtain ⟨wd, hwd⟩ : ∃ wd, Rw.wide h = wd := ⟨_, rfl⟩
  have hw12 : wd = 1 ∨ wd = 2 := by have := Rw.wide_at h; omega
  have hWD := fun W => refWide_any h W
  rw [hwd] at hWD hV
  rw [hV]
  rw [hsz] at hS
  have hk : (h.kd == 4) = false := by simpa using h4
  unfold agH at hS hA hWD ⊢
  have HS := Lib.hid hS
  have HA := Lib.hid hA
  have HW := Lib.hid hWD
  have HNL := Lib.hid hn
  have HIN := Lib.hid hzin
  have HMM := Lib.hid hmi
  have HM12 := Lib.hid (fun (i : Nat) (hi : i ≤ 100000) => Rw.mul12 hw12 i hi)
  have hn9 : n ≤ 100000 := by omega
  have hmcb : m ≤ cb := by omega
  clear h4 hS hA hWD hn hzin hmi hw12 hV hty hbs hs hz hzl hwd hsz hsz0 hmn hm hcb
  go_enter Try.func31, Try.ntmps31
  go_upto_region 1 with fail
  generalize hW : w.alloc (.cells #[.int .i64 h.kd, .int .i64 h.w, .int .i64 h.h, .int .i64 h.m] 25) = w1
  have HN : Hid (Hb w1 w.heap.size 25 h) := by show Hb _ _ _ _; rw [← hW]; exact Hb.new w 25 h
  have HB1 : Hid (Below w.heap.size w w1) := by show Below _ _ _; rw [← hW]; exact box1' _ _
  clear hW
  obtain ⟨n0, n1, n2, n3⟩ := HN.out.cells
  go_upto_region 4 with (go_at_call 58; refine (HW.out _).mono ?_; rintro e w2 ⟨rfl, hb2⟩; have HB2 := Lib.hid (HB1.out.trans (hb2.mono HB1.out.size)); have HN2 := Lib.hid (HN.out.later hb2); clear hb2)
  clear n0 n1 n2 n3
  obtain ⟨n0, n1, n2, n3⟩ := HN2.out.cells
  have hmi := HMM.out
  have hm0 : (0 : Int) ≤ (m : Int) := by omega
  have hmc : (m : Int) ≤ (cb : Int) := by omega
  have hBr : Below w.heap.size w w2 := HB2.out
  go_cut [6] from 13 to 21 (fun s6 wx => ∃ a c, s6 = .slice a n c ∧ SlK .i64 wx a n zs ∧ Below w.heap.size w wx ∧ Below w2.heap.size w2 wx)
  case first =>
    by_cases hns : (sz : Int) < (nb : Int)
    · have hms : sz = m := by rw [if_pos hns] at hmi; omega
      clear hmi HMM
      have hN : sz < nb := by omega
      subst hms
      go_region_held3 (fun w' => w'.cell? ⟨w.heap.size, 0, none⟩ = some (.int .i64 h.kd) ∧ w'.cell? ⟨w.heap.size, 1, none⟩ = some (.int .i64 h.w) ∧ w'.cell? ⟨w.heap.size, 2, none⟩ = some (.int .i64 h.h) ∧ w'.cell? ⟨w.heap.size, 3, none⟩ = some (.int .i64 h.m) ∧ Below w2.heap.size w2 w')
        (first | (with_reducible exact ⟨n0, n1, n2, n3, .refl _ _⟩) | exact ⟨n0, n1, n2, n3, ⟨rfl, rfl, rfl, Nat.le_refl _, fun _ _ => rfl⟩⟩ | (go_split_ands; refine ⟨?_, ?_, ?_, ?_, ?_⟩ <;> assumption) | (go_split_ands; refine ⟨cell_later hb9 ?_, cell_later hb9 ?_, cell_later hb9 ?_, cell_later hb9 ?_, bel_step ?_ hb9⟩ <;> assumption))
        (first
          | (go_at_call 41; refine (HS.out _).mono ?_; rintro e w9 ⟨rfl, hb9⟩)
          | (go_at_call 59; go_split_ands; refine (HA.out _ (HB2.out.trans (Below.mono (by assumption) HB2.out.size))).mono ?_; rintro e w9 ⟨a9, c9, rfl, hs9, _, hb9⟩))
      all_goals
        go_wp2_with fail
        go_meet
        case rel => go_split_ands; exact ⟨a9, c9, rfl, hs9, HB2.out.trans (Below.mono (bel_step (by assumption) hb9) HB2.out.size), bel_step (by assumption) hb9⟩
    · have hms : nb = m := by rw [if_neg hns] at hmi; omega
      clear hmi HMM
      have hN : ¬ sz < nb := by omega
      subst hms
      go_region_held3 (fun w' => w'.cell? ⟨w.heap.size, 0, none⟩ = some (.int .i64 h.kd) ∧ w'.cell? ⟨w.heap.size, 1, none⟩ = some (.int .i64 h.w) ∧ w'.cell? ⟨w.heap.size, 2, none⟩ = some (.int .i64 h.h) ∧ w'.cell? ⟨w.heap.size, 3, none⟩ = some (.int .i64 h.m) ∧ Below w2.heap.size w2 w')
        (first | (with_reducible exact ⟨n0, n1, n2, n3, .refl _ _⟩) | exact ⟨n0, n1, n2, n3, ⟨rfl, rfl, rfl, Nat.le_refl _, fun _ _ => rfl⟩⟩ | (go_split_ands; refine ⟨?_, ?_, ?_, ?_, ?_⟩ <;> assumption) | (go_split_ands; refine ⟨cell_later hb9 ?_, cell_later hb9 ?_, cell_later hb9 ?_, cell_later hb9 ?_, bel_step ?_ hb9⟩ <;> assumption))
        (first
          | (go_at_call 41; refine (HS.out _).mono ?_; rintro e w9 ⟨rfl, hb9⟩)
          | (go_at_call 59; go_split_ands; refine (HA.out _ (HB2.out.trans (Below.mono (by assumption) HB2.out.size))).mono ?_; rintro e w9 ⟨a9, c9, rfl, hs9, _, hb9⟩))
      all_goals
        go_wp2_with fail
        go_meet
        case rel => go_split_ands; exact ⟨a9, c9, rfl, hs9, HB2.out.trans (Below.mono (bel_step (by assumption) hb9) HB2.out.size), bel_step (by assumption) hb9⟩
  case rest =>
    obtain ⟨a, c, rfl, hs6, hB6, hB7⟩ := hcut
    have HS6 := Lib.hid hs6
    have HB6 := Lib.hid hB6
    have HN3 := Lib.hid (HN2.out.later hB7)
    clear n0 n1 n2 n3 hs6 hB6 hB7 hmi hBr HN2 HB2 HN HB1 hm0 hmc HMM
    go_wp2_with fail
    go_loopw [7] (fun u7 wr => ∃ i : Nat, i ≤ n ∧ u7 = .int .i64 i ∧ Rw.badL wd h.m zs 0 = Rw.badL wd h.m (zs.drop i) i ∧ Below wc.heap.size wc wr) (fun u7 _ => n - (intOf u7).toNat)
    case atStart => exact ⟨0, Nat.zero_le _, rfl, rfl, .refl _ _⟩
    case round =>
      obtain ⟨i, hi1, rfl, hbad, hB⟩ := hrel
      have HB := Lib.hid hB
      obtain ⟨n0, n1, n2, n3⟩ := (HN3.out.later hB).cells
      have hsl := HS6.out.below hB
      by_cases hlt : i < n
      · have hdr : zs.drop i = zs.getD i 0 :: zs.drop (i + 1) := by rw [List.drop_eq_getElem_cons (by rw [HNL.out]; exact hlt), List.getD_eq_getElem?_getD, List.getElem?_eq_getElem (by rw [HNL.out]; exact hlt)]; rfl
        obtain ⟨bg, bo, hba, hbc⟩ := Rw.slk_pos hsl (by omega)
        have hcell := hbc i hlt
        obtain ⟨x, hx⟩ : ∃ x, zs.getD i 0 = x := ⟨_, rfl⟩
        obtain ⟨x0, x1⟩ := HIN.out x (by rw [← hx, List.getD_eq_getElem?_getD, List.getElem?_eq_getElem (by rw [HNL.out]; exact hlt)]; exact List.getElem_mem _)
        rw [hx] at hcell hdr
        rw [hdr] at hbad
        rw [Rw.badL_cons] at hbad
        subst hba
        obtain ⟨p1, p2⟩ := HM12.out i (by omega)
        by_cases hm : h.m < x
        · rw [if_pos hm] at hbad
          have HBD := Lib.hid hbad
          clear hbad hdr hbc hsl hB hx
          go_wp2_with (go_quiet (fail))
          go_returns
          exact ⟨by rw [HBD.out]; rfl, HB6.out.trans (Below.mono (below_drewN HB.out _) HB6.out.size)⟩
        · rw [if_neg hm] at hbad
          have HBD := Lib.hid hbad
          clear hbad hdr hbc hsl hB hx p1 p2
          go_wp2_with (go_quiet (fail))
          go_roundw
          case rel => exact ⟨i + 1, by omega, by go_num, by rw [HBD.out, Int.natCast_add]; rfl, below_drewN HB.out _⟩
          case measure => simp [intOf]; omega
      · have HBD : Hid (Rw.badL wd h.m zs 0 = 0) := Lib.hid (by rw [hbad, List.drop_of_length_le (by rw [HNL.out]; omega)]; rfl)
        clear hbad hsl hB
        go_wp2
        go_returns
        exact ⟨by rw [HBD.out]; rfl, HB6.out.trans (Below.mono HB.out HB6.out.size)⟩
end Go.Proofs.Ytflpocnbmpdhiaa
