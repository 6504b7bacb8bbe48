/- What an automaton that was made tells of a state. Condition: it stands, of a tree of at most 1000 nodes. -/
import Derived.Test.YtehmbnloplamaaaAuN
namespace Go.Proofs.Ytehmbnloplamaaa
open Go.RowKit
set_option linter.unusedVariables false
open Tr Au
/-- the automaton of these paths and words in memory -/
def AuP (w : World) (B ab sb : Nat) (rv : Nat → Value) (L V : LL) : Prop := AuX w B ab sb L.length (Gf L V (order L)) rv (data L V)
theorem AuP.later {w w' : World} {B ab sb : Nat} {rv : Nat → Value} {L V : LL} (h : AuP w B ab sb rv L V) (hb : Below w.heap.size w w') : AuP w' B ab sb rv L V := AuX.later h hb
namespace Au
theorem gf_all {L V : LL} (hI : Inv L) {k : Nat} (hk : k < L.length) : (Gf L V (order L) k).2.1 = fallV L k ∧ (Gf L V (order L) k).2.2 = linkV L V k := by
  unfold Gf
  by_cases h0 : k = 0
  · subst h0
    have hn : 0 ∉ order L := fun hm => by have := (mem_order hI).1 hm; omega
    simp only [if_neg hn]
    exact ⟨(fall_zero L).symm, (link_zero hI V).symm⟩
  · have := (mem_order hI).2 ⟨by omega, hk⟩
    simp only [if_pos this]
    exact ⟨trivial, trivial⟩
theorem in_nat {L : LL} {k : Int} (h : ¬ (k < 0 ∨ (L.length : Int) ≤ k)) : ∃ m : Nat, k = (m : Int) ∧ m < L.length := ⟨k.toNat, by omega, by omega⟩
theorem fallN_all {L V : LL} (hI : Inv L) (k : Int) : fallN L.length (Gf L V (order L)) k = fallV L k := by
  unfold fallN
  by_cases h : k < 0 ∨ (L.length : Int) ≤ k
  · rw [if_pos h, fall_out h]
  · obtain ⟨m, rfl, hm⟩ := in_nat h
    rw [if_neg h, Int.toNat_natCast]
    exact (gf_all hI hm).1
theorem linkN_all {L V : LL} (hI : Inv L) (k : Int) : linkN L.length (Gf L V (order L)) k = linkV L V k := by
  unfold linkN
  by_cases h : k < 0 ∨ (L.length : Int) ≤ k
  · rw [if_pos h, link_out h]
  · obtain ⟨m, rfl, hm⟩ := in_nat h
    rw [if_neg h, Int.toNat_natCast]
    exact (gf_all hI hm).2
theorem endN_all {L V : LL} (hI : Iw L V) (k : Int) : endN L.length (Gf L V (order L)) (data L V) k = endV L V k := by
  unfold endN
  by_cases h : k < 0 ∨ (L.length : Int) ≤ k
  · rw [if_pos h, end_out h]
  · obtain ⟨m, rfl, hm⟩ := in_nat h
    rw [if_neg h, Int.toNat_natCast, data_words]
    by_cases hw : wordsV L V m = []
    · rw [if_pos hw, end_link hI.inv hm hw]
      exact (gf_all hI.inv hm).2
    · rw [if_neg hw, end_words hI.inv hm hw (fun h0 => (hI.ws [] h0).2 rfl)]
end Au
section
variable {w : World} {B ab sb : Nat} {rv : Nat → Value} {L V : LL}
theorem len_P (h : AuP w B ab sb rv L V) : Calls Try.prog 11 #[.pointer (some ⟨ab, 0, none⟩)] w fun e w' => e = .returned (.int .i64 L.length) ∧ w = w' := len_au h
theorem fall_P (h : AuP w B ab sb rv L V) (hI : Iw L V) (k : Int) : Calls Try.prog 13 #[.pointer (some ⟨ab, 0, none⟩), .int .i64 k] w fun e w' => e = .returned (.int .i64 (fallV L k)) ∧ Below w.heap.size w w' := by
  have := fall_au h k
  rwa [fallN_all hI.inv] at this
theorem link_P (h : AuP w B ab sb rv L V) (hI : Iw L V) (k : Int) : Calls Try.prog 15 #[.pointer (some ⟨ab, 0, none⟩), .int .i64 k] w fun e w' => e = .returned (.int .i64 (linkV L V k)) ∧ Below w.heap.size w w' := by
  have := link_au h k
  rwa [linkN_all hI.inv] at this
theorem end_P (h : AuP w B ab sb rv L V) (hI : Iw L V) (k : Int) : Calls Try.prog 44 #[.pointer (some ⟨ab, 0, none⟩), .int .i64 k] w fun e w' => e = .returned (.int .i64 (endV L V k)) ∧ Below w.heap.size w w' := by
  have := end_au h k
  rwa [endN_all hI] at this
theorem any_P (h : AuP w B ab sb rv L V) (hI : Iw L V) (k : Int) : Calls Try.prog 19 #[.pointer (some ⟨ab, 0, none⟩), .int .i64 k] w fun e w' => e = .returned (.bool (endV L V k != -1)) ∧ Below w.heap.size w w' := by
  have hc := end_P h hI k
  generalize endV L V k = z at hc ⊢
  clear h hI
  go_enter Try.func19, Try.ntmps19
  go_wp2_with (go_at_call 44; refine hc.mono ?_; rintro e w1 ⟨rfl, hb⟩; have HB := Lib.hid hb; clear hb)
  go_ret
  exact ⟨rfl, HB.out⟩
theorem behind_P (h : AuP w B ab sb rv L V) (hI : Iw L V) {k : Nat} (hk : k < L.length) (p : Int) : Calls Try.prog 47 #[.pointer (some ⟨ab, 0, none⟩), .int .i64 k, .int .u64 p] w fun e w' => e = .returned (.int .i64 (nextV L k p)) ∧ Below w.heap.size w w' :=
  behind_au h hI.inv (gf_kd hI.inv) k hk (fun i hi _ => (gf_all hI.inv hi).1) p
theorem next_P (h : AuP w B ab sb rv L V) (hI : Iw L V) (k p : Int) : Calls Try.prog 21 #[.pointer (some ⟨ab, 0, none⟩), .int .i64 k, .int .u64 p] w fun e w' => e = .returned (.int .i64 (nextV L k p)) ∧ Below w.heap.size w w' := by
  by_cases hk : k < 0 ∨ (L.length : Int) ≤ k
  · have hc := has_no ab sb L.length k w hk (AuX.len9 h) (AuX.boxes h)
    rw [next_out hk]
    clear h hI hk
    go_enter Try.func21, Try.ntmps21
    go_wp2_with (go_at_call 46; refine hc.mono ?_; rintro e w1 ⟨rfl, rfl⟩)
    go_ret
    exact ⟨rfl, Below.refl _ _⟩
  · obtain ⟨m, rfl, hm⟩ := in_nat hk
    have hc := has_yes ab sb L.length m w hm (AuX.len9 h) (AuX.boxes h)
    have hb := behind_P h hI hm p
    generalize nextV L m p = z at hb ⊢
    clear h hI hk hm
    go_enter Try.func21, Try.ntmps21
    go_wp2_with (first
      | (go_at_call 46; refine hc.mono ?_; rintro e w1 ⟨rfl, rfl⟩)
      | (go_at_call 47; refine hb.mono ?_; rintro e w1 ⟨rfl, hb1⟩; have HB := Lib.hid hb1; clear hb1))
    go_ret
    exact ⟨rfl, HB.out⟩
def sameV (L V : LL) (k m : Int) : Bool := decide (0 ≤ k ∧ k < L.length ∧ 0 ≤ m ∧ m < L.length ∧ endV L V k = endV L V m)
theorem same_P (h : AuP w B ab sb rv L V) (hI : Iw L V) (k m : Int) : Calls Try.prog 28 #[.pointer (some ⟨ab, 0, none⟩), .int .i64 k, .int .i64 m] w fun e w' => e = .returned (.bool (sameV L V k m)) ∧ Below w.heap.size w w' := by
  by_cases hk : k < 0 ∨ (L.length : Int) ≤ k
  · have hc := has_no ab sb L.length k w hk (AuX.len9 h) (AuX.boxes h)
    have e : sameV L V k m = false := by unfold sameV; rw [decide_eq_false_iff_not]; omega
    rw [e]
    clear h hI hk e
    go_enter Try.func28, Try.ntmps28
    go_wp2_with (go_at_call 46; refine hc.mono ?_; rintro e w1 ⟨rfl, rfl⟩)
    go_ret
    exact ⟨rfl, Below.refl _ _⟩
  · by_cases hm : m < 0 ∨ (L.length : Int) ≤ m
    · obtain ⟨k', rfl, hk'⟩ := in_nat hk
      have hc := has_yes ab sb L.length k' w hk' (AuX.len9 h) (AuX.boxes h)
      have hd := has_no ab sb L.length m w hm (AuX.len9 h) (AuX.boxes h)
      have e : sameV L V k' m = false := by unfold sameV; rw [decide_eq_false_iff_not]; omega
      rw [e]
      clear h hI hk hm e hk'
      go_enter Try.func28, Try.ntmps28
      go_wp2_with (go_at_call 46; (first | (with_reducible refine hc.mono ?_) | (with_reducible refine hd.mono ?_)); rintro e w1 ⟨rfl, rfl⟩)
      go_ret
      exact ⟨rfl, Below.refl _ _⟩
    · obtain ⟨k', rfl, hk'⟩ := in_nat hk
      obtain ⟨m', rfl, hm'⟩ := in_nat hm
      have hc := has_yes ab sb L.length k' w hk' (AuX.len9 h) (AuX.boxes h)
      have hd := has_yes ab sb L.length m' w hm' (AuX.len9 h) (AuX.boxes h)
      have HE1 := Lib.hid (end_P h hI (k' : Int))
      have HE2 := Lib.hid (fun w' (hb : Below w.heap.size w w') => end_P (h.later hb) hI (m' : Int))
      have e : sameV L V k' m' = decide (endV L V k' = endV L V m') := by unfold sameV; rw [decide_eq_decide]; omega
      rw [e]
      generalize endV L V k' = y at *
      generalize endV L V m' = z at *
      clear h hI hk hm e hk' hm'
      go_enter Try.func28, Try.ntmps28
      go_wp2_with (first
        | (go_at_call 46; (first | (with_reducible refine hc.mono ?_) | (with_reducible refine hd.mono ?_)); rintro e w1 ⟨rfl, rfl⟩)
        | (go_at_call 44; (with_reducible refine HE1.out.mono ?_); rintro e w1 ⟨rfl, hb1⟩; have HB1 := Lib.hid hb1; have HE3 := Lib.hid (HE2.out _ hb1); clear hb1)
        | (go_at_call 44; (with_reducible refine HE3.out.mono ?_); rintro e w2 ⟨rfl, hb2⟩; have HB2 := Lib.hid hb2; clear hb2))
      go_ret
      refine ⟨?_, bel_step HB1.out HB2.out⟩
      congr 2
end
end Go.Proofs.Ytehmbnloplamaaa
