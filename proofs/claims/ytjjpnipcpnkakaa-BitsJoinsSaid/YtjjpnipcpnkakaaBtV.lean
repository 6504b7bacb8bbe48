/- Rows of bits: what is packed is unpacked as it was, what runs is unrun as it was. Plain facts; no condition. -/
import Derived.Test.YtjjpnipcpnkakaaBtP
import Derived.Test.YtjjpnipcpnkakaaBtQ
namespace Go.Proofs.Ytjjpnipcpnkakaa
open Go.RowKit
set_option linter.unusedVariables false
namespace Bt
theorem eight_num (a b c d e f g h : Int) (ha : a = 0 ∨ a = 1) (hb : b = 0 ∨ b = 1) (hc : c = 0 ∨ c = 1) (hd : d = 0 ∨ d = 1) (he : e = 0 ∨ e = 1) (hf : f = 0 ∨ f = 1) (hg : g = 0 ∨ g = 1) (hh : h = 0 ∨ h = 1) :
    eight (num [a, b, c, d, e, f, g, h] 0) = [a, b, c, d, e, f, g, h] := by
  have B : ∀ x : Int, x = 0 ∨ x = 1 → 0 ≤ x ∧ x ≤ 1 := fun x h => by omega
  obtain ⟨a0, a1⟩ := B a ha
  obtain ⟨b0, b1⟩ := B b hb
  obtain ⟨c0, c1⟩ := B c hc
  obtain ⟨d0, d1⟩ := B d hd
  obtain ⟨e0, e1⟩ := B e he
  obtain ⟨f0, f1⟩ := B f hf
  obtain ⟨g0, g1⟩ := B g hg
  obtain ⟨h0, h1⟩ := B h hh
  clear B ha hb hc hd he hf hg hh
  simp only [num, eight, List.cons.injEq, and_true]
  refine ⟨?_, ?_, ?_, ?_, ?_, ?_, ?_, ?_⟩ <;> omega
theorem eight_num8 (l : List Int) (hl : l.length = 8) (ho : Ones l) : eight (num l 0) = l := by
  obtain ⟨a, b, c, d, e, f, g, h, rfl⟩ := list8 l hl
  exact eight_num a b c d e f g h (ho a (by simp)) (ho b (by simp)) (ho c (by simp)) (ho d (by simp)) (ho e (by simp)) (ho f (by simp)) (ho g (by simp)) (ho h (by simp))
theorem bits_pack : ∀ (m : Nat) (l : List Int), l.length ≤ 8 * m → 8 * m < l.length + 8 → Ones l → bitsOf (packB l) = l ++ List.replicate (8 * m - l.length) 0
  | 0, l, h, _, _ => by
    have : l = [] := List.eq_nil_of_length_eq_zero (by omega)
    subst this; simp [packB_nil, bitsOf]
  | m + 1, l, h, k, ho => by
    have hne : l ≠ [] := by intro e; subst e; simp at k; omega
    have hpo := pad_01 (pt := l.take 8) (fun x hx => ho x (List.mem_of_mem_take hx))
    rw [packB_more hne, bitsOf, eight_num8 _ (pad_len _ (List.length_take_le _ _)) hpo]
    by_cases h8 : 8 ≤ l.length
    · rw [bits_pack m (l.drop 8) (by simp; omega) (by simp; omega) (fun x hx => ho x (List.mem_of_mem_drop hx))]
      have e : pad (l.take 8) = l.take 8 := by unfold pad; rw [List.length_take, Nat.min_eq_left h8]; simp
      rw [e, ← List.append_assoc, List.take_append_drop, List.length_drop]
      congr 2; omega
    · have hm : m = 0 := by omega
      subst hm
      have e : l.drop 8 = [] := List.drop_eq_nil_of_le (by omega)
      rw [e, packB_nil, bitsOf, List.append_nil, List.take_of_length_le (by omega)]
      rfl
theorem packB_byte (l : List Int) (ho : Ones l) : ∀ z ∈ packB l, 0 ≤ z ∧ z ≤ 255 := by
  intro z hz
  obtain ⟨k, hk, rfl⟩ := List.getElem_of_mem hz
  have hk8 : 8 * k < l.length := by
    rcases Nat.lt_or_ge (8 * k) l.length with h | h
    · exact h
    · have := packB_len ((l.length + 7) / 8) l (by omega) (by omega)
      omega
  have hg := packB_get k l hk8
  rw [List.getD_eq_getElem?_getD, List.getElem?_eq_getElem hk] at hg
  simp only [Option.getD_some] at hg
  rw [hg]
  have hpo := pad_01 (pt := (l.drop (8 * k)).take 8) (fun x hx => ho x (List.mem_of_mem_drop (List.mem_of_mem_take hx)))
  have hb := num_bound _ 0 hpo (by omega)
  rw [pad_len _ (List.length_take_le _ _)] at hb
  have : (0 + 1 : Int) * 2 ^ 8 = 256 := by decide
  omega
theorem packV_byte (l : List Int) : ∀ z ∈ packV l, 0 ≤ z ∧ z ≤ 255 := by
  unfold packV
  split
  · rename_i h
    unfold packOk at h
    simp only [Bool.and_eq_true, decide_eq_true_eq] at h
    exact packB_byte l h.2
  · intro z hz; simp at hz
/-- what was packed: its error, its pixels, its spare bits -/
theorem pack_back {l : List Int} (ho : Ones l) (h1 : 1 ≤ l.length) (h2 : l.length ≤ 4096) :
    packOk l = true ∧ packV l = packB l ∧ packE l = 0 ∧ rowE (packB l).length l.length = 0 ∧ unpackV (packB l) l.length = l ∧ spareV (packB l) l.length = 0 := by
  have hp : packOk l = true := by unfold packOk; simp [ho, h1, h2]
  obtain ⟨m, hm, hm1, hm2⟩ := bytesV_len h1 h2
  have hpl := packB_len m l hm1 hm2
  have hr : rowE (packB l).length l.length = 0 := by
    unfold rowE; rw [hm, hpl, if_neg (by omega), if_neg (by omega)]
  have hb := bits_pack m l hm1 hm2 ho
  refine ⟨hp, by unfold packV; rw [if_pos hp], by unfold packE; rw [if_pos hp], hr, ?_, ?_⟩
  · unfold unpackV
    rw [if_pos hr, hb]
    simp
  · unfold spareV
    rw [if_pos hr, hm]
    unfold spareN
    rw [hb]
    have e : (l ++ List.replicate (8 * m - l.length) (0 : Int)).take (8 * (m : Int).toNat) = l ++ List.replicate (8 * m - l.length) 0 := List.take_of_length_le (by simp; omega)
    rw [e, show (l.length : Int).toNat = l.length from rfl, List.drop_left]
    generalize 8 * m - l.length = q
    induction q with
    | zero => rfl
    | succ q ih => rw [List.replicate_succ']; rw [num_append, ih]; rfl
theorem pack_join {a b : List Int} (h : a.length % 8 = 0) : packB (a ++ b) = packB a ++ packB b := by
  obtain ⟨k, hk⟩ : ∃ k, a.length = 8 * k := ⟨a.length / 8, by omega⟩
  clear h
  induction k generalizing a with
  | zero => rw [List.eq_nil_of_length_eq_zero (by omega : a.length = 0)]; rw [packB_nil]; rfl
  | succ k ih =>
    have hne : a ≠ [] := by intro e; subst e; simp at hk
    rw [packB_more (by simp [hne]), packB_more hne, List.take_append_of_le_length (by omega), List.drop_append_of_le_length (by omega), ih (a := a.drop 8) (by rw [List.length_drop]; omega)]
    rfl
theorem rep_eq {v : Int} : ∀ {l : List Int}, (∀ x ∈ l, x = v) → l = List.replicate l.length v
  | [], _ => rfl
  | x :: l, h => by rw [List.length_cons, List.replicate_succ, h x (by simp), ← rep_eq (fun y hy => h y (by simp [hy]))]
/-- the number of a kind -/
def ofB (b : Bool) : Int := if b then 1 else 0
theorem ofB_one {x : Int} (h : x = 0 ∨ x = 1) : ofB (isOne x) = x := by
  rcases h with rfl | rfl <;> rfl
theorem ofB_odd (i : Nat) : ofB (oddN i) = (i : Int) % 2 := by
  unfold ofB oddN
  rcases Nat.mod_two_eq_zero_or_one i with h | h
  · rw [h]; simp; omega
  · rw [h]; simp; omega
theorem un_runs (l : List Int) (ho : Ones l) : ∀ (i : Nat) (c : Nat) (out : List Int), out.length + c + l.length ≤ 4096 → unAux i out (runsAux (oddN i) c l) = out ++ List.replicate c ((i : Int) % 2) ++ l := by
  induction l with
  | nil =>
    intro i c out h
    rw [runsAux, un_go (by simp at h ⊢; omega), unAux]
    simp
  | cons x l ih =>
    intro i c out h
    have hx := ho x (by simp)
    have hol : Ones l := fun y hy => ho y (by simp [hy])
    simp only [List.length_cons] at h
    by_cases hb : isOne x = oddN i
    · rw [runs_same hb, show (c : Int) + 1 = (c + 1 : Nat) by omega, ih hol i (c + 1) out (by omega)]
      rw [List.replicate_succ']
      have e : (i : Int) % 2 = x := by rw [← ofB_odd, ← hb, ofB_one hx]
      rw [e]; simp
    · rw [runs_other hb, un_go (by simp; omega), ← oddN_succ, show (1 : Int) = (1 : Nat) from rfl, ih hol (i + 1) 1 _ (by simp; omega)]
      have e : ((i + 1 : Nat) : Int) % 2 = x := by
        rw [← ofB_odd, oddN_succ, show (!oddN i) = isOne x by cases h1 : isOne x <;> cases h2 : oddN i <;> simp_all, ofB_one hx]
      rw [e]; simp
theorem unrun_runs {l : List Int} (ho : Ones l) (h : l.length ≤ 4096) : unV (runsV l) = l := by
  unfold runsV
  split
  · rename_i e; subst e; rfl
  · unfold unV
    have := un_runs l ho 0 0 [] (by simp; omega)
    simpa [show oddN 0 = false from rfl] using this
end Bt
end Go.Proofs.Ytjjpnipcpnkakaa
