/- What is put is got as it was, and no beginning of it is: plain facts. No condition. -/
import Derived.Test.YthikjjcoejdjiaaNumF
import Derived.Test.YthikjjcoejdjiaaNumD
namespace Go.Proofs.Ythikjjcoejdjiaa
open Go.RowKit
set_option linter.unusedVariables false

theorem Nu.pow_step (i : Nat) : (2 : Int) ^ (7 * (i + 1)) = 2 ^ (7 * i) * 128 := (Nu.unit_next i).symm
theorem Nu.get_mark (rest : List Int) (q : Int) (q0 : 0 ≤ q) : ∀ (i : Nat) (n : Int), i ≤ 8 → (q = 0 → i = 0) → q * 2 ^ (7 * i) ≤ 4611686018427387903 →
    Nu.getF i n (Nu.mark (Nu.dig 128 q) ++ rest) = (n + q * 2 ^ (7 * i), (i : Int) + (Nu.dig 128 q).length, 0) := by
  induction q using Nu.dig.induct (b := 128) with
  | case1 q h ih =>
    intro i n hi hz hq
    have hp : (1 : Int) ≤ 2 ^ (7 * i) := (Nu.unit_le i hi).1
    have hi7 : i < 8 := by
      rcases Nat.lt_or_ge i 8 with h' | h'
      · exact h'
      · obtain rfl : i = 8 := by omega
        have e : (2 : Int) ^ (7 * 8) = 72057594037927936 := by decide
        rw [e] at hq; omega
    rw [Nu.mark_dig h.2, List.cons_append, Nu.getF_d (by omega) (by omega) (by omega), ih (by omega) (i + 1) _ (by omega) (by omega) ?_, Nu.dig_more h.1 h.2]
    · have e1 : (128 + q % 128) % 128 = q % 128 := by omega
      rw [e1, Nu.pow_step i]
      generalize (2 : Int) ^ (7 * i) = p at *
      have e2 : n + q % 128 * p + q / 128 * (p * 128) = n + q * p := by
        have : q = q % 128 + q / 128 * 128 := by omega
        have h1 : q * p = (q % 128 + q / 128 * 128) * p := by rw [← this]
        rw [h1, Int.add_mul, Int.mul_assoc (q / 128), Int.mul_comm 128 p]; omega
      rw [e2]
      refine Prod.ext rfl (Prod.ext ?_ rfl)
      simp only [List.length_cons]; push_cast; omega
    · rw [Nu.pow_step i]
      generalize (2 : Int) ^ (7 * i) = p at *
      have h1 : q / 128 * (p * 128) = (q / 128 * 128) * p := by rw [Int.mul_assoc, Int.mul_comm 128 p]
      have h2 : (q / 128 * 128) * p ≤ q * p := Int.mul_le_mul_of_nonneg_right (by omega) (by omega)
      omega
  | case2 q h =>
    intro i n hi hz hq
    have hlt : q < 128 := by omega
    rw [Nu.dig_last hlt, show q % 128 = q by omega]
    show Nu.getF i n (q :: rest) = _
    rw [Nu.getF_c (by omega) ?_ hlt, show q % 128 = q by omega]
    · refine Prod.ext rfl (Prod.ext ?_ rfl)
      simp
    · rintro ⟨rfl, h63⟩
      have e : (2 : Int) ^ (7 * 8) = 72057594037927936 := by decide
      rw [e] at hq; omega
theorem Nu.get_put (rest : List Int) (k : Int) (h0 : 0 ≤ k) (h1 : k ≤ 4611686018427387903) : Nu.getV (Nu.putV k ++ rest) = (k, ((Nu.putV k).length : Int), 0) := by
  have e : Nu.putV k = Nu.mark (Nu.dig 128 k) := by unfold Nu.putV; rw [if_pos (by simp [Nu.putOk, h0, h1])]
  unfold Nu.getV
  rw [e, Nu.get_mark rest k h0 0 0 (by omega) (by omega) (by simpa using h1), Nu.mark_len]
  simp
theorem Nu.get_high : ∀ (l : List Int) (i : Nat) (n : Int), (∀ x ∈ l, 128 ≤ x) → i + l.length ≤ 8 → Nu.getF i n l = (0, 0, 6)
  | [], _, _, _, _ => rfl
  | c :: cs, i, n, h, hl => by
    have hc := h c (List.mem_cons_self ..)
    simp only [List.length_cons] at hl
    rw [Nu.getF_d (by omega) (by omega) (by omega)]
    exact Nu.get_high cs (i + 1) _ (fun x hx => h x (List.mem_cons_of_mem _ hx)) (by omega)
theorem Nu.dig_len128 : ∀ (k : Nat) (n : Int), n < 128 ^ (k + 1) → (Nu.dig 128 n).length ≤ k + 1 := by
  intro k
  induction k with
  | zero => intro n h; rw [Nu.dig_last (by simpa using h)]; simp
  | succ k ih =>
    intro n h
    by_cases hb : 128 ≤ n
    · rw [Nu.dig_more (by omega) hb]
      have : n / 128 < 128 ^ (k + 1) := Int.ediv_lt_of_lt_mul (by omega) (by rw [Int.pow_succ] at h; exact h)
      have := ih _ this
      simp; omega
    · rw [Nu.dig_last (by omega)]; simp
theorem Nu.put_len9 {k : Int} (h0 : 0 ≤ k) (h1 : k ≤ 4611686018427387903) : (Nu.putV k).length ≤ 9 ∧ 0 < (Nu.putV k).length ∧ (Nu.putV k).length = (Nu.dig 128 k).length := by
  have e : Nu.putV k = Nu.mark (Nu.dig 128 k) := by unfold Nu.putV; rw [if_pos (by simp [Nu.putOk, h0, h1])]
  have e9 : (128 : Int) ^ (8 + 1) = 9223372036854775808 := by decide
  rw [e, Nu.mark_len]
  refine ⟨Nu.dig_len128 8 k (by rw [e9]; omega), ?_, rfl⟩
  have := Nu.dig_ne 128 k
  exact List.length_pos_iff.2 this
theorem Nu.putV_get {k : Int} (i : Nat) (hi : i < (Nu.putV k).length) : ∃ d, 0 ≤ d ∧ d < 128 ∧ (Nu.putV k).getD i 0 = d + (if i + 1 < (Nu.putV k).length then 128 else 0) := by
  unfold Nu.putV at hi ⊢
  split at hi
  · rename_i h
    rw [if_pos h]
    rw [Nu.mark_len] at hi
    rw [Nu.mark_get _ i hi, Nu.mark_len]
    have := Nu.dig_lt (b := 128) (by omega) k ((Nu.dig 128 k).getD i 0) (by rw [List.getD_eq_getElem?_getD, List.getElem?_eq_getElem hi]; exact List.getElem_mem _)
    exact ⟨_, this.1, this.2, rfl⟩
  · simp at hi
theorem Nu.putV_bytes (k : Int) : ∀ x ∈ Nu.putV k, 0 ≤ x ∧ x ≤ 255 := by
  intro x hx
  obtain ⟨i, hi, rfl⟩ := List.getElem_of_mem hx
  obtain ⟨d, d0, d1, h⟩ := Nu.putV_get (k := k) i hi
  rw [List.getD_eq_getElem?_getD, List.getElem?_eq_getElem hi] at h
  simp only [Option.getD_some] at h
  rw [h]; split <;> omega
theorem Nu.get_part {k : Int} (h0 : 0 ≤ k) (h1 : k ≤ 4611686018427387903) (i : Nat) (hi : i < (Nu.putV k).length) : Nu.getV ((Nu.putV k).take i) = (0, 0, 6) := by
  obtain ⟨h9, _, _⟩ := Nu.put_len9 h0 h1
  refine Nu.get_high _ 0 0 (fun x hx => ?_) (by rw [List.length_take]; omega)
  obtain ⟨j, hj, rfl⟩ := List.getElem_of_mem hx
  rw [List.length_take] at hj
  obtain ⟨d, d0, d1, h⟩ := Nu.putV_get (k := k) j (by omega)
  rw [List.getD_eq_getElem?_getD, List.getElem?_eq_getElem (by omega), if_pos (by omega)] at h
  simp only [Option.getD_some] at h
  rw [List.getElem_take, h]; omega
end Go.Proofs.Ythikjjcoejdjiaa
