/- Plain facts on numbers as texts and as bytes: digits, decimals, bytes of a number. No condition. -/
import Derived.WalkKit
import Derived.Laws.BitsAllLaws
namespace Go.Proofs.Ytkphfpckkmendaa
open Go.RowKit
set_option linter.unusedVariables false
namespace Nu

def I (n : Int) : Prop := -9223372036854775808 ≤ n ∧ n ≤ 9223372036854775807
/-- a number's digits to a base, the lowest first -/
def dig (b n : Int) : List Int :=
  if h : 2 ≤ b ∧ b ≤ n then n % b :: dig b (n / b) else [n % b]
termination_by n.toNat
decreasing_by
  have h1 : 0 ≤ n / b := Int.ediv_nonneg (by omega) (by omega)
  have h2 : n / b < n := Int.ediv_lt_self_of_pos_of_ne_one (by omega) (by omega)
  omega
theorem dig_more {b n : Int} (h2 : 2 ≤ b) (h : b ≤ n) : dig b n = n % b :: dig b (n / b) := by rw [dig, dif_pos ⟨h2, h⟩]
theorem dig_last {b n : Int} (h : n < b) : dig b n = [n % b] := by rw [dig, dif_neg (by omega)]
theorem dig_ne (b n : Int) : dig b n ≠ [] := by rw [dig]; split <;> simp
theorem dig_lt {b : Int} (hb : 0 < b) (n : Int) : ∀ x ∈ dig b n, 0 ≤ x ∧ x < b := by
  induction n using dig.induct (b := b) with
  | case1 n h ih =>
    rw [dig_more h.1 h.2]
    intro x hx
    rcases List.mem_cons.1 hx with rfl | hx
    · exact ⟨Int.emod_nonneg _ (by omega), Int.emod_lt_of_pos _ hb⟩
    · exact ih x hx
  | case2 n h =>
    rw [dig, dif_neg h]
    intro x hx
    obtain rfl : x = n % b := by simpa using hx
    exact ⟨Int.emod_nonneg _ (by omega), Int.emod_lt_of_pos _ hb⟩
/-- no more than 64 digits -/
theorem dig_len {b : Int} (h2 : 2 ≤ b) : ∀ (k : Nat) (n : Int), n < 2 ^ k → (dig b n).length ≤ k + 1 := by
  intro k
  induction k with
  | zero => intro n h; rw [dig_last (by simp at h; omega)]; simp
  | succ k ih =>
    intro n h
    by_cases hb : b ≤ n
    · rw [dig_more h2 hb]
      have : n / b < 2 ^ k := by
        have e : (2 : Int) ^ (k + 1) = 2 ^ k * 2 := by rw [Int.pow_succ]
        rw [e] at h
        refine Int.ediv_lt_of_lt_mul (by omega) (Int.lt_of_lt_of_le h ?_)
        exact Int.mul_le_mul_of_nonneg_left h2 (Int.pow_nonneg (by omega))
      have := ih _ this
      simp; omega
    · rw [dig_last (by omega)]; simp
theorem dig_len64 {b n : Int} (h2 : 2 ≤ b) (h : n ≤ 18446744073709551615) : (dig b n).length ≤ 65 := by
  have e : (2 : Int) ^ 64 = 18446744073709551616 := by decide
  exact dig_len h2 64 n (by rw [e]; omega)
end Nu
end Go.Proofs.Ytkphfpckkmendaa
