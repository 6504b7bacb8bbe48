/- The arithmetic of a counter, as small lemmas. No condition. -/
import Derived.Test.YteonfgphihacgaaRecQ
namespace Go.Proofs.Yteonfgphihacgaa
open Go.RowKit
theorem ownsRow_max {w : World} {base : Nat} {e : TypeId} {size : Nat} {v : Value} {n : Nat} {xs : List Value} (h : w.ownsRow base e size v n xs) : n ≤ 9223372036854775807 := by
  have hm : maxLen = 9223372036854775807 := rfl
  rcases h.2 with ⟨_, e⟩ | ⟨_, _, _, _, _, _, h1, h2, _⟩
  · omega
  · exact Nat.le_trans h1 (by omega)
theorem st_one {j g n : Nat} (h : j + (g + 1) = n) : j + 1 + g = n := by omega
theorem st_num (j : Nat) : Value.int .i64 ((j : Int) + 1) = Value.int .i64 ((j + 1 : Nat) : Int) := by simp
theorem st_lt {j g n : Nat} (h : j + (g + 1) = n) : j < n := by omega
theorem st_lti {j g n : Nat} (h : j + (g + 1) = n) : (j : Int) < (n : Int) := by omega
theorem st_wrap {j g n : Nat} (h : j + (g + 1) = n) (h9 : n ≤ 9223372036854775807) : wrap64 ((j : Int) + 1) = (j : Int) + 1 := by rw [IntWalk.wrap64_in] <;> omega
end Go.Proofs.Yteonfgphihacgaa
