/- The smallest functions of rect and of the document's own answer: sides, what may be, what lies inside, over any memory. Condition: numbers fit their kinds. -/
import Derived.Test.YtldhhhmihfcalaaIn
import Derived.Test.YtldhhhmihfcalaaAround
import Derived.Test.YtldhhhmihfcalaaRecMath
namespace Go.Proofs.Ytldhhhmihfcalaa
open Go.RowKit
set_option linter.unusedVariables false

/-- a number that fits an int -/
def I64 (n : Int) : Prop := -9223372036854775808 ≤ n ∧ n ≤ 9223372036854775807
theorem ret_b {a b : Bool} (h : a = b) : Ending.returned (.bool a) = .returned (.bool b) := by rw [h]

set_option maxHeartbeats 1000000 in
theorem mayMeasure_any (a b : Int) (w : World) :
    Calls Try.prog 95 #[.int .i64 a, .int .i64 b] w fun e w' => e = .returned (.bool (Rc.sized a b)) ∧ w = w' := by
  by_cases h1 : 1 ≤ a <;> by_cases h2 : a ≤ 4096 <;> by_cases h3 : 1 ≤ b <;> by_cases h4 : b ≤ 65536
  all_goals first
    | (
      have X := Lib.hid (show Rc.sized a b = false by simp [Rc.sized, h1, h2, h3, h4])
      go_enter Try.func95, Try.ntmps95
      go_wp2
      go_ret
      exact ⟨ret_b X.out.symm, rfl⟩)
    | (
      have hm : wrap64 (a * b) = a * b := by
        have q1 : 0 ≤ a * b := Int.mul_nonneg (by omega) (by omega)
        have q2 : a * b ≤ 4096 * 65536 := Int.mul_le_mul h2 h4 (by omega) (by omega)
        rw [IntWalk.wrap64_in] <;> omega
      have X := Lib.hid (show decide (a * b ≤ 16777216) = Rc.sized a b by simp [Rc.sized, h1, h2, h3, h4])
      go_enter Try.func95, Try.ntmps95
      go_wp2
      go_ret
      exact ⟨ret_b X.out, rfl⟩)
set_option maxHeartbeats 1000000 in
theorem refSized_any (a b : Int) (w : World) :
    Calls Try.prog 60 #[.int .i64 a, .int .i64 b] w fun e w' => e = .returned (.bool (Rc.sized a b)) ∧ w = w' := by
  by_cases h1 : a < 1 <;> by_cases h2 : 4096 < a <;> by_cases h3 : b < 1 <;> by_cases h4 : 65536 < b
  all_goals first
    | (
      have X := Lib.hid (show Rc.sized a b = false by cases e : Rc.sized a b; rfl; rw [Rc.sized_iff] at e; omega)
      go_enter Try.func60, Try.ntmps60
      go_wp2
      go_ret
      exact ⟨ret_b X.out.symm, rfl⟩)
    | (
      have hm : wrap64 (a * b) = a * b := by
        have q1 : 0 ≤ a * b := Int.mul_nonneg (by omega) (by omega)
        have q2 : a * b ≤ 4096 * 65536 := Int.mul_le_mul (by omega) (by omega) (by omega) (by omega)
        rw [IntWalk.wrap64_in] <;> omega
      have X := Lib.hid (show decide (a * b ≤ 16777216) = Rc.sized a b by simp [Rc.sized, Int.not_lt.1 h1, Int.not_lt.1 h2, Int.not_lt.1 h3, Int.not_lt.1 h4])
      go_enter Try.func60, Try.ntmps60
      go_wp2
      go_ret
      exact ⟨ret_b X.out, rfl⟩)
set_option maxHeartbeats 1000000 in
theorem inside_any (x n all : Int) (ha : I64 all) (w : World) :
    Calls Try.prog 99 #[.int .i64 x, .int .i64 n, .int .i64 all] w fun e w' => e = .returned (.bool (Rc.insV x n all)) ∧ w = w' := by
  unfold I64 at ha
  by_cases h1 : 0 ≤ x <;> by_cases h2 : 1 ≤ n <;> by_cases h3 : n ≤ all
  all_goals first
    | (
      have X := Lib.hid (show Rc.insV x n all = false by simp [Rc.insV, h1, h2, h3])
      go_enter Try.func99, Try.ntmps99
      go_wp2
      go_ret
      exact ⟨ret_b X.out.symm, rfl⟩)
    | (
      have hm : wrap64 (all - n) = all - n := by rw [IntWalk.wrap64_in] <;> omega
      have X := Lib.hid (show decide (x ≤ all - n) = Rc.insV x n all by simp [Rc.insV, h1, h2, h3])
      go_enter Try.func99, Try.ntmps99
      go_wp2
      go_ret
      exact ⟨ret_b X.out, rfl⟩)
end Go.Proofs.Ytldhhhmihfcalaa
