/- Steps of a number, sums and products, over any memory, of num and of the document's own answer. Condition: numbers fit their kinds. -/
import Derived.Test.YtkphfpckkmendaaNumMath
import Derived.Test.YtkphfpckkmendaaAround
namespace Go.Proofs.Ytkphfpckkmendaa
open Go.RowKit
set_option linter.unusedVariables false

def Nu.limit (n : Int) : Int := Ar.around n 4611686018427387904
theorem Nu.limit_lt (n : Int) : 0 ≤ Nu.limit n ∧ Nu.limit n ≤ 4611686018427387903 := by have := Ar.around_lt n 4611686018427387904 (by omega); unfold Nu.limit; omega
def Nu.stepV (n c most : Int) : Int × Int :=
  if c < 48 ∨ 57 < c then (0, 3) else if most / 10 < n ∨ (n = most / 10 ∧ most % 10 < c - 48) then (0, 4) else (10 * n + (c - 48), 0)
theorem ret_step {a b : Int} {t : Int × Int} (h : t = (a, b)) : Ending.returned (.tuple #[.int .i64 a, .int .i64 b]) = .returned (.tuple #[.int .i64 t.1, .int .i64 t.2]) := by rw [h]
def StepR (n c most : Int) (w : World) (e : Ending) (w' : World) : Prop := e = .returned (.tuple #[.int .i64 (Nu.stepV n c most).1, .int .i64 (Nu.stepV n c most).2]) ∧ w = w'

theorem step_any (n c most : Int) (n0 : 0 ≤ n) (n1 : n ≤ most) (m1 : most ≤ 4611686018427387903) (c0 : 0 ≤ c) (c1 : c ≤ 255) (w : World) :
    Calls Try.prog 48 #[.int .i64 n, .int .u8 c, .int .i64 most] w (StepR n c most w) := by
  by_cases h1 : c < 48
  · have X := Lib.hid (show Nu.stepV n c most = (0, 3) by unfold Nu.stepV; rw [if_pos (.inl h1)])
    go_enter Try.func48, Try.ntmps48
    go_wp2
    go_ret2
    exact ⟨ret_step X.out, rfl⟩
  by_cases h2 : 57 < c
  · have X := Lib.hid (show Nu.stepV n c most = (0, 3) by unfold Nu.stepV; rw [if_pos (.inr h2)])
    go_enter Try.func48, Try.ntmps48
    go_wp2
    go_ret2
    exact ⟨ret_step X.out, rfl⟩
  have hs : ¬ (c < 48 ∨ 57 < c) := by omega
  by_cases h3 : most / 10 < n
  · have X := Lib.hid (show Nu.stepV n c most = (0, 4) by unfold Nu.stepV; rw [if_neg hs, if_pos (.inl h3)])
    clear hs
    go_enter Try.func48, Try.ntmps48
    go_wp2
    go_ret2
    exact ⟨ret_step X.out, rfl⟩
  by_cases h4 : n = most / 10
  · by_cases h5 : most % 10 < c - 48
    · have X := Lib.hid (show Nu.stepV n c most = (0, 4) by unfold Nu.stepV; rw [if_neg hs, if_pos (.inr ⟨h4, h5⟩)])
      have k4 : (n == most / 10) = true := by simp [h4]
      clear hs h4
      go_enter Try.func48, Try.ntmps48
      go_wp2
      go_ret2
      exact ⟨ret_step X.out, rfl⟩
    · have X := Lib.hid (show Nu.stepV n c most = (10 * n + (c - 48), 0) by unfold Nu.stepV; rw [if_neg hs, if_neg (by omega)])
      have k4 : (n == most / 10) = true := by simp [h4]
      have k5 : decide (most % 10 < c - 48) = false := by simp; omega
      clear hs h4
      go_enter Try.func48, Try.ntmps48
      go_wp2
      go_ret2
      exact ⟨ret_step X.out, rfl⟩
  · have X := Lib.hid (show Nu.stepV n c most = (10 * n + (c - 48), 0) by unfold Nu.stepV; rw [if_neg hs, if_neg (by omega)])
    have k4 : (n == most / 10) = false := by simp [h4]
    clear hs h4
    go_enter Try.func48, Try.ntmps48
    go_wp2
    go_ret2
    exact ⟨ret_step X.out, rfl⟩

theorem refStep_any (n c most : Int) (n0 : 0 ≤ n) (n1 : n ≤ most) (m1 : most ≤ 4611686018427387903) (c0 : 0 ≤ c) (c1 : c ≤ 255) (w : World) :
    Calls Try.prog 29 #[.int .i64 n, .int .u8 c, .int .i64 most] w (StepR n c most w) := by
  by_cases h1 : c < 48
  · have X := Lib.hid (show Nu.stepV n c most = (0, 3) by unfold Nu.stepV; rw [if_pos (.inl h1)])
    go_enter Try.func29, Try.ntmps29
    go_wp2
    go_ret2
    exact ⟨ret_step X.out, rfl⟩
  by_cases h2 : 57 < c
  · have X := Lib.hid (show Nu.stepV n c most = (0, 3) by unfold Nu.stepV; rw [if_pos (.inr h2)])
    go_enter Try.func29, Try.ntmps29
    go_wp2
    go_ret2
    exact ⟨ret_step X.out, rfl⟩
  have hs : ¬ (c < 48 ∨ 57 < c) := by omega
  by_cases h3 : most / 10 < n
  · have X := Lib.hid (show Nu.stepV n c most = (0, 4) by unfold Nu.stepV; rw [if_neg hs, if_pos (.inl h3)])
    clear hs
    go_enter Try.func29, Try.ntmps29
    go_wp2
    go_ret2
    exact ⟨ret_step X.out, rfl⟩
  by_cases h4 : n = most / 10
  · by_cases h5 : most % 10 < c - 48
    · have X := Lib.hid (show Nu.stepV n c most = (0, 4) by unfold Nu.stepV; rw [if_neg hs, if_pos (.inr ⟨h4, h5⟩)])
      have k4 : (n == most / 10) = true := by simp [h4]
      clear hs h4
      go_enter Try.func29, Try.ntmps29
      go_wp2
      go_ret2
      exact ⟨ret_step X.out, rfl⟩
    · have X := Lib.hid (show Nu.stepV n c most = (n * 10 + (c - 48), 0) by unfold Nu.stepV; rw [if_neg hs, if_neg (by omega), Int.mul_comm])
      have k4 : (n == most / 10) = true := by simp [h4]
      have k5 : decide (most % 10 < c - 48) = false := by simp; omega
      clear hs h4
      go_enter Try.func29, Try.ntmps29
      go_wp2
      go_ret2
      exact ⟨ret_step X.out, rfl⟩
  · have X := Lib.hid (show Nu.stepV n c most = (n * 10 + (c - 48), 0) by unfold Nu.stepV; rw [if_neg hs, if_neg (by omega), Int.mul_comm])
    have k4 : (n == most / 10) = false := by simp [h4]
    clear hs h4
    go_enter Try.func29, Try.ntmps29
    go_wp2
    go_ret2
    exact ⟨ret_step X.out, rfl⟩
end Go.Proofs.Ytkphfpckkmendaa
