/- The smallest functions of turn: what is a turn, what mirrors, how wide and high; over any memory. Condition: numbers fit their kinds. -/
import Derived.Test.YteonfgphihacgaaRecC
import Derived.Test.YteonfgphihacgaaTurMath
namespace Go.Proofs.Yteonfgphihacgaa
open Go.RowKit
set_option linter.unusedVariables false

namespace Tu
def isT (g : Int) : Bool := decide (0 ≤ g) && decide (g < 8)
theorem isT_iff {g : Int} : isT g = true ↔ 0 ≤ g ∧ g < 8 := by simp [isT]
theorem isT_no {g : Int} : isT g = false ↔ g < 0 ∨ 8 ≤ g := by simp [isT]; omega
theorem isT_nat {g : Int} (h : isT g = true) : ∃ n : Nat, n < 8 ∧ g = n := by
  obtain ⟨h1, h2⟩ := isT_iff.1 h
  exact ⟨g.toNat, by omega, by omega⟩
end Tu
set_option maxHeartbeats 1000000 in
theorem turnMay_any (g : Int) (w : World) :
    Calls Try.prog 79 #[.int .i64 g] w fun e w' => e = .returned (.bool (Tu.isT g)) ∧ w = w' := by
  by_cases h1 : 0 ≤ g
  · have X := Lib.hid (show decide (g < 8) = Tu.isT g by simp [Tu.isT, h1])
    go_enter Try.func79, Try.ntmps79
    go_wp2
    go_ret
    exact ⟨ret_b X.out, rfl⟩
  · have X := Lib.hid (show false = Tu.isT g by simp [Tu.isT, h1])
    go_enter Try.func79, Try.ntmps79
    go_wp2
    go_ret
    exact ⟨ret_b X.out, rfl⟩
set_option maxHeartbeats 1000000 in
theorem mirrors_any (g : Int) (w : World) :
    Calls Try.prog 111 #[.int .i64 g] w fun e w' => e = .returned (.bool (decide (4 ≤ g))) ∧ w = w' := by
  go_enter Try.func111, Try.ntmps111
  go_wp2
  go_ret
  exact ⟨rfl, rfl⟩
set_option maxHeartbeats 1000000 in
theorem size_no (a b g : Int) (hg : Tu.isT g = false) (w : World) :
    Calls Try.prog 100 #[.int .i64 a, .int .i64 b, .int .i64 g] w fun e w' => e = .returned (.tuple #[.int .i64 0, .int .i64 0]) ∧ w = w' := by
  have HG := Lib.hid hg
  clear hg
  go_enter Try.func100, Try.ntmps100
  go_wp2_with (go_at_call 79; refine (turnMay_any _ _).mono ?_; rw [HG.out]; rintro e w1 ⟨rfl, rfl⟩)
  go_ret2
  exact ⟨rfl, rfl⟩
set_option maxHeartbeats 1000000 in
theorem size_any (a b g : Nat) (hg : g < 8) (w : World) :
    Calls Try.prog 100 #[.int .i64 a, .int .i64 b, .int .i64 g] w fun e w' => e = .returned (.tuple #[.int .i64 (Tu.sw g a b), .int .i64 (Tu.sw g b a)]) ∧ w = w' := by
  rcases Tu.turn8 hg with rfl | rfl | rfl | rfl | rfl | rfl | rfl | rfl
  all_goals
    clear hg
    go_enter Try.func100, Try.ntmps100
    go_wp2_with (go_at_call 79; refine (turnMay_any _ _).mono ?_; rw [show Tu.isT _ = true from rfl]; rintro e w1 ⟨rfl, rfl⟩)
    go_ret2
    exact ⟨rfl, rfl⟩
end Go.Proofs.Yteonfgphihacgaa
