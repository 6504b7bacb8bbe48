/- PixRow: pixels are the same just if they have the same samples; their row is an order: the walk of the law. No condition. -/
import Derived.Test.YtdlmcdeddlccpaaPixO
namespace Go.Proofs.Ytdlmcdeddlccpaa
open Go.RowKit
set_option linter.unusedVariables false

/-- which number is greater -/
def cmpV (x y : Int) : Int := if x < y then -1 else if x = y then 0 else 1
theorem compare_any (x y : Int) (w : World) :
    Calls Try.prog 31 #[.int .u64 x, .int .u64 y] w fun e w' => e = .returned (.int .i64 (cmpV x y)) ∧ w = w' := by
  by_cases h : x < y
  · have X := Lib.hid (show cmpV x y = -1 by unfold cmpV; rw [if_pos h])
    go_enter Try.func31, Try.ntmps31
    go_wp2
    go_ret
    exact ⟨ret_i X.out.symm, rfl⟩
  · by_cases h2 : x = y
    · subst h2
      have X := Lib.hid (show cmpV x x = 0 by unfold cmpV; rw [if_neg h, if_pos rfl])
      go_enter Try.func31, Try.ntmps31
      go_wp2
      go_ret
      exact ⟨ret_i X.out.symm, rfl⟩
    · have X := Lib.hid (show cmpV x y = 1 by unfold cmpV; rw [if_neg h, if_neg h2])
      have h3 : y < x := by omega
      go_enter Try.func31, Try.ntmps31
      go_wp2
      go_ret
      exact ⟨ret_i X.out.symm, rfl⟩
end Go.Proofs.Ytdlmcdeddlccpaa
