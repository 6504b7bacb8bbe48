/- A text's first bytes, over any memory. No condition. -/
import Derived.Test.YtkphfpckkmendaaProg
import Derived.Test.YtkphfpckkmendaaIn
namespace Go.Proofs.Ytkphfpckkmendaa
open Go.RowKit
set_option linter.unusedVariables false
theorem few_any (s : ByteArray) (n : Nat) (hn : n ≤ 100) (hs : s.size ≤ maxLen) (w : World) :
    Calls Try.prog 5 #[.string s, .int .i64 n] w fun e w' => ∃ t : ByteArray, e = .returned (.string t) ∧ t.size ≤ n ∧ w = w' := by
  unfold maxLen at hs
  by_cases h : n < s.size
  · have h1 : (n : Int) < (s.size : Int) := by omega
    go_enter Try.func5, Try.ntmps5
    go_wp2
    go_ret
    exact ⟨_, rfl, by simp; omega, rfl⟩
  · have h1 : ¬ (n : Int) < (s.size : Int) := by omega
    go_enter Try.func5, Try.ntmps5
    go_wp2
    go_ret
    exact ⟨_, rfl, by omega, rfl⟩
end Go.Proofs.Ytkphfpckkmendaa
