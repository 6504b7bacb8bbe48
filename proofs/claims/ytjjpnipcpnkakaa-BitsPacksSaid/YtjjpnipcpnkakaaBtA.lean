/- How many bytes a row has, over any memory, of bits and of the document's own answer. Condition: numbers fit their kinds. -/
import Derived.Test.YtjjpnipcpnkakaaIn
import Derived.Test.YtjjpnipcpnkakaaBtMath
import Derived.IntWalk
import Derived.LoopN
namespace Go.Proofs.Ytjjpnipcpnkakaa
open Go.RowKit
set_option linter.unusedVariables false
namespace Bt
theorem ret_i {k : IntKind} {a b : Int} (h : a = b) : Ending.returned (.int k a) = .returned (.int k b) := by rw [h]
theorem bytes_any (n : Int) (w : World) : Calls Try.prog 48 #[.int .i64 n] w fun e w' => e = .returned (.int .i64 (bytesV n)) ∧ w = w' := by
  by_cases h1 : n < 1
  · have X := Lib.hid (show 0 = bytesV n by unfold bytesV; rw [if_pos (.inl h1)])
    go_enter Try.func48, Try.ntmps48
    go_wp2
    go_ret
    exact ⟨ret_i X.out, rfl⟩
  · by_cases h2 : 4096 < n
    · have X := Lib.hid (show 0 = bytesV n by unfold bytesV; rw [if_pos (.inr h2)])
      go_enter Try.func48, Try.ntmps48
      go_wp2
      go_ret
      exact ⟨ret_i X.out, rfl⟩
    · have X := Lib.hid (show (n + 8 - 1) / 8 = bytesV n by unfold bytesV; rw [if_neg (by omega)]; omega)
      have h3 : 1 ≤ n := by omega
      have h4 : n ≤ 4096 := by omega
      go_enter Try.func48, Try.ntmps48
      go_wp2
      go_ret
      exact ⟨ret_i X.out, rfl⟩
theorem refBytes_any (n : Int) (w : World) : Calls Try.prog 49 #[.int .i64 n] w fun e w' => e = .returned (.int .i64 (bytesV n)) ∧ w = w' := by
  by_cases h1 : n < 1
  · have X := Lib.hid (show 0 = bytesV n by unfold bytesV; rw [if_pos (.inl h1)])
    go_enter Try.func49, Try.ntmps49
    go_wp2
    go_ret
    exact ⟨ret_i X.out, rfl⟩
  · by_cases h2 : 4096 < n
    · have X := Lib.hid (show 0 = bytesV n by unfold bytesV; rw [if_pos (.inr h2)])
      go_enter Try.func49, Try.ntmps49
      go_wp2
      go_ret
      exact ⟨ret_i X.out, rfl⟩
    · have h3 : 1 ≤ n := by omega
      have h4 : n ≤ 4096 := by omega
      by_cases h5 : 0 < n % 8
      · have X := Lib.hid (show n / 8 + 1 = bytesV n by unfold bytesV; rw [if_neg (by omega)]; omega)
        go_enter Try.func49, Try.ntmps49
        go_wp2
        go_ret
        exact ⟨ret_i X.out, rfl⟩
      · have X := Lib.hid (show n / 8 = bytesV n by unfold bytesV; rw [if_neg (by omega)]; omega)
        go_enter Try.func49, Try.ntmps49
        go_wp2
        go_ret
        exact ⟨ret_i X.out, rfl⟩
end Bt
end Go.Proofs.Ytjjpnipcpnkakaa
