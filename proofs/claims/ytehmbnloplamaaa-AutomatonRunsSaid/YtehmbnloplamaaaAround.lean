/- The document's number made to lie below another one, over any memory. Condition: numbers fit their kinds. -/
import Derived.Test.YtehmbnloplamaaaProg
import Derived.WalkKit
import Derived.WalkSpells
import Derived.WalkLawsBesides
import Derived.Handy
import Derived.Lib.Hide
namespace Go.Proofs.Ytehmbnloplamaaa
open Go.RowKit
set_option linter.unusedVariables false
namespace Ar
def around (n most : Int) : Int := (if n < 0 then -(n + 1) else n) % most
theorem around_lt (n most : Int) (h : 0 < most) : 0 ≤ around n most ∧ around n most < most := by
  unfold around; exact ⟨Int.emod_nonneg _ (by omega), Int.emod_lt_of_pos _ h⟩
theorem ret_i {k : IntKind} {a b : Int} (h : a = b) : Ending.returned (.int k a) = .returned (.int k b) := by rw [h]
end Ar
theorem aroundOf (n m : Int) (h1 : -9223372036854775808 ≤ n) (h2 : n ≤ 9223372036854775807) (hm : 0 < m) (hm' : m ≤ 9223372036854775807) (w : World) :
    Calls Try.prog 27 #[.int .i64 n, .int .i64 m] w fun e w' => e = .returned (.int .i64 (Ar.around n m)) ∧ w = w' := by
  have hz : (m == 0) = false := by simp; omega
  by_cases h : n < 0
  · have X := Lib.hid (show -((n + 1).tmod m) = Ar.around n m by unfold Ar.around; rw [if_pos h, ← Int.neg_tmod, Int.tmod_eq_emod_of_nonneg (by omega)])
    have e1 : 0 ≤ -(n + 1) := by omega
    go_enter Try.func27, Try.ntmps27
    go_wp2
    go_ret
    exact ⟨Ar.ret_i X.out, rfl⟩
  · have X := Lib.hid (show n % m = Ar.around n m by unfold Ar.around; rw [if_neg h])
    go_enter Try.func27, Try.ntmps27
    go_wp2
    go_ret
    exact ⟨Ar.ret_i X.out, rfl⟩
end Go.Proofs.Ytehmbnloplamaaa
