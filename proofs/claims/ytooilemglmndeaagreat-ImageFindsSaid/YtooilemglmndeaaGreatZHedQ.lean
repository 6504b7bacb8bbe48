/- Whether two heads, or two formats, are the same, by '==' and '!='. No condition. -/
import Derived.Test.YtooilemglmndeaaGreatZgAA
import Derived.Laws.StructEq
namespace Go.Proofs.YtooilemglmndeaaGreat
open Go.RowKit
set_option linter.unusedVariables false
def Hj.same4 (a b c d x y z u : Int) : Bool := ((a == x) && (b == y)) && (c == z) && (d == u)
def Hj.same2 (a b x y : Int) : Bool := (a == x) && (b == y)
theorem Hj.same2_self (a b : Int) : Hj.same2 a b a b = true := by simp [Hj.same2]
theorem heq_run (a b c d x y z u : Int) (w : World) : (binOp .eql 62 (.agg #[.int .i64 a, .int .i64 b, .int .i64 c, .int .i64 d]) (.agg #[.int .i64 x, .int .i64 y, .int .i64 z, .int .i64 u])).run Tryz.prog w = .ok (.bool (Hj.same4 a b c d x y z u)) w := by
  rw [run_eql_struct]
  unfold Hj.same4
  cases h1 : (a == x) <;> cases h2 : (b == y) <;> cases h3 : (c == z) <;> cases h4 : (d == u) <;> simp [go_sem, h1, h2, h3, h4]
theorem feq_run (a b x y : Int) (w : World) : (binOp .eql 29 (.agg #[.int .i64 a, .int .i64 b]) (.agg #[.int .i64 x, .int .i64 y])).run Tryz.prog w = .ok (.bool (Hj.same2 a b x y)) w := by
  rw [run_eql_struct]
  unfold Hj.same2
  cases h1 : (a == x) <;> cases h2 : (b == y) <;> simp [go_sem, h1, h2]
theorem heq_guard (a b : Operand) (xs ys : Array Value) (w : World) : (eqGuard .eql 62 a b (.agg xs) (.agg ys)).run Tryz.prog w = .ok () w := run_eqGuard_agg _ _ _ _ _ _ _ (by kernel_rfl)
theorem feq_guard (a b : Operand) (xs ys : Array Value) (w : World) : (eqGuard .eql 29 a b (.agg xs) (.agg ys)).run Tryz.prog w = .ok () w := run_eqGuard_agg _ _ _ _ _ _ _ (by kernel_rfl)
end Go.Proofs.YtooilemglmndeaaGreat
