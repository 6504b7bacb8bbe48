/- Whether two heads, or two formats, are the same, by '==' and '!='. No condition. -/
import Derived.Test.YtkphfpckkmendaaHedHb
import Derived.Laws.StructEq
namespace Go.Proofs.Ytkphfpckkmendaa
open Go.RowKit
set_option linter.unusedVariables false
def Hj.same4 (a b c d x y z u : Int) : Bool := ((a == x) && (b == y)) && (c == z) && (d == u)
theorem Hj.same4_self (a b c d : Int) : Hj.same4 a b c d a b c d = true := by simp [Hj.same4]
def Hj.same2 (a b x y : Int) : Bool := (a == x) && (b == y)
theorem Hj.same2_self (a b : Int) : Hj.same2 a b a b = true := by simp [Hj.same2]
theorem heq_run (a b c d x y z u : Int) (w : World) : (binOp .eql 36 (.agg #[.int .i64 a, .int .i64 b, .int .i64 c, .int .i64 d]) (.agg #[.int .i64 x, .int .i64 y, .int .i64 z, .int .i64 u])).run Try.prog w = .ok (.bool (Hj.same4 a b c d x y z u)) w := by
  rw [run_eql_struct]
  unfold Hj.same4
  cases h1 : (a == x) <;> cases h2 : (b == y) <;> cases h3 : (c == z) <;> cases h4 : (d == u) <;> simp [go_sem, h1, h2, h3, h4]
theorem hneq_run (a b c d x y z u : Int) (w : World) : (binOp .neq 25 (.agg #[.int .i64 a, .int .i64 b, .int .i64 c, .int .i64 d]) (.agg #[.int .i64 x, .int .i64 y, .int .i64 z, .int .i64 u])).run Try.prog w = .ok (.bool (!Hj.same4 a b c d x y z u)) w := by
  rw [run_neq_struct]
  unfold Hj.same4
  cases h1 : (a == x) <;> cases h2 : (b == y) <;> cases h3 : (c == z) <;> cases h4 : (d == u) <;> simp [go_sem, h1, h2, h3, h4]
theorem rheq_run (a b c d x y z u : Int) (w : World) : (binOp .eql 25 (.agg #[.int .i64 a, .int .i64 b, .int .i64 c, .int .i64 d]) (.agg #[.int .i64 x, .int .i64 y, .int .i64 z, .int .i64 u])).run Try.prog w = .ok (.bool (Hj.same4 a b c d x y z u)) w := by
  rw [run_eql_struct]
  unfold Hj.same4
  cases h1 : (a == x) <;> cases h2 : (b == y) <;> cases h3 : (c == z) <;> cases h4 : (d == u) <;> simp [go_sem, h1, h2, h3, h4]
theorem feq_run (a b x y : Int) (w : World) : (binOp .eql 70 (.agg #[.int .i64 a, .int .i64 b]) (.agg #[.int .i64 x, .int .i64 y])).run Try.prog w = .ok (.bool (Hj.same2 a b x y)) w := by
  rw [run_eql_struct]
  unfold Hj.same2
  cases h1 : (a == x) <;> cases h2 : (b == y) <;> simp [go_sem, h1, h2]
theorem heq_guard (a b : Operand) (xs ys : Array Value) (w : World) : (eqGuard .eql 36 a b (.agg xs) (.agg ys)).run Try.prog w = .ok () w := run_eqGuard_agg _ _ _ _ _ _ _ (by kernel_rfl)
theorem hneq_guard (a b : Operand) (xs ys : Array Value) (w : World) : (eqGuard .neq 25 a b (.agg xs) (.agg ys)).run Try.prog w = .ok () w := run_eqGuard_agg _ _ _ _ _ _ _ (by kernel_rfl)
theorem rheq_guard (a b : Operand) (xs ys : Array Value) (w : World) : (eqGuard .eql 25 a b (.agg xs) (.agg ys)).run Try.prog w = .ok () w := run_eqGuard_agg _ _ _ _ _ _ _ (by kernel_rfl)
theorem feq_guard (a b : Operand) (xs ys : Array Value) (w : World) : (eqGuard .eql 70 a b (.agg xs) (.agg ys)).run Try.prog w = .ok () w := run_eqGuard_agg _ _ _ _ _ _ _ (by kernel_rfl)
end Go.Proofs.Ytkphfpckkmendaa
