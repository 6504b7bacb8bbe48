/- A head as the document, and as the program, has it, over any memory. No condition. -/
import Derived.Test.YtkphfpckkmendaaHedL
import Derived.Test.YtkphfpckkmendaaHedQ
namespace Go.Proofs.Ytkphfpckkmendaa
open Go.RowKit
set_option maxHeartbeats 1000000 in
theorem has_any (h : Hd.H) (w : World) : Calls Try.prog 13 #[agH h] w fun e w' => e = .returned (agH h) ∧ Below w.heap.size w w' := by
  unfold agH
  go_enter Try.func13, Try.ntmps13
  go_wp2
  go_returns
  exact ⟨rfl, by go_grown⟩
theorem feq_self (c m : Int) (W : World) : (binOp .eql 70 (.agg #[.int .i64 c, .int .i64 m]) (.agg #[.int .i64 c, .int .i64 m])).run Try.prog W = .ok (.bool true) W := by
  have := feq_run c m c m W
  rw [Hj.same2_self] at this; exact this
theorem hneq_self (a b c d : Int) (W : World) : (binOp .neq 25 (.agg #[.int .i64 a, .int .i64 b, .int .i64 c, .int .i64 d]) (.agg #[.int .i64 a, .int .i64 b, .int .i64 c, .int .i64 d])).run Try.prog W = .ok (.bool false) W := by
  have := hneq_run a b c d a b c d W
  rw [Hj.same4_self] at this; exact this
theorem rheq_self (a b c d : Int) (W : World) : (binOp .eql 25 (.agg #[.int .i64 a, .int .i64 b, .int .i64 c, .int .i64 d]) (.agg #[.int .i64 a, .int .i64 b, .int .i64 c, .int .i64 d])).run Try.prog W = .ok (.bool true) W := by
  have := rheq_run a b c d a b c d W
  rw [Hj.same4_self] at this; exact this
end Go.Proofs.Ytkphfpckkmendaa
