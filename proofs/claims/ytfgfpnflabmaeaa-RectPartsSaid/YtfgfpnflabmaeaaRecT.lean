/- Layer 3: two equal pairs of integers are not unequal (an array of two). No condition. -/
import Derived.Test.YtfgfpnflabmaeaaRecQ
import Derived.Laws.StructEq
import Derived.ChangeKeysEq
namespace Go.Proofs.Ytfgfpnflabmaeaa
open Go.RowKit
theorem pair_guard (a b : Operand) (xs ys : Array Value) (w : World) : (eqGuard .neq 66 a b (.agg xs) (.agg ys)).run Try.prog w = .ok () w := run_eqGuard_agg _ _ _ _ _ _ _ (by rfl)
theorem pair_neq (x y : Int) (w : World) : (binOp .neq 66 (.agg #[.int .i64 x, .int .i64 y]) (.agg #[.int .i64 x, .int .i64 y])).run Try.prog w = .ok (.bool false) w := by
  rw [run_neq_struct]
  have h : Try.prog.underlying 66 = some (.array 2 3) := rfl
  have h2 (W : World) : (Go.sizeOf 3).run Try.prog W = .ok 1 W := by rfl
  have h3 (i : Nat) (W : World) (xs : Array Value) (z : Value) (hz : xs[i]? = some z) : (part 3 xs i).run Try.prog W = .ok z W := run_part_plain _ (by rfl) hz
  have e (W : World) (d : Nat) (z : Int) : (Op.equalIn (d + 1) 3 (.int .i64 z) (.int .i64 z)).run Try.prog W = .ok true W := by
    rw [run_equalIn_int W d _ .i64 .i64 z z rfl]; simp
  have p0 (W : World) : (part 3 #[.int .i64 x, .int .i64 y] 0).run Try.prog W = .ok (.int .i64 x) W := h3 0 W _ _ rfl
  have p1 (W : World) : (part 3 #[.int .i64 x, .int .i64 y] 1).run Try.prog W = .ok (.int .i64 y) W := h3 1 W _ _ rfl
  rw [show (10000 : Nat) = 9998 + 1 + 1 from rfl, Op.equalIn]
  simp only [Sem.run_bind, run_underlying h, Result.andThen_ok, h2]
  simp [Std.Legacy.Range.forIn_eq_forIn_range', List.range', e, p0, p1]
theorem ownsRow_max {w : World} {base : Nat} {e : TypeId} {size : Nat} {v : Value} {n : Nat} {xs : List Value} (h : w.ownsRow base e size v n xs) : n ≤ 9223372036854775807 := by
  have hm : maxLen = 9223372036854775807 := rfl
  rcases h.2 with ⟨_, e⟩ | ⟨_, _, _, _, _, _, h1, h2, _⟩
  · omega
  · exact Nat.le_trans h1 (by omega)
theorem st_one {j g n : Nat} (h : j + (g + 1) = n) : j + 1 + g = n := by omega
theorem st_num (j : Nat) : Value.int .i64 ((j : Int) + 1) = Value.int .i64 ((j + 1 : Nat) : Int) := by simp
theorem st_lt {j g n : Nat} (h : j + (g + 1) = n) : j < n := by omega
theorem st_lti {j g n : Nat} (h : j + (g + 1) = n) : (j : Int) < (n : Int) := by omega
theorem st_wrap {j g n : Nat} (h : j + (g + 1) = n) (h9 : n ≤ 9223372036854775807) : wrap64 ((j : Int) + 1) = (j : Int) + 1 := by rw [IntWalk.wrap64_in] <;> omega
end Go.Proofs.Ytfgfpnflabmaeaa
