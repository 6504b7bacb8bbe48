/- A part of a matrix, its rows, its columns, whatever places are told. Condition: numbers fit their kinds. -/
import Derived.Test.YtldhhhmihfcalaaRecF
namespace Go.Proofs.Ytldhhhmihfcalaa
open Go.RowKit
set_option linter.unusedVariables false

theorem zero_mt (w : World) (o : Obj) : Sb ((w.alloc o).alloc (.cells #[.int .i64 0, .int .i64 0, .slice none 0 0] 27)) (w.heap.size + 1) 27 (.int .i64 0) (.int .i64 0) (.slice none 0 0) := by
  simpa using Sb.new (w.alloc o) 27 (.int .i64 0) (.int .i64 0) (.slice none 0 0)
/-- what a call hands back that makes a matrix -/
def MatR (base : Nat) (w' : World) (e : Ending) (S : Int × Int × List Int) (tail : List Value) : Prop :=
  ∃ a c, e = .returned (.tuple ((.agg #[.int .i64 S.1, .int .i64 S.2.1, .slice a S.2.2.length c]) :: tail).toArray) ∧ OwnK .u64 base w' a S.2.2 ∧ S.2.2.length ≤ c ∧ c ≤ 9223372036854775807
def rowV (W H : Int) (L : List Int) (y : Int) : List Int := (Rc.subV W H L 0 y W 1).2.2.1
def colV (W H : Int) (L : List Int) (x : Int) : List Int := (Rc.subV W H L x 0 1 H).2.2.1
end Go.Proofs.Ytldhhhmihfcalaa
