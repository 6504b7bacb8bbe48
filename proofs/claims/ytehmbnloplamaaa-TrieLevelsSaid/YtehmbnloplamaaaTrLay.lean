/- slices.Insert of integers, laid for this program. No condition. -/
import Derived.Shelf.Spec.SlicesInsert
import Derived.Shelf.Spec.SlicesInsertGrow
import Derived.Test.YtehmbnloplamaaaProg
namespace Go.Proofs.Ytehmbnloplamaaa
open Go.Shelf Go.RowKit
def Ly.lays21_ren : Go.Shelf.Ren := ⟨fun | 21 => 62 | 27 => 83 | 28 => 84 | 35 => 94 | 39 => 105 | n => n, fun | 22 => 29 | 3 => 3 | 4 => 4 | 0 => 0 | n => n, fun | n => n⟩
theorem Ly.lays21 : Go.Proofs.Lays2.n21 Try.prog Ly.lays21_ren := {
  mixed := by kernel_rfl
  f21 := Try.func62.trans (congrArg some (by kernel_rfl))
  f27 := Try.func83.trans (congrArg some (by kernel_rfl))
  f28 := Try.func84.trans (congrArg some (by kernel_rfl))
  f35 := Try.func94.trans (congrArg some (by kernel_rfl))
  f39 := Try.func105.trans (congrArg some (by kernel_rfl))
  t0 := Try.underlying0
  a0 := Try.isAgg0
  z0 := Try.sizeOf0
  v0 := Try.zeroValue0
  t3 := Try.underlying3
  a3 := Try.isAgg3
  z3 := Try.sizeOf3
  v3 := Try.zeroValue3
  t4 := Try.underlying4
  a4 := Try.isAgg4
  z4 := Try.sizeOf4
  v4 := Try.zeroValue4
  t22 := Try.underlying29
  a22 := Try.isAgg29
  z22 := Try.sizeOf29
  v22 := Try.zeroValue29
  i3 := by kernel_rfl }
end Go.Proofs.Ytehmbnloplamaaa
