/- cmp.Compare of integers, laid for this program. No condition. -/
import Derived.Shelf.SlicesG.Cmp
import Derived.Test.YtehmbnloplamaaaProg
namespace Go.Proofs.Ytehmbnloplamaaa
open Go.Shelf
def Ly.cmpC_ren : Go.Shelf.Ren := ⟨fun | 5 => 69 | 7 => 88 | n => n, fun | 22 => 3 | 3 => 3 | 4 => 4 | n => n, fun | n => n⟩
theorem Ly.cmpC : Go.Proofs.SlLaysC2.n5 Try.prog Ly.cmpC_ren := {
  mixed := by kernel_rfl
  f5 := ⟨Try.f69.name, by decide, Try.func69.trans (congrArg some (by kernel_rfl))⟩
  f7 := ⟨Try.f88.name, by decide, Try.func88.trans (congrArg some (by kernel_rfl))⟩
  t3 := Try.underlying3
  a3 := Try.isAgg3
  z3 := Try.sizeOf3
  v3 := Try.zeroValue3
  t4 := Try.underlying4
  a4 := Try.isAgg4
  z4 := Try.sizeOf4
  v4 := Try.zeroValue4
  t22 := Try.underlying3
  a22 := Try.isAgg3
  z22 := Try.sizeOf3
  v22 := Try.zeroValue3 }
end Go.Proofs.Ytehmbnloplamaaa
