/- A number's decimals, over any memory. Condition: the number fits its kind. -/
import Derived.Test.YtkphfpckkmendaaNumA
import Derived.Test.YtkphfpckkmendaaBox
import Derived.Test.YtkphfpckkmendaaRevB
import Derived.Test.YtkphfpckkmendaaNumM
namespace Go.Proofs.Ytkphfpckkmendaa
open Go.RowKit Go.Shelf
attribute [local go_sem] Oper.semAt_some
set_option linter.unusedVariables false

theorem conv_own {W : World} {base : Nat} {g n cap : Nat} {zs : List Int} (h : W.ownsRow base 5 1 (.slice (some ⟨g, 0, none⟩) n cap) n (zs.map (Value.int .u8))) (hn : zs.length = n) :
    (convert 33 9 (.slice (some ⟨g, 0, none⟩) n cap)).run Try.prog W = .ok (.string (strOfNums zs)) W :=
  run_convert_bytes_arg (P := Try.prog) W 33 5 Try.underlying33 Try.underlying5 g 0 n cap zs hn (fun i hi => by
    rw [Nat.zero_add, h.cellAt i (by omega), List.getElem?_map, List.getElem?_eq_getElem (by omega), List.getD_eq_getElem?_getD, List.getElem?_eq_getElem (by omega)]; rfl) 9 Try.underlying9
theorem Try.info_byte : (Try.prog.info? 5).map (fun i => (i.zero, i.size, i.bytes)) = some (some (.int .u8 0), 1, 1) := by kernel_rfl

end Go.Proofs.Ytkphfpckkmendaa
