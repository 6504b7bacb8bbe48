/- A matrix of rows by the document, over any memory. Condition: rows are few and short. -/
import Derived.Test.YtldhhhmihfcalaaRecW
import Derived.Test.YtldhhhmihfcalaaRecP
import Derived.Test.YtldhhhmihfcalaaRecK
import Derived.BigQuiet
import Derived.Deep.QuietTactic
namespace Go.Proofs.Ytldhhhmihfcalaa
open Go.RowKit
set_option linter.unusedVariables false

/-- what Of hands back -/
def OfR (R : List (List Int)) (w : World) (e : Ending) (w' : World) : Prop :=
  ∃ ad c, e = .returned (.tuple #[.agg #[.int .i64 (ofV R).1, .int .i64 (ofV R).2.1, .slice ad (ofV R).2.2.1.length c], .int .i64 (ofV R).2.2.2]) ∧ OwnK .u64 w.heap.size w' ad (ofV R).2.2.1 ∧ (ofV R).2.2.1.length ≤ c ∧ c ≤ 9223372036854775807 ∧ Below w.heap.size w w'
theorem ofV_no {R : List (List Int)} (h : Rc.sized (lenV R) R.length = false) : ofV R = (0, 0, [], 1) := by unfold ofV; rw [h]; rfl
theorem ofV_yes {R : List (List Int)} (h : Rc.sized (lenV R) R.length = true) : ofV R = ((lenV R : Int), (R.length : Int), Rc.rowsOf (fun k => R.getD k []) R.length, 0) := by unfold ofV; rw [if_pos h]
theorem Sb.setU {w : World} {b : Nat} {t : TypeId} {u v x : Value} (h : Sb w b t u v x) (y : Value) : Sb (w.setCell ⟨b, 0, none⟩ y) b t y v x := by
  have h' : w.heap[b]? = _ := h
  have h1 := Go.heap_setCell_same w b 0 _ t y h'
  simpa [Sb] using h1
theorem Sb.setV {w : World} {b : Nat} {t : TypeId} {u v x : Value} (h : Sb w b t u v x) (y : Value) : Sb (w.setCell ⟨b, 1, none⟩ y) b t u y x := by
  have h' : w.heap[b]? = _ := h
  have h1 := Go.heap_setCell_same w b 1 _ t y h'
  simpa [Sb] using h1
end Go.Proofs.Ytldhhhmihfcalaa
