/- Which heads may be, told by head and by the document, over any memory. Condition: numbers fit their kinds. -/
import Derived.Test.YtooilemglmndeaaGreatZgAA
import Derived.Test.YtooilemglmndeaaGreatZgAC
namespace Go.Proofs.YtooilemglmndeaaGreat
open Go.RowKit
set_option linter.unusedVariables false

theorem Hj.ret_d {p : Prop} [Decidable p] {b : Bool} (h : decide p = b) : Ending.returned (.bool b) = .returned (.bool (decide p)) := by rw [h]
end Go.Proofs.YtooilemglmndeaaGreat
