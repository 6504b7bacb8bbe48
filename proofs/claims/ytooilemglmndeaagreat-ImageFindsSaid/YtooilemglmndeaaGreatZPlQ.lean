/- The document's reader of digits is told a sample, over any memory. Condition: its head may be, its numbers are samples. -/
import Derived.Test.YtooilemglmndeaaGreatZgAF
import Derived.Test.YtooilemglmndeaaGreatZPlD
namespace Go.Proofs.YtooilemglmndeaaGreat
set_option linter.unusedVariables false
open Go.RowKit
/-- made since -/
def Nw (W : World) (a : Option Addr) : Prop := ∀ y, a = some y → W.heap.size ≤ y.block
end Go.Proofs.YtooilemglmndeaaGreat
