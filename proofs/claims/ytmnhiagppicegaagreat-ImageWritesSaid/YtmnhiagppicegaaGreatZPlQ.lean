/- The document's reader of digits is told a sample, over any memory. Condition: its head may be, its numbers are samples. -/
import Derived.Test.YtmnhiagppicegaaGreatZgAE
import Derived.Test.YtmnhiagppicegaaGreatZPlD
namespace Go.Proofs.YtmnhiagppicegaaGreat
open Go.RowKit
set_option linter.unusedVariables false

/-- made since -/
def Nw (W : World) (a : Option Addr) : Prop := ∀ y, a = some y → W.heap.size ≤ y.block
end Go.Proofs.YtmnhiagppicegaaGreat
