/- A part, whether and where a matrix stands in another one, by the document. Condition: the matrices may be. -/
import Derived.Test.YtmnhiagppicegaaGreatZgAA
namespace Go.Proofs.YtmnhiagppicegaaGreat
open Go.RowKit
set_option linter.unusedVariables false

end Go.Proofs.YtmnhiagppicegaaGreat
