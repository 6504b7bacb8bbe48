/- A raster of digits written by the document, over any memory. Condition: the head may be, there are as many pixels as it has, and not too many. -/
import Derived.Test.YtooilemglmndeaaGreatZgAF
import Derived.Test.YtooilemglmndeaaGreatZgAB
import Derived.Deep.RegionHeld3
namespace Go.Proofs.YtooilemglmndeaaGreat
set_option linter.unusedVariables false
open Go.RowKit
end Go.Proofs.YtooilemglmndeaaGreat
