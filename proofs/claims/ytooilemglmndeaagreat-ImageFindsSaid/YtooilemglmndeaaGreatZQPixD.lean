/- What Fits, Good, Same and the example of the document's own answer come to, over any memory. Condition: numbers fit their kinds. -/
import Derived.Test.YtooilemglmndeaaGreatZQPixC
import Derived.Test.YtooilemglmndeaaGreatZgAB
import Derived.Test.YtooilemglmndeaaGreatZgAA
namespace Go.Proofs.YtooilemglmndeaaGreat
open Go.RowKit
set_option linter.unusedVariables false
namespace Pq
end Pq
end Go.Proofs.YtooilemglmndeaaGreat
