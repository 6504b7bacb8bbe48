/- A part of a matrix, in memory of the call's own. Condition: numbers fit their kinds. -/
import Derived.Test.YtldhhhmihfcalaaRecS
namespace Go.Proofs.Ytldhhhmihfcalaa
open Go.RowKit
end Go.Proofs.Ytldhhhmihfcalaa
