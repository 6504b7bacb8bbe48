/- slices.Reverse of bytes: the row is reversed in place, over any memory. No condition beyond the model's bound on a length. -/
import Derived.Test.YtkphfpckkmendaaProg
import Derived.WalkKit
import Derived.WalkSpells
import Derived.WalkLawsBesides
import Derived.Deep.LoopGhost
import Derived.RegionTactic
import Derived.Lib.Walk
import Derived.Sort.WalkB12
import Derived.Lib.SlicesMore
import Derived.Lib.OwnBridge
import Derived.Handy
import Derived.Lib.Hide
namespace Go.Proofs.Ytkphfpckkmendaa
open Go.RowKit Go.Lib Go.Sort
end Go.Proofs.Ytkphfpckkmendaa
