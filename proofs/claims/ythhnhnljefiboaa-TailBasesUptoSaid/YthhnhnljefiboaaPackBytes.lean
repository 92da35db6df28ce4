/-
  What a piece's bytes answers: as many bytes as the number says, or that there are fewer.
-/
import Derived.Test.YthhnhnljefiboaaPackMem
import Derived.Test.YthhnhnljefiboaaPackNum
import Derived.Test.YthhnhnljefiboaaPackNumber
import Derived.Deep.QuietTactic
import Derived.BigQuiet
import Derived.BigRegion
import Derived.Deep.RegionWith
import Derived.Deep.RegionHeld3
import Derived.WalkLawsBesides
namespace Go.Proofs.Ythhnhnljefiboaa.pk
open Go.RowKit

end Go.Proofs.Ythhnhnljefiboaa.pk
