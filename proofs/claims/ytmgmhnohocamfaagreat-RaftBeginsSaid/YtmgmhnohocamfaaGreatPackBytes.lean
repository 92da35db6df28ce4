/-
  What a piece's bytes answers: as many bytes as the number says, or that there are fewer.
-/
import Derived.Test.YtmgmhnohocamfaaGreatPackMem
import Derived.Test.YtmgmhnohocamfaaGreatPackNum
import Derived.Test.YtmgmhnohocamfaaGreatPackNumber
import Derived.Deep.QuietTactic
import Derived.BigQuiet
import Derived.BigRegion
import Derived.Deep.RegionWith
import Derived.Deep.RegionHeld3
import Derived.WalkLawsBesides
namespace Go.Proofs.YtmgmhnohocamfaaGreat.pk
open Go.RowKit

end Go.Proofs.YtmgmhnohocamfaaGreat.pk
