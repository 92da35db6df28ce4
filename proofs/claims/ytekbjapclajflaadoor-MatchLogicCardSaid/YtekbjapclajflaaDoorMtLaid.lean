/-
  The program's types are laid out.
-/
import Derived.Test.YtekbjapclajflaaDoorRows
import Derived.ProofKit
import Derived.OpenShut
namespace Go.Proofs.YtekbjapclajflaaDoor.mt
open Go.RowKit
theorem laidOut : laidOutB Tryd.prog = true := by kernel_rfl
end Go.Proofs.YtekbjapclajflaaDoor.mt
