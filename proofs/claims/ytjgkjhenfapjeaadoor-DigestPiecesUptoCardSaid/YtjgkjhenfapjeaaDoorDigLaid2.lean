/-
  A world for the second form's witness: the settled one, the table holding what its initialiser lays.
-/
import Derived.Test.YtjgkjhenfapjeaaDoorDigLaid
import Derived.Test.YtjgkjhenfapjeaaDoorDigWords
namespace Go.Proofs.YtjgkjhenfapjeaaDoor.dg
open Go.RowKit
noncomputable def laidWorld (os : Os) : World :=
  { World.holding Tryd.prog os ⟨#[], #[], []⟩ with heap := (World.holding Tryd.prog os ⟨#[], #[], []⟩).heap.modify 0 fun
      | .cells _ t frozen => .cells keyCells.toArray t frozen
      | o => o }
theorem laid_met (os : Os) (args : Array Value) : laidMet Tryd.prog laidAdds ((laidWorld os).forCall (fun _ _ => 0) ⟨#[], args, []⟩).memory :=
  laidMet_of_run' 8 (by kernel_rfl) (by kernel_rfl)
end Go.Proofs.YtjgkjhenfapjeaaDoor.dg
