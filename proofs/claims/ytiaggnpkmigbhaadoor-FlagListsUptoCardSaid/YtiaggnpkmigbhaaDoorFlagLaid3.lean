/-
  What the rows' word on the three listed variables gives the walks; a world that meets it: the door's own, the pinned table laid in it.
-/
import Derived.Test.YtiaggnpkmigbhaaDoorRows
import Derived.Test.YtiaggnpkmigbhaaDoorFlagRows
import Derived.ProofKit
import Derived.LaidMore
import Derived.OpenShut
import Derived.Stop.Joined
import Derived.Stop.LaidErr
import Derived.Lib.LaidTab
import Derived.Lib.LaidU8
import Derived.MakeChecks
import Derived.Deep.DeepWitnessRowRef
namespace Go.Proofs.YtiaggnpkmigbhaaDoor.fl
open Go.ChangeShapes Go.WideShapes Go.ChangeAt Go.RowKit

def laid3 : List (String × DataW Unit) := [("unicode/utf8.acceptRanges", Rows.laid_unicode_utf8_acceptRanges), ("posthorn/flag.system", Rows.laid_posthorn_flag_system), ("unicode/utf8.first", Rows.laid_unicode_utf8_first)]
/-- The door's heap, the pinned table laid in it. -/
noncomputable def laidW (os : Os) : World :=
  { World.doorLaid Tryd.prog 400 os with heap := (World.doorLaid Tryd.prog 400 os).heap.modify 2 fun
      | .cells _ t frozen => .cells (Lib.firstTab.map (Value.int .u8)).toArray t frozen
      | o => o }
theorem laid_met3 (os : Os) (args : Array Value) : laidMet Tryd.prog laid3 ((laidW os).forCall (fun _ _ => 0) ⟨#[], args, []⟩).memory :=
  laidMet_of_run' 8 (by kernel_rfl) (by kernel_rfl)
theorem door_met3 (os : Os) (args : Array Value) : laidMetH Tryd.prog laid3 ((laidW os).forCall (fun _ _ => 0) ⟨#[], args, []⟩).memory :=
  laidMetH_of_parts3 (fuel := 8) (laid_met3 os args) (by kernel_rfl) (by kernel_rfl)
theorem sys3 {W : World} (h : laidMetH Tryd.prog laid3 W) : Sys W := by
  rw [MakeChecks.laidMetH_plain _ _ _ (by kernel_rfl)] at h
  exact sys_of h.tail
end Go.Proofs.YtiaggnpkmigbhaaDoor.fl
