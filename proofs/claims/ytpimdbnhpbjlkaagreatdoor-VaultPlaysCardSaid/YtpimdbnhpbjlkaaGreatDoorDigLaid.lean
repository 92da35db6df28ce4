/-
  What the row's word on the table of constants gives the walks; the door's own heap meets it.
-/
import Derived.Test.YtpimdbnhpbjlkaaGreatDoorRows
import Derived.Test.YtpimdbnhpbjlkaaGreatDoorDigMix
import Derived.ProofKit
import Derived.LaidMore
import Derived.OpenShut
import Derived.Stop.Joined
import Derived.MakeChecks
namespace Go.Proofs.YtpimdbnhpbjlkaaGreatDoor.dg
open Go.ChangeShapes Go.WideShapes Go.ChangeAt Go.RowKit

theorem own : ownKnob Tryz.prog.godebug = none := by kernel_rfl
theorem gAdds : Tryz.prog.globalNamed "posthorn/digest.roundAdds" = some 0 := by kernel_rfl
theorem tAdds : (Tryz.prog.globals[0]?).map (·.type) = some 105 := by kernel_rfl
def laidAdds : List (String × DataW Unit) := [("posthorn/digest.roundAdds", Rows.laid_posthorn_digest_roundAdds)]
theorem door_met (os : Os) (args : Array Value) : laidMetH Tryz.prog laidAdds ((World.doorLaid Tryz.prog 400 os).forCall (fun _ _ => 0) ⟨#[], args, []⟩).memory :=
  laidMetH_of_parts3 (fuel := 8) (laidMet_of_run' 8 (by kernel_rfl) (by kernel_rfl)) (by kernel_rfl) (by kernel_rfl)

theorem laid_parts : (Rows.laid_posthorn_digest_roundAdds : DataW Unit) = .agg (keys.map fun k => .lit (.int .u32 (k : Nat))) := by kernel_rfl
theorem keys_of {W : World} (h : laidMetH Tryz.prog laidAdds W) : Keys W := by
  rw [MakeChecks.laidMetH_plain _ _ _ (by kernel_rfl)] at h
  obtain ⟨ps, ⟨g0, t0, cs0, f0, p0, q0, hg0, ht0, hv0, hd0, _, _⟩, _, _⟩ := h
  obtain rfl := Option.some.inj (gAdds.symm.trans hg0)
  obtain rfl := Option.some.inj (tAdds.symm.trans ht0)
  obtain ⟨xs, m1, rfl, hx1, hlen, hn3, hel⟩ := DataW.trod_array Tryz.underlying105 hd0
  have c1 : Tryz.prog.cellsOf 104 = 1 := by kernel_rfl
  simp only [Prod.mk.injEq] at hx1
  have hx2 := hx1.1
  rw [laid_parts] at hx2
  simp only [DataW.agg.injEq] at hx2
  intro t ht
  have h0 := hel t ht
  rw [c1, Nat.mul_one, List.getElem?_eq_getElem (by omega)] at h0
  obtain ⟨k, e1, e2, _⟩ := DataW.trod_int Tryz.underlying104 h0
  have e3 := congrArg (fun l => l[t]?) hx2
  simp only [List.getElem?_map, List.getElem?_eq_getElem (show t < xs.length by omega), List.getElem?_eq_getElem (show t < keys.length from ht), Option.map_some, e2, Option.some.injEq, DataW.lit.injEq, Lit.int.injEq, true_and] at e3
  rw [World.var?_cell hg0 hv0 t]
  have e4 := congrArg (fun l => l[0]?) e1
  simp only [List.getElem?_take_of_lt (show 0 < 1 by decide), List.getElem?_drop, Nat.add_zero, List.getElem?_cons_zero] at e4
  rw [← Array.getElem?_toList, e4, ← e3]
  unfold key
  rw [List.getD_eq_getElem?_getD, List.getElem?_eq_getElem (show t < keys.length from ht)]
  rfl
end Go.Proofs.YtpimdbnhpbjlkaaGreatDoor.dg
