/-
  The walk of DigestSums.
-/
import Derived.Test.YtjgkjhenfapjeaaDoorDigNilWalk
import Derived.Test.YtjgkjhenfapjeaaDoorDigSum
namespace Go.Proofs.YtjgkjhenfapjeaaDoor.dg
open Go.RowKit

set_option maxRecDepth 100000 in
theorem digestsums_any (l : List UInt8) (hl : l.length ≤ 140737488351232) (w : World) (hK : Keys w) :
    Calls Tryd.prog 3 #[.string (S l)] w fun e w' => e = .returned (.bool true) ∧ Mild w.heap.size w w' := by
  have h1 := fun W hW => sum_any l W hW (by omega)
  have h2 := refsum_any l hl
  have hpos := hK.pos
  generalize sum l = d at *
  go_enter Tryd.func3, Tryd.ntmps3
  go_wp2_with fail
  refine (alive_any w hK).mono ?_
  rintro e w1 ⟨rfl, hb1⟩
  have hK1 := hK.below hb1 hpos
  go_wp2_with fail
  refine (h1 w1 hK1).mono ?_
  rintro e w2 ⟨rfl, hb2⟩
  have hB2 := hb1.trans (hb2.mono hb1.size)
  go_wp2_with fail
  refine (h2 w2).mono ?_
  rintro e w3 ⟨rfl, hb3⟩
  have hM3 := (Mild.of hB2).trans (hb3.mono hB2.size)
  go_wp2_with fail
  go_ret
  exact ⟨rfl, hM3⟩
end Go.Proofs.YtjgkjhenfapjeaaDoor.dg
