/-
  posthornlaw01.PackNil answers true.
-/
import Derived.Test.YtihjllfkejdoiaaPackAlive
namespace Go.Proofs.Ytihjllfkejdoiaa.pk
open Go.RowKit

set_option maxHeartbeats 4000000 in
set_option maxRecDepth 100000 in
theorem packnil_any (m : Int) (w : World) : Calls Try.prog 7 #[.int .i64 m] w fun e w' => e = .returned (.bool true) ∧ Below w.heap.size w w' := by
  go_enter Try.func7, Try.ntmps7
  go_wp2_with fail
  refine (fault_nil w).mono ?_
  rintro e w1 ⟨rfl, rfl⟩
  go_wp2_with fail
  refine (alive_any _).mono ?_
  rintro e w2 ⟨rfl, hb2⟩
  go_wp2_with fail
  refine (rnum_nil w2).mono ?_
  rintro e w3 ⟨rfl, hb3⟩
  have hb23 := hb2.trans (hb3.mono hb2.size)
  clear hb2 hb3
  go_wp2_with fail
  refine (rtext_nil m w3).mono ?_
  rintro e w4 ⟨rfl, hb4⟩
  have hb34 := hb23.trans (hb4.mono hb23.size)
  clear hb23 hb4
  go_wp2_with fail
  refine (rcount_nil m w4).mono ?_
  rintro e w5 ⟨rfl, hb5⟩
  have hb45 := hb34.trans (hb5.mono hb34.size)
  clear hb34 hb5
  go_wp2_with fail
  refine (left_nil w5).mono ?_
  rintro e w6 ⟨rfl, rfl⟩
  go_wp2_with fail
  refine (end_nil _).mono ?_
  rintro e w7 ⟨rfl, rfl⟩
  go_wp2
  go_ret
  exact ⟨rfl, hb45⟩
end Go.Proofs.Ytihjllfkejdoiaa.pk
