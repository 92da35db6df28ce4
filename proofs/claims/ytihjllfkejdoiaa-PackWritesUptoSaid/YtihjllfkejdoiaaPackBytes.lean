/-
  What a piece's bytes answers: as many bytes as the number says, or that there are fewer.
-/
import Derived.Test.YtihjllfkejdoiaaPackMem
import Derived.Test.YtihjllfkejdoiaaPackClone
import Derived.Test.YtihjllfkejdoiaaPackNum
import Derived.Test.YtihjllfkejdoiaaPackNumber
import Derived.Deep.QuietTactic
import Derived.BigQuiet
import Derived.BigRegion
import Derived.Deep.RegionWith
import Derived.Deep.RegionHeld3
import Derived.WalkLawsBesides
namespace Go.Proofs.Ytihjllfkejdoiaa.pk
open Go.RowKit

set_option maxHeartbeats 4000000 in
set_option maxRecDepth 100000 in
theorem bytes_short (b : Nat) (s : ByteArray) (m : Int) (n : Nat) (t : ByteArray) (w : World) (hP : PS w b s m n t) (hs : s.size ≤ 9223372036854775807) (hn : s.size < n) :
    Calls Try.prog 26 #[.pointer (some ⟨b, 0, none⟩)] w fun e w' => ∃ q, e = .returned (.int .i64 3) ∧ w' = w.drewN q := by
  obtain ⟨c0, c1, c2, c3, f0, f1, f2, f3⟩ := hP.cells
  go_enter Try.func26, Try.ntmps26
  go_wp2
  go_quiet (fail)
  go_wp2
  go_ret
  exact ⟨_, rfl, rfl⟩

set_option maxHeartbeats 4000000 in
set_option maxRecDepth 100000 in
theorem bytes_ok (b : Nat) (s : ByteArray) (m : Int) (n : Nat) (t : ByteArray) (w : World) (hP : PS w b s m n t) (hs : s.size ≤ 281474976710656) (hn : n ≤ s.size) :
    Calls Try.prog 26 #[.pointer (some ⟨b, 0, none⟩)] w fun e w' => e = .returned (.int .i64 0) ∧ PS w' b (s.extract n s.size) m n (s.extract 0 n) ∧ Touch b w w' := by
  obtain ⟨c0, c1, c2, c3, f0, f1, f2, f3⟩ := hP.cells
  have hx : (s.extract 0 n).size ≤ 281474976710656 := by simp; omega
  go_enter Try.func26, Try.ntmps26
  go_wp2
  go_quiet (fail)
  go_wp2
  have ho : Only b w (w.drewN nq) := (Only.refl b w).drewN nq
  have hP2 := hP.drewN nq
  generalize w.drewN nq = w2 at *
  clear c0 c1 c2 c3 f0 f1 f2 f3 hP
  obtain ⟨c0, c1, c2, c3, f0, f1, f2, f3⟩ := hP2.cells
  have hlt2 := hP2.lt
  go_region_held3 (fun w' => w'.cell? ⟨b, 0, none⟩ = some (.string s) ∧ w'.cell? ⟨b, 2, none⟩ = some (.int .u64 n))
    (first
      | go_keep
      | (refine ⟨?_, ?_⟩
         · (rw [World.cell?_setCell_other _ _ _ _ (by simp)]; rw [hb4.cell (by simpa using hlt2)]; simpa using c0)
         · (rw [World.cell?_setCell_other _ _ _ _ (by simp)]; rw [hb4.cell (by simpa using hlt2)]; simpa using c2))
      | (refine ⟨?_, ?_⟩
         · (rw [hb4.cell (by simpa using hlt2)]; simpa using c0)
         · (rw [hb4.cell (by simpa using hlt2)]; simpa using c2)))
    ((go_at_call 27; refine (clone_any _ _ hx).mono ?_; rintro e w4 ⟨rfl, hb4⟩; have d3 : w4.cell? ⟨b, 3, none⟩ = some (.string t) := (by rw [hb4.cell (by simpa using hlt2)]; simpa using c3); have e3 : w4.frozen? ⟨b, 3, none⟩ = false := (by rw [hb4.frozen (by simpa using hlt2)]; simpa using f3)))
  have hP4 : PS w4 b s m n t := hP2.drew.of_below hb4 (by simpa using hlt2)
  have hbl : Touch b w w4 := ho.drew.touch.trans (Touch.of_below hb4)
  clear d3 e3 hb4
  go_wp2_with fail
  have hP5 := hP4.set3 (s.extract 0 n)
  have hbl5 : Touch b w (w4.setCell ⟨b, 3, none⟩ (.string (s.extract 0 n))) := hbl.setCell 3 _
  generalize w4.setCell ⟨b, 3, none⟩ (.string (s.extract 0 n)) = w5 at *
  clear c0 c1 c2 c3 f0 f1 f2 f3 hP4 hbl
  obtain ⟨c0, c1, c2, c3, f0, f1, f2, f3⟩ := hP5.cells
  go_region
  all_goals go_wp2
  all_goals go_ret
  all_goals exact ⟨rfl, (hP5.set0 _).drew, (hbl5.setCell 0 _).drew⟩
end Go.Proofs.Ytihjllfkejdoiaa.pk
