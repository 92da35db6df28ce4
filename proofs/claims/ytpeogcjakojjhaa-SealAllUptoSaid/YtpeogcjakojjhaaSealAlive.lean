/-
  What the law's alive answers: true.
-/
import Derived.Test.YtpeogcjakojjhaaSealRefCut
namespace Go.Proofs.Ytpeogcjakojjhaa.sl
open Go.RowKit

set_option maxHeartbeats 1000000 in
set_option maxRecDepth 100000 in
theorem alive_any (w : World) :
    Calls Try.prog 11 #[] w fun e w' => e = .returned (.bool true) ∧ Below w.heap.size w w' := by
  have hfr : frame [97] = [0, 0, 0, 1, 232, 183, 190, 67, 97] := by decide +kernel
  have hct : cut [0, 0, 0, 1, 232, 183, 190, 67, 97, 98] = ([97], 9, 0) := by decide +kernel
  have hsm : crc [49, 50, 51, 52, 53, 54, 55, 56, 57] = 3421780262 := by decide +kernel
  have hF := Lib.hid (frame_any [97] (by decide))
  have hC := Lib.hid (cut_any [0, 0, 0, 1, 232, 183, 190, 67, 97, 98] (by decide))
  have hS := Lib.hid (sum_any [49, 50, 51, 52, 53, 54, 55, 56, 57] (by decide))
  rw [hfr] at hF
  rw [hct] at hC
  rw [hsm] at hS
  clear hfr hct hsm
  have hcat : S [0, 0, 0, 1, 232, 183, 190, 67, 97] ++ ⟨#[98]⟩ = S [0, 0, 0, 1, 232, 183, 190, 67, 97, 98] := rfl
  have hz1 : (S [0, 0, 0, 1, 232, 183, 190, 67, 97]).size = 9 := rfl
  have q1 : (S [0, 0, 0, 1, 232, 183, 190, 67, 97]).toList = [0, 0, 0, 1, 232, 183, 190, 67, 97] := by rw [Lib.toList_data, S_data]
  have q2 : (S [97]).toList = [97] := by rw [Lib.toList_data, S_data]
  go_enter Try.func11, Try.ntmps11
  go_wp2_with fail
  refine (hF.out _).mono ?_
  rintro e w1 ⟨rfl, hb1⟩
  go_wp2_with fail
  refine (hC.out _).mono ?_
  rintro e w2 ⟨rfl, hb2⟩
  go_wp2_with fail
  refine (hS.out _).mono ?_
  rintro e w3 ⟨rfl, rfl⟩
  go_wp2
  go_ret
  exact ⟨rfl, hb1.trans (hb2.mono hb1.size)⟩
end Go.Proofs.Ytpeogcjakojjhaa.sl
