/-
  The law SealSums: the call answers true. (The walk.)
-/
import Derived.Test.YtpeogcjakojjhaaSealAlive
namespace Go.Proofs.Ytpeogcjakojjhaa.sl
open Go.RowKit

set_option maxHeartbeats 1000000 in
set_option maxRecDepth 100000 in
theorem sealsums_any (l : List UInt8) (hl : l.length ≤ 9223372036854775807) (w : World) :
    Calls Try.prog 3 #[.string (S l)] w fun e w' => e = .returned (.bool true) ∧ Below w.heap.size w w' := by
  have hS := Lib.hid (sum_any l hl)
  have hR := Lib.hid (refsum_any l hl)
  by_cases h : l.length ≤ 65536
  · have hF := frame_any l h
    have hG := refframe_any l h
    generalize frame l = f at hF hG
    have hFH := Lib.hid hF
    have hGH := Lib.hid hG
    have hq : ((S f).toList == (S f).toList) = true := str_eq rfl
    clear hF hG hl h
    go_enter Try.func3, Try.ntmps3
    go_wp2_with fail
    refine (hFH.out _).mono ?_
    rintro e w1 ⟨rfl, hb1⟩
    go_wp2_with fail
    refine (hGH.out _).mono ?_
    rintro e w2 ⟨rfl, hb2⟩
    go_wp2_with fail
    refine (alive_any _).mono ?_
    rintro e w3 ⟨rfl, hb3⟩
    have hb : Below w.heap.size w w3 := (hb1.trans (hb2.mono hb1.size)).trans (hb3.mono (Nat.le_trans hb1.size hb2.size))
    clear hb1 hb2 hb3
    go_wp2_with fail
    refine (hS.out _).mono ?_
    rintro e w4 ⟨rfl, rfl⟩
    go_wp2_with fail
    refine (hR.out _).mono ?_
    rintro e w5 ⟨rfl, rfl⟩
    go_wp2
    go_ret
    exact ⟨rfl, hb⟩
  · have hF := frame_long l (by omega) hl
    have hG := refframe_long l (by omega) hl
    have hFH := Lib.hid hF
    have hGH := Lib.hid hG
    have hq : ((S []).toList == (S []).toList) = true := str_eq rfl
    clear hF hG hl h
    go_enter Try.func3, Try.ntmps3
    go_wp2_with fail
    refine (hFH.out _).mono ?_
    rintro e w1 ⟨rfl, rfl⟩
    go_wp2_with fail
    refine (hGH.out _).mono ?_
    rintro e w2 ⟨rfl, rfl⟩
    go_wp2_with fail
    refine (alive_any _).mono ?_
    rintro e w3 ⟨rfl, hb⟩
    go_wp2_with fail
    refine (hS.out _).mono ?_
    rintro e w4 ⟨rfl, rfl⟩
    go_wp2_with fail
    refine (hR.out _).mono ?_
    rintro e w5 ⟨rfl, rfl⟩
    go_wp2
    go_ret
    exact ⟨rfl, hb⟩
end Go.Proofs.Ytpeogcjakojjhaa.sl
