/-
  The library's reversing of a part of a row.
-/
import Derived.Test.YtbaeillecojilaaDoorSrtBase
namespace Go.Proofs.YtbaeillecojilaaDoor.sq
open Go.RowKit
open Go.Sort (swp PermIn SortedIn ltInt SWO)

theorem wrapi {x : Int} {n : Nat} (h : x = (n : Int)) (hn : n < 9223372036854775808) : IntKind.i64.wrap x = (n : Int) := by
  rw [h]; exact IntWalk.i64_in _ (by omega)

set_option maxHeartbeats 2000000 in
set_option maxRecDepth 100000 in
theorem reverse_any (g cap a b : Nat) (d : Array Int) (w : World) (hR : RowI w g d) (hg : g < w.heap.size) (hab : a < b) (hb : b ≤ d.size) (hsz : d.size < 4611686018427387904) :
    Calls Tryd.prog 70 #[.slice (some ⟨g, 0, none⟩) d.size cap, .int .i64 a, .int .i64 b] w fun e w' =>
      e = .returned (.tuple #[]) ∧ ∃ d', PermIn a b d d' ∧ St w g d' w' := by
  have HS := Lib.hid (St.start hR hg)
  have hw0 := wrapi (show (b : Int) - 1 = ((b - 1 : Nat) : Int) by omega) (by omega)
  clear hR
  go_enter Tryd.func70, Tryd.ntmps70
  go_wp2
  clear hw0
  go_loopw [6, 7] (fun vi vj wr => ∃ (i j : Nat) (dk : Array Int), vi = .int .i64 i ∧ vj = .int .i64 j ∧ a ≤ i ∧ j < b ∧ dk.size = d.size ∧ Hid (PermIn a b d dk) ∧ Hid (St w g dk wr))
    (fun vi vj _ => (intOf vj + 1 - intOf vi).toNat)
  case atStart => exact ⟨a, b - 1, d, rfl, rfl, by omega, by omega, rfl, Lib.hid (Go.Sort.permIn_refl _ _ _), HS⟩
  case round =>
    obtain ⟨i, j, dk, rfl, rfl, hai, hjb, hsk, HP, HK⟩ := hrel
    by_cases hij : i < j
    · have hijz : (i : Int) < (j : Int) := by omega
      have hid : i < d.size := by omega
      have hjd : j < d.size := by omega
      have hidz : (i : Int) < (d.size : Int) := by omega
      have hjdz : (j : Int) < (d.size : Int) := by omega
      have hw1 := wrapi (show (i : Int) + 1 = ((i + 1 : Nat) : Int) by omega) (by omega)
      have hw2 := wrapi (show (j : Int) - 1 = ((j - 1 : Nat) : Int) by omega) (by omega)
      obtain ⟨G, hG, hcw, hfw⟩ := HK.out.fam
      rw [hsk] at hcw hfw
      have HG := Lib.hid hG
      clear hG
      go_wp2
      go_region
      all_goals go_wp2
      go_roundw
      case rel =>
        refine ⟨i + 1, j - 1, swp dk i j, by first | rfl | go_num, rfl, by omega, by omega, by rw [Go.Sort.size_swp]; exact hsk, ?_, ?_⟩
        · exact Lib.hid (Go.Sort.permIn_trans _ _ _ _ _ HP.out (Go.Sort.swp_permIn _ _ _ _ _ (by omega) (by omega) (by omega) (by omega) (by omega)))
        · have := HK.out.swap 1 (i := i) (j := j) (by omega) (by omega)
          rw [← HG.out, ← HG.out] at this
          exact Lib.hid this
      case measure => simp [intOf]; omega
    · have hijz : ¬ (i : Int) < (j : Int) := by omega
      go_wp2
      go_end0
      exact ⟨rfl, dk, HP.out, HK.out⟩
end Go.Proofs.YtbaeillecojilaaDoor.sq
