/-
  What a piece's bound answers: whether the number is at most the most (a most below 0 counts as 0).
-/
import Derived.Test.YtmgmhnohocamfaaGreatPackMem
import Derived.Deep.QuietTactic
import Derived.BigQuiet
import Derived.BigRegion
import Derived.WalkLawsBesides
namespace Go.Proofs.YtmgmhnohocamfaaGreat.pk
open Go.RowKit

set_option maxHeartbeats 4000000 in
set_option maxRecDepth 100000 in
theorem bound_ok (b : Nat) (s : ByteArray) (m : Int) (n : Nat) (t : ByteArray) (w : World) (hP : PS w b s m n t) (hm1 : m ≤ 9223372036854775807) (hn : (n : Int) ≤ max m 0) :
    Calls Tryz.prog 132 #[.pointer (some ⟨b, 0, none⟩)] w fun e w' => e = .returned (.int .i64 0) ∧ w' = w.drew := by
  obtain ⟨c0, c1, c2, c3, f0, f1, f2, f3⟩ := hP.cells
  by_cases hm : 0 ≤ m
  · have hn1 : (n : Int) ≤ m := by omega
    clear hn
    go_enter Tryz.func132, Tryz.ntmps132
    go_wp2
    go_region
    all_goals go_wp2
    all_goals go_ret
    all_goals exact ⟨rfl, rfl⟩
  · have hm0 : m < 0 := by omega
    have hn1 : n ≤ 0 := by omega
    clear hn hm
    go_enter Tryz.func132, Tryz.ntmps132
    go_wp2
    go_region
    all_goals go_wp2
    all_goals go_ret
    all_goals exact ⟨rfl, rfl⟩

set_option maxHeartbeats 4000000 in
set_option maxRecDepth 100000 in
theorem bound_long (b : Nat) (s : ByteArray) (m : Int) (n : Nat) (t : ByteArray) (w : World) (hP : PS w b s m n t) (hm1 : m ≤ 9223372036854775807) (hn : max m 0 < (n : Int)) :
    Calls Tryz.prog 132 #[.pointer (some ⟨b, 0, none⟩)] w fun e w' => e = .returned (.int .i64 2) ∧ w' = w.drew := by
  obtain ⟨c0, c1, c2, c3, f0, f1, f2, f3⟩ := hP.cells
  by_cases hm : 0 ≤ m
  · have hn1 : m < (n : Int) := by omega
    clear hn
    go_enter Tryz.func132, Tryz.ntmps132
    go_wp2
    go_region
    all_goals go_wp2
    all_goals go_ret
    all_goals exact ⟨rfl, rfl⟩
  · have hm0 : m < 0 := by omega
    have hn1 : 0 < n := by omega
    clear hn hm
    go_enter Tryz.func132, Tryz.ntmps132
    go_wp2
    go_region
    all_goals go_wp2
    all_goals go_ret
    all_goals exact ⟨rfl, rfl⟩
end Go.Proofs.YtmgmhnohocamfaaGreat.pk
