/-
  What pack.Open, Left, Fault and End answer.
-/
import Derived.Test.YtmgmhnohocamfaaGreatPackMem
import Derived.Deep.QuietTactic
import Derived.BigQuiet
namespace Go.Proofs.YtmgmhnohocamfaaGreat.pk
open Go.RowKit

set_option maxRecDepth 100000 in
theorem open_any (s : ByteArray) (w : World) :
    Calls Tryz.prog 104 #[.string s] w fun e w' => e = .returned (.pointer (some ⟨w.heap.size, 0, none⟩)) ∧ w' = w.alloc (.cells #[.string s, .int .i64 0, .int .i64 0] 173) := by
  go_enter Tryz.func104, Tryz.ntmps104
  go_wp2
  go_ret
  exact ⟨rfl, rfl⟩

set_option maxRecDepth 100000 in
theorem left_nil (w : World) :
    Calls Tryz.prog 133 #[.pointer none] w fun e w' => e = .returned (.int .i64 0) ∧ w' = w := by
  go_enter Tryz.func133, Tryz.ntmps133
  go_wp2
  go_ret
  exact ⟨rfl, rfl⟩

set_option maxRecDepth 100000 in
theorem left_any (b : Nat) (s : ByteArray) (a : Nat) (f : Int) (w : World) (hR : RD w b s a f) (ha : a ≤ s.size) (hs : s.size ≤ 9223372036854775807) :
    Calls Tryz.prog 133 #[.pointer (some ⟨b, 0, none⟩)] w fun e w' => ∃ q, e = .returned (.int .i64 (s.size - a : Nat)) ∧ w' = w.drewN q := by
  obtain ⟨c0, c1, c2, _⟩ := hR.cells
  have hw : IntKind.i64.wrap ((s.size : Int) - (a : Int)) = ((s.size - a : Nat) : Int) := by
    rw [IntWalk.i64_in _ (by omega)]; omega
  go_enter Tryz.func133, Tryz.ntmps133
  go_wp2
  go_quiet (fail)
  go_wp2
  go_ret
  exact ⟨_, by simp, rfl⟩

set_option maxRecDepth 100000 in
theorem end_nil (w : World) :
    Calls Tryz.prog 106 #[.pointer none] w fun e w' => e = .returned (.int .i64 1) ∧ w' = w := by
  go_enter Tryz.func106, Tryz.ntmps106
  go_wp2
  go_ret
  exact ⟨rfl, rfl⟩

set_option maxRecDepth 100000 in
theorem end_bad (b : Nat) (s : ByteArray) (a f : Int) (hf : (f == 0) = false) (w : World) (hR : RD w b s a f) :
    Calls Tryz.prog 106 #[.pointer (some ⟨b, 0, none⟩)] w fun e w' => e = .returned (.int .i64 f) ∧ w' = w := by
  obtain ⟨c0, c1, c2, _⟩ := hR.cells
  go_enter Tryz.func106, Tryz.ntmps106
  go_wp2
  go_ret
  exact ⟨rfl, rfl⟩

set_option maxRecDepth 100000 in
theorem end_rest (b : Nat) (s : ByteArray) (a : Nat) (w : World) (hR : RD w b s a 0) (ha : a < s.size) (hs : s.size ≤ 9223372036854775807) :
    Calls Tryz.prog 106 #[.pointer (some ⟨b, 0, none⟩)] w fun e w' => e = .returned (.int .i64 9) ∧ RD w' b s a 9 ∧ Only b w w' := by
  obtain ⟨c0, c1, c2, f0, f1, f2⟩ := hR.cells
  go_enter Tryz.func106, Tryz.ntmps106
  go_wp2_with (go_at_call 133; refine (left_any b s a 0 w hR (by omega) hs).mono ?_; rintro e w' ⟨q, rfl, rfl⟩)
  go_ret
  exact ⟨rfl, (hR.drewN _).set2 9, ((Only.refl b w).drewN _).setCell 2 _⟩

set_option maxRecDepth 100000 in
theorem end_ok (b : Nat) (s : ByteArray) (w : World) (hR : RD w b s s.size 0) (hs : s.size ≤ 9223372036854775807) :
    Calls Tryz.prog 106 #[.pointer (some ⟨b, 0, none⟩)] w fun e w' => e = .returned (.int .i64 0) ∧ RD w' b s s.size 0 ∧ Only b w w' := by
  obtain ⟨c0, c1, c2, f0, f1, f2⟩ := hR.cells
  go_enter Tryz.func106, Tryz.ntmps106
  go_wp2_with (go_at_call 133; refine (left_any b s s.size 0 w hR (by omega) hs).mono ?_; rintro e w' ⟨q, rfl, rfl⟩)
  go_ret
  exact ⟨rfl, hR.drewN _, (Only.refl b w).drewN _⟩
end Go.Proofs.YtmgmhnohocamfaaGreat.pk
