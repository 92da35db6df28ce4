/-
  What the program's New, Size, Twin, Write, Sum answer: a digest in the making.
-/
import Derived.Test.YtpimdbnhpbjlkaaGreatDoorDigMix
import Derived.Test.YtpimdbnhpbjlkaaGreatDoorDigBytes
namespace Go.Proofs.YtpimdbnhpbjlkaaGreatDoor.dg
open Go.RowKit

/-- A digest in the making: the state, the rest, the size. -/
def hcells (s : St) (r : List UInt8) (n : Nat) : Array Value := #[.int .u32 s.a, .int .u32 s.b, .int .u32 s.c, .int .u32 s.d, .int .u32 s.e, .int .u32 s.f, .int .u32 s.g, .int .u32 s.h, .string (S r), .int .i64 n]
/-- In block b stands a digest in the making, to which l was written. -/
def HashAt (w : World) (b : Nat) (l : List UInt8) : Prop := Arr w b 111 (hcells (feed start l (l.length / 64)) (l.drop (64 * (l.length / 64))) l.length)

set_option maxRecDepth 100000 in
theorem new_any (w : World) :
    Calls Tryz.prog 49 #[] w fun e w' => ∃ b, e = .returned (.pointer (some ⟨b, 0, none⟩)) ∧ w.heap.size ≤ b ∧ HashAt w' b [] ∧ Below w.heap.size w w' := by
  go_enter Tryz.func49, Tryz.ntmps49
  go_wp2_with fail
  go_ret
  exact ⟨_, rfl, Nat.le_refl _, Arr.new w _ _, (Below.refl _ w).alloc (Nat.le_refl _) _⟩

theorem hcells_one (s : St) (r : List UInt8) (n : Nat) : (hcells s r n).all (·.oneCell') = true := by simp [hcells, Value.oneCell']

set_option maxRecDepth 100000 in
theorem twin_any (b : Nat) (s : St) (r : List UInt8) (n : Nat) (w : World) (aH : Arr w b 111 (hcells s r n)) :
    Calls Tryz.prog 77 #[.pointer (some ⟨b, 0, none⟩)] w fun e w' => ∃ g, e = .returned (.pointer (some ⟨g, 0, none⟩)) ∧ w.heap.size ≤ g ∧ Arr w' g 111 (hcells s r n) ∧ Below w.heap.size w w' := by
  have x0 := aH.cell (j := 0) (v := .int .u32 s.a) rfl
  have x1 := aH.cell (j := 1) (v := .int .u32 s.b) rfl
  have x2 := aH.cell (j := 2) (v := .int .u32 s.c) rfl
  have x3 := aH.cell (j := 3) (v := .int .u32 s.d) rfl
  have x4 := aH.cell (j := 4) (v := .int .u32 s.e) rfl
  have x5 := aH.cell (j := 5) (v := .int .u32 s.f) rfl
  have x6 := aH.cell (j := 6) (v := .int .u32 s.g) rfl
  have x7 := aH.cell (j := 7) (v := .int .u32 s.h) rfl
  have x8 := aH.cell (j := 8) (v := .string (S r)) rfl
  have x9 := aH.cell (j := 9) (v := .int .i64 n) rfl
  go_enter Tryz.func77, Tryz.ntmps77
  go_wp2_with (refine wpList_store_row rfl 111 (.tmp 3) (.tmp 8) rfl w.heap.size (hcells s r n) rfl rfl 111 _ (heap_alloc_new w _) (by kernel_rfl) (by kernel_rfl) (hcells_one _ _ _) ?_; rw [World.setRow_alloc_new])
  go_ret
  exact ⟨_, rfl, Nat.le_refl _, Arr.new w _ _, (Below.refl _ w).alloc (Nat.le_refl _) _⟩
end Go.Proofs.YtpimdbnhpbjlkaaGreatDoor.dg
