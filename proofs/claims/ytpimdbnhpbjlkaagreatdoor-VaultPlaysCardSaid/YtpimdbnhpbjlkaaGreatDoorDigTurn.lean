/-
  What the reference's turn, words and first answer.
-/
import Derived.Test.YtpimdbnhpbjlkaaGreatDoorDigBase
namespace Go.Proofs.YtpimdbnhpbjlkaaGreatDoor.dg
open Go.RowKit

set_option maxRecDepth 100000 in
theorem turn_any (n x : Nat) (hn0 : 0 < n) (hn : n < 32) (hx : x < 4294967296) (w : World) :
    Calls Tryz.prog 88 #[.int .u32 x, .int .u32 n] w fun e w' => e = .returned (.int .u32 (rot n x)) ∧ w' = w := by
  go_enter Tryz.func88, Tryz.ntmps88
  have h1 : x / 2 ^ n < 4294967296 := shr_lt hx
  have h2 : x * 2 ^ (32 - n) % 4294967296 < 4294967296 := Nat.mod_lt _ (by decide)
  have ho := or32 h1 h2
  have hr : Hid (rot n x = x / 2 ^ n ||| x * 2 ^ (32 - n) % 4294967296) := rfl
  go_wp2
  go_ret
  refine ⟨?_, rfl⟩
  have hc : bits BinOp.or IntKind.u32 ((x : Int) / 2 ^ n) ((x : Int) * 2 ^ (32 - n) % 4294967296) = (rot n x : Nat) := by
    rw [hr.out, ← ho]
    congr 1
  show Ending.returned (Value.int IntKind.u32 (bits BinOp.or IntKind.u32 ((x : Int) / 2 ^ n) ((x : Int) * 2 ^ (32 - n) % 4294967296))) = _
  rw [hc]

/-- The same over integers, for the walk to take. -/
def turnI (x n : Int) : Int := (rot n.toNat x.toNat : Nat)
theorem turnI_eq (x n : Nat) : turnI x n = (rot n x : Nat) := rfl
theorem turn_int (x n : Int) (hn0 : 0 < n) (hn : n < 32) (hx0 : 0 ≤ x) (hx : x < 4294967296) (w : World) :
    Calls Tryz.prog 88 #[.int .u32 x, .int .u32 n] w fun e w' => e = .returned (.int .u32 (turnI x n)) ∧ w' = w := by
  obtain ⟨x, rfl⟩ := Int.eq_ofNat_of_zero_le hx0
  obtain ⟨n, rfl⟩ := Int.eq_ofNat_of_zero_le (Int.le_of_lt hn0)
  exact turn_any n x (by omega) (by omega) (by omega) w

set_option maxRecDepth 100000 in
theorem first_any (w : World) :
    Calls Tryz.prog 74 #[] w fun e w' => e = .returned (.agg #[.int .u32 1779033703, .int .u32 3144134277, .int .u32 1013904242, .int .u32 2773480762, .int .u32 1359893119, .int .u32 2600822924, .int .u32 528734635, .int .u32 1541459225]) ∧ Below w.heap.size w w' := by
  go_enter Tryz.func74, Tryz.ntmps74
  go_wp2
  refine bodyPost_ret (v := .agg #[.int .u32 1779033703, .int .u32 3144134277, .int .u32 1013904242, .int .u32 2773480762, .int .u32 1359893119, .int .u32 2600822924, .int .u32 528734635, .int .u32 1541459225]) (by simp [results, Tryz.results74, go_sem]) rfl ?_
  exact ⟨rfl, (Below.refl _ w).alloc (Nat.le_refl _) _⟩

end Go.Proofs.YtpimdbnhpbjlkaaGreatDoor.dg
