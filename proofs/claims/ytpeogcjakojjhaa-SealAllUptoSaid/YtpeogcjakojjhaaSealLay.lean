/-
  What seal.lay and seal.lift answer: a number's four bytes, the highest first, and back.
-/
import Derived.Test.YtpeogcjakojjhaaSealBits
namespace Go.Proofs.Ytpeogcjakojjhaa.sl
open Go.RowKit

theorem or8 {x b : Nat} (hx : x < 16777216) (hb : b < 256) : bits .or .u32 ((x : Int) * 256) (b : Int) = ((x * 256 + b : Nat) : Int) := by
  have h := bits_join .u32 32 (by decide) wraps_u32 8 ((x : Int) * 256) (b : Int) (by omega) (by omega) (by omega) (by omega) (by omega) (by omega)
  rw [h]
  omega
theorem or0 {b : Nat} (hb : b < 256) : bits .or .u32 0 (b : Int) = ((b : Nat) : Int) := by
  have h := or8 (x := 0) (b := b) (by decide) hb
  simpa using h

set_option maxHeartbeats 4000000 in
set_option maxRecDepth 100000 in
theorem lift_core (l : List UInt8) (hz4 : 4 ≤ (S l).size) (w : World) (x0 x1 x2 x3 : Nat)
    (h0 : ((S l)[0]'(by omega)).toNat = x0) (h1 : ((S l)[1]'(by omega)).toNat = x1) (h2 : ((S l)[2]'(by omega)).toNat = x2) (h3 : ((S l)[3]'(by omega)).toNat = x3) :
    Calls Try.prog 23 #[.string (S l)] w fun e w' => e = .returned (.int .u32 ((((x0 * 256 + x1) * 256 + x2) * 256 + x3 : Nat) : Int)) ∧ w' = w := by
  have l0 : x0 < 256 := h0 ▸ UInt8.toNat_lt _
  have l1 : x1 < 256 := h1 ▸ UInt8.toNat_lt _
  have l2 : x2 < 256 := h2 ▸ UInt8.toNat_lt _
  have l3 : x3 < 256 := h3 ▸ UInt8.toNat_lt _
  have o0 := or0 l0
  obtain ⟨y1, e1⟩ : ∃ y : Nat, y = x0 * 256 + x1 := ⟨_, rfl⟩
  obtain ⟨y2, e2⟩ : ∃ y : Nat, y = y1 * 256 + x2 := ⟨_, rfl⟩
  obtain ⟨y3, e3⟩ : ∃ y : Nat, y = y2 * 256 + x3 := ⟨_, rfl⟩
  have o1 := or8 (x := x0) (by omega) l1
  rw [← e1] at o1 ⊢
  have o2 := or8 (x := y1) (by omega) l2
  rw [← e2] at o2 ⊢
  have o3 := or8 (x := y2) (by omega) l3
  rw [← e3] at o3 ⊢
  have k1 : y1 < 65536 := by omega
  have k2 : y2 < 16777216 := by omega
  clear e1 e2 e3
  go_enter Try.func23, Try.ntmps23
  go_wp2
  refine wp_loop_rounds 5 ?_
  rw [rounds_succ]
  go_wp2
  rw [rounds_succ]
  go_wp2
  rw [rounds_succ]
  go_wp2
  rw [rounds_succ]
  go_wp2
  rw [rounds_succ]
  go_wp2
  go_ret
  exact ⟨rfl, rfl⟩

theorem lift_any (l : List UInt8) (hl : 4 ≤ l.length) (w : World) :
    Calls Try.prog 23 #[.string (S l)] w fun e w' => e = .returned (.int .u32 (big (l.take 4))) ∧ w' = w := by
  obtain ⟨a, b, c, d, r, rfl⟩ : ∃ a b c d r, l = a :: b :: c :: d :: r := by
    match l, hl with
    | a :: b :: c :: d :: r, _ => exact ⟨a, b, c, d, r, rfl⟩
  exact lift_core (a :: b :: c :: d :: r) hl w a.toNat b.toNat c.toNat d.toNat rfl rfl rfl rfl

set_option maxHeartbeats 4000000 in
set_option maxRecDepth 100000 in
theorem lay_any (n : Nat) (hn : n < 4294967296) (w : World) :
    Calls Try.prog 21 #[.int .u32 n] w fun e w' => e = .returned (.agg #[.int .u8 (n / 256 / 256 / 256 : Int), .int .u8 (n / 256 / 256 % 256 : Int), .int .u8 (n / 256 % 256 : Int), .int .u8 (n % 256 : Int)]) ∧ Below w.heap.size w w' := by
  go_enter Try.func21, Try.ntmps21
  go_wp2
  refine wp_loop_rounds 5 ?_
  rw [rounds_succ]
  go_wp2
  rw [rounds_succ]
  go_wp2
  rw [rounds_succ]
  go_wp2
  rw [rounds_succ]
  go_wp2
  rw [rounds_succ]
  go_wp2
  refine bodyPost_ret (v := .agg #[.int .u8 (n / 256 / 256 / 256 : Int), .int .u8 (n / 256 / 256 % 256 : Int), .int .u8 (n / 256 % 256 : Int), .int .u8 (n % 256 : Int)]) (by simp [results, Try.results21, go_sem]) rfl ?_
  exact ⟨rfl, ((Below.refl _ w).alloc (Nat.le_refl _) _).alloc (by simp) _⟩
end Go.Proofs.Ytpeogcjakojjhaa.sl
