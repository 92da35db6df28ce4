/-
  What the program's right, word answer: a word turned right; the word with which a text begins.
-/
import Derived.Test.YtpimdbnhpbjlkaaGreatDoorDigTurn
import Derived.Deep.QuietTactic
import Derived.BigQuiet
import Derived.BigRegion
namespace Go.Proofs.YtpimdbnhpbjlkaaGreatDoor.dg
open Go.RowKit

theorem and31 (n : Nat) (h0 : 0 < n) (h : n < 32) : bits .and .u64 (IntKind.u64.wrap (-(n : Int))) 31 = ((32 - n : Nat) : Int) := by
  have : ∀ i : Fin 32, 0 < i.1 → bits .and .u64 (IntKind.u64.wrap (-(i.1 : Int))) 31 = ((32 - i.1 : Nat) : Int) := by decide
  exact this ⟨n, h⟩ h0

set_option maxRecDepth 100000 in
theorem rotl_any (n x : Nat) (hn0 : 0 < n) (hn : n < 32) (hx : x < 4294967296) (w : World) :
    Calls Tryz.prog 96 #[.int .u32 x, .int .i64 (-(n : Int))] w fun e w' => e = .returned (.int .u32 (rot n x)) ∧ w' = w := by
  go_enter Tryz.func96, Tryz.ntmps96
  have h31 := and31 n hn0 hn
  go_wp2_with fail
  have hp : bits BinOp.or IntKind.u32 ((x : Int) * 2 ^ (32 - n) % 4294967296) ((x : Int) / 2 ^ (32 - (32 - n))) = ((rot n x : Nat) : Int) := by
    have h1 : x / 2 ^ n < 4294967296 := shr_lt hx
    have h2 : x * 2 ^ (32 - n) % 4294967296 < 4294967296 := Nat.mod_lt _ (by decide)
    have e : 32 - (32 - n) = n := by omega
    rw [e]
    have ho := or32 h2 h1
    rw [Nat.or_comm] at ho
    unfold rot
    rw [← ho]
    congr 1
  rw [hp]
  go_ret
  exact ⟨rfl, rfl⟩

set_option maxRecDepth 100000 in
theorem right_any (n x : Nat) (hn0 : 0 < n) (hn : n < 32) (hx : x < 4294967296) (w : World) :
    Calls Tryz.prog 90 #[.int .u32 x, .int .i64 n] w fun e w' => e = .returned (.int .u32 (rot n x)) ∧ w' = w := by
  go_enter Tryz.func90, Tryz.ntmps90
  go_wp2_with fail
  refine (rotl_any n x hn0 hn hx _).mono ?_
  rintro e w' ⟨rfl, rfl⟩
  go_wp2
  go_ret
  exact ⟨rfl, rfl⟩

theorem right_int (x n : Int) (hn0 : 0 < n) (hn : n < 32) (hx0 : 0 ≤ x) (hx : x < 4294967296) (w : World) :
    Calls Tryz.prog 90 #[.int .u32 x, .int .i64 n] w fun e w' => e = .returned (.int .u32 (turnI x n)) ∧ w' = w := by
  obtain ⟨x, rfl⟩ := Int.eq_ofNat_of_zero_le hx0
  obtain ⟨n, rfl⟩ := Int.eq_ofNat_of_zero_le (Int.le_of_lt hn0)
  exact right_any n x (by omega) (by omega) (by omega) w

theorem or_lay {a b c d : Nat} (hb : b < 256) (hc : c < 256) (hd : d < 256) : ((a * 16777216 ||| b * 65536) ||| c * 256) ||| d = ((a * 256 + b) * 256 + c) * 256 + d := by
  have h1 := Nat.two_pow_add_eq_or_of_lt (i := 24) (b := b * 65536) (by omega) a
  have h2 := Nat.two_pow_add_eq_or_of_lt (i := 16) (b := c * 256) (by omega) (a * 256 + b)
  have h3 := Nat.two_pow_add_eq_or_of_lt (i := 8) (b := d) (by omega) ((a * 256 + b) * 256 + c)
  rw [show a * 16777216 = 2 ^ 24 * a by omega, ← h1, show 2 ^ 24 * a + b * 65536 = 2 ^ 16 * (a * 256 + b) by omega, ← h2, show 2 ^ 16 * (a * 256 + b) + c * 256 = 2 ^ 8 * ((a * 256 + b) * 256 + c) by omega, ← h3]
  omega

theorem or_word {x0 x1 x2 x3 : Nat} (b0 : x0 < 256) (b1 : x1 < 256) (b2 : x2 < 256) (b3 : x3 < 256) :
    bits BinOp.or IntKind.u32 (bits BinOp.or IntKind.u32 (bits BinOp.or IntKind.u32 ((x0 : Int) * 16777216) ((x1 : Int) * 65536)) ((x2 : Int) * 256)) (x3 : Int) = ((((x0 * 256 + x1) * 256 + x2) * 256 + x3 : Nat) : Int) := by
  have h0 : x0 * 16777216 < 4294967296 := Nat.lt_of_le_of_lt (Nat.mul_le_mul_right _ (Nat.le_of_lt_succ b0)) (by decide)
  have h1 : x1 * 65536 < 4294967296 := Nat.lt_of_le_of_lt (Nat.mul_le_mul_right _ (Nat.le_of_lt_succ b1)) (by decide)
  have h2 : x2 * 256 < 4294967296 := Nat.lt_of_le_of_lt (Nat.mul_le_mul_right _ (Nat.le_of_lt_succ b2)) (by decide)
  have h3 : x3 < 4294967296 := Nat.lt_trans b3 (by decide)
  rw [show (x0 : Int) * 16777216 = ((x0 * 16777216 : Nat) : Int) by rw [Int.natCast_mul]; rfl, show (x1 : Int) * 65536 = ((x1 * 65536 : Nat) : Int) by rw [Int.natCast_mul]; rfl, show (x2 : Int) * 256 = ((x2 * 256 : Nat) : Int) by rw [Int.natCast_mul]; rfl, or32 h0 h1, or32 (or_lt h0 h1) h2, or32 (or_lt (or_lt h0 h1) h2) h3, or_lay b1 b2 b3]

theorem byteAt_drop (l : List UInt8) (k i : Nat) : byteAt (l.drop k) i = byteAt l (k + i) := by
  unfold byteAt
  rw [List.getD_eq_getElem?_getD, List.getD_eq_getElem?_getD, List.getElem?_drop]
theorem word_drop (l : List UInt8) (t : Nat) : word (l.drop (4 * t)) 0 = word l t := by
  unfold word
  simp only [byteAt_drop]
  simp [Nat.add_comm]

set_option maxRecDepth 100000 in
theorem word_any (l : List UInt8) (hl : 4 ≤ l.length) (w : World) :
    Calls Tryz.prog 95 #[.string (S l)] w fun e w' => e = .returned (.int .u32 (word l 0)) ∧ w' = w.drew := by
  have hz := S_size l
  have g : ∀ i (h : i < l.length) (h' : i < (S l).size), (((S l)[i]'h').toNat : Int) = ((byteAt l i : Nat) : Int) := fun i h h' => by
    unfold byteAt
    rw [S_get l i h h', List.getD_eq_getElem?_getD, List.getElem?_eq_getElem h]
    rfl
  have b0 := byteAt_lt l 0
  have b1 := byteAt_lt l 1
  have b2 := byteAt_lt l 2
  have b3 := byteAt_lt l 3
  go_enter Tryz.func95, Tryz.ntmps95
  have l0 : 0 < l.length := by omega
  have l1 : 1 < l.length := by omega
  have l2 : 2 < l.length := by omega
  have l3 : 3 < l.length := by omega
  have hv : bits BinOp.or IntKind.u32 (bits BinOp.or IntKind.u32 (bits BinOp.or IntKind.u32 (((byteAt l 0 : Nat) : Int) * 16777216) (((byteAt l 1 : Nat) : Int) * 65536)) (((byteAt l 2 : Nat) : Int) * 256)) ((byteAt l 3 : Nat) : Int) = ((word l 0 : Nat) : Int) := by
    unfold word
    simp only [Nat.mul_zero, Nat.zero_add]
    exact or_word b0 b1 b2 b3
  go_wp2_with fail
  go_region
  all_goals go_wp2
  all_goals go_ret
  all_goals exact ⟨rfl, rfl⟩
end Go.Proofs.YtpimdbnhpbjlkaaGreatDoor.dg
