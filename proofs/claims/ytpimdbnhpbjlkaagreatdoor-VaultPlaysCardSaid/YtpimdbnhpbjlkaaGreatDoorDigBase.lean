/-
  Words of 32 bits as numbers; bytes as a string; the digest's small functions. No walk.
-/
import Derived.Test.YtpimdbnhpbjlkaaGreatDoorProg
import Derived.WalkKit
import Derived.Deep.Draws
import Derived.Lib.EndianBits
import Derived.Lib.Hide
import Derived.Lib.Strings
namespace Go.Proofs.YtpimdbnhpbjlkaaGreatDoor.dg
open Go.RowKit

/-- Bytes as a string. -/
def S (l : List UInt8) : ByteArray := ⟨l.toArray⟩
theorem S_size (l : List UInt8) : (S l).size = l.length := rfl
theorem S_data (l : List UInt8) : (S l).data.toList = l := by simp [S]
theorem S_append (a b : List UInt8) : S a ++ S b = S (a ++ b) := ByteArray.mk_append_mk a b
theorem S_inj {a b : List UInt8} (h : S a = S b) : a = b := by rw [← S_data a, h, S_data]
theorem S_of (s : ByteArray) : S s.data.toList = s := by simp [S]
theorem S_get (l : List UInt8) (k : Nat) (h : k < l.length) (h' : k < (S l).size) : (S l)[k]'h' = l[k]'h := rfl
theorem str_size (s : ByteArray) : s.size = s.data.toList.length := by rw [Array.length_toList]; rfl
theorem str_beq (x y : ByteArray) : (x.toList == y.toList) = true ↔ x = y := by
  rw [beq_iff_eq, ByteArray.toList_eq, ByteArray.toList_eq]
  exact ⟨fun h => ByteArray.ext (Array.toList_inj.mp h), fun h => by rw [h]⟩
theorem str_eq {x y : ByteArray} (h : x = y) : (x.toList == y.toList) = true := (str_beq x y).2 h
theorem str_ne {x y : ByteArray} (h : x ≠ y) : (x.toList == y.toList) = false := by
  cases hb : x.toList == y.toList with
  | false => rfl
  | true => exact absurd ((str_beq x y).1 hb) h
theorem below_drewN {B : Nat} {a w : World} (h : Below B a w) (n : Nat) : Below B a (w.drewN n) := ⟨h.os, h.tape, h.output, h.size, h.block⟩

theorem ofNat32 {a : Nat} (ha : a < 4294967296) : (BitVec.ofInt 32 (a : Int)).toNat = a := by
  rw [BitVec.ofInt_natCast, BitVec.toNat_ofNat]; exact Nat.mod_eq_of_lt (by omega)
theorem xor32 {a b : Nat} (ha : a < 4294967296) (hb : b < 4294967296) : bits .xor .u32 (a : Int) (b : Int) = ((a ^^^ b : Nat) : Int) := by
  have hx : a ^^^ b < 2 ^ 32 := Nat.xor_lt_two_pow (by omega) (by omega)
  show IntKind.u32.wrap ((BitVec.ofInt 32 (a : Int) ^^^ BitVec.ofInt 32 (b : Int)).toNat : Int) = _
  rw [BitVec.toNat_xor, ofNat32 ha, ofNat32 hb, IntKind.wrap_u32]
  omega
theorem and32 {a b : Nat} (ha : a < 4294967296) (hb : b < 4294967296) : bits .and .u32 (a : Int) (b : Int) = ((a &&& b : Nat) : Int) :=
  (bits_nat .u32 32 (by decide) wraps_u32 a b (by omega) (by omega)).1
theorem or32 {a b : Nat} (ha : a < 4294967296) (hb : b < 4294967296) : bits .or .u32 (a : Int) (b : Int) = ((a ||| b : Nat) : Int) :=
  (bits_nat .u32 32 (by decide) wraps_u32 a b (by omega) (by omega)).2
theorem not32 {a : Nat} (ha : a < 4294967296) : bits .xor .u32 IntKind.u32.max (a : Int) = ((4294967295 - a : Nat) : Int) := by
  have h2 : BitVec.ofInt 32 IntKind.u32.max = BitVec.allOnes 32 := by decide
  show IntKind.u32.wrap ((BitVec.ofInt 32 IntKind.u32.max ^^^ BitVec.ofInt 32 (a : Int)).toNat : Int) = _
  rw [h2, ← BitVec.not_def, BitVec.toNat_not, ofNat32 ha, IntKind.wrap_u32]
  omega
theorem xor_lt {a b : Nat} (ha : a < 4294967296) (hb : b < 4294967296) : a ^^^ b < 4294967296 := Nat.xor_lt_two_pow (n := 32) (by omega) (by omega)
theorem and_lt {a b : Nat} (hb : b < 4294967296) : a &&& b < 4294967296 := Nat.and_lt_two_pow (n := 32) _ (by omega)
theorem or_lt {a b : Nat} (ha : a < 4294967296) (hb : b < 4294967296) : a ||| b < 4294967296 := Nat.or_lt_two_pow (n := 32) (by omega) (by omega)

/-- The sum of two words. -/
def add (a b : Nat) : Nat := (a + b) % 4294967296
theorem add_lt (a b : Nat) : add a b < 4294967296 := Nat.mod_lt _ (by decide)
theorem add_assoc (a b c : Nat) : add (add a b) c = add a (add b c) := by unfold add; omega
theorem add_comm (a b : Nat) : add a b = add b a := by unfold add; omega
/-- A word turned right by n. -/
def rot (n x : Nat) : Nat := x / 2 ^ n ||| x * 2 ^ (32 - n) % 4294967296
theorem rot_lt {n x : Nat} (hx : x < 4294967296) : rot n x < 4294967296 := by
  refine or_lt ?_ (Nat.mod_lt _ (by decide))
  exact Nat.lt_of_le_of_lt (Nat.div_le_self _ _) hx
/-- A word moved right by n. -/
def shr (n x : Nat) : Nat := x / 2 ^ n
theorem shr_lt {n x : Nat} (hx : x < 4294967296) : shr n x < 4294967296 := Nat.lt_of_le_of_lt (Nat.div_le_self _ _) hx

def low0 (x : Nat) : Nat := rot 7 x ^^^ rot 18 x ^^^ shr 3 x
def low1 (x : Nat) : Nat := rot 17 x ^^^ rot 19 x ^^^ shr 10 x
def big0 (x : Nat) : Nat := rot 2 x ^^^ rot 13 x ^^^ rot 22 x
def big1 (x : Nat) : Nat := rot 6 x ^^^ rot 11 x ^^^ rot 25 x
def pick (e f g : Nat) : Nat := (e &&& f) ^^^ ((4294967295 - e) &&& g)
def most (a b c : Nat) : Nat := (a &&& b) ^^^ (a &&& c) ^^^ (b &&& c)
theorem low0_lt {x : Nat} (h : x < 4294967296) : low0 x < 4294967296 := xor_lt (xor_lt (rot_lt h) (rot_lt h)) (shr_lt h)
theorem low1_lt {x : Nat} (h : x < 4294967296) : low1 x < 4294967296 := xor_lt (xor_lt (rot_lt h) (rot_lt h)) (shr_lt h)
theorem big0_lt {x : Nat} (h : x < 4294967296) : big0 x < 4294967296 := xor_lt (xor_lt (rot_lt h) (rot_lt h)) (rot_lt h)
theorem big1_lt {x : Nat} (h : x < 4294967296) : big1 x < 4294967296 := xor_lt (xor_lt (rot_lt h) (rot_lt h)) (rot_lt h)
theorem pick_lt {e f g : Nat} (hf : f < 4294967296) (hg : g < 4294967296) : pick e f g < 4294967296 := xor_lt (and_lt hf) (and_lt hg)
theorem most_lt {a b c : Nat} (hb : b < 4294967296) (hc : c < 4294967296) : most a b c < 4294967296 := xor_lt (xor_lt (and_lt hb) (and_lt hc)) (and_lt hc)

/-- A byte of a list, 0 past its end. -/
def byteAt (m : List UInt8) (i : Nat) : Nat := (m.getD i 0).toNat
theorem byteAt_lt (m : List UInt8) (i : Nat) : byteAt m i < 256 := UInt8.toNat_lt _
/-- Word t of a block's bytes. -/
def word (m : List UInt8) (t : Nat) : Nat := ((byteAt m (4 * t) * 256 + byteAt m (4 * t + 1)) * 256 + byteAt m (4 * t + 2)) * 256 + byteAt m (4 * t + 3)
theorem word_lt (m : List UInt8) (t : Nat) : word m t < 4294967296 := by
  have h0 := byteAt_lt m (4 * t); have h1 := byteAt_lt m (4 * t + 1); have h2 := byteAt_lt m (4 * t + 2); have h3 := byteAt_lt m (4 * t + 3)
  unfold word; omega
/-- The words that a block is made of, and those that follow. -/
def wd (m : List UInt8) (t : Nat) : Nat :=
  if t < 16 then word m t else add (add (add (low1 (wd m (t - 2))) (wd m (t - 7))) (low0 (wd m (t - 15)))) (wd m (t - 16))
theorem wd_small {m : List UInt8} {t : Nat} (h : t < 16) : wd m t = word m t := by rw [wd, if_pos h]
theorem wd_big {m : List UInt8} {t : Nat} (h : 16 ≤ t) : wd m t = add (add (add (low1 (wd m (t - 2))) (wd m (t - 7))) (low0 (wd m (t - 15)))) (wd m (t - 16)) := by rw [wd, if_neg (by omega)]
theorem wd_lt (m : List UInt8) (t : Nat) : wd m t < 4294967296 := by
  by_cases h : t < 16
  · rw [wd_small h]; exact word_lt m t
  · rw [wd_big (by omega)]; exact add_lt _ _

/-- The eight words. -/
structure St where
  (a b c d e f g h : Nat)
def St.ok (s : St) : Prop := s.a < 4294967296 ∧ s.b < 4294967296 ∧ s.c < 4294967296 ∧ s.d < 4294967296 ∧ s.e < 4294967296 ∧ s.f < 4294967296 ∧ s.g < 4294967296 ∧ s.h < 4294967296
def keys : List Nat := [0x428a2f98, 0x71374491, 0xb5c0fbcf, 0xe9b5dba5, 0x3956c25b, 0x59f111f1, 0x923f82a4, 0xab1c5ed5,
  0xd807aa98, 0x12835b01, 0x243185be, 0x550c7dc3, 0x72be5d74, 0x80deb1fe, 0x9bdc06a7, 0xc19bf174,
  0xe49b69c1, 0xefbe4786, 0x0fc19dc6, 0x240ca1cc, 0x2de92c6f, 0x4a7484aa, 0x5cb0a9dc, 0x76f988da,
  0x983e5152, 0xa831c66d, 0xb00327c8, 0xbf597fc7, 0xc6e00bf3, 0xd5a79147, 0x06ca6351, 0x14292967,
  0x27b70a85, 0x2e1b2138, 0x4d2c6dfc, 0x53380d13, 0x650a7354, 0x766a0abb, 0x81c2c92e, 0x92722c85,
  0xa2bfe8a1, 0xa81a664b, 0xc24b8b70, 0xc76c51a3, 0xd192e819, 0xd6990624, 0xf40e3585, 0x106aa070,
  0x19a4c116, 0x1e376c08, 0x2748774c, 0x34b0bcb5, 0x391c0cb3, 0x4ed8aa4a, 0x5b9cca4f, 0x682e6ff3,
  0x748f82ee, 0x78a5636f, 0x84c87814, 0x8cc70208, 0x90befffa, 0xa4506ceb, 0xbef9a3f7, 0xc67178f2]
def key (t : Nat) : Nat := keys.getD t 0
theorem key_lt (t : Nat) : key t < 4294967296 := by
  unfold key
  by_cases h : t < 64
  · have : ∀ i : Fin 64, keys.getD i.1 0 < 4294967296 := by decide +kernel
    exact this ⟨t, h⟩
  · rw [List.getD_eq_getElem?_getD, List.getElem?_eq_none (by show 64 ≤ t; omega)]
    decide
def start : St := ⟨1779033703, 3144134277, 1013904242, 2773480762, 1359893119, 2600822924, 528734635, 1541459225⟩
/-- What is added in one round. -/
def one (s : St) (k w : Nat) : Nat := add (add (add (add s.h (big1 s.e)) (pick s.e s.f s.g)) k) w
def two (s : St) : Nat := add (big0 s.a) (most s.a s.b s.c)
def round (s : St) (k w : Nat) : St := ⟨add (one s k w) (two s), s.a, s.b, s.c, add s.d (one s k w), s.e, s.f, s.g⟩
/-- n rounds. -/
def rounds (m : List UInt8) (s : St) : Nat → St
  | 0 => s
  | n + 1 => round (rounds m s n) (key n) (wd m n)
theorem round_ok {s : St} (h : s.ok) (k w : Nat) : (round s k w).ok := ⟨add_lt _ _, h.1, h.2.1, h.2.2.1, add_lt _ _, h.2.2.2.2.1, h.2.2.2.2.2.1, h.2.2.2.2.2.2.1⟩
theorem rounds_ok (m : List UInt8) {s : St} (h : s.ok) : ∀ n, (rounds m s n).ok
  | 0 => h
  | n + 1 => round_ok (rounds_ok m h n) _ _
/-- The state behind a block. -/
def press (s : St) (m : List UInt8) : St :=
  let t := rounds m s 64
  ⟨add s.a t.a, add s.b t.b, add s.c t.c, add s.d t.d, add s.e t.e, add s.f t.f, add s.g t.g, add s.h t.h⟩
theorem press_ok (s : St) (m : List UInt8) : (press s m).ok := ⟨add_lt _ _, add_lt _ _, add_lt _ _, add_lt _ _, add_lt _ _, add_lt _ _, add_lt _ _, add_lt _ _⟩
theorem start_ok : start.ok := by unfold St.ok start; decide
end Go.Proofs.YtpimdbnhpbjlkaaGreatDoor.dg
