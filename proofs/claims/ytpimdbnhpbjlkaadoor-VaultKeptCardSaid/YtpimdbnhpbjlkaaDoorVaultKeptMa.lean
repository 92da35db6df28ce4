/-
  What the law's walk stands on, part 1 of 3: the texts DigBase, DigTurn, DigRight, DigWords, DigMem, DigBlock, DigSpread, DigMix, DigLaid, FlagBase, DkSpec, DkMath, Rw, DkRef, DkRef2, DkRef3, By, Mp, Shelf, DkP1, DkP2, DkRef4, DkP3, DkP4, DkRef5, one behind the other.
-/
import Derived.Test.YtpimdbnhpbjlkaaDoorProg
import Derived.WalkKit
import Derived.Deep.Draws
import Derived.Lib.EndianBits
import Derived.Lib.Hide
import Derived.Lib.Strings
import Derived.Deep.QuietTactic
import Derived.BigQuiet
import Derived.BigRegion
import Derived.Laws.Rows
import Derived.Deep.WholeRow
import Derived.Deep.RegionWith
import Derived.StillTailTactics
import Derived.Deep.RegionHeld3
import Derived.Laws.CopyOwn
import Derived.Deep.CutRange
import Derived.Test.YtpimdbnhpbjlkaaDoorRows
import Derived.ProofKit
import Derived.LaidMore
import Derived.OpenShut
import Derived.Stop.Joined
import Derived.MakeChecks
import Derived.Laws.BytesArg
import Derived.Deep.OwnRows
import Derived.Laws.OwnMore
import Derived.Maps.AppendAt
import Derived.Lib.AtoiErrMem
import Derived.Laws.CopyRow
import Derived.Laws.Append
import Derived.Lib.AppendStr
import Derived.Lib.ConvBytes
import Derived.Maps.OwnSet
import Derived.Maps.OwnOps
import Derived.Maps.RangeWalk
import Derived.Sort.KeysCollected
import Derived.StringKeys
import Derived.Shelf.Small.Bits
import Derived.Shelf.Small.Strs
import Derived.Shelf.Small.Wraps
import Derived.Shelf.Strconv.Itoa0
import Derived.Shelf.LaysM
import Derived.Shelf.Strconv.Clone
import Derived.Shelf.Strings.Search1
import Derived.Shelf.Sort.Plain
import Derived.Shelf.Strings.Prefix
import Derived.Shelf.Slices.In.SortNone
import Derived.OwnWalk
/-! DigBase -/
namespace Go.Proofs.YtpimdbnhpbjlkaaDoor.dg
open Go.RowKit

/-- Bytes as a string. -/
def S (l : List UInt8) : ByteArray := ⟨l.toArray⟩
theorem S_size (l : List UInt8) : (S l).size = l.length := rfl
theorem S_data (l : List UInt8) : (S l).data.toList = l := by simp [S]
theorem S_append (a b : List UInt8) : S a ++ S b = S (a ++ b) := ByteArray.mk_append_mk a b
theorem S_inj {a b : List UInt8} (h : S a = S b) : a = b := by rw [← S_data a, h, S_data]
theorem S_of (s : ByteArray) : S s.data.toList = s := by simp [S]
theorem S_get (l : List UInt8) (k : Nat) (h : k < l.length) (h' : k < (S l).size) : (S l)[k]'h' = l[k]'h := rfl
theorem str_size (s : ByteArray) : s.size = s.data.toList.length := by rw [Array.length_toList]; rfl
theorem str_beq (x y : ByteArray) : (x.toList == y.toList) = true ↔ x = y := by
  rw [beq_iff_eq, ByteArray.toList_eq, ByteArray.toList_eq]
  exact ⟨fun h => ByteArray.ext (Array.toList_inj.mp h), fun h => by rw [h]⟩
theorem str_eq {x y : ByteArray} (h : x = y) : (x.toList == y.toList) = true := (str_beq x y).2 h
theorem str_ne {x y : ByteArray} (h : x ≠ y) : (x.toList == y.toList) = false := by
  cases hb : x.toList == y.toList with
  | false => rfl
  | true => exact absurd ((str_beq x y).1 hb) h
theorem below_drewN {B : Nat} {a w : World} (h : Below B a w) (n : Nat) : Below B a (w.drewN n) := ⟨h.os, h.tape, h.output, h.size, h.block⟩

theorem ofNat32 {a : Nat} (ha : a < 4294967296) : (BitVec.ofInt 32 (a : Int)).toNat = a := by
  rw [BitVec.ofInt_natCast, BitVec.toNat_ofNat]; exact Nat.mod_eq_of_lt (by omega)
theorem xor32 {a b : Nat} (ha : a < 4294967296) (hb : b < 4294967296) : bits .xor .u32 (a : Int) (b : Int) = ((a ^^^ b : Nat) : Int) := by
  have hx : a ^^^ b < 2 ^ 32 := Nat.xor_lt_two_pow (by omega) (by omega)
  show IntKind.u32.wrap ((BitVec.ofInt 32 (a : Int) ^^^ BitVec.ofInt 32 (b : Int)).toNat : Int) = _
  rw [BitVec.toNat_xor, ofNat32 ha, ofNat32 hb, IntKind.wrap_u32]
  omega
theorem and32 {a b : Nat} (ha : a < 4294967296) (hb : b < 4294967296) : bits .and .u32 (a : Int) (b : Int) = ((a &&& b : Nat) : Int) :=
  (bits_nat .u32 32 (by decide) wraps_u32 a b (by omega) (by omega)).1
theorem or32 {a b : Nat} (ha : a < 4294967296) (hb : b < 4294967296) : bits .or .u32 (a : Int) (b : Int) = ((a ||| b : Nat) : Int) :=
  (bits_nat .u32 32 (by decide) wraps_u32 a b (by omega) (by omega)).2
theorem not32 {a : Nat} (ha : a < 4294967296) : bits .xor .u32 IntKind.u32.max (a : Int) = ((4294967295 - a : Nat) : Int) := by
  have h2 : BitVec.ofInt 32 IntKind.u32.max = BitVec.allOnes 32 := by decide
  show IntKind.u32.wrap ((BitVec.ofInt 32 IntKind.u32.max ^^^ BitVec.ofInt 32 (a : Int)).toNat : Int) = _
  rw [h2, ← BitVec.not_def, BitVec.toNat_not, ofNat32 ha, IntKind.wrap_u32]
  omega
theorem xor_lt {a b : Nat} (ha : a < 4294967296) (hb : b < 4294967296) : a ^^^ b < 4294967296 := Nat.xor_lt_two_pow (n := 32) (by omega) (by omega)
theorem and_lt {a b : Nat} (hb : b < 4294967296) : a &&& b < 4294967296 := Nat.and_lt_two_pow (n := 32) _ (by omega)
theorem or_lt {a b : Nat} (ha : a < 4294967296) (hb : b < 4294967296) : a ||| b < 4294967296 := Nat.or_lt_two_pow (n := 32) (by omega) (by omega)

/-- The sum of two words. -/
def add (a b : Nat) : Nat := (a + b) % 4294967296
theorem add_lt (a b : Nat) : add a b < 4294967296 := Nat.mod_lt _ (by decide)
theorem add_assoc (a b c : Nat) : add (add a b) c = add a (add b c) := by unfold add; omega
theorem add_comm (a b : Nat) : add a b = add b a := by unfold add; omega
/-- A word turned right by n. -/
def rot (n x : Nat) : Nat := x / 2 ^ n ||| x * 2 ^ (32 - n) % 4294967296
theorem rot_lt {n x : Nat} (hx : x < 4294967296) : rot n x < 4294967296 := by
  refine or_lt ?_ (Nat.mod_lt _ (by decide))
  exact Nat.lt_of_le_of_lt (Nat.div_le_self _ _) hx
/-- A word moved right by n. -/
def shr (n x : Nat) : Nat := x / 2 ^ n
theorem shr_lt {n x : Nat} (hx : x < 4294967296) : shr n x < 4294967296 := Nat.lt_of_le_of_lt (Nat.div_le_self _ _) hx

def low0 (x : Nat) : Nat := rot 7 x ^^^ rot 18 x ^^^ shr 3 x
def low1 (x : Nat) : Nat := rot 17 x ^^^ rot 19 x ^^^ shr 10 x
def big0 (x : Nat) : Nat := rot 2 x ^^^ rot 13 x ^^^ rot 22 x
def big1 (x : Nat) : Nat := rot 6 x ^^^ rot 11 x ^^^ rot 25 x
def pick (e f g : Nat) : Nat := (e &&& f) ^^^ ((4294967295 - e) &&& g)
def most (a b c : Nat) : Nat := (a &&& b) ^^^ (a &&& c) ^^^ (b &&& c)
theorem low0_lt {x : Nat} (h : x < 4294967296) : low0 x < 4294967296 := xor_lt (xor_lt (rot_lt h) (rot_lt h)) (shr_lt h)
theorem low1_lt {x : Nat} (h : x < 4294967296) : low1 x < 4294967296 := xor_lt (xor_lt (rot_lt h) (rot_lt h)) (shr_lt h)
theorem big0_lt {x : Nat} (h : x < 4294967296) : big0 x < 4294967296 := xor_lt (xor_lt (rot_lt h) (rot_lt h)) (rot_lt h)
theorem big1_lt {x : Nat} (h : x < 4294967296) : big1 x < 4294967296 := xor_lt (xor_lt (rot_lt h) (rot_lt h)) (rot_lt h)
theorem pick_lt {e f g : Nat} (hf : f < 4294967296) (hg : g < 4294967296) : pick e f g < 4294967296 := xor_lt (and_lt hf) (and_lt hg)
theorem most_lt {a b c : Nat} (hb : b < 4294967296) (hc : c < 4294967296) : most a b c < 4294967296 := xor_lt (xor_lt (and_lt hb) (and_lt hc)) (and_lt hc)

/-- A byte of a list, 0 past its end. -/
def byteAt (m : List UInt8) (i : Nat) : Nat := (m.getD i 0).toNat
theorem byteAt_lt (m : List UInt8) (i : Nat) : byteAt m i < 256 := UInt8.toNat_lt _
/-- Word t of a block's bytes. -/
def word (m : List UInt8) (t : Nat) : Nat := ((byteAt m (4 * t) * 256 + byteAt m (4 * t + 1)) * 256 + byteAt m (4 * t + 2)) * 256 + byteAt m (4 * t + 3)
theorem word_lt (m : List UInt8) (t : Nat) : word m t < 4294967296 := by
  have h0 := byteAt_lt m (4 * t); have h1 := byteAt_lt m (4 * t + 1); have h2 := byteAt_lt m (4 * t + 2); have h3 := byteAt_lt m (4 * t + 3)
  unfold word; omega
/-- The words that a block is made of, and those that follow. -/
def wd (m : List UInt8) (t : Nat) : Nat :=
  if t < 16 then word m t else add (add (add (low1 (wd m (t - 2))) (wd m (t - 7))) (low0 (wd m (t - 15)))) (wd m (t - 16))
theorem wd_small {m : List UInt8} {t : Nat} (h : t < 16) : wd m t = word m t := by rw [wd, if_pos h]
theorem wd_big {m : List UInt8} {t : Nat} (h : 16 ≤ t) : wd m t = add (add (add (low1 (wd m (t - 2))) (wd m (t - 7))) (low0 (wd m (t - 15)))) (wd m (t - 16)) := by rw [wd, if_neg (by omega)]
theorem wd_lt (m : List UInt8) (t : Nat) : wd m t < 4294967296 := by
  by_cases h : t < 16
  · rw [wd_small h]; exact word_lt m t
  · rw [wd_big (by omega)]; exact add_lt _ _

/-- The eight words. -/
structure St where
  (a b c d e f g h : Nat)
def St.ok (s : St) : Prop := s.a < 4294967296 ∧ s.b < 4294967296 ∧ s.c < 4294967296 ∧ s.d < 4294967296 ∧ s.e < 4294967296 ∧ s.f < 4294967296 ∧ s.g < 4294967296 ∧ s.h < 4294967296
def keys : List Nat := [0x428a2f98, 0x71374491, 0xb5c0fbcf, 0xe9b5dba5, 0x3956c25b, 0x59f111f1, 0x923f82a4, 0xab1c5ed5,
  0xd807aa98, 0x12835b01, 0x243185be, 0x550c7dc3, 0x72be5d74, 0x80deb1fe, 0x9bdc06a7, 0xc19bf174,
  0xe49b69c1, 0xefbe4786, 0x0fc19dc6, 0x240ca1cc, 0x2de92c6f, 0x4a7484aa, 0x5cb0a9dc, 0x76f988da,
  0x983e5152, 0xa831c66d, 0xb00327c8, 0xbf597fc7, 0xc6e00bf3, 0xd5a79147, 0x06ca6351, 0x14292967,
  0x27b70a85, 0x2e1b2138, 0x4d2c6dfc, 0x53380d13, 0x650a7354, 0x766a0abb, 0x81c2c92e, 0x92722c85,
  0xa2bfe8a1, 0xa81a664b, 0xc24b8b70, 0xc76c51a3, 0xd192e819, 0xd6990624, 0xf40e3585, 0x106aa070,
  0x19a4c116, 0x1e376c08, 0x2748774c, 0x34b0bcb5, 0x391c0cb3, 0x4ed8aa4a, 0x5b9cca4f, 0x682e6ff3,
  0x748f82ee, 0x78a5636f, 0x84c87814, 0x8cc70208, 0x90befffa, 0xa4506ceb, 0xbef9a3f7, 0xc67178f2]
def key (t : Nat) : Nat := keys.getD t 0
theorem key_lt (t : Nat) : key t < 4294967296 := by
  unfold key
  by_cases h : t < 64
  · have : ∀ i : Fin 64, keys.getD i.1 0 < 4294967296 := by decide +kernel
    exact this ⟨t, h⟩
  · rw [List.getD_eq_getElem?_getD, List.getElem?_eq_none (by show 64 ≤ t; omega)]
    decide
def start : St := ⟨1779033703, 3144134277, 1013904242, 2773480762, 1359893119, 2600822924, 528734635, 1541459225⟩
/-- What is added in one round. -/
def one (s : St) (k w : Nat) : Nat := add (add (add (add s.h (big1 s.e)) (pick s.e s.f s.g)) k) w
def two (s : St) : Nat := add (big0 s.a) (most s.a s.b s.c)
def round (s : St) (k w : Nat) : St := ⟨add (one s k w) (two s), s.a, s.b, s.c, add s.d (one s k w), s.e, s.f, s.g⟩
/-- n rounds. -/
def rounds (m : List UInt8) (s : St) : Nat → St
  | 0 => s
  | n + 1 => round (rounds m s n) (key n) (wd m n)
theorem round_ok {s : St} (h : s.ok) (k w : Nat) : (round s k w).ok := ⟨add_lt _ _, h.1, h.2.1, h.2.2.1, add_lt _ _, h.2.2.2.2.1, h.2.2.2.2.2.1, h.2.2.2.2.2.2.1⟩
theorem rounds_ok (m : List UInt8) {s : St} (h : s.ok) : ∀ n, (rounds m s n).ok
  | 0 => h
  | n + 1 => round_ok (rounds_ok m h n) _ _
/-- The state behind a block. -/
def press (s : St) (m : List UInt8) : St :=
  let t := rounds m s 64
  ⟨add s.a t.a, add s.b t.b, add s.c t.c, add s.d t.d, add s.e t.e, add s.f t.f, add s.g t.g, add s.h t.h⟩
theorem press_ok (s : St) (m : List UInt8) : (press s m).ok := ⟨add_lt _ _, add_lt _ _, add_lt _ _, add_lt _ _, add_lt _ _, add_lt _ _, add_lt _ _, add_lt _ _⟩
theorem start_ok : start.ok := by unfold St.ok start; decide
end Go.Proofs.YtpimdbnhpbjlkaaDoor.dg
/-! DigTurn -/
namespace Go.Proofs.YtpimdbnhpbjlkaaDoor.dg
open Go.RowKit

/-- The same over integers, for the walk to take. -/
def turnI (x n : Int) : Int := (rot n.toNat x.toNat : Nat)
theorem turnI_eq (x n : Nat) : turnI x n = (rot n x : Nat) := rfl
end Go.Proofs.YtpimdbnhpbjlkaaDoor.dg
/-! DigRight -/
namespace Go.Proofs.YtpimdbnhpbjlkaaDoor.dg
open Go.RowKit

theorem and31 (n : Nat) (h0 : 0 < n) (h : n < 32) : bits .and .u64 (IntKind.u64.wrap (-(n : Int))) 31 = ((32 - n : Nat) : Int) := by
  have : ∀ i : Fin 32, 0 < i.1 → bits .and .u64 (IntKind.u64.wrap (-(i.1 : Int))) 31 = ((32 - i.1 : Nat) : Int) := by decide
  exact this ⟨n, h⟩ h0

set_option maxRecDepth 100000 in
theorem rotl_any (n x : Nat) (hn0 : 0 < n) (hn : n < 32) (hx : x < 4294967296) (w : World) :
    Calls Tryd.prog 64 #[.int .u32 x, .int .i64 (-(n : Int))] w fun e w' => e = .returned (.int .u32 (rot n x)) ∧ w' = w := by
  go_enter Tryd.func64, Tryd.ntmps64
  have h31 := and31 n hn0 hn
  go_wp2_with fail
  have hp : bits BinOp.or IntKind.u32 ((x : Int) * 2 ^ (32 - n) % 4294967296) ((x : Int) / 2 ^ (32 - (32 - n))) = ((rot n x : Nat) : Int) := by
    have h1 : x / 2 ^ n < 4294967296 := shr_lt hx
    have h2 : x * 2 ^ (32 - n) % 4294967296 < 4294967296 := Nat.mod_lt _ (by decide)
    have e : 32 - (32 - n) = n := by omega
    rw [e]
    have ho := or32 h2 h1
    rw [Nat.or_comm] at ho
    unfold rot
    rw [← ho]
    congr 1
  rw [hp]
  go_ret
  exact ⟨rfl, rfl⟩

set_option maxRecDepth 100000 in
theorem right_any (n x : Nat) (hn0 : 0 < n) (hn : n < 32) (hx : x < 4294967296) (w : World) :
    Calls Tryd.prog 59 #[.int .u32 x, .int .i64 n] w fun e w' => e = .returned (.int .u32 (rot n x)) ∧ w' = w := by
  go_enter Tryd.func59, Tryd.ntmps59
  go_wp2_with fail
  refine (rotl_any n x hn0 hn hx _).mono ?_
  rintro e w' ⟨rfl, rfl⟩
  go_wp2
  go_ret
  exact ⟨rfl, rfl⟩

theorem right_int (x n : Int) (hn0 : 0 < n) (hn : n < 32) (hx0 : 0 ≤ x) (hx : x < 4294967296) (w : World) :
    Calls Tryd.prog 59 #[.int .u32 x, .int .i64 n] w fun e w' => e = .returned (.int .u32 (turnI x n)) ∧ w' = w := by
  obtain ⟨x, rfl⟩ := Int.eq_ofNat_of_zero_le hx0
  obtain ⟨n, rfl⟩ := Int.eq_ofNat_of_zero_le (Int.le_of_lt hn0)
  exact right_any n x (by omega) (by omega) (by omega) w

theorem or_lay {a b c d : Nat} (hb : b < 256) (hc : c < 256) (hd : d < 256) : ((a * 16777216 ||| b * 65536) ||| c * 256) ||| d = ((a * 256 + b) * 256 + c) * 256 + d := by
  have h1 := Nat.two_pow_add_eq_or_of_lt (i := 24) (b := b * 65536) (by omega) a
  have h2 := Nat.two_pow_add_eq_or_of_lt (i := 16) (b := c * 256) (by omega) (a * 256 + b)
  have h3 := Nat.two_pow_add_eq_or_of_lt (i := 8) (b := d) (by omega) ((a * 256 + b) * 256 + c)
  rw [show a * 16777216 = 2 ^ 24 * a by omega, ← h1, show 2 ^ 24 * a + b * 65536 = 2 ^ 16 * (a * 256 + b) by omega, ← h2, show 2 ^ 16 * (a * 256 + b) + c * 256 = 2 ^ 8 * ((a * 256 + b) * 256 + c) by omega, ← h3]
  omega

theorem or_word {x0 x1 x2 x3 : Nat} (b0 : x0 < 256) (b1 : x1 < 256) (b2 : x2 < 256) (b3 : x3 < 256) :
    bits BinOp.or IntKind.u32 (bits BinOp.or IntKind.u32 (bits BinOp.or IntKind.u32 ((x0 : Int) * 16777216) ((x1 : Int) * 65536)) ((x2 : Int) * 256)) (x3 : Int) = ((((x0 * 256 + x1) * 256 + x2) * 256 + x3 : Nat) : Int) := by
  have h0 : x0 * 16777216 < 4294967296 := Nat.lt_of_le_of_lt (Nat.mul_le_mul_right _ (Nat.le_of_lt_succ b0)) (by decide)
  have h1 : x1 * 65536 < 4294967296 := Nat.lt_of_le_of_lt (Nat.mul_le_mul_right _ (Nat.le_of_lt_succ b1)) (by decide)
  have h2 : x2 * 256 < 4294967296 := Nat.lt_of_le_of_lt (Nat.mul_le_mul_right _ (Nat.le_of_lt_succ b2)) (by decide)
  have h3 : x3 < 4294967296 := Nat.lt_trans b3 (by decide)
  rw [show (x0 : Int) * 16777216 = ((x0 * 16777216 : Nat) : Int) by rw [Int.natCast_mul]; rfl, show (x1 : Int) * 65536 = ((x1 * 65536 : Nat) : Int) by rw [Int.natCast_mul]; rfl, show (x2 : Int) * 256 = ((x2 * 256 : Nat) : Int) by rw [Int.natCast_mul]; rfl, or32 h0 h1, or32 (or_lt h0 h1) h2, or32 (or_lt (or_lt h0 h1) h2) h3, or_lay b1 b2 b3]

theorem byteAt_drop (l : List UInt8) (k i : Nat) : byteAt (l.drop k) i = byteAt l (k + i) := by
  unfold byteAt
  rw [List.getD_eq_getElem?_getD, List.getD_eq_getElem?_getD, List.getElem?_drop]
theorem word_drop (l : List UInt8) (t : Nat) : word (l.drop (4 * t)) 0 = word l t := by
  unfold word
  simp only [byteAt_drop]
  simp [Nat.add_comm]

set_option maxRecDepth 100000 in
theorem word_any (l : List UInt8) (hl : 4 ≤ l.length) (w : World) :
    Calls Tryd.prog 63 #[.string (S l)] w fun e w' => e = .returned (.int .u32 (word l 0)) ∧ w' = w.drew := by
  have hz := S_size l
  have g : ∀ i (h : i < l.length) (h' : i < (S l).size), (((S l)[i]'h').toNat : Int) = ((byteAt l i : Nat) : Int) := fun i h h' => by
    unfold byteAt
    rw [S_get l i h h', List.getD_eq_getElem?_getD, List.getElem?_eq_getElem h]
    rfl
  have b0 := byteAt_lt l 0
  have b1 := byteAt_lt l 1
  have b2 := byteAt_lt l 2
  have b3 := byteAt_lt l 3
  go_enter Tryd.func63, Tryd.ntmps63
  have l0 : 0 < l.length := by omega
  have l1 : 1 < l.length := by omega
  have l2 : 2 < l.length := by omega
  have l3 : 3 < l.length := by omega
  have hv : bits BinOp.or IntKind.u32 (bits BinOp.or IntKind.u32 (bits BinOp.or IntKind.u32 (((byteAt l 0 : Nat) : Int) * 16777216) (((byteAt l 1 : Nat) : Int) * 65536)) (((byteAt l 2 : Nat) : Int) * 256)) ((byteAt l 3 : Nat) : Int) = ((word l 0 : Nat) : Int) := by
    unfold word
    simp only [Nat.mul_zero, Nat.zero_add]
    exact or_word b0 b1 b2 b3
  go_wp2_with fail
  go_region
  all_goals go_wp2
  all_goals go_ret
  all_goals exact ⟨rfl, rfl⟩
end Go.Proofs.YtpimdbnhpbjlkaaDoor.dg
/-! DigWords -/
namespace Go.Proofs.YtpimdbnhpbjlkaaDoor.dg
open Go.RowKit

def keyCells : List Value := [.int .u32 1116352408, .int .u32 1899447441, .int .u32 3049323471, .int .u32 3921009573, .int .u32 961987163, .int .u32 1508970993, .int .u32 2453635748, .int .u32 2870763221, .int .u32 3624381080, .int .u32 310598401, .int .u32 607225278, .int .u32 1426881987, .int .u32 1925078388, .int .u32 2162078206, .int .u32 2614888103, .int .u32 3248222580, .int .u32 3835390401, .int .u32 4022224774, .int .u32 264347078, .int .u32 604807628, .int .u32 770255983, .int .u32 1249150122, .int .u32 1555081692, .int .u32 1996064986, .int .u32 2554220882, .int .u32 2821834349, .int .u32 2952996808, .int .u32 3210313671, .int .u32 3336571891, .int .u32 3584528711, .int .u32 113926993, .int .u32 338241895, .int .u32 666307205, .int .u32 773529912, .int .u32 1294757372, .int .u32 1396182291, .int .u32 1695183700, .int .u32 1986661051, .int .u32 2177026350, .int .u32 2456956037, .int .u32 2730485921, .int .u32 2820302411, .int .u32 3259730800, .int .u32 3345764771, .int .u32 3516065817, .int .u32 3600352804, .int .u32 4094571909, .int .u32 275423344, .int .u32 430227734, .int .u32 506948616, .int .u32 659060556, .int .u32 883997877, .int .u32 958139571, .int .u32 1322822218, .int .u32 1537002063, .int .u32 1747873779, .int .u32 1955562222, .int .u32 2024104815, .int .u32 2227730452, .int .u32 2361852424, .int .u32 2428436474, .int .u32 2756734187, .int .u32 3204031479, .int .u32 3329325298]
theorem keyCells_eq : keyCells = keys.map fun k => .int .u32 (k : Nat) := by kernel_rfl

end Go.Proofs.YtpimdbnhpbjlkaaDoor.dg
/-! DigMem -/
namespace Go.Proofs.YtpimdbnhpbjlkaaDoor.dg
open Go.RowKit

/-- Block b holds an array's cells. -/
def Arr (w : World) (b : Nat) (t : TypeId) (cs : Array Value) : Prop := w.heap[b]? = some (.cells cs t (0, 0))
theorem Arr.lt {w : World} {b : Nat} {t : TypeId} {cs : Array Value} (h : Arr w b t cs) : b < w.heap.size := (Array.getElem?_eq_some_iff.1 h).1
theorem Arr.cell {w : World} {b : Nat} {t : TypeId} {cs : Array Value} (h : Arr w b t cs) {j : Nat} {v : Value} (hv : cs[j]? = some v) : w.cell? ⟨b, j, none⟩ = some v := (cell_of_row w b j cs t (0, 0) h).trans hv
theorem Arr.frozen {w : World} {b : Nat} {t : TypeId} {cs : Array Value} (h : Arr w b t cs) (j : Nat) : w.frozen? ⟨b, j, none⟩ = false := frozen_of_row w b j cs t h
theorem Arr.set {w : World} {b : Nat} {t : TypeId} {cs : Array Value} (h : Arr w b t cs) (j : Nat) (v : Value) : Arr (w.setCell ⟨b, j, none⟩ v) b t (cs.setIfInBounds j v) := heap_setCell_same w b j cs t v h
theorem Arr.drew {w : World} {b : Nat} {t : TypeId} {cs : Array Value} (h : Arr w b t cs) : Arr w.drew b t cs := h
theorem Arr.drewN {w : World} {b : Nat} {t : TypeId} {cs : Array Value} (h : Arr w b t cs) (n : Nat) : Arr (w.drewN n) b t cs := h
theorem Arr.new (w : World) (t : TypeId) (cs : Array Value) : Arr (w.alloc (.cells cs t)) w.heap.size t cs := heap_alloc_new w _
theorem Arr.alloc {w : World} {b : Nat} {t : TypeId} {cs : Array Value} (h : Arr w b t cs) (o : Obj) : Arr (w.alloc o) b t cs := (Below.heap_alloc w o b h.lt).trans h

/-- Of the blocks that were there only block b may have changed; new ones may have come. -/
structure Touch (b : Nat) (w w' : World) : Prop where
  os : w'.os = w.os
  tape : w'.tape = w.tape
  output : w'.output = w.output
  size : w.heap.size ≤ w'.heap.size
  block : ∀ k, k < w.heap.size → k ≠ b → w'.heap[k]? = w.heap[k]?
theorem Touch.refl (b : Nat) (w : World) : Touch b w w := ⟨rfl, rfl, rfl, Nat.le_refl _, fun _ _ _ => rfl⟩
theorem Touch.trans {b : Nat} {a c d : World} (h : Touch b a c) (k : Touch b c d) : Touch b a d :=
  ⟨k.os.trans h.os, k.tape.trans h.tape, k.output.trans h.output, Nat.le_trans h.size k.size, fun i hi hb => (k.block i (Nat.lt_of_lt_of_le hi h.size) hb).trans (h.block i hi hb)⟩
theorem Touch.setCell {b : Nat} {a w : World} (h : Touch b a w) (o : Nat) (v : Value) : Touch b a (w.setCell ⟨b, o, none⟩ v) :=
  h.trans ⟨rfl, rfl, rfl, by simp [World.setCell], fun k _ hk => Below.heap_setCell _ _ _ _ hk⟩
theorem Touch.drew {b : Nat} {a w : World} (h : Touch b a w) : Touch b a w.drew := ⟨h.os, h.tape, h.output, h.size, h.block⟩
theorem Touch.drewN {b : Nat} {a w : World} (h : Touch b a w) (n : Nat) : Touch b a (w.drewN n) := ⟨h.os, h.tape, h.output, h.size, h.block⟩
theorem Touch.of_below {b : Nat} {w w' : World} (h : Below w.heap.size w w') : Touch b w w' := ⟨h.os, h.tape, h.output, h.size, fun k hk _ => h.block k hk⟩
theorem Touch.below {b : Nat} {w w' : World} (h : Touch b w w') {B : Nat} (hB : B ≤ b) (hw : B ≤ w.heap.size) : Below B w w' :=
  ⟨h.os, h.tape, h.output, h.size, fun k hk => h.block k (by omega) (by omega)⟩
theorem Touch.arr {b c : Nat} {w w' : World} {t : TypeId} {cs : Array Value} (h : Touch b w w') (k : Arr w c t cs) (hne : c ≠ b) : Arr w' c t cs := (h.block c k.lt hne).trans k
theorem Touch.cell {b : Nat} {w w' : World} (h : Touch b w w') {p : Addr} (hl : p.block < w.heap.size) (hp : p.block ≠ b) : w'.cell? p = w.cell? p := World.cell?_of_block (w := w) (h.block p.block hl hp)
end Go.Proofs.YtpimdbnhpbjlkaaDoor.dg
/-! DigBlock -/
namespace Go.Proofs.YtpimdbnhpbjlkaaDoor.dg
open Go.RowKit

def stCells (s : St) : Array Value := #[.int .u32 s.a, .int .u32 s.b, .int .u32 s.c, .int .u32 s.d, .int .u32 s.e, .int .u32 s.f, .int .u32 s.g, .int .u32 s.h]

theorem addI (x y : Nat) : ((x : Int) + (y : Int)) % 4294967296 = ((add x y : Nat) : Int) := by unfold add; omega
theorem zeros {n : Nat} (j : Nat) (h : j < n) : (Array.replicate n (Value.int .u32 0))[j]? = some (.int .u32 0) := by
  rw [Array.getElem?_eq_getElem (by simpa using h)]; simp

/-- The first words: read of the block's bytes. -/
theorem bytes_word (m : List UInt8) (hm : m.length = 64) (t : Nat) (ht : t < 16) (w : World) (b off : Nat) (hc : ∀ i (h : i < m.length), w.cell? ⟨b, off + i, none⟩ = some (.int .u8 (m[i].toNat : Nat))) :
    w.cell? ⟨b, off + 4 * t, none⟩ = some (.int .u8 (byteAt m (4 * t))) ∧ w.cell? ⟨b, off + (4 * t + 1), none⟩ = some (.int .u8 (byteAt m (4 * t + 1))) ∧ w.cell? ⟨b, off + (4 * t + 2), none⟩ = some (.int .u8 (byteAt m (4 * t + 2))) ∧ w.cell? ⟨b, off + (4 * t + 3), none⟩ = some (.int .u8 (byteAt m (4 * t + 3))) := by
  have e : ∀ i (h : i < m.length), byteAt m i = m[i].toNat := fun i h => by
    unfold byteAt
    rw [List.getD_eq_getElem?_getD, List.getElem?_eq_getElem h]
    rfl
  refine ⟨?_, ?_, ?_, ?_⟩ <;> (rw [hc _ (by omega), e _ (by omega)])

theorem set_words {m : List UInt8} {cs : Array Value} {t : Nat} (hcs : cs.size = 64) (ht : t < 64) (h : ∀ j, j < t → cs[j]? = some (.int .u32 (wd m j))) :
    ∀ j, j < t + 1 → (cs.setIfInBounds t (.int .u32 (wd m t)))[j]? = some (.int .u32 (wd m j)) := by
  intro j hj
  by_cases he : j = t
  · subst he
    rw [Array.getElem?_setIfInBounds_self_of_lt (by omega)]
  · rw [Array.getElem?_setIfInBounds_ne (fun e => he e.symm)]
    exact h j (by omega)

end Go.Proofs.YtpimdbnhpbjlkaaDoor.dg
/-! DigSpread -/
namespace Go.Proofs.YtpimdbnhpbjlkaaDoor.dg
open Go.RowKit

theorem low0_int {P : Nat} (h : P < 4294967296) : bits BinOp.xor IntKind.u32 (bits BinOp.xor IntKind.u32 (turnI (P : Nat) 7) (turnI (P : Nat) 18)) ((P : Int) / 8) = ((low0 P : Nat) : Int) := by
  have kp : (P : Int) / 8 = ((shr 3 P : Nat) : Int) := by unfold shr; simp
  have k7 : turnI (P : Nat) 7 = (rot 7 P : Nat) := turnI_eq P 7
  have k18 : turnI (P : Nat) 18 = (rot 18 P : Nat) := turnI_eq P 18
  rw [k7, k18, kp, xor32 (rot_lt h) (rot_lt h), xor32 (xor_lt (rot_lt h) (rot_lt h)) (shr_lt h)]
  rfl
theorem low1_int {P : Nat} (h : P < 4294967296) : bits BinOp.xor IntKind.u32 (bits BinOp.xor IntKind.u32 (turnI (P : Nat) 17) (turnI (P : Nat) 19)) ((P : Int) / 1024) = ((low1 P : Nat) : Int) := by
  have kp : (P : Int) / 1024 = ((shr 10 P : Nat) : Int) := by unfold shr; simp
  have k7 : turnI (P : Nat) 17 = (rot 17 P : Nat) := turnI_eq P 17
  have k18 : turnI (P : Nat) 19 = (rot 19 P : Nat) := turnI_eq P 19
  rw [k7, k18, kp, xor32 (rot_lt h) (rot_lt h), xor32 (xor_lt (rot_lt h) (rot_lt h)) (shr_lt h)]
  rfl
theorem S_drop (l : List UInt8) (k : Nat) : (S l).extract k (S l).size = S (l.drop k) := by
  apply ByteArray.ext
  apply Array.toList_inj.1
  rw [Lib.extract_data, S_data, S_data, S_size, List.take_of_length_le]
  rw [List.length_drop]; omega

theorem words_one {cs : Array Value} {n : Nat} {f : Nat → Nat} (hs : cs.size = n) (h : ∀ j, j < n → cs[j]? = some (.int .u32 (f j : Nat))) : cs.all (·.oneCell') = true := by
  rw [Array.all_eq_true]
  intro i hi
  have := h i (by omega)
  rw [Array.getElem?_eq_getElem hi] at this
  rw [Option.some.inj this]
  rfl
theorem Arr.setRow {w : World} {b : Nat} {t : TypeId} {cs : Array Value} (h : Arr w b t cs) (ds : Array Value) : Arr (w.setRow b ds) b t ds := setRow_heap w b cs ds t (0, 0) h

set_option maxRecDepth 100000 in
set_option maxHeartbeats 4000000 in
theorem spread_any (m : List UInt8) (hm : m.length = 64) (w : World) :
    Calls Tryd.prog 58 #[.string (S m)] w fun e w' => ∃ cs : Array Value, e = .returned (.agg cs) ∧ cs.size = 64 ∧ (∀ j, j < 64 → cs[j]? = some (.int .u32 (wd m j))) ∧ Below w.heap.size w w' := by
  have hz := S_size m
  go_enter Tryd.func58, Tryd.ntmps58
  go_wp2_with fail
  obtain ⟨Z, hZ⟩ : ∃ Z : Array Value, Z = Array.replicate 64 (.int .u32 0) := ⟨_, rfl⟩
  obtain ⟨W, hW⟩ : ∃ W, (w.alloc (.cells Z 89)).alloc (.cells Z 89) = W := ⟨_, rfl⟩
  have hsz : W.heap.size = w.heap.size + 2 := by rw [← hW]; simp
  have aR : Arr W w.heap.size 89 Z := by
    rw [← hW]; exact (Arr.new w _ _).alloc _
  have aW : Arr W (w.heap.size + 1) 89 Z := by
    rw [← hW]
    have h := Arr.new (w.alloc (.cells Z 89)) 89 Z
    rw [World.size_alloc] at h
    exact h
  have hB : Below w.heap.size w W := by
    rw [← hW]
    exact ((Below.refl _ w).alloc (Nat.le_refl _) _).alloc (by simp) _
  have hZs : Z.size = 64 := by rw [hZ]; simp
  change Code.wp _ _ _ _ ((w.alloc (.cells (Array.replicate 64 (.int .u32 0)) 89)).alloc (.cells (Array.replicate 64 (.int .u32 0)) 89))
  rw [← hZ, hW]
  clear hZ hW
  go_loopw [10] (fun i wr => ∃ (t : Nat) (cs : Array Value), i = .int .i64 t ∧ t ≤ 16 ∧ Arr wr (w.heap.size + 1) 89 cs ∧ cs.size = 64 ∧ (∀ j, j < t → cs[j]? = some (.int .u32 (wd m j))) ∧ Touch (w.heap.size + 1) W wr)
    (fun i _ => 16 - (intOf i).toNat)
  case atStart => exact ⟨0, Z, rfl, by omega, aW, hZs, (fun j h => absurd h (by omega)), Touch.refl _ _⟩
  case round =>
    obtain ⟨t, cs, rfl, ht, aC, hcs, hcw, hT⟩ := hrel
    by_cases hlt : t < 16
    · have hsl := fun W => run_slice_string_l (P := Tryd.prog) (w := W) (t := 9) (s := S m) Tryd.underlying9 .i64 ((t : Int) * 4) (by omega) (by omega)
      have et : ((t : Int) * 4).toNat = 4 * t := by omega
      simp only [et, S_drop] at hsl
      have hwd : wd m t = word (m.drop (4 * t)) 0 := by rw [wd_small hlt, word_drop]
      obtain ⟨old, hold⟩ : ∃ old, cs[t]? = some old := ⟨_, Array.getElem?_eq_getElem (by omega)⟩
      have e1 : wr.drew.cell? _ = _ := aC.cell hold
      have e2 : wr.drew.frozen? _ = _ := aC.frozen t
      have hti : (t : Int) < 16 := by omega
      have h64 : (t : Int) < 64 := by omega
      have HCS := Lib.hid hcw
      clear hcw hold et
      have HWD := Lib.hid hwd
      clear hwd
      have hcall := word_any (m.drop (4 * t)) (by rw [List.length_drop]; omega)
      go_wp2_with fail
      refine (hcall _).mono ?_
      rintro e w' ⟨rfl, rfl⟩
      rw [← HWD.out]
      go_wp2
      go_roundw
      case rel => exact ⟨t + 1, cs.setIfInBounds t (.int .u32 (wd m t)), by go_num, by omega, aC.drew.set t _, by simpa using hcs, set_words hcs (by omega) HCS.out, hT.drew.setCell t _⟩
      case measure => simp [intOf]; omega
    · obtain rfl : t = 16 := by omega
      have aR' := aR
      clear aR aW
      have HCS := Lib.hid hcw
      clear hcw
      go_wp2_with fail
      go_loopw [5] (fun i wq => ∃ (t : Nat) (ds : Array Value), i = .int .i64 t ∧ 16 ≤ t ∧ t ≤ 64 ∧ Arr wq (w.heap.size + 1) 89 ds ∧ ds.size = 64 ∧ (∀ j, j < t → ds[j]? = some (.int .u32 (wd m j))) ∧ Touch (w.heap.size + 1) W wq)
        (fun i _ => 64 - (intOf i).toNat)
      case atStart => exact ⟨16, cs, rfl, by omega, by omega, aC, hcs, HCS.out, hT⟩
      case round =>
        clear aC hcs HCS hT
        clear cs
        obtain ⟨t, cs, rfl, h16, ht, aC, hcs, hcw, hT⟩ := hrel
        by_cases hlt : t < 64
        · have c15 := aC.cell (hcw (t - 15) (by omega))
          have c2 := aC.cell (hcw (t - 2) (by omega))
          have c7 := hcw (t - 7) (by omega)
          have c16 := hcw (t - 16) (by omega)
          have hwd : wd m t = add (add (add (low1 (wd m (t - 2))) (wd m (t - 7))) (low0 (wd m (t - 15)))) (wd m (t - 16)) := wd_big (by omega)
          have lP := wd_lt m (t - 15)
          have lQ := wd_lt m (t - 2)
          have lA := wd_lt m (t - 7)
          have lC := wd_lt m (t - 16)
          have HCS := Lib.hid hcw
          clear hcw
          generalize wd m (t - 15) = P at *
          generalize wd m (t - 2) = Q at *
          generalize wd m (t - 7) = A at *
          generalize wd m (t - 16) = C at *
          have l0 := low0_lt lP
          have l1 := low1_lt lQ
          have i0 := low0_int lP
          have i1 := low1_int lQ
          obtain ⟨u, hu⟩ : ∃ u, low0 P = u := ⟨_, rfl⟩
          obtain ⟨v, hv⟩ : ∃ v, low1 Q = v := ⟨_, rfl⟩
          rw [hu] at l0 i0 hwd
          rw [hv] at l1 i1 hwd
          have hvv : ((v : Int) + (A : Int) + (u : Int) + (C : Int)) % 4294967296 = ((wd m t : Nat) : Int) := by
            rw [hwd]
            unfold add
            omega
          have HV := Lib.hid hvv
          have HI0 := Lib.hid i0
          have HI1 := Lib.hid i1
          clear hvv hwd hu hv i0 i1
          obtain ⟨old, hold⟩ : ∃ old, cs[t]? = some old := ⟨_, Array.getElem?_eq_getElem (by omega)⟩
          have h0b : (t : Int) < 64 := by omega
          have h16c : (16 : Int) ≤ (t : Int) := by omega
          have n15 : ((t : Int) - 15).toNat = t - 15 := by omega
          have n2 : ((t : Int) - 2).toNat = t - 2 := by omega
          have n7 : ((t : Int) - 7).toNat = t - 7 := by omega
          have n16 : ((t : Int) - 16).toNat = t - 16 := by omega
          have w15 : IntKind.i64.wrap ((t : Int) - 15) = (t : Int) - 15 := IntWalk.i64_in _ (by omega)
          have w2 : IntKind.i64.wrap ((t : Int) - 2) = (t : Int) - 2 := IntWalk.i64_in _ (by omega)
          have w7 : IntKind.i64.wrap ((t : Int) - 7) = (t : Int) - 7 := IntWalk.i64_in _ (by omega)
          have w16 : IntKind.i64.wrap ((t : Int) - 16) = (t : Int) - 16 := IntWalk.i64_in _ (by omega)
          go_wp2_with fail
          go_quiet (fail)
          go_wp2_with (go_at_call 59; refine (right_int _ _ (by omega) (by omega) (by omega) (by omega) _).mono ?_; rintro e w' ⟨rfl, rfl⟩)
          rw [HI0.out, HI1.out]
          have gA := aC.drewN nq
          have gT := hT.drewN nq
          generalize wr.drewN nq = w3 at *
          have d7 : w3.drew.cell? _ = _ := gA.cell c7
          have d16 : w3.drew.cell? _ = _ := gA.cell c16
          have e1 : w3.drew.cell? _ = _ := gA.cell hold
          have e2 : w3.drew.frozen? _ = _ := gA.frozen t
          clear c2 c15 c7 c16 hold aC hT
          go_region
          all_goals go_wp2_with fail
          all_goals rw [HV.out]
          all_goals go_roundw
          case rel =>
            have hR : ∃ (t' : Nat) (ds : Array Value), Value.int .i64 ((t : Int) + 1) = .int .i64 t' ∧ 16 ≤ t' ∧ t' ≤ 64 ∧ Arr (w3.drew.setCell ⟨w.heap.size + 1, t, none⟩ (.int .u32 (wd m t))) (w.heap.size + 1) 89 ds ∧ ds.size = 64 ∧ (∀ j, j < t' → ds[j]? = some (.int .u32 (wd m j))) ∧ Touch (w.heap.size + 1) W (w3.drew.setCell ⟨w.heap.size + 1, t, none⟩ (.int .u32 (wd m t))) :=
              ⟨t + 1, cs.setIfInBounds t (.int .u32 (wd m t)), by go_num, by omega, by omega, gA.drew.set t _, by simpa using hcs, set_words hcs hlt HCS.out, gT.drew.setCell t _⟩
            exact ⟨_, _, _, _, _, _, _, _, _, _, _, _, _, _, _, _, _, _, _, _, _, _, _, _, _, _, _, _, _, _, _, _, _, _, _, _, _, _, _, _, _, _, _, _, _, _, _, _, hR, rfl⟩
          case measure => simp [intOf]; omega
        · obtain rfl : t = 64 := by omega
          have gR := hT.arr aR' (by omega)
          have hone := words_one hcs hcw
          have HCS := Lib.hid hcw
          clear hcw
          go_upto_region 14 with (fail)
          refine wp_region_lit (wpList_load_row rfl 89 (.tmp 3) rfl (w.heap.size + 1) rfl 89 cs (0, 0) _ aC Tryd.underlying89 rfl (by rw [hcs]; kernel_rfl) ?_)
          refine wpList_store_row rfl 89 (.tmp 2) (.tmp 64) rfl w.heap.size cs rfl rfl 89 Z gR (by rw [hcs]; kernel_rfl) (by rw [hZs, hcs]) hone ?_
          have gR2 := gR.setRow cs
          go_wp2_with fail
          refine bodyPost_ret (v := .agg cs) (results_cell_row rfl _ _ w.heap.size 89 _ (0, 0) _ rfl gR2 Tryd.underlying89 rfl (by rw [hcs]; kernel_rfl)) rfl ?_
          exact ⟨cs, rfl, hcs, HCS.out, below_setRow (hB.trans (hT.below (by omega) (by omega))) (Nat.le_refl _) cs⟩
end Go.Proofs.YtpimdbnhpbjlkaaDoor.dg
/-! DigMix -/
namespace Go.Proofs.YtpimdbnhpbjlkaaDoor.dg
open Go.RowKit

/-- The table of the program's constants reads as it is laid. -/
def Keys (w : World) : Prop := ∀ t, t < 64 → w.cell? ⟨0, t, none⟩ = some (.int .u32 (key t : Nat))
theorem Keys.pos {w : World} (h : Keys w) : 0 < w.heap.size := World.block_lt_of_cell? _ _ (h 0 (by omega))
theorem Keys.below {B : Nat} {w w' : World} (h : Keys w) (hb : Below B w w') (hB : 0 < B) : Keys w' := fun t ht => (World.cell?_of_block (w := w) (a := ⟨0, t, none⟩) (hb.block 0 hB)).trans (h t ht)
theorem Keys.drew {w : World} (h : Keys w) : Keys w.drew := h
theorem Keys.drewN {w : World} (h : Keys w) (n : Nat) : Keys (w.drewN n) := h

/-- The state's cells, of which the first k are summed. -/
def part (s t : St) (k : Nat) : Array Value := #[.int .u32 (if 0 < k then add s.a t.a else s.a : Nat), .int .u32 (if 1 < k then add s.b t.b else s.b : Nat), .int .u32 (if 2 < k then add s.c t.c else s.c : Nat), .int .u32 (if 3 < k then add s.d t.d else s.d : Nat), .int .u32 (if 4 < k then add s.e t.e else s.e : Nat), .int .u32 (if 5 < k then add s.f t.f else s.f : Nat), .int .u32 (if 6 < k then add s.g t.g else s.g : Nat), .int .u32 (if 7 < k then add s.h t.h else s.h : Nat)]
theorem stCells_one (s : St) : (stCells s).all (·.oneCell') = true := by simp [stCells, Value.oneCell']
theorem part_zero (s t : St) : part s t 0 = stCells s := rfl
theorem part_get0 (s t : St) : (part s t 0)[0]? = some (.int .u32 (s.a : Nat)) := by simp [part]
theorem part_set0 (s t : St) : (part s t 0).setIfInBounds 0 (.int .u32 (add s.a t.a : Nat)) = part s t 1 := by simp [part]
theorem part_get1 (s t : St) : (part s t 1)[1]? = some (.int .u32 (s.b : Nat)) := by simp [part]
theorem part_set1 (s t : St) : (part s t 1).setIfInBounds 1 (.int .u32 (add s.b t.b : Nat)) = part s t 2 := by simp [part]
theorem part_get2 (s t : St) : (part s t 2)[2]? = some (.int .u32 (s.c : Nat)) := by simp [part]
theorem part_set2 (s t : St) : (part s t 2).setIfInBounds 2 (.int .u32 (add s.c t.c : Nat)) = part s t 3 := by simp [part]
theorem part_get3 (s t : St) : (part s t 3)[3]? = some (.int .u32 (s.d : Nat)) := by simp [part]
theorem part_set3 (s t : St) : (part s t 3).setIfInBounds 3 (.int .u32 (add s.d t.d : Nat)) = part s t 4 := by simp [part]
theorem part_get4 (s t : St) : (part s t 4)[4]? = some (.int .u32 (s.e : Nat)) := by simp [part]
theorem part_set4 (s t : St) : (part s t 4).setIfInBounds 4 (.int .u32 (add s.e t.e : Nat)) = part s t 5 := by simp [part]
theorem part_get5 (s t : St) : (part s t 5)[5]? = some (.int .u32 (s.f : Nat)) := by simp [part]
theorem part_set5 (s t : St) : (part s t 5).setIfInBounds 5 (.int .u32 (add s.f t.f : Nat)) = part s t 6 := by simp [part]
theorem part_get6 (s t : St) : (part s t 6)[6]? = some (.int .u32 (s.g : Nat)) := by simp [part]
theorem part_set6 (s t : St) : (part s t 6).setIfInBounds 6 (.int .u32 (add s.g t.g : Nat)) = part s t 7 := by simp [part]
theorem part_get7 (s t : St) : (part s t 7)[7]? = some (.int .u32 (s.h : Nat)) := by simp [part]
theorem part_set7 (s t : St) : (part s t 7).setIfInBounds 7 (.int .u32 (add s.h t.h : Nat)) = part s t 8 := by simp [part]
theorem part_last (s t : St) : part s t 8 = stCells ⟨add s.a t.a, add s.b t.b, add s.c t.c, add s.d t.d, add s.e t.e, add s.f t.f, add s.g t.g, add s.h t.h⟩ := rfl
theorem part_end (m : List UInt8) (s : St) : part s (rounds m s 64) 8 = stCells (press s m) := by
  rw [part_last]
  unfold press
  rfl

set_option maxRecDepth 100000 in
set_option maxHeartbeats 4000000 in
theorem mix_any (s : St) (hs : s.ok) (m : List UInt8) (hm : m.length = 64) (w : World) (hK : Keys w) :
    Calls Tryd.prog 48 #[.agg (stCells s), .string (S m)] w fun e w' => e = .returned (.agg (stCells (press s m))) ∧ Below w.heap.size w w' := by
  have hpos := hK.pos
  go_enter Tryd.func48, Tryd.ntmps48
  go_wp2_with fail
  refine (spread_any m hm _).mono ?_
  rintro e w2 ⟨cs, rfl, hcs, hcw, hb2⟩
  obtain ⟨Y, hY⟩ : ∃ Y : Array Value, Y = #[.int .u32 0, .int .u32 0, .int .u32 0, .int .u32 0, .int .u32 0, .int .u32 0, .int .u32 0, .int .u32 0] := ⟨_, rfl⟩
  rw [← hY] at hb2
  have hY8 : Y.size = 8 := by rw [hY]; rfl
  have hb1 : Below w.heap.size w ((w.alloc (.cells (stCells s) 79)).alloc (.cells Y 79)) := ((Below.refl _ w).alloc (Nat.le_refl _) _).alloc (by simp) _
  have aS1 : Arr ((w.alloc (.cells (stCells s) 79)).alloc (.cells Y 79)) w.heap.size 79 (stCells s) := (Arr.new w _ _).alloc _
  have aR1 : Arr ((w.alloc (.cells (stCells s) 79)).alloc (.cells Y 79)) (w.heap.size + 1) 79 Y := by
    have h := Arr.new (w.alloc (.cells (stCells s) 79)) 79 Y
    rw [World.size_alloc] at h
    exact h
  have hs1 : ((w.alloc (.cells (stCells s) 79)).alloc (.cells Y 79)).heap.size = w.heap.size + 2 := by simp
  clear hY
  generalize ((w.alloc (.cells (stCells s) 79)).alloc (.cells Y 79)) = W1 at *
  have hbw : Below w.heap.size w w2 := hb1.trans (hb2.mono (by omega))
  have aS2 : Arr w2 w.heap.size 79 (stCells s) := (hb2.block _ aS1.lt).trans aS1
  have aR2 : Arr w2 (w.heap.size + 1) 79 Y := (hb2.block _ aR1.lt).trans aR1
  have hs2 := hb2.size
  rw [hs1] at hs2
  have hone := words_one hcs hcw
  have HCS := Lib.hid hcw
  clear hb1 hb2 aS1 aR1 hs1 hcw
  go_upto_region 2 with (first | (refine wpList_store_row rfl 89 (.tmp 5) (.tmp 20) rfl w2.heap.size cs rfl rfl 89 _ (heap_alloc_new w2 _) (by rw [hcs]; kernel_rfl) (by rw [hcs]; kernel_rfl) hone ?_; rw [World.setRow_alloc_new]))
  have aS := aS2.alloc (.cells cs 89)
  have aR := aR2.alloc (.cells cs 89)
  have aW := Arr.new w2 89 cs
  have hb := hbw.alloc (by omega) (.cells cs 89)
  have hsz : (w2.alloc (.cells cs 89)).heap.size = w2.heap.size + 1 := by simp
  generalize w2.alloc (.cells cs 89) = w3 at *
  clear aS2 aR2 hbw hone
  generalize w2.heap.size = bw at *
  have x0 := aS.cell (j := 0) (v := .int .u32 s.a) rfl
  have x1 := aS.cell (j := 1) (v := .int .u32 s.b) rfl
  have x2 := aS.cell (j := 2) (v := .int .u32 s.c) rfl
  have x3 := aS.cell (j := 3) (v := .int .u32 s.d) rfl
  have x4 := aS.cell (j := 4) (v := .int .u32 s.e) rfl
  have x5 := aS.cell (j := 5) (v := .int .u32 s.f) rfl
  have x6 := aS.cell (j := 6) (v := .int .u32 s.g) rfl
  have x7 := aS.cell (j := 7) (v := .int .u32 s.h) rfl
  go_wp2_with fail
  go_quiet (fail)
  go_wp2_with fail
  replace aS := aS.drewN nq
  replace aR := aR.drewN nq
  replace aW := aW.drewN nq
  replace hb := below_drewN hb nq
  replace hsz : (w3.drewN nq).heap.size = bw + 1 := hsz
  clear x0 x1 x2 x3 x4 x5 x6 x7
  generalize w3.drewN nq = w4 at *
  clear w3
  have x4 := aS.cell (j := 4) (v := .int .u32 s.e) rfl
  have x5 := aS.cell (j := 5) (v := .int .u32 s.f) rfl
  have x6 := aS.cell (j := 6) (v := .int .u32 s.g) rfl
  have x7 := aS.cell (j := 7) (v := .int .u32 s.h) rfl
  go_quiet (fail)
  go_wp2_with fail
  clear x4 x5 x6 x7
  replace aS := aS.drewN nq
  replace aR := aR.drewN nq
  replace aW := aW.drewN nq
  replace hb := below_drewN hb nq
  replace hsz : (w4.drewN nq).heap.size = bw + 1 := hsz
  generalize w4.drewN nq = w5 at *
  have hKs : Keys w5 := hK.below hb hpos
  go_loopw [6, 7, 8, 9, 10, 11, 12, 13, 37] (fun va vb vc vd ve vf vg vh i wq => ∃ n : Nat, i = .int .i64 n ∧ n ≤ 64 ∧ va = .int .u32 (rounds m s n).a ∧ vb = .int .u32 (rounds m s n).b ∧ vc = .int .u32 (rounds m s n).c ∧ vd = .int .u32 (rounds m s n).d ∧ ve = .int .u32 (rounds m s n).e ∧ vf = .int .u32 (rounds m s n).f ∧ vg = .int .u32 (rounds m s n).g ∧ vh = .int .u32 (rounds m s n).h ∧
      ∃ q, wq = w5.drewN q)
    (fun _ _ _ _ _ _ _ _ i _ => 64 - (intOf i).toNat)
  case atStart => exact ⟨0, rfl, by omega, rfl, rfl, rfl, rfl, rfl, rfl, rfl, rfl, 0, rfl⟩
  case round =>
    obtain ⟨n, rfl, hn, rfl, rfl, rfl, rfl, rfl, rfl, rfl, rfl, q, rfl⟩ := hrel
    replace aS := aS.drewN q
    replace aR := aR.drewN q
    replace aW := aW.drewN q
    replace hb := below_drewN hb q
    replace hKs := hKs.drewN q
    have hw6 : ∀ k, (w5.drewN q).drewN k = w5.drewN (q + k) := fun k => by simp
    have HW6 := Lib.hid hw6
    have hsz6 : (w5.drewN q).heap.size = bw + 1 := hsz
    clear hw6 hsz
    generalize hw5 : w5.drewN q = w6 at *
    have HW5 := Lib.hid hw5
    clear hw5
    have hok := rounds_ok m hs n
    by_cases hlt : n < 64
    · have hr : Hid (rounds m s (n + 1) = round (rounds m s n) (key n) (wd m n)) := rfl
      have ck := hKs n hlt
      have cw := aW.cell (HCS.out n hlt)
      have lk := key_lt n
      have lw := wd_lt m n
      generalize key n = k at *
      generalize wd m n = x at *
      generalize rounds m s n = z at *
      obtain ⟨a, b', c, d, e, f, g, hh⟩ := z
      obtain ⟨la, lb, lc, ld, le, lf, lg, lh⟩ := hok
      simp only at *
      have h0b : (n : Int) < 64 := by omega
      have HKS := Lib.hid hKs
      clear hKs
      go_wp2_with fail
      go_quiet (first | (go_at_call 59; refine Calls.quiet_of_same (right_int _ _ ?_ ?_ ?_ ?_ _) <;> omega))
      have v1 : turnI (e : Nat) 6 = (rot 6 e : Nat) := turnI_eq e 6
      have v2 : turnI (e : Nat) 11 = (rot 11 e : Nat) := turnI_eq e 11
      have v3 : turnI (e : Nat) 25 = (rot 25 e : Nat) := turnI_eq e 25
      have hT1 : (((hh : Int) + bits BinOp.xor IntKind.u32 (bits BinOp.xor IntKind.u32 (turnI (e : Nat) 6) (turnI (e : Nat) 11)) (turnI (e : Nat) 25) + bits BinOp.xor IntKind.u32 (bits BinOp.and IntKind.u32 (e : Nat) (f : Nat)) (bits BinOp.and IntKind.u32 (bits BinOp.xor IntKind.u32 (if IntKind.u32.signed = true then -1 else IntKind.u32.max) (e : Nat)) (g : Nat)) + (k : Int)) % 4294967296 + (x : Int)) % 4294967296 = ((one ⟨a, b', c, d, e, f, g, hh⟩ k x : Nat) : Int) := by
        have w1 : (if IntKind.u32.signed = true then (-1 : Int) else IntKind.u32.max) = IntKind.u32.max := rfl
        rw [v1, v2, v3, xor32 (rot_lt le) (rot_lt le), xor32 (xor_lt (rot_lt le) (rot_lt le)) (rot_lt le), w1, not32 le, and32 le lf, and32 (by omega) lg, xor32 (and_lt lf) (and_lt lg)]
        unfold one add big1 pick
        simp only
        omega
      rw [hT1]
      clear hT1 v1 v2 v3
      have lT := add_lt (add (add (add hh (big1 e)) (pick e f g)) k) x
      obtain ⟨T1, hT1d⟩ : ∃ T1, T1 = one ⟨a, b', c, d, e, f, g, hh⟩ k x := ⟨_, rfl⟩
      have lT1 : T1 < 4294967296 := by rw [hT1d]; exact lT
      rw [← hT1d]
      have HT1 := Lib.hid hT1d
      clear hT1d lT
      have hT2 : (bits BinOp.xor IntKind.u32 (bits BinOp.xor IntKind.u32 (turnI (a : Nat) 2) (turnI (a : Nat) 13)) (turnI (a : Nat) 22) + bits BinOp.xor IntKind.u32 (bits BinOp.xor IntKind.u32 (bits BinOp.and IntKind.u32 (a : Nat) (b' : Nat)) (bits BinOp.and IntKind.u32 (a : Nat) (c : Nat))) (bits BinOp.and IntKind.u32 (b' : Nat) (c : Nat))) % 4294967296 = ((two ⟨a, b', c, d, e, f, g, hh⟩ : Nat) : Int) := by
        have v1 : turnI (a : Nat) 2 = (rot 2 a : Nat) := turnI_eq a 2
        have v2 : turnI (a : Nat) 13 = (rot 13 a : Nat) := turnI_eq a 13
        have v3 : turnI (a : Nat) 22 = (rot 22 a : Nat) := turnI_eq a 22
        rw [v1, v2, v3, xor32 (rot_lt la) (rot_lt la), xor32 (xor_lt (rot_lt la) (rot_lt la)) (rot_lt la), and32 la lb, and32 la lc, and32 lb lc, xor32 (and_lt lb) (and_lt lc), xor32 (xor_lt (and_lt lb) (and_lt lc)) (and_lt lc)]
        unfold two add big0 most
        simp only
        omega
      have HT2 := Lib.hid hT2
      clear hT2
      go_upto_region 9 with (go_at_call 59; refine (right_int _ _ (by omega) (by omega) (by omega) (by omega) _).mono ?_; rintro e w' ⟨rfl, rfl⟩)
      rw [HT2.out]
      have lT2 : two ⟨a, b', c, d, e, f, g, hh⟩ < 4294967296 := add_lt _ _
      obtain ⟨T2, hT2d⟩ : ∃ T2, T2 = two ⟨a, b', c, d, e, f, g, hh⟩ := ⟨_, rfl⟩
      rw [← hT2d] at lT2 ⊢
      have HT2d := Lib.hid hT2d
      clear hT2d
      go_wp2_with fail
      have hA : ((T1 : Int) + (T2 : Int)) % 4294967296 = ((round ⟨a, b', c, d, e, f, g, hh⟩ k x).a : Nat) := by
        rw [HT1.out, HT2d.out]
        unfold round add
        simp only
        omega
      have hE : ((d : Int) + (T1 : Int)) % 4294967296 = ((round ⟨a, b', c, d, e, f, g, hh⟩ k x).e : Nat) := by
        rw [HT1.out]
        unfold round add
        simp only
        omega
      rw [hA, hE]
      obtain ⟨fa, ha⟩ : ∃ y, y = (rounds m s (n + 1)).a := ⟨_, rfl⟩
      obtain ⟨fe, he⟩ : ∃ y, y = (rounds m s (n + 1)).e := ⟨_, rfl⟩
      have hb1 : a = (rounds m s (n + 1)).b := by rw [hr.out]; rfl
      have hc1 : b' = (rounds m s (n + 1)).c := by rw [hr.out]; rfl
      have hd1 : c = (rounds m s (n + 1)).d := by rw [hr.out]; rfl
      have hf1 : e = (rounds m s (n + 1)).f := by rw [hr.out]; rfl
      have hg1 : f = (rounds m s (n + 1)).g := by rw [hr.out]; rfl
      have hh1 : g = (rounds m s (n + 1)).h := by rw [hr.out]; rfl
      rw [← hr.out, ← ha, ← he]
      exact ⟨⟨n + 1, by go_num, by omega, by rw [ha], by rw [hb1], by rw [hc1], by rw [hd1], by rw [he], by rw [hf1], by rw [hg1], by rw [hh1], q + nq, HW6.out nq⟩, by simp [intOf]; omega⟩
    · obtain rfl : n = 64 := by omega
      clear HW6 HW5 hok
      go_wp2_with fail
      generalize hz : rounds m s 64 = z at *
      obtain ⟨la, lb, lc, ld, le, lf, lg, lh⟩ := rounds_ok m hs 64
      rw [hz] at la lb lc ld le lf lg lh
      have HZ := Lib.hid hz
      clear hz
      go_upto_region 11 with (fail)
      go_wp2_with fail
      go_loopw [109] (fun i wq => ∃ n : Nat, i = .int .i64 n ∧ n ≤ 8 ∧ Arr wq w.heap.size 79 (part s z n) ∧ Touch w.heap.size w6 wq)
        (fun i _ => 8 - (intOf i).toNat)
      case atStart => exact ⟨0, rfl, by omega, aS, Touch.refl _ _⟩
      case round =>
        clear aS
        obtain ⟨n, rfl, hn, aS, hT⟩ := hrel
        by_cases hlt : n < 8
        · have h8 : n = 0 ∨ n = 1 ∨ n = 2 ∨ n = 3 ∨ n = 4 ∨ n = 5 ∨ n = 6 ∨ n = 7 := by omega
          obtain rfl | rfl | rfl | rfl | rfl | rfl | rfl | rfl := h8
          · have e1 := aS.cell (part_get0 s z)
            have e2 := aS.frozen 0
            have e3 : ∀ w : World, (Instr.index 79 (.agg #[.int .u32 (z.a : Nat), .int .u32 (z.b : Nat), .int .u32 (z.c : Nat), .int .u32 (z.d : Nat), .int .u32 (z.e : Nat), .int .u32 (z.f : Nat), .int .u32 (z.g : Nat), .int .u32 (z.h : Nat)]) (.int .i64 0)).run Tryd.prog w = .ok (.int .u32 (z.a : Nat)) w := fun _ => by kernel_rfl
            go_wp2_with fail
            go_roundw
            case rel =>
              have hst := aS.set 0 (.int .u32 (add s.a z.a : Nat))
              have hTt := hT.setCell 0 (.int .u32 (add s.a z.a : Nat))
              rw [part_set0] at hst
              rw [addI]
              exact ⟨1, rfl, by omega, hst, hTt⟩
            case measure => simp [intOf]
          · have e1 := aS.cell (part_get1 s z)
            have e2 := aS.frozen 1
            have e3 : ∀ w : World, (Instr.index 79 (.agg #[.int .u32 (z.a : Nat), .int .u32 (z.b : Nat), .int .u32 (z.c : Nat), .int .u32 (z.d : Nat), .int .u32 (z.e : Nat), .int .u32 (z.f : Nat), .int .u32 (z.g : Nat), .int .u32 (z.h : Nat)]) (.int .i64 1)).run Tryd.prog w = .ok (.int .u32 (z.b : Nat)) w := fun _ => by kernel_rfl
            go_wp2_with fail
            go_roundw
            case rel =>
              have hst := aS.set 1 (.int .u32 (add s.b z.b : Nat))
              have hTt := hT.setCell 1 (.int .u32 (add s.b z.b : Nat))
              rw [part_set1] at hst
              rw [addI]
              exact ⟨2, rfl, by omega, hst, hTt⟩
            case measure => simp [intOf]
          · have e1 := aS.cell (part_get2 s z)
            have e2 := aS.frozen 2
            have e3 : ∀ w : World, (Instr.index 79 (.agg #[.int .u32 (z.a : Nat), .int .u32 (z.b : Nat), .int .u32 (z.c : Nat), .int .u32 (z.d : Nat), .int .u32 (z.e : Nat), .int .u32 (z.f : Nat), .int .u32 (z.g : Nat), .int .u32 (z.h : Nat)]) (.int .i64 2)).run Tryd.prog w = .ok (.int .u32 (z.c : Nat)) w := fun _ => by kernel_rfl
            go_wp2_with fail
            go_roundw
            case rel =>
              have hst := aS.set 2 (.int .u32 (add s.c z.c : Nat))
              have hTt := hT.setCell 2 (.int .u32 (add s.c z.c : Nat))
              rw [part_set2] at hst
              rw [addI]
              exact ⟨3, rfl, by omega, hst, hTt⟩
            case measure => simp [intOf]
          · have e1 := aS.cell (part_get3 s z)
            have e2 := aS.frozen 3
            have e3 : ∀ w : World, (Instr.index 79 (.agg #[.int .u32 (z.a : Nat), .int .u32 (z.b : Nat), .int .u32 (z.c : Nat), .int .u32 (z.d : Nat), .int .u32 (z.e : Nat), .int .u32 (z.f : Nat), .int .u32 (z.g : Nat), .int .u32 (z.h : Nat)]) (.int .i64 3)).run Tryd.prog w = .ok (.int .u32 (z.d : Nat)) w := fun _ => by kernel_rfl
            go_wp2_with fail
            go_roundw
            case rel =>
              have hst := aS.set 3 (.int .u32 (add s.d z.d : Nat))
              have hTt := hT.setCell 3 (.int .u32 (add s.d z.d : Nat))
              rw [part_set3] at hst
              rw [addI]
              exact ⟨4, rfl, by omega, hst, hTt⟩
            case measure => simp [intOf]
          · have e1 := aS.cell (part_get4 s z)
            have e2 := aS.frozen 4
            have e3 : ∀ w : World, (Instr.index 79 (.agg #[.int .u32 (z.a : Nat), .int .u32 (z.b : Nat), .int .u32 (z.c : Nat), .int .u32 (z.d : Nat), .int .u32 (z.e : Nat), .int .u32 (z.f : Nat), .int .u32 (z.g : Nat), .int .u32 (z.h : Nat)]) (.int .i64 4)).run Tryd.prog w = .ok (.int .u32 (z.e : Nat)) w := fun _ => by kernel_rfl
            go_wp2_with fail
            go_roundw
            case rel =>
              have hst := aS.set 4 (.int .u32 (add s.e z.e : Nat))
              have hTt := hT.setCell 4 (.int .u32 (add s.e z.e : Nat))
              rw [part_set4] at hst
              rw [addI]
              exact ⟨5, rfl, by omega, hst, hTt⟩
            case measure => simp [intOf]
          · have e1 := aS.cell (part_get5 s z)
            have e2 := aS.frozen 5
            have e3 : ∀ w : World, (Instr.index 79 (.agg #[.int .u32 (z.a : Nat), .int .u32 (z.b : Nat), .int .u32 (z.c : Nat), .int .u32 (z.d : Nat), .int .u32 (z.e : Nat), .int .u32 (z.f : Nat), .int .u32 (z.g : Nat), .int .u32 (z.h : Nat)]) (.int .i64 5)).run Tryd.prog w = .ok (.int .u32 (z.f : Nat)) w := fun _ => by kernel_rfl
            go_wp2_with fail
            go_roundw
            case rel =>
              have hst := aS.set 5 (.int .u32 (add s.f z.f : Nat))
              have hTt := hT.setCell 5 (.int .u32 (add s.f z.f : Nat))
              rw [part_set5] at hst
              rw [addI]
              exact ⟨6, rfl, by omega, hst, hTt⟩
            case measure => simp [intOf]
          · have e1 := aS.cell (part_get6 s z)
            have e2 := aS.frozen 6
            have e3 : ∀ w : World, (Instr.index 79 (.agg #[.int .u32 (z.a : Nat), .int .u32 (z.b : Nat), .int .u32 (z.c : Nat), .int .u32 (z.d : Nat), .int .u32 (z.e : Nat), .int .u32 (z.f : Nat), .int .u32 (z.g : Nat), .int .u32 (z.h : Nat)]) (.int .i64 6)).run Tryd.prog w = .ok (.int .u32 (z.g : Nat)) w := fun _ => by kernel_rfl
            go_wp2_with fail
            go_roundw
            case rel =>
              have hst := aS.set 6 (.int .u32 (add s.g z.g : Nat))
              have hTt := hT.setCell 6 (.int .u32 (add s.g z.g : Nat))
              rw [part_set6] at hst
              rw [addI]
              exact ⟨7, rfl, by omega, hst, hTt⟩
            case measure => simp [intOf]
          · have e1 := aS.cell (part_get7 s z)
            have e2 := aS.frozen 7
            have e3 : ∀ w : World, (Instr.index 79 (.agg #[.int .u32 (z.a : Nat), .int .u32 (z.b : Nat), .int .u32 (z.c : Nat), .int .u32 (z.d : Nat), .int .u32 (z.e : Nat), .int .u32 (z.f : Nat), .int .u32 (z.g : Nat), .int .u32 (z.h : Nat)]) (.int .i64 7)).run Tryd.prog w = .ok (.int .u32 (z.h : Nat)) w := fun _ => by kernel_rfl
            go_wp2_with fail
            go_roundw
            case rel =>
              have hst := aS.set 7 (.int .u32 (add s.h z.h : Nat))
              have hTt := hT.setCell 7 (.int .u32 (add s.h z.h : Nat))
              rw [part_set7] at hst
              rw [addI]
              exact ⟨8, rfl, by omega, hst, hTt⟩
            case measure => simp [intOf]
        · obtain rfl : n = 8 := by omega
          have hR := hT.arr aR (by omega)
          rw [← HZ.out, part_end] at aS
          go_upto_region 16 with (fail)
          refine wp_region_lit (wpList_load_row rfl 79 (.tmp 2) rfl w.heap.size rfl 79 (stCells (press s m)) (0, 0) _ aS Tryd.underlying79 rfl (by kernel_rfl) ?_)
          refine wpList_store_row rfl 79 (.tmp 4) (.tmp 120) rfl (w.heap.size + 1) (stCells (press s m)) rfl rfl 79 Y hR (by kernel_rfl) (by rw [hY8]; rfl) (stCells_one _) ?_
          have gR2 := Arr.setRow hR (stCells (press s m))
          go_wp2_with fail
          refine bodyPost_ret (v := .agg (stCells (press s m))) (results_cell_row rfl _ _ (w.heap.size + 1) 79 _ (0, 0) _ rfl gR2 Tryd.underlying79 rfl (by kernel_rfl)) rfl ?_
          exact ⟨rfl, below_setRow (hb.trans (hT.below (Nat.le_refl _) (by omega))) (by omega) _⟩
end Go.Proofs.YtpimdbnhpbjlkaaDoor.dg
/-! DigLaid -/
namespace Go.Proofs.YtpimdbnhpbjlkaaDoor.dg
open Go.ChangeShapes Go.WideShapes Go.ChangeAt Go.RowKit

theorem own : ownKnob Tryd.prog.godebug = none := by kernel_rfl
theorem gAdds : Tryd.prog.globalNamed "posthorn/digest.roundAdds" = some 0 := by kernel_rfl
theorem tAdds : (Tryd.prog.globals[0]?).map (·.type) = some 89 := by kernel_rfl
def laidAdds : List (String × DataW Unit) := [("posthorn/digest.roundAdds", Rows.laid_posthorn_digest_roundAdds)]
theorem door_met (os : Os) (args : Array Value) : laidMetH Tryd.prog laidAdds ((World.doorLaid Tryd.prog 400 os).forCall (fun _ _ => 0) ⟨#[], args, []⟩).memory :=
  laidMetH_of_parts3 (fuel := 8) (laidMet_of_run' 8 (by kernel_rfl) (by kernel_rfl)) (by kernel_rfl) (by kernel_rfl)

theorem laid_parts : (Rows.laid_posthorn_digest_roundAdds : DataW Unit) = .agg (keys.map fun k => .lit (.int .u32 (k : Nat))) := by kernel_rfl
theorem keys_of {W : World} (h : laidMetH Tryd.prog laidAdds W) : Keys W := by
  rw [MakeChecks.laidMetH_plain _ _ _ (by kernel_rfl)] at h
  obtain ⟨ps, ⟨g0, t0, cs0, f0, p0, q0, hg0, ht0, hv0, hd0, _, _⟩, _, _⟩ := h
  obtain rfl := Option.some.inj (gAdds.symm.trans hg0)
  obtain rfl := Option.some.inj (tAdds.symm.trans ht0)
  obtain ⟨xs, m1, rfl, hx1, hlen, hn3, hel⟩ := DataW.trod_array Tryd.underlying89 hd0
  have c1 : Tryd.prog.cellsOf 78 = 1 := by kernel_rfl
  simp only [Prod.mk.injEq] at hx1
  have hx2 := hx1.1
  rw [laid_parts] at hx2
  simp only [DataW.agg.injEq] at hx2
  intro t ht
  have h0 := hel t ht
  rw [c1, Nat.mul_one, List.getElem?_eq_getElem (by omega)] at h0
  obtain ⟨k, e1, e2, _⟩ := DataW.trod_int Tryd.underlying78 h0
  have e3 := congrArg (fun l => l[t]?) hx2
  simp only [List.getElem?_map, List.getElem?_eq_getElem (show t < xs.length by omega), List.getElem?_eq_getElem (show t < keys.length from ht), Option.map_some, e2, Option.some.injEq, DataW.lit.injEq, Lit.int.injEq, true_and] at e3
  rw [World.var?_cell hg0 hv0 t]
  have e4 := congrArg (fun l => l[0]?) e1
  simp only [List.getElem?_take_of_lt (show 0 < 1 by decide), List.getElem?_drop, Nat.add_zero, List.getElem?_cons_zero] at e4
  rw [← Array.getElem?_toList, e4, ← e3]
  unfold key
  rw [List.getD_eq_getElem?_getD, List.getElem?_eq_getElem (show t < keys.length from ht)]
  rfl
end Go.Proofs.YtpimdbnhpbjlkaaDoor.dg
/-! FlagBase -/
namespace Go.Proofs.YtpimdbnhpbjlkaaDoor.fl
open Go.RowKit

/-- Bytes as a string. -/
def S (l : List UInt8) : ByteArray := ⟨l.toArray⟩
theorem S_size (l : List UInt8) : (S l).size = l.length := rfl
theorem S_data (l : List UInt8) : (S l).data.toList = l := by simp [S]
theorem S_append (a b : List UInt8) : S a ++ S b = S (a ++ b) := ByteArray.mk_append_mk a b
theorem S_inj {a b : List UInt8} (h : S a = S b) : a = b := by rw [← S_data a, h, S_data]
theorem S_of (s : ByteArray) : S s.data.toList = s := by simp [S]
theorem S_get (l : List UInt8) (k : Nat) (h : k < l.length) (h' : k < (S l).size) : (S l)[k]'h' = l[k]'h := rfl
theorem str_size (s : ByteArray) : s.size = s.data.toList.length := by rw [Array.length_toList]; rfl
theorem str_beq (x y : ByteArray) : (x.toList == y.toList) = true ↔ x = y := by
  rw [beq_iff_eq, ByteArray.toList_eq, ByteArray.toList_eq]
  exact ⟨fun h => ByteArray.ext (Array.toList_inj.mp h), fun h => by rw [h]⟩
theorem str_eq {x y : ByteArray} (h : x = y) : (x.toList == y.toList) = true := (str_beq x y).2 h
theorem str_ne {x y : ByteArray} (h : x ≠ y) : (x.toList == y.toList) = false := by
  cases hb : x.toList == y.toList with
  | false => rfl
  | true => exact absurd ((str_beq x y).1 hb) h

def isByte : Option Value → Bool
  | some (.int .u8 _) => true
  | _ => false
def byteOf : Option Value → UInt8
  | some (.int .u8 x) => UInt8.ofNat x.toNat
  | _ => 0
theorem isByte_u8 (x : Int) : isByte (some (.int .u8 x)) = true := rfl
theorem byteOf_u8 (x : Int) : byteOf (some (.int .u8 x)) = UInt8.ofNat x.toNat := rfl
theorem isByte_some {c : Option Value} (h : isByte c = true) : ∃ x, c = some (.int .u8 x) := by
  cases c with
  | none => cases h
  | some v =>
    cases v with
    | int k x => cases k <;> first | exact ⟨_, rfl⟩ | cases h
    | _ => cases h
/-- 'string(one byte)', for the walk to take. -/
theorem conv1 (W : World) (b : Nat) (h0 : isByte (W.cell? ⟨b, 0, none⟩) = true) :
    (convert 75 9 (.slice (some ⟨b, 0, none⟩) 1 1)).run Tryd.prog W = .ok (.string (S [byteOf (W.cell? ⟨b, 0, none⟩)])) W := by
  obtain ⟨x0, e0⟩ := isByte_some h0
  have hr := run_convert_bytes_arg (P := Tryd.prog) W 75 5 Tryd.underlying75 Tryd.underlying5 b 0 1 1 [x0] rfl (fun i hi => by
    match i, hi with
    | 0, _ => simpa using e0) 9 Tryd.underlying9
  rw [hr, e0]
  rfl
end Go.Proofs.YtpimdbnhpbjlkaaDoor.fl
/-! DkSpec -/
namespace Go.Proofs.YtpimdbnhpbjlkaaDoor.dk
set_option linter.unusedVariables false

abbrev Bs := List UInt8
abbrev File := Bs × Bs
structure Call where
  kind : Nat
  name : Bs
  s : Bs
  deriving DecidableEq

def get (l : List File) (n : Bs) : Option Bs := (l.find? fun f => decide (f.1 = n)).map (·.2)
def without (l : List File) (n : Bs) : List File := l.filter fun f => decide (f.1 ≠ n)
def ins (f : File) : List File → List File
  | [] => [f]
  | x :: r => if f.1 < x.1 then f :: x :: r else x :: ins f r
def put (l : List File) (f : File) : List File := ins f (without l f.1)
def steps (c : Call) : Nat := if c.kind = 1 then c.s.length else 1
/-- Files behind the first n steps of a call. -/
def done (l : List File) (c : Call) (n : Nat) : List File :=
  if n < 1 then l else if c.kind = 1 then put l (c.name, (get l c.name).getD [] ++ c.s.take n) else if c.kind = 2 then put l (c.name, c.s) else without l c.name
def used (l : List File) : Nat := (l.map fun f => f.2.length).sum
structure Dk where
  cap : Nat
  seen : List File
  lasts : List File
  pend : List Call
  fused : Bool
  left : Int
def off (d : Dk) : Bool := d.fused && decide (d.left < 1)
def spend (d : Dk) : Dk := if d.fused = true then { d with left := d.left - 1 } else d
def after (l : List File) (c : Call) : List File := if c.kind = 2 then put l (c.name, c.s) else done l c (steps c)
/-- What an Add, a Put, a Drop answers, and what it makes. -/
def turn (d : Dk) (c : Call) : Nat × Dk :=
  if c.name.length < 1 ∨ 80 < c.name.length then (1, d)
  else if off d = true then (8, d)
  else if c.kind = 3 ∧ get d.seen c.name = none then (6, d)
  else if c.kind = 1 ∧ c.s = [] then (0, d)
  else if d.cap < used (after d.seen c) then (7, d)
  else (0, spend { d with seen := after d.seen c, pend := d.pend ++ [c] })
def sync (d : Dk) : Nat × Dk := if off d = true then (8, d) else (0, spend { d with lasts := d.seen, pend := [] })
def read (d : Dk) (n : Bs) : Bs × Nat := if off d = true then ([], 8) else match get d.seen n with
  | none => ([], 6)
  | some s => (s, 0)
def fuse (d : Dk) (n : Int) : Dk := { d with fused := decide (0 ≤ n), left := n }
def count (l : List Call) : Nat := (l.map steps).sum
/-- The pending calls, done again as far as the first k steps go. -/
def again (l : List File) : List Call → Nat → List File
  | [], _ => l
  | c :: r, k => again (done l c (min (steps c) k)) r (k - min (steps c) k)
def crash (d : Dk) (k : Int) : Nat × Dk :=
  if k < 0 ∨ (count d.pend : Int) < k then (1, d)
  else (0, { d with seen := again d.lasts d.pend k.toNat, lasts := again d.lasts d.pend k.toNat, pend := [], fused := false })
def fresh (cap : Nat) : Dk := ⟨cap, [], [], [], false, 0⟩

/-! ### Files -/
theorem lt_irr (a : Bs) : ¬ a < a := List.lt_irrefl a
theorem lt_tr {a b c : Bs} (h : a < b) (k : b < c) : a < c := List.lt_trans h k
theorem lt_tri {a b : Bs} (h : a ≠ b) : a < b ∨ b < a := by
  by_cases h1 : a < b
  · exact .inl h1
  · by_cases h2 : b < a
    · exact .inr h2
    · exact absurd (List.le_antisymm (List.not_lt.1 h2) (List.not_lt.1 h1)) h
def Sorted (l : List File) : Prop := l.Pairwise fun a b => a.1 < b.1
theorem without_sorted {l : List File} (h : Sorted l) (n : Bs) : Sorted (without l n) := h.sublist List.filter_sublist
theorem mem_without {l : List File} {n : Bs} {f : File} : f ∈ without l n ↔ f ∈ l ∧ f.1 ≠ n := by simp [without]
theorem mem_ins {f g : File} : ∀ {l : List File}, g ∈ ins f l ↔ g = f ∨ g ∈ l
  | [] => by simp [ins]
  | x :: r => by
    unfold ins
    split
    · simp
    · rw [List.mem_cons, mem_ins, List.mem_cons]
      constructor
      · rintro (h | h | h)
        · exact .inr (.inl h)
        · exact .inl h
        · exact .inr (.inr h)
      · rintro (h | h | h)
        · exact .inr (.inl h)
        · exact .inl h
        · exact .inr (.inr h)
theorem mem_put {l : List File} {f g : File} : g ∈ put l f ↔ g = f ∨ (g ∈ l ∧ g.1 ≠ f.1) := by unfold put; rw [mem_ins, mem_without]
theorem ins_sorted {f : File} : ∀ {l : List File}, Sorted l → (∀ g ∈ l, g.1 ≠ f.1) → Sorted (ins f l)
  | [], _, _ => List.pairwise_singleton _ _
  | x :: r, h, hn => by
    unfold ins
    obtain ⟨hx, hr⟩ := List.pairwise_cons.1 h
    split
    · next hlt =>
      refine List.pairwise_cons.2 ⟨fun g hg => ?_, h⟩
      rcases List.mem_cons.1 hg with rfl | hg
      · exact hlt
      · exact lt_tr hlt (hx g hg)
    · next hlt =>
      have hxf : x.1 < f.1 := by
        rcases lt_tri (hn x List.mem_cons_self) with h1 | h1
        · exact h1
        · exact absurd h1 hlt
      refine List.pairwise_cons.2 ⟨fun g hg => ?_, ins_sorted hr (fun g hg => hn g (List.mem_cons_of_mem _ hg))⟩
      rcases mem_ins.1 hg with rfl | hg
      · exact hxf
      · exact hx g hg
theorem put_sorted {l : List File} (h : Sorted l) (f : File) : Sorted (put l f) := ins_sorted (without_sorted h _) (fun g hg => (mem_without.1 hg).2)
theorem done_sorted {l : List File} (h : Sorted l) (c : Call) (n : Nat) : Sorted (done l c n) := by
  unfold done
  split
  · exact h
  · split
    · exact put_sorted h _
    · split
      · exact put_sorted h _
      · exact without_sorted h _
theorem get_some {l : List File} {n s : Bs} (h : get l n = some s) : (n, s) ∈ l := by
  unfold get at h
  obtain ⟨f, h1, h2⟩ := Option.map_eq_some_iff.1 h
  have h3 := List.find?_some h1
  have h4 := List.mem_of_find?_eq_some h1
  obtain ⟨a, b⟩ := f
  simp only [decide_eq_true_eq] at h3 h2
  subst h3 h2
  exact h4
theorem get_none {l : List File} {n : Bs} (h : get l n = none) : ∀ f ∈ l, f.1 ≠ n := by
  unfold get at h
  intro f hf
  have := List.find?_eq_none.1 (Option.map_eq_none_iff.1 h) f hf
  simpa using this
theorem get_of_mem {l : List File} (h : Sorted l) {n s : Bs} (hm : (n, s) ∈ l) : get l n = some s := by
  induction l with
  | nil => cases hm
  | cons x r ih =>
    obtain ⟨hx, hr⟩ := List.pairwise_cons.1 h
    unfold get
    rw [List.find?_cons]
    rcases List.mem_cons.1 hm with e | hm
    · subst e
      simp
    · have : x.1 ≠ n := fun e => lt_irr n (by have := hx _ hm; rwa [e] at this)
      simp only [this, decide_false]
      exact ih hr hm
theorem get_eq_none {l : List File} {n : Bs} (h : ∀ f ∈ l, f.1 ≠ n) : get l n = none := by
  unfold get
  rw [Option.map_eq_none_iff, List.find?_eq_none]
  intro f hf
  simpa using h f hf
theorem get_put_same {l : List File} (h : Sorted l) (n s : Bs) : get (put l (n, s)) n = some s := get_of_mem (put_sorted h _) (mem_put.2 (.inl rfl))
theorem get_put_other {l : List File} (h : Sorted l) {n m : Bs} (s : Bs) (hn : m ≠ n) : get (put l (n, s)) m = get l m := by
  cases hg : get l m with
  | none =>
    refine get_eq_none fun f hf => ?_
    rcases mem_put.1 hf with rfl | ⟨hf, _⟩
    · exact fun e => hn e.symm
    · exact get_none hg f hf
  | some t => exact get_of_mem (put_sorted h _) (mem_put.2 (.inr ⟨get_some hg, hn⟩))
theorem get_without_same (l : List File) (n : Bs) : get (without l n) n = none := get_eq_none fun f hf => (mem_without.1 hf).2
theorem get_without_other {l : List File} (h : Sorted l) {n m : Bs} (hn : m ≠ n) : get (without l n) m = get l m := by
  cases hg : get l m with
  | none => exact get_eq_none fun f hf => get_none hg f (mem_without.1 hf).1
  | some t => exact get_of_mem (without_sorted h _) (mem_without.2 ⟨get_some hg, hn⟩)
theorem get_done_other {l : List File} (h : Sorted l) (c : Call) (n : Nat) {m : Bs} (hm : m ≠ c.name) : get (done l c n) m = get l m := by
  unfold done
  split
  · rfl
  · split
    · exact get_put_other h _ hm
    · split
      · exact get_put_other h _ hm
      · exact get_without_other h hm

/-! ### How many bytes -/
theorem used_ins (f : File) : ∀ l : List File, used (ins f l) = f.2.length + used l
  | [] => by simp [ins, used]
  | x :: r => by
    unfold ins
    split
    · simp [used]
    · have := used_ins f r
      simp only [used, List.map_cons, List.sum_cons] at *
      omega
theorem used_without : ∀ {l : List File} (h : Sorted l) (n : Bs), used l = used (without l n) + ((get l n).getD []).length
  | [], _, n => by simp [used, without, get]
  | x :: r, h, n => by
    obtain ⟨hx, hr⟩ := List.pairwise_cons.1 h
    have ih := used_without hr n
    by_cases e : x.1 = n
    · have hall : ∀ f ∈ r, f.1 ≠ n := fun f hf e2 => by
        have := hx f hf
        rw [e, e2] at this
        exact lt_irr _ this
      have hw : without r n = r := by
        unfold without
        rw [List.filter_eq_self]
        intro f hf
        simpa using hall f hf
      have h1 : without (x :: r) n = r := by
        have : without (x :: r) n = without r n := by unfold without; rw [List.filter_cons]; simp [e]
        rw [this, hw]
      have h2 : get (x :: r) n = some x.2 := by
        unfold get
        rw [List.find?_cons]
        simp [e]
      rw [h1, h2]
      simp only [used, List.map_cons, List.sum_cons, Option.getD_some]
      omega
    · have h1 : without (x :: r) n = x :: without r n := by unfold without; rw [List.filter_cons]; simp [e]
      have h2 : get (x :: r) n = get r n := by
        unfold get
        rw [List.find?_cons]
        simp [e]
      rw [h1, h2]
      simp only [used, List.map_cons, List.sum_cons] at *
      omega
theorem used_put {l : List File} (h : Sorted l) (f : File) : used (put l f) + ((get l f.1).getD []).length = used l + f.2.length := by
  unfold put
  rw [used_ins]
  have := used_without h f.1
  omega
theorem used_without_le {l : List File} (h : Sorted l) (n : Bs) : used (without l n) ≤ used l := by have := used_without h n; omega
theorem used_done_le {B : Nat} {l : List File} (h : Sorted l) (c : Call) (n : Nat) (hn : n ≤ steps c) (hl : used l ≤ B) (hf : used (done l c (steps c)) ≤ B) : used (done l c n) ≤ B := by
  by_cases h0 : n < 1
  · unfold done; rw [if_pos h0]; exact hl
  · by_cases h1 : c.kind = 1
    · have hs : steps c = c.s.length := by unfold steps; rw [if_pos h1]
      rw [hs] at hn hf
      have e1 : done l c n = put l (c.name, (get l c.name).getD [] ++ c.s.take n) := by unfold done; rw [if_neg h0, if_pos h1]
      have e2 : done l c c.s.length = put l (c.name, (get l c.name).getD [] ++ c.s.take c.s.length) := by unfold done; rw [if_neg (by omega), if_pos h1]
      rw [e1]
      rw [e2] at hf
      have u1 := used_put h (c.name, (get l c.name).getD [] ++ c.s.take n)
      have u2 := used_put h (c.name, (get l c.name).getD [] ++ c.s.take c.s.length)
      simp only [List.length_append, List.length_take] at u1 u2
      omega
    · have hs : steps c = 1 := by unfold steps; rw [if_neg h1]
      rw [hs] at hn hf
      obtain rfl : n = 1 := by omega
      exact hf
end Go.Proofs.YtpimdbnhpbjlkaaDoor.dk
/-! DkMath -/
namespace Go.Proofs.YtpimdbnhpbjlkaaDoor.dk
set_option linter.unusedVariables false

/-! ### Calls done again -/
/-- All of them. -/
def full (l : List File) (p : List Call) : List File := p.foldl (fun l c => done l c (steps c)) l
theorem full_snoc (l : List File) (p : List Call) (c : Call) : full l (p ++ [c]) = done (full l p) c (steps c) := by simp [full]
theorem count_append (p q : List Call) : count (p ++ q) = count p + count q := by simp [count]
theorem done_zero (l : List File) (c : Call) : done l c 0 = l := by unfold done; rw [if_pos (by omega)]
theorem again_zero (l : List File) : ∀ p : List Call, again l p 0 = l
  | [] => rfl
  | c :: r => by
    unfold again
    rw [Nat.min_zero, done_zero, Nat.sub_zero, again_zero l r]
theorem again_append : ∀ (l : List File) (p q : List Call) (k : Nat), count p ≤ k → again l (p ++ q) k = again (full l p) q (k - count p)
  | l, [], q, k, _ => by simp [full, count]
  | l, c :: r, q, k, h => by
    have hc : count (c :: r) = steps c + count r := by simp [count]
    rw [hc] at h ⊢
    rw [List.cons_append, again, Nat.min_eq_left (by omega), again_append _ r q _ (by omega)]
    have : full l (c :: r) = full (done l c (steps c)) r := rfl
    rw [this, Nat.sub_sub]
theorem again_full (l : List File) (p : List Call) (k : Nat) (h : count p ≤ k) : again l p k = full l p := by
  have := again_append l p [] k h
  rwa [List.append_nil] at this
/-- Where the steps end within a call. -/
theorem again_cut (l : List File) (p : List Call) (c : Call) (q : List Call) (k : Nat) (h : count p ≤ k) (h2 : k < count p + steps c) : again l (p ++ c :: q) k = done (full l p) c (k - count p) := by
  rw [again_append l p (c :: q) k h, again, Nat.min_eq_right (by omega), Nat.sub_self, again_zero]
theorem full_sorted {l : List File} (h : Sorted l) (p : List Call) : Sorted (full l p) := by
  induction p generalizing l with
  | nil => exact h
  | cons c r ih => exact ih (done_sorted h c _)
theorem again_sorted {l : List File} (h : Sorted l) : ∀ (p : List Call) (k : Nat), Sorted (again l p k) := by
  intro p
  induction p generalizing l with
  | nil => intro k; exact h
  | cons c r ih => intro k; exact ih (done_sorted h c _) _
theorem again_get {l : List File} (h : Sorted l) {n : Bs} : ∀ (p : List Call) (k : Nat), (∀ c ∈ p, c.name ≠ n) → get (again l p k) n = get l n := by
  intro p
  induction p generalizing l with
  | nil => intro k _; rfl
  | cons c r ih =>
    intro k hp
    unfold again
    rw [ih (done_sorted h c _) _ (fun x hx => hp x (List.mem_cons_of_mem _ hx)), get_done_other h c _ (fun e => hp c List.mem_cons_self e.symm)]

/-! ### What every disk keeps -/
def Named (n : Bs) : Prop := 1 ≤ n.length ∧ n.length ≤ 80
def Good (c : Call) : Prop := Named c.name ∧ (c.kind = 1 → c.s ≠ [])
theorem steps_pos {c : Call} (h : Good c) : 1 ≤ steps c := by
  unfold steps
  split
  · next hk =>
    have := h.2 hk
    cases hs : c.s with
    | nil => exact absurd hs this
    | cons => simp
  · omega
theorem done_named {l : List File} (hl : ∀ f ∈ l, Named f.1) {c : Call} (hc : Good c) (n : Nat) : ∀ f ∈ done l c n, Named f.1 := by
  intro f hf
  unfold done at hf
  split at hf
  · exact hl f hf
  · split at hf
    · rcases mem_put.1 hf with rfl | ⟨hf, _⟩
      · exact hc.1
      · exact hl f hf
    · split at hf
      · rcases mem_put.1 hf with rfl | ⟨hf, _⟩
        · exact hc.1
        · exact hl f hf
      · exact hl f (mem_without.1 hf).1
structure Right (d : Dk) : Prop where
  cap : d.cap ≤ 1048576
  so : Sorted d.lasts
  nl : ∀ f ∈ d.lasts, Named f.1
  np : ∀ c ∈ d.pend, Good c
  seen : d.seen = full d.lasts d.pend
  room : ∀ j, used (full d.lasts (d.pend.take j)) ≤ d.cap
theorem Right.sorted {d : Dk} (h : Right d) : Sorted d.seen := h.seen ▸ full_sorted h.so _
theorem full_named {l : List File} (hl : ∀ f ∈ l, Named f.1) : ∀ (p : List Call), (∀ c ∈ p, Good c) → ∀ f ∈ full l p, Named f.1 := by
  intro p
  induction p generalizing l with
  | nil => intro _; exact hl
  | cons c r ih => intro hp; exact ih (done_named hl (hp c List.mem_cons_self) _) (fun x hx => hp x (List.mem_cons_of_mem _ hx))
theorem Right.named {d : Dk} (h : Right d) : ∀ f ∈ d.seen, Named f.1 := by rw [h.seen]; exact full_named h.nl _ h.np
theorem Right.used {d : Dk} (h : Right d) : used d.seen ≤ d.cap := by
  have := h.room d.pend.length
  rw [List.take_length] at this
  rwa [h.seen]
theorem fresh_right {cap : Nat} (h : cap ≤ 1048576) : Right (fresh cap) :=
  ⟨h, List.Pairwise.nil, fun f hf => (by cases hf), fun c hc => (by cases hc), rfl, fun j => by show used (full [] (([] : List Call).take j)) ≤ cap; simp [full, dk.used]⟩
theorem spend_parts (d : Dk) : (spend d).cap = d.cap ∧ (spend d).seen = d.seen ∧ (spend d).lasts = d.lasts ∧ (spend d).pend = d.pend ∧ (spend d).fused = d.fused := by
  unfold spend; split <;> simp
theorem spend_right {d : Dk} (h : Right d) : Right (spend d) := by
  obtain ⟨e1, e2, e3, e4, _⟩ := spend_parts d
  exact ⟨by rw [e1]; exact h.cap, by rw [e3]; exact h.so, by rw [e3]; exact h.nl, by rw [e4]; exact h.np, by rw [e2, e3, e4]; exact h.seen, by rw [e1, e3, e4]; exact h.room⟩
theorem after_done {l : List File} {c : Call} (h : Good c) : after l c = done l c (steps c) := by
  unfold after
  split
  · next hk =>
    have : steps c = 1 := by unfold steps; rw [if_neg (by omega)]
    rw [this]
    unfold done
    rw [if_neg (by omega), if_neg (by omega), if_pos hk]
  · rfl
/-- The ways of a call. -/
theorem turn_cases (d : Dk) (c : Call) : (turn d c).2 = d ∨ ((turn d c).1 = 0 ∧ Good c ∧ used (done d.seen c (steps c)) ≤ d.cap ∧ (turn d c).2 = spend { d with seen := done d.seen c (steps c), pend := d.pend ++ [c] }) := by
  unfold turn
  by_cases h1 : c.name.length < 1 ∨ 80 < c.name.length
  · rw [if_pos h1]; exact .inl rfl
  rw [if_neg h1]
  by_cases h2 : off d = true
  · rw [if_pos h2]; exact .inl rfl
  rw [if_neg h2]
  by_cases h3 : c.kind = 3 ∧ get d.seen c.name = none
  · rw [if_pos h3]; exact .inl rfl
  rw [if_neg h3]
  by_cases h4 : c.kind = 1 ∧ c.s = []
  · rw [if_pos h4]; exact .inl rfl
  rw [if_neg h4]
  have hg : Good c := ⟨by unfold Named; omega, fun hk e => h4 ⟨hk, e⟩⟩
  by_cases h5 : d.cap < used (after d.seen c)
  · rw [if_pos h5]; exact .inl rfl
  rw [if_neg h5]
  rw [after_done hg] at h5 ⊢
  exact .inr ⟨rfl, hg, by omega, rfl⟩
theorem push_right {d : Dk} (h : Right d) {c : Call} (hc : Good c) (hu : dk.used (done d.seen c (steps c)) ≤ d.cap) : Right { d with seen := done d.seen c (steps c), pend := d.pend ++ [c] } := by
  refine ⟨h.cap, h.so, h.nl, fun x hx => ?_, ?_, fun j => ?_⟩
  · rcases List.mem_append.1 hx with hx | hx
    · exact h.np x hx
    · rw [List.mem_singleton.1 hx]; exact hc
  · show done d.seen c (steps c) = full d.lasts (d.pend ++ [c])
    rw [full_snoc, ← h.seen]
  · show dk.used (full d.lasts ((d.pend ++ [c]).take j)) ≤ d.cap
    by_cases hj : j ≤ d.pend.length
    · rw [List.take_append_of_le_length hj]; exact h.room j
    · rw [List.take_of_length_le (by simp; omega), full_snoc, ← h.seen]; exact hu
theorem turn_right {d : Dk} (h : Right d) (c : Call) : Right (turn d c).2 := by
  rcases turn_cases d c with e | ⟨_, hg, hu, e⟩
  · rw [e]; exact h
  · rw [e]; exact spend_right (push_right h hg hu)
theorem turn_refused {d : Dk} {c : Call} (h : (turn d c).1 ≠ 0) : (turn d c).2 = d := by
  rcases turn_cases d c with e | ⟨e, _⟩
  · exact e
  · exact absurd e h
theorem sync_right {d : Dk} (h : Right d) : Right (sync d).2 := by
  unfold sync
  split
  · exact h
  · refine spend_right ⟨h.cap, h.sorted, h.named, fun c hc => (by cases hc), rfl, fun j => ?_⟩
    show dk.used (full d.seen (([] : List Call).take j)) ≤ d.cap
    simpa [full] using h.used
theorem again_room {cap : Nat} : ∀ (l : List File) (p : List Call) (k : Nat), Sorted l → (∀ j, dk.used (full l (p.take j)) ≤ cap) → dk.used (again l p k) ≤ cap
  | l, [], k, _, h => by
    show dk.used l ≤ cap
    simpa [full] using h 0
  | l, c :: r, k, hs, h => by
    unfold again
    have h0 : dk.used l ≤ cap := by simpa [full] using h 0
    have h1 : dk.used (done l c (steps c)) ≤ cap := by simpa [full] using h 1
    by_cases hk : steps c ≤ k
    · rw [Nat.min_eq_left hk]
      refine again_room _ r _ (done_sorted hs c _) fun j => ?_
      have := h (j + 1)
      rwa [List.take_succ_cons] at this
    · rw [Nat.min_eq_right (by omega), Nat.sub_self, again_zero]
      exact used_done_le hs c k (by omega) h0 h1
theorem again_named {l : List File} (hl : ∀ f ∈ l, Named f.1) : ∀ (p : List Call) (k : Nat), (∀ c ∈ p, Good c) → ∀ f ∈ again l p k, Named f.1 := by
  intro p
  induction p generalizing l with
  | nil => intro _ _; exact hl
  | cons c r ih => intro k hp; exact ih (done_named hl (hp c List.mem_cons_self) _) _ (fun x hx => hp x (List.mem_cons_of_mem _ hx))
theorem crash_right {d : Dk} (h : Right d) (k : Int) : Right (crash d k).2 := by
  unfold crash
  split
  · exact h
  · refine ⟨h.cap, again_sorted h.so _ _, again_named h.nl _ _ h.np, fun c hc => (by cases hc), rfl, fun j => ?_⟩
    have := again_room d.lasts d.pend k.toNat h.so h.room
    simpa [full] using this
theorem crash_ok {d : Dk} {k : Nat} (h : k ≤ count d.pend) : crash d (k : Int) = (0, { d with seen := again d.lasts d.pend k, lasts := again d.lasts d.pend k, pend := [], fused := false }) := by
  unfold crash
  rw [if_neg (by omega)]
  simp
theorem fuse_right {d : Dk} (h : Right d) (n : Int) : Right (fuse d n) := ⟨h.cap, h.so, h.nl, h.np, h.seen, h.room⟩

/-! ### A script of turns -/
def all (d : Dk) (l : List Call) : Dk := l.foldl (fun d c => if 1 ≤ c.kind ∧ c.kind ≤ 3 then (turn d c).2 else d) d
theorem all_snoc (d : Dk) (l : List Call) (c : Call) : all d (l ++ [c]) = if 1 ≤ c.kind ∧ c.kind ≤ 3 then (turn (all d l) c).2 else all d l := by simp [all]
theorem all_cons (d : Dk) (c : Call) (l : List Call) : all d (c :: l) = all (if 1 ≤ c.kind ∧ c.kind ≤ 3 then (turn d c).2 else d) l := rfl
theorem all_right {d : Dk} (h : Right d) : ∀ l, Right (all d l) := by
  intro l
  induction l generalizing d with
  | nil => exact h
  | cons c r ih =>
    rw [all_cons]
    split
    · exact ih (turn_right h c)
    · exact ih h
theorem turn_kept (d : Dk) (c : Call) : (turn d c).2.lasts = d.lasts ∧ (turn d c).2.fused = d.fused ∧ (turn d c).2.cap = d.cap ∧ ∃ p, (turn d c).2.pend = d.pend ++ p ∧ (p = [] ∨ p = [c]) := by
  rcases turn_cases d c with e | ⟨_, _, _, e⟩
  · rw [e]; exact ⟨rfl, rfl, rfl, [], by simp, .inl rfl⟩
  · rw [e]
    obtain ⟨e1, e2, e3, e4, e5⟩ := spend_parts { d with seen := done d.seen c (steps c), pend := d.pend ++ [c] }
    exact ⟨e3, e5, e1, [c], by rw [e4], .inr rfl⟩
theorem all_kept (d : Dk) : ∀ l, (all d l).lasts = d.lasts ∧ (all d l).fused = d.fused ∧ (all d l).cap = d.cap ∧ ∃ p, (all d l).pend = d.pend ++ p ∧ ∀ c ∈ p, c ∈ l := by
  intro l
  induction l generalizing d with
  | nil => exact ⟨rfl, rfl, rfl, [], by simp [all], fun c hc => by cases hc⟩
  | cons c r ih =>
    rw [all_cons]
    split
    · obtain ⟨h1, h2, h3, p, h4, h5⟩ := turn_kept d c
      obtain ⟨g1, g2, g3, q, g4, g5⟩ := ih (turn d c).2
      refine ⟨g1.trans h1, g2.trans h2, g3.trans h3, p ++ q, by rw [g4, h4, List.append_assoc], fun x hx => ?_⟩
      rcases List.mem_append.1 hx with hx | hx
      · rcases h5 with e | e
        · rw [e] at hx; cases hx
        · rw [e] at hx; rw [List.mem_singleton.1 hx]; exact List.mem_cons_self
      · exact List.mem_cons_of_mem _ (g5 x hx)
    · obtain ⟨g1, g2, g3, q, g4, g5⟩ := ih d
      exact ⟨g1, g2, g3, q, g4, fun x hx => List.mem_cons_of_mem _ (g5 x hx)⟩
theorem off_not {d : Dk} (h : d.fused = false) : off d = false := by unfold off; rw [h]; rfl

/-! ### The laws -/
/-- What was synced, and not turned since, is there behind every crash. -/
theorem synced {d : Dk} (h : Right d) (hp : d.pend = []) (l : List Call) (k : Nat) {n : Bs} (hn : ∀ c ∈ l, c.name ≠ n) : get (again (all d l).lasts (all d l).pend k) n = get d.seen n := by
  obtain ⟨h1, _, _, p, h2, h3⟩ := all_kept d l
  have hr := all_right h l
  rw [again_get hr.so _ _ (fun c hc => by
    rw [h2, hp, List.nil_append] at hc
    exact hn c (h3 c hc)), h1]
  have := h.seen
  rw [hp] at this
  rw [this]
  rfl

/-- What the law's loop tells: 'some' files, if it ends there; t goes on. -/
def upto (t : Dk) (k : Nat) : List Call → List File
  | [] => t.seen
  | c :: r =>
    if 1 ≤ c.kind ∧ c.kind ≤ 3 then
      if (turn t c).1 ≠ 0 then upto t k r
      else if k < count (turn t c).2.pend then (if c.kind = 1 ∧ count t.pend < k then (turn t { c with s := c.s.take (k - count t.pend) }).2.seen else t.seen)
      else upto (turn t c).2 k r
    else upto t k r
theorem begins : ∀ (l : List Call) (t : Dk), Right t → t.fused = false → ∀ k, count t.pend ≤ k → again (all t l).lasts (all t l).pend k = upto t k l
  | [], t, h, hf, k, hk => by
    show again t.lasts t.pend k = t.seen
    rw [again_full _ _ _ hk, h.seen]
  | c :: r, t, h, hf, k, hk => by
    rw [all_cons, upto]
    by_cases hc : 1 ≤ c.kind ∧ c.kind ≤ 3
    · rw [if_pos hc, if_pos hc]
      by_cases he : (turn t c).1 ≠ 0
      · rw [if_pos he, turn_refused he]
        exact begins r t h hf k hk
      · rw [if_neg he]
        have hft : (turn t c).2.fused = false := (turn_kept t c).2.1.trans hf
        by_cases hn : k < count (turn t c).2.pend
        · rw [if_pos hn]
          rcases turn_cases t c with e | ⟨e0, hg, hu, e⟩
          · rw [e] at hn; omega
          · obtain ⟨e1, e2, e3, e4, e5⟩ := spend_parts { t with seen := done t.seen c (steps c), pend := t.pend ++ [c] }
            obtain ⟨g1, _, _, q, g4, _⟩ := all_kept (turn t c).2 r
            have hl : (all (turn t c).2 r).lasts = t.lasts := by rw [g1, e, e3]
            have hp : (all (turn t c).2 r).pend = t.pend ++ c :: q := by rw [g4, e, e4]; simp
            have hcn : count (turn t c).2.pend = count t.pend + steps c := by rw [e, e4, count_append]; simp [count]
            rw [hcn] at hn
            rw [hl, hp, again_cut _ _ _ _ _ hk hn, ← h.seen]
            by_cases h1 : c.kind = 1 ∧ count t.pend < k
            · rw [if_pos h1]
              have hs : steps c = c.s.length := by unfold steps; rw [if_pos h1.1]
              have hu' : used (done t.seen c (k - count t.pend)) ≤ t.cap := used_done_le h.sorted c _ (by omega) h.used hu
              -- the shorter Add
              have hdone : done t.seen c (k - count t.pend) = after t.seen { c with s := c.s.take (k - count t.pend) } := by
                obtain ⟨m, hm⟩ : ∃ m, k - count t.pend = m := ⟨_, rfl⟩
                have hm1 : 1 ≤ m := by omega
                have hms : m < c.s.length := by rw [hs] at hn; omega
                rw [hm]
                have hk1 : ({ c with s := c.s.take m } : Call).kind = 1 := h1.1
                have hs' : steps { c with s := c.s.take m } = (c.s.take m).length := by unfold steps; rw [if_pos hk1]
                have hp1 : 1 ≤ (c.s.take m).length := by rw [List.length_take]; omega
                have e1 : done t.seen c m = put t.seen (c.name, (get t.seen c.name).getD [] ++ c.s.take m) := by unfold done; rw [if_neg (by omega), if_pos h1.1]
                have e2 : after t.seen { c with s := c.s.take m } = put t.seen (c.name, (get t.seen c.name).getD [] ++ c.s.take m) := by
                  unfold after
                  rw [if_neg (by rw [hk1]; decide), hs']
                  unfold done
                  rw [if_neg (by omega), if_pos hk1]
                  simp only [List.take_length]
                rw [e1, e2]
              have hk3 : ¬ ({ c with s := c.s.take (k - count t.pend) } : Call).kind = 3 := by show ¬ c.kind = 3; omega
              have hne : ¬ ({ c with s := c.s.take (k - count t.pend) } : Call).s = [] := by
                intro hh
                have := congrArg List.length hh
                rw [List.length_take, List.length_nil] at this
                rw [hs] at hn
                omega
              have hnm : ¬ (({ c with s := c.s.take (k - count t.pend) } : Call).name.length < 1 ∨ 80 < ({ c with s := c.s.take (k - count t.pend) } : Call).name.length) := by
                have := hg.1
                unfold Named at this
                show ¬ (c.name.length < 1 ∨ 80 < c.name.length)
                omega
              rw [hdone] at hu' ⊢
              unfold turn
              rw [if_neg hnm, if_neg (by rw [off_not hf]; decide), if_neg (fun hh => hk3 hh.1), if_neg (fun hh => hne hh.2), if_neg (by omega)]
              exact (spend_parts { t with seen := after t.seen { c with s := c.s.take (k - count t.pend) }, pend := t.pend ++ [{ c with s := c.s.take (k - count t.pend) }] }).2.1.symm
            · rw [if_neg h1]
              have : k - count t.pend = 0 := by
                by_cases hk1 : c.kind = 1
                · omega
                · have : steps c = 1 := by unfold steps; rw [if_neg hk1]
                  omega
              rw [this, done_zero]
        · rw [if_neg hn]
          exact begins r _ (turn_right h c) hft k (by omega)
    · rw [if_neg hc, if_neg hc]
      exact begins r t h hf k hk
/-- What is taken away makes room. -/
theorem makes_room {d : Dk} (h : Right d) (hf : d.fused = false) {n s : Bs} (hg : get d.seen n = some s) :
    (turn d ⟨3, n, []⟩).1 = 0 ∧ used (turn d ⟨3, n, []⟩).2.seen = used d.seen - s.length ∧ (turn (turn d ⟨3, n, []⟩).2 ⟨3, n, []⟩).1 = 6 ∧
      (turn (turn d ⟨3, n, []⟩).2 ⟨2, n, s⟩).1 = 0 ∧ used (turn (turn d ⟨3, n, []⟩).2 ⟨2, n, s⟩).2.seen = used d.seen := by
  have hn : Named n := h.named _ (get_some hg)
  have h1 : ¬ (n.length < 1 ∨ 80 < n.length) := by unfold Named at hn; omega
  have hw := used_without h.sorted n
  rw [hg] at hw
  simp only [Option.getD_some] at hw
  have ha : after d.seen ⟨3, n, []⟩ = without d.seen n := by simp [after, done, steps]
  have ht : turn d ⟨3, n, []⟩ = (0, spend { d with seen := without d.seen n, pend := d.pend ++ [⟨3, n, []⟩] }) := by
    unfold turn
    simp only
    rw [if_neg h1, if_neg (by rw [off_not hf]; decide), if_neg (by rw [hg]; simp), if_neg (by simp), ha, if_neg (by have := h.used; omega)]
  obtain ⟨e1, e2, e3, e4, e5⟩ := spend_parts { d with seen := without d.seen n, pend := d.pend ++ [⟨3, n, []⟩] }
  have hs := without_sorted h.sorted n
  have hwn := get_without_same d.seen n
  have hu := h.used
  have t1 : (turn d ⟨3, n, []⟩).1 = 0 := by rw [ht]
  have t2 : (turn d ⟨3, n, []⟩).2 = spend { d with seen := without d.seen n, pend := d.pend ++ [⟨3, n, []⟩] } := by rw [ht]
  rw [t1, t2]
  generalize spend { d with seen := without d.seen n, pend := d.pend ++ [⟨3, n, []⟩] } = d1 at *
  have hcap : d1.cap = d.cap := e1
  have hseen : d1.seen = without d.seen n := e2
  have hoff : ¬ off d1 = true := by rw [off_not (e5.trans hf)]; decide
  have hp := used_put hs (n, s)
  simp only [hwn, Option.getD_none, List.length_nil] at hp
  have haf : after d1.seen ⟨2, n, s⟩ = put (without d.seen n) (n, s) := by rw [hseen]; simp [after]
  have t3 : turn d1 ⟨2, n, s⟩ = (0, spend { d1 with seen := after d1.seen ⟨2, n, s⟩, pend := d1.pend ++ [⟨2, n, s⟩] }) := by
    unfold turn
    rw [if_neg h1, if_neg hoff, if_neg (fun hh => absurd hh.1 (show ¬ (2 = 3) by decide)), if_neg (fun hh => absurd hh.1 (show ¬ (2 = 1) by decide)), if_neg (by rw [haf, hcap]; omega)]
  have t4 : (turn d1 ⟨3, n, []⟩).1 = 6 := by
    unfold turn
    rw [if_neg h1, if_neg hoff, if_pos ⟨rfl, by rw [hseen]; exact hwn⟩]
  obtain ⟨_, f2, _⟩ := spend_parts { d1 with seen := after d1.seen ⟨2, n, s⟩, pend := d1.pend ++ [⟨2, n, s⟩] }
  refine ⟨rfl, by rw [hseen]; omega, t4, by rw [t3], ?_⟩
  rw [t3]
  show used (spend { d1 with seen := after d1.seen ⟨2, n, s⟩, pend := d1.pend ++ [⟨2, n, s⟩] }).seen = _
  rw [f2]
  show used (after d1.seen ⟨2, n, s⟩) = _
  rw [haf]
  omega
end Go.Proofs.YtpimdbnhpbjlkaaDoor.dk
/-! Rw -/
namespace Go.Proofs.YtpimdbnhpbjlkaaDoor.rw
set_option linter.unusedVariables false
open Go.RowKit

theorem addr_add (b off j : Nat) : (⟨b, off, none⟩ : Addr).add j = ⟨b, off + j, none⟩ := by unfold Addr.add; split <;> simp_all
theorem below_drew {B : Nat} {a w : World} (h : Below B a w) : Below B a w.drew := ⟨h.os, h.tape, h.output, h.size, h.block⟩
theorem below_drewN {B : Nat} {a w : World} (h : Below B a w) (n : Nat) : Below B a (w.drewN n) := ⟨h.os, h.tape, h.output, h.size, h.block⟩
theorem below_box (w : World) (o : Obj) : Below w.heap.size w (w.alloc o) := (Below.refl _ w).alloc (Nat.le_refl _) _
theorem bnext {w w1 w2 : World} (h : Below w.heap.size w w1) (k : Below w1.heap.size w1 w2) : Below w.heap.size w w2 := h.trans (k.mono h.size)
theorem size_1 (w : World) (o : Obj) : (w.alloc o).heap.size = w.heap.size + 1 := by simp

/-- A block's cells. -/
def Arr (w : World) (b : Nat) (t : TypeId) (cs : Array Value) : Prop := w.heap[b]? = some (.cells cs t (0, 0))
theorem Arr.lt {w : World} {b : Nat} {t : TypeId} {cs : Array Value} (h : Arr w b t cs) : b < w.heap.size := (Array.getElem?_eq_some_iff.1 h).1
theorem Arr.cell {w : World} {b : Nat} {t : TypeId} {cs : Array Value} (h : Arr w b t cs) {j : Nat} {v : Value} (hv : cs[j]? = some v) : w.cell? ⟨b, j, none⟩ = some v := (cell_of_row w b j cs t (0, 0) h).trans hv
theorem Arr.frozen {w : World} {b : Nat} {t : TypeId} {cs : Array Value} (h : Arr w b t cs) (j : Nat) : w.frozen? ⟨b, j, none⟩ = false := frozen_of_row w b j cs t h
theorem Arr.set {w : World} {b : Nat} {t : TypeId} {cs : Array Value} (h : Arr w b t cs) (j : Nat) (v : Value) : Arr (w.setCell ⟨b, j, none⟩ v) b t (cs.setIfInBounds j v) := heap_setCell_same w b j cs t v h
theorem Arr.new (w : World) (t : TypeId) (cs : Array Value) : Arr (w.alloc (.cells cs t)) w.heap.size t cs := heap_alloc_new w _
theorem Arr.of {w w' : World} {b : Nat} {t : TypeId} {cs : Array Value} (h : Arr w b t cs) (hb : w'.heap[b]? = w.heap[b]?) : Arr w' b t cs := hb.trans h
theorem Arr.below {w w' : World} {b : Nat} {t : TypeId} {cs : Array Value} (h : Arr w b t cs) (k : Below w.heap.size w w') : Arr w' b t cs := h.of (k.block b h.lt)

/-- All but one block is as it was. -/
structure But (q : Nat) (w w' : World) : Prop where
  os : w'.os = w.os
  tape : w'.tape = w.tape
  output : w'.output = w.output
  size : w.heap.size ≤ w'.heap.size
  block : ∀ k, k < w.heap.size → k ≠ q → w'.heap[k]? = w.heap[k]?
theorem But.refl (q : Nat) (w : World) : But q w w := ⟨rfl, rfl, rfl, Nat.le_refl _, fun _ _ _ => rfl⟩
theorem But.trans {q : Nat} {a b c : World} (h : But q a b) (k : But q b c) : But q a c :=
  ⟨k.os.trans h.os, k.tape.trans h.tape, k.output.trans h.output, Nat.le_trans h.size k.size, fun i hi hq => (k.block i (Nat.lt_of_lt_of_le hi h.size) hq).trans (h.block i hi hq)⟩
theorem But.of_below {q : Nat} {w w' : World} (h : Below w.heap.size w w') : But q w w' := ⟨h.os, h.tape, h.output, h.size, fun k hk _ => h.block k hk⟩
theorem But.then_below {q : Nat} {a b c : World} (h : But q a b) (k : Below b.heap.size b c) : But q a c := h.trans (But.of_below k)
theorem But.set {q : Nat} {a w : World} (h : But q a w) (j : Nat) (u : Value) : But q a (w.setCell ⟨q, j, none⟩ u) :=
  ⟨h.os, h.tape, h.output, by have := h.size; simpa [World.setCell] using this, fun k hk hq => (Below.heap_setCell w _ u k hq).trans (h.block k hk hq)⟩
theorem But.alloc {q : Nat} {a w : World} (h : But q a w) (o : Obj) : But q a (w.alloc o) :=
  ⟨h.os, h.tape, h.output, by have := h.size; simp; omega, fun k hk hq => (Below.heap_alloc w o k (Nat.lt_of_lt_of_le hk h.size)).trans (h.block k hk hq)⟩
theorem But.drew {q : Nat} {a w : World} (h : But q a w) : But q a w.drew := ⟨h.os, h.tape, h.output, h.size, h.block⟩
theorem But.drewN {q : Nat} {a w : World} (h : But q a w) (n : Nat) : But q a (w.drewN n) := ⟨h.os, h.tape, h.output, h.size, h.block⟩
theorem But.below {q : Nat} {w w' : World} (h : But q w w') {B : Nat} (hB : B ≤ w.heap.size) (hq : B ≤ q) : Below B w w' :=
  ⟨h.os, h.tape, h.output, h.size, fun k hk => h.block k (by omega) (by omega)⟩
theorem But.arr {q : Nat} {w w' : World} (h : But q w w') {b : Nat} {t : TypeId} {cs : Array Value} (hA : Arr w b t cs) (hq : b ≠ q) : Arr w' b t cs := hA.of (h.block b hA.lt hq)
theorem But.cell {q : Nat} {w w' : World} (h : But q w w') {b j : Nat} {v : Value} (hv : w.cell? ⟨b, j, none⟩ = some v) (hq : b ≠ q) : w'.cell? ⟨b, j, none⟩ = some v :=
  (World.cell?_of_block (h.block b (World.block_lt_of_cell? w _ hv) hq)).trans hv

/-- What a row's elements are: their type, their slices' type, their cells. -/
structure Sh (α : Type) where
  t : TypeId
  st : TypeId
  k : Nat
  bytes : Nat
  z : Value
  enc : α → List Value
  hu : Tryd.prog.underlying st = some (.slice t)
  hi : (Tryd.prog.info? t).map (fun i => (i.zero, i.size, i.bytes)) = some (some z, k, bytes)
  hz : z.cells.size = k
  hk : 0 < k
  hb : bytes ≤ 4096
  len : ∀ x, (enc x).length = k
  one : ∀ x, ∀ u ∈ enc x, u.oneCell' = true

section
variable {α : Type} (s : Sh α)
def cellsG (l : List α) : List Value := l.flatMap s.enc
theorem cellsG_length (l : List α) : (cellsG s l).length = l.length * s.k := by
  induction l with
  | nil => simp [cellsG]
  | cons x l ih =>
    unfold cellsG at *
    rw [List.flatMap_cons, List.length_append, ih, s.len, List.length_cons, Nat.add_mul]
    omega
theorem cellsG_append (a b : List α) : cellsG s (a ++ b) = cellsG s a ++ cellsG s b := by simp [cellsG]
theorem cellsG_one (x : α) : cellsG s [x] = s.enc x := by simp [cellsG]
theorem cellsG_get : ∀ (l : List α) (j : Nat) (hj : j < l.length) (i : Nat), i < s.k → (cellsG s l)[j * s.k + i]? = (s.enc l[j])[i]?
  | x :: l, 0, hj, i, hi => by
    unfold cellsG
    rw [List.flatMap_cons, List.getElem?_append_left (by rw [s.len]; omega)]
    simp
  | x :: l, j + 1, hj, i, hi => by
    have ih := cellsG_get l j (by simpa using hj) i hi
    unfold cellsG at *
    have e : (j + 1) * s.k + i = s.k + (j * s.k + i) := by rw [Nat.add_mul]; omega
    rw [List.flatMap_cons, List.getElem?_append_right (by rw [s.len]; omega), s.len, e, Nat.add_sub_cancel_left]
    simpa using ih
theorem cellsG_cell {l : List α} : ∀ u ∈ cellsG s l, u.oneCell' = true := by
  intro u hu
  obtain ⟨x, _, h⟩ := List.mem_flatMap.1 hu
  exact s.one x u h
/-- A row, or none. -/
def Row (w : World) (a : Option Addr) (l : List α) : Prop :=
  l = [] ∨ ∃ b off, a = some ⟨b, off, none⟩ ∧ b < w.heap.size ∧ (∀ j (h : j < l.length) i (hi : i < s.k), w.cell? ⟨b, off + j * s.k + i, none⟩ = (s.enc l[j])[i]?)
theorem Row.keep {w w' : World} {a : Option Addr} {l : List α} (h : Row s w a l) (hs : w.heap.size ≤ w'.heap.size) (hb : ∀ b off, a = some ⟨b, off, none⟩ → b < w.heap.size → w'.heap[b]? = w.heap[b]?) : Row s w' a l := by
  rcases h with h | ⟨b, off, e, hl, hc⟩
  · exact .inl h
  · exact .inr ⟨b, off, e, Nat.lt_of_lt_of_le hl hs, fun j hj i hi => (World.cell?_of_block (hb b off e hl)).trans (hc j hj i hi)⟩
theorem Row.at {w : World} {a : Option Addr} {l : List α} (h : Row s w a l) {j : Nat} (hj : j < l.length) : ∃ b off, a = some ⟨b, off, none⟩ ∧ b < w.heap.size ∧ ∀ i (hi : i < s.k), w.cell? ⟨b, off + j * s.k + i, none⟩ = (s.enc l[j])[i]? := by
  rcases h with rfl | ⟨b, off, e, hb, hc⟩
  · simp at hj
  · exact ⟨b, off, e, hb, fun i hi => hc j hj i hi⟩
/-- A slice of them. -/
def Sl (w : World) (v : Value) (l : List α) : Prop := ∃ a c, v = .slice a l.length c ∧ l.length ≤ c ∧ Row s w a l ∧ (a = none → c = 0)
theorem Sl.later {w w' : World} {v : Value} {l : List α} (h : Sl s w v l) (k : Below w.heap.size w w') : Sl s w' v l := by
  obtain ⟨a, c, h1, h2, h3, h4⟩ := h
  exact ⟨a, c, h1, h2, h3.keep s k.size fun b _ _ hb => k.block b hb, h4⟩
theorem Sl.nil (w : World) : Sl s w (.slice none 0 0) [] := ⟨none, 0, rfl, Nat.le_refl _, .inl rfl, fun _ => rfl⟩
/-- The slice isn't in that block (or it holds nothing). -/
def Off (q : Nat) (v : Value) (l : List α) : Prop := l ≠ [] → v.ownBlock ≠ some q
theorem Sl.but {q : Nat} {w w' : World} {v : Value} {l : List α} (h : Sl s w v l) (k : But q w w') (ho : Off q v l) : Sl s w' v l := by
  obtain ⟨a, c, h1, h2, h3, h4⟩ := h
  refine ⟨a, c, h1, h2, ?_, h4⟩
  by_cases he : l = []
  · exact .inl he
  · refine h3.keep s k.size fun b off e hb => k.block b hb fun e2 => ho he ?_
    rw [h1, e]; simp [Value.ownBlock, e2]
theorem Off.new {w : World} {v : Value} {l : List α} (h : Sl s w v l) {q : Nat} (hq : w.heap.size ≤ q) : Off q v l := by
  obtain ⟨a, c, h1, h2, h3, h4⟩ := h
  intro hne e
  rcases h3 with h | ⟨b, off, e2, hb, _⟩
  · exact hne h
  · rw [h1, e2] at e
    simp [Value.ownBlock] at e
    omega
/-- .. isn't in these blocks. -/
def Apt (F : Nat → Prop) (v : Value) (l : List α) : Prop := l ≠ [] → ∀ q, v.ownBlock = some q → ¬ F q
theorem Sl.lt {w : World} {v : Value} {l : List α} (h : Sl s w v l) (hl : l ≠ []) {q : Nat} (hq : v.ownBlock = some q) : q < w.heap.size := by
  obtain ⟨a, c, h1, h2, h3, h4⟩ := h
  rcases h3 with h | ⟨b, off, e, hb, _⟩
  · exact absurd h hl
  · rw [h1, e] at hq
    simp [Value.ownBlock] at hq
    omega
/-- A row of one's own. -/
abbrev Own (w : World) (B : Nat) (v : Value) (l : List α) : Prop := w.ownsRow B s.t s.k v l.length (cellsG s l)
theorem Own.nil (w : World) (B : Nat) : Own s w B (.slice none 0 0) [] := World.ownsRow_nil _ _ _ _
theorem Own.sl {w : World} {B : Nat} {v : Value} {l : List α} (h : Own s w B v l) : Sl s w v l := by
  have h2 := h
  rcases h.2 with ⟨rfl, h0⟩ | ⟨g, cap, cur, rfl, hg, hh, hn, hcap, hsz, htake⟩
  · have : l = [] := List.length_eq_zero_iff.1 h0
    subst this
    exact Sl.nil s w
  · refine ⟨_, _, rfl, hn, .inr ⟨g, 0, rfl, (Array.getElem?_eq_some_iff.1 hh).1, fun j hj i hi => ?_⟩, fun e => by cases e⟩
    have hlt : j * s.k + i < l.length * s.k := by
      have : (j + 1) * s.k ≤ l.length * s.k := Nat.mul_le_mul_right _ hj
      rw [Nat.add_mul] at this
      omega
    rw [Nat.zero_add, h2.cellAt (j * s.k + i) hlt]
    exact cellsG_get s l j hj i hi
theorem Own.off {w : World} {B : Nat} {v : Value} {l : List α} (h : Own s w B v l) {q : Nat} (hq : q < B) : Off q v l := by
  intro _ e
  have := (h.lt q e).1
  omega
theorem Own.below {w w' : World} {B : Nat} {v : Value} {l : List α} (h : Own s w B v l) (k : Below w.heap.size w w') : Own s w' B v l := by
  obtain ⟨h1, h2 | ⟨g, cap, cur, h3, h4, h5, h6⟩⟩ := h
  · exact ⟨h1, .inl h2⟩
  · exact ⟨h1, .inr ⟨g, cap, cur, h3, h4, (k.block g (Array.getElem?_eq_some_iff.1 h5).1).trans h5, h6⟩⟩
theorem Own.form {w : World} {B : Nat} {v : Value} {l : List α} (h : Own s w B v l) : ∃ a c, v = .slice a l.length c := by
  rcases h.2 with ⟨rfl, h0⟩ | ⟨g, cap, cur, rfl, _⟩
  · exact ⟨none, 0, by rw [h0]⟩
  · exact ⟨_, _, rfl⟩
/-- A literal's row. -/
theorem Own.lit (w : World) (l : List α) (hl : l.length < 1000000) (hne : l ≠ []) : Own s (w.alloc (.cells (cellsG s l).toArray s.t)) w.heap.size (.slice (some ⟨w.heap.size, 0, none⟩) l.length l.length) l :=
  World.ownsRow_lit (base := w.heap.size) (e := s.t) (size := s.k) w (cellsG s l).toArray l.length (Nat.le_refl _) (by unfold maxLen; omega) (by simp [cellsG_length])
abbrev App (v u : Value) (w : World) (v' : Value) (w' : World) : Prop := (Builtin.append_ #[s.st, s.st] s.st #[v, u]).run Tryd.prog w = .ok v' w'
/-- An append of a slice to a row of one's own: the run. -/
theorem append_own (B : Nat) (v : Value) (o l : List α) (u : Value) (hlen : o.length + l.length ≤ 34359738368) (w : World) (ho : Own s w B v o) (hB : B ≤ w.heap.size) (hu : Sl s w u l) :
    ∃ v' w', App s v u w v' w' ∧ Own s w' B v' (o ++ l) ∧ Below B w w' ∧ w.grownBy w' v.ownBlock := by
  obtain ⟨i0, hi, hz0, hz1, hz2⟩ := info_parts s.hi
  obtain ⟨a, c, rfl, hc, hr, hn⟩ := hu
  cases a with
  | none =>
    have hl : l = [] := by
      rcases hr with h | ⟨_, _, h, _⟩
      · exact h
      · cases h
    obtain rfl := hn rfl
    subst hl
    have h := run_append_owned_none (P := Tryd.prog) (w := w) B s.st s.st s.t i0 s.k s.hu hi v o.length (cellsG s o) ho
    rw [List.append_nil]
    exact ⟨_, _, h, ho, Below.refl _ _, World.grownBy.refl w _⟩
  | some ad =>
    have hnews : ∀ j y, (cellsG s l)[j]? = some y → w.cell? (ad.add j) = some y := by
      intro j y hj
      rcases hr with rfl | ⟨b, off, hab, hbw, hcell⟩
      · simp [cellsG] at hj
      · obtain rfl : ad = ⟨b, off, none⟩ := Option.some.inj hab
        have hjl : j < l.length * s.k := by
          rcases Nat.lt_or_ge j (l.length * s.k) with h | h
          · exact h
          · rw [List.getElem?_eq_none (by rw [cellsG_length]; exact h)] at hj; cases hj
        have hk0 := s.hk
        have hk : j / s.k < l.length := Nat.div_lt_of_lt_mul (by rw [Nat.mul_comm]; exact hjl)
        have hm : j % s.k < s.k := Nat.mod_lt _ hk0
        have e : j / s.k * s.k + j % s.k = j := by rw [Nat.mul_comm]; exact Nat.div_add_mod _ _
        have h1 := cellsG_get s l (j / s.k) hk (j % s.k) hm
        rw [e] at h1
        have h2 := hcell (j / s.k) hk (j % s.k) hm
        rw [Nat.add_assoc, e] at h2
        rw [addr_add, h2, ← h1, hj]
    have hby : (o.length + l.length) * s.bytes ≤ 140737488355328 := Nat.le_trans (Nat.mul_le_mul hlen s.hb) (by decide)
    obtain ⟨v', w', h1, h2, h3, _⟩ := run_append_own (P := Tryd.prog) (w := w) B s.st s.st s.t i0 s.z s.k s.bytes s.hu hi hz0 hz1 hz2 s.hz s.hk v o.length (cellsG s o) ho ad l.length c
      (cellsG s l) (cellsG_length s l) hnews (cellsG_cell s) (by unfold maxLen; omega) hby hB
    refine ⟨v', w', h1, ?_, (Below.refl B w).grown h3 hB (fun k hk => (ho.lt k hk).1), h3⟩
    show w'.ownsRow B s.t s.k v' (o ++ l).length (cellsG s (o ++ l))
    rw [List.length_append, cellsG_append]; exact h2
/-- 'append(v, x)': the run in the world that has the literal. -/
theorem append_one (B : Nat) (v : Value) (o : List α) (x : α) (hlen : o.length < 34359738368) (w : World) (ho : Own s w B v o) (hB : B ≤ w.heap.size) :
    ∃ v' w', App s v (.slice (some ⟨w.heap.size, 0, none⟩) 1 1) (w.alloc (.cells (s.enc x).toArray s.t)) v' w' ∧ Own s w' B v' (o ++ [x]) ∧ Below B w w' := by
  have b0 := below_box w (.cells (s.enc x).toArray s.t)
  have hl := (Own.lit s w [x] (by simp) (by simp)).sl
  rw [cellsG_one] at hl
  obtain ⟨v', w', h1, h2, h3, _⟩ := append_own s B v o [x] _ (by simp; omega) _ (ho.below s b0) (by simp; omega) hl
  exact ⟨v', w', h1, h2, (b0.mono hB).trans h3⟩
/-- 'append([]T{x}, u...)': a new row. -/
theorem append_lit (x : α) (u : Value) (l : List α) (hlen : l.length < 34359738368) (w : World) (hu : Sl s w u l) :
    ∃ v' w', App s (.slice (some ⟨w.heap.size, 0, none⟩) 1 1) u (w.alloc (.cells (s.enc x).toArray s.t)) v' w' ∧ Own s w' w.heap.size v' (x :: l) ∧ Below w.heap.size w w' := by
  have b0 := below_box w (.cells (s.enc x).toArray s.t)
  have ho := Own.lit s w [x] (by simp) (by simp)
  rw [cellsG_one] at ho
  obtain ⟨v', w', h1, h2, h3, _⟩ := append_own s w.heap.size _ [x] l u (by simp; omega) _ ho (by simp) (hu.later s b0)
  exact ⟨v', w', h1, h2, b0.trans h3⟩
/-- 'append([]T{}, u...)': a new row. -/
theorem append_none (u : Value) (l : List α) (hlen : l.length < 34359738368) (w : World) (hu : Sl s w u l) :
    ∃ v' w', App s (.slice (some ⟨w.heap.size, 0, none⟩) 0 0) u (w.alloc (.cells #[] s.t)) v' w' ∧ Own s w' w.heap.size v' l ∧ Below w.heap.size w w' := by
  have b0 := below_box w (.cells #[] s.t)
  have ho : Own s (w.alloc (.cells #[] s.t)) w.heap.size (.slice (some ⟨w.heap.size, 0, none⟩) 0 0) [] := World.ownsRow_made (base := w.heap.size) (e := s.t) (size := s.k) w #[] 0 (Nat.le_refl _) (by unfold maxLen; omega) (by simp)
  obtain ⟨v', w', h1, h2, h3, _⟩ := append_own s w.heap.size _ [] l u (by simp; omega) _ ho (by simp) (hu.later s b0)
  exact ⟨v', w', h1, by simpa using h2, b0.trans h3⟩
end
/-- An append whose run is known, at an operation that its guard lets by. -/
theorem wpList_append_at {P : Program} {w : World} {ops : Array Oper} {rest : List Oper} {o : Oper} {a : Act} {Q : Exit → Act → World → Prop} (s x : Operand) (t : TypeId)
    (hw : Region.wanted o (yielded ops a.tmps) = true)
    (ho : o.op = .call { callee := .builtin .append, args := #[s, x], argTypes := #[t, t] }) (vs vx v' : Value) (w' : World) (hs : a.eval s = vs) (hx : a.eval x = vx)
    (hr : (Builtin.append_ #[t, t] o.type #[vs, vx]).run P w = .ok v' w') (h : wpList P ops Q rest (a.put o.dst v') w') : wpList P ops Q (o :: rest) a w :=
  wpList_step fun K hK => by
    rw [if_pos hw]
    unfold Oper.wp execOp
    simp only [ho, resolve, invoke, builtin, Sem.run_bind, Sem.run_pure, Result.andThen_ok, List.map_toArray, List.map_cons, List.map_nil, hs, hx, hr]
    exact hK _ _ h
end Go.Proofs.YtpimdbnhpbjlkaaDoor.rw
/-! DkRef -/
namespace Go.Proofs.YtpimdbnhpbjlkaaDoor.dk
set_option linter.unusedVariables false
open Go.RowKit
open fl (S S_size S_append S_inj str_eq str_ne)
open rw (Arr But Row Own bnext below_box below_drew below_drewN addr_add)

theorem S_list (l : List UInt8) : (S l).toList = l := by rw [ByteArray.toList_eq, fl.S_data]
theorem bytesLess_eq' : ∀ (x y : List UInt8), Op.bytesLess x y = decide (x < y)
  | [], [] => by simp [Op.bytesLess]
  | [], _ :: _ => by simp [Op.bytesLess]
  | _ :: _, [] => by simp [Op.bytesLess]
  | a :: x, b :: y => by
    rw [Op.bytesLess, bytesLess_eq' x y, Bool.eq_iff_iff]
    simp [List.cons_lt_cons_iff]
theorem less_S (a b : Bs) : Op.bytesLess (S a).toList (S b).toList = decide (a < b) := by rw [bytesLess_eq', S_list, S_list]

theorem get_take (l : List File) (n : Bs) (k : Nat) (hk : k < l.length) (h : ∀ j (h : j < l.length), j < k → l[j].1 ≠ n) (he : l[k].1 = n) : get l n = some l[k].2 := by
  unfold get
  have : l = l.take k ++ l[k] :: l.drop (k + 1) := by rw [← List.drop_eq_getElem_cons hk, List.take_append_drop]
  have hf : (l.take k).find? (fun f => decide (f.1 = n)) = none := by
    rw [List.find?_eq_none]
    intro f hf
    obtain ⟨j, hj, e⟩ := List.getElem_of_mem hf
    rw [List.length_take] at hj
    rw [List.getElem_take] at e
    have := h j (by omega) (by omega)
    rw [e] at this
    simpa using this
  conv => lhs; rw [this, List.find?_append, hf, List.find?_cons]
  simp [he]

end Go.Proofs.YtpimdbnhpbjlkaaDoor.dk
/-! DkRef2 -/
namespace Go.Proofs.YtpimdbnhpbjlkaaDoor.dk
set_option linter.unusedVariables false
open Go.RowKit
open fl (S S_size S_append S_inj str_eq str_ne)
open rw (Arr But Row Own bnext below_box below_drew below_drewN addr_add)

theorem ins_less {f x : File} {l : List File} (h : f.1 < x.1) : ins f (x :: l) = f :: x :: l := by rw [ins, if_pos h]
theorem ins_not {f x : File} {l : List File} (h : ¬ f.1 < x.1) : ins f (x :: l) = x :: ins f l := by rw [ins, if_neg h]
theorem ins_length (f : File) : ∀ l : List File, (ins f l).length = l.length + 1
  | [] => rfl
  | x :: l => by
    unfold ins
    split
    · rfl
    · simp [ins_length f l]
theorem without_length (l : List File) (n : Bs) : (without l n).length ≤ l.length := List.length_filter_le _ _
theorem put_length (l : List File) (f : File) : (put l f).length ≤ l.length + 1 := by unfold put; rw [ins_length]; have := without_length l f.1; omega
/-- How far a file has been put among those that were gone over. -/
structure Ins (f : File) (l : List File) (k : Nat) (q : Bool) (o : List File) : Prop where
  t : q = true → ins f l = o ++ l.drop k
  f : q = false → o = l.take k ∧ ins f l = o ++ ins f (l.drop k)
  n : o.length ≤ k + 1
theorem Ins.start (f : File) (l : List File) : Ins f l 0 false [] := ⟨fun h => (by cases h), fun _ => ⟨rfl, rfl⟩, by simp⟩
theorem Ins.keep {f : File} {l : List File} {k : Nat} {o : List File} (h : Ins f l k true o) (hk : k < l.length) : Ins f l (k + 1) true (o ++ [l[k]]) :=
  ⟨fun _ => by rw [h.t rfl, List.drop_eq_getElem_cons hk]; simp, fun e => (by cases e), by have := h.n; simp; omega⟩
theorem Ins.less {f : File} {l : List File} {k : Nat} {o : List File} (h : Ins f l k false o) (hk : k < l.length) (hl : f.1 < l[k].1) : Ins f l (k + 1) true ((o ++ [f]) ++ [l[k]]) := by
  obtain ⟨h1, h2⟩ := h.f rfl
  refine ⟨fun _ => ?_, fun e => (by cases e), ?_⟩
  · rw [h2, List.drop_eq_getElem_cons hk, ins_less hl]; simp
  · rw [h1]; simp; omega
theorem Ins.more {f : File} {l : List File} {k : Nat} {o : List File} (h : Ins f l k false o) (hk : k < l.length) (hl : ¬ f.1 < l[k].1) : Ins f l (k + 1) false (o ++ [l[k]]) := by
  obtain ⟨h1, h2⟩ := h.f rfl
  refine ⟨fun e => (by cases e), fun _ => ⟨?_, ?_⟩, ?_⟩
  · rw [h1, List.take_succ_eq_append_getElem hk]
  · rw [h2, List.drop_eq_getElem_cons hk, ins_not hl]; simp
  · have := h.n; simp; omega
theorem Ins.done {f : File} {l : List File} {o : List File} (h : Ins f l l.length true o) : ins f l = o := by rw [h.t rfl, List.drop_length, List.append_nil]
theorem Ins.last {f : File} {l : List File} {o : List File} (h : Ins f l l.length false o) : ins f l = o ++ [f] := by
  obtain ⟨_, h2⟩ := h.f rfl
  rw [h2, List.drop_length]
  rfl

end Go.Proofs.YtpimdbnhpbjlkaaDoor.dk
/-! DkRef3 -/
namespace Go.Proofs.YtpimdbnhpbjlkaaDoor.dk
set_option linter.unusedVariables false
open Go.RowKit
open fl (S S_size S_append S_inj str_eq str_ne)
open rw (Arr But Row Own bnext below_box below_drew below_drewN addr_add)

theorem used_take (l : List File) (k : Nat) (h : k < l.length) : used (l.take (k + 1)) = used (l.take k) + l[k].2.length := by
  unfold used
  rw [List.take_succ_eq_append_getElem h, List.map_append, List.sum_append]
  simp
theorem used_take_le (l : List File) (k : Nat) : used (l.take k) ≤ used l := by
  have : used l = used (l.take k) + used (l.drop k) := by
    unfold used
    rw [← List.sum_append, ← List.map_append, List.take_append_drop]
  omega

def callV (c : Call) : Value := .agg #[.int .i64 (c.kind : Nat), .string (S c.name), .string (S c.s)]
end Go.Proofs.YtpimdbnhpbjlkaaDoor.dk
/-! By -/
namespace Go.Proofs.YtpimdbnhpbjlkaaDoor.rw
set_option linter.unusedVariables false
open Go.RowKit Go.Lib
open fl (S S_size S_data)

/-- All but these blocks is as it was. -/
structure Fr (F : Nat → Prop) (w w' : World) : Prop where
  os : w'.os = w.os
  tape : w'.tape = w.tape
  output : w'.output = w.output
  size : w.heap.size ≤ w'.heap.size
  block : ∀ k, k < w.heap.size → ¬ F k → w'.heap[k]? = w.heap[k]?
theorem Fr.refl (F : Nat → Prop) (w : World) : Fr F w w := ⟨rfl, rfl, rfl, Nat.le_refl _, fun _ _ _ => rfl⟩
theorem Fr.mono {F G : Nat → Prop} {w w' : World} (h : Fr F w w') (hg : ∀ k, k < w.heap.size → F k → G k) : Fr G w w' := ⟨h.os, h.tape, h.output, h.size, fun k hk hn => h.block k hk fun hF => hn (hg k hk hF)⟩
theorem Fr.trans {F G : Nat → Prop} {a b c : World} (h : Fr F a b) (k : Fr G b c) (hg : ∀ i, i < a.heap.size → G i → F i) : Fr F a c :=
  ⟨k.os.trans h.os, k.tape.trans h.tape, k.output.trans h.output, Nat.le_trans h.size k.size, fun i hi hn => (k.block i (Nat.lt_of_lt_of_le hi h.size) fun hG => hn (hg i hi hG)).trans (h.block i hi hn)⟩
theorem Fr.of_below {F : Nat → Prop} {w w' : World} (h : Below w.heap.size w w') : Fr F w w' := ⟨h.os, h.tape, h.output, h.size, fun k hk _ => h.block k hk⟩
theorem Fr.then_below {F : Nat → Prop} {a b c : World} (h : Fr F a b) (k : Below b.heap.size b c) : Fr F a c := h.trans (Fr.of_below (F := F) k) fun _ _ hF => hF
theorem Fr.below {F : Nat → Prop} {w w' : World} (h : Fr F w w') {B : Nat} (hB : B ≤ w.heap.size) (hF : ∀ k, F k → B ≤ k) : Below B w w' :=
  ⟨h.os, h.tape, h.output, h.size, fun k hk => h.block k (by omega) fun hk2 => by have := hF k hk2; omega⟩
theorem Fr.but {q : Nat} {w w' : World} (h : But q w w') {F : Nat → Prop} (hq : F q) : Fr F w w' := ⟨h.os, h.tape, h.output, h.size, fun k hk hn => h.block k hk fun e => hn (e ▸ hq)⟩
theorem Fr.grown {w w' : World} {row : Option Nat} (h : w.grownBy w' row) {F : Nat → Prop} (hF : ∀ q, row = some q → F q) : Fr F w w' := ⟨h.os, h.tape, h.output, h.size, fun k hk hn => h.block k hk fun e => hn (hF k e.symm)⟩
theorem Fr.arr {F : Nat → Prop} {w w' : World} (h : Fr F w w') {b : Nat} {t : TypeId} {cs : Array Value} (hA : Arr w b t cs) (hq : ¬ F b) : Arr w' b t cs := hA.of (h.block b hA.lt hq)

/-- Cells of bytes. -/
def byt (s : List UInt8) : List Value := s.map fun c => .int .u8 c.toNat
theorem byt_length (s : List UInt8) : (byt s).length = s.length := by simp [byt]
theorem byt_append (s t : List UInt8) : byt (s ++ t) = byt s ++ byt t := by simp [byt]
theorem byt_str (s : List UInt8) : strCells (S s) = byt s := by simp [strCells, byt, S]
theorem byt_one (s : List UInt8) : ∀ u ∈ byt s, u.oneCell' = true := by
  intro u hu
  obtain ⟨c, _, rfl⟩ := List.mem_map.1 hu
  rfl
/-- v is a row of bytes of one's own. -/
def RowB (w : World) (v : Value) (s : List UInt8) : Prop :=
  ∃ g cap cur fr, v = .slice (some ⟨g, 0, none⟩) s.length cap ∧ w.heap[g]? = some (.cells cur 5 fr) ∧ s.length ≤ cap ∧ cap ≤ maxLen ∧ cur.size = cap ∧ cur.toList.take s.length = byt s ∧ ∀ j, j < cap → ¬ (fr.1 ≤ j ∧ j < fr.2)
theorem RowB.of {w w' : World} {v : Value} {s : List UInt8} (h : RowB w v s) (hb : ∀ q, v.ownBlock = some q → w'.heap[q]? = w.heap[q]?) : RowB w' v s := by
  obtain ⟨g, cap, cur, fr, rfl, h2, h3⟩ := h
  exact ⟨g, cap, cur, fr, rfl, (hb g rfl).trans h2, h3⟩
theorem RowB.at {w : World} {v : Value} {s : List UInt8} (h : RowB w v s) : ∃ g, v.ownBlock = some g ∧ g < w.heap.size ∧ ∃ cur fr, w.heap[g]? = some (.cells cur 5 fr) := by
  obtain ⟨g, cap, cur, fr, rfl, h2, h3⟩ := h
  exact ⟨g, rfl, (Array.getElem?_eq_some_iff.1 h2).1, cur, fr, h2⟩
theorem RowB.form {w : World} {v : Value} {s : List UInt8} (h : RowB w v s) : ∃ a c, v = .slice (some a) s.length c ∧ s.length ≤ c := by
  obtain ⟨g, cap, cur, fr, rfl, h2, h3, _⟩ := h
  exact ⟨_, _, rfl, h3⟩
theorem RowB.of_own {w : World} {B : Nat} {v : Value} {s : List UInt8} (h : w.ownsRow B 5 1 v s.length (byt s)) (hv : v ≠ .slice none 0 0) : RowB w v s := by
  obtain ⟨h1, ⟨e, _⟩ | ⟨g, cap, cur, rfl, _, h4, h5, h6, h7, h8⟩⟩ := h
  · exact absurd e hv
  · exact ⟨g, cap, cur, (0, 0), rfl, h4, h5, h6, by simpa using h7, by simpa using h8, fun j _ hh => by simp at hh⟩
theorem RowB.cell {w : World} {v : Value} {s : List UInt8} (h : RowB w v s) : ∃ g cap, v = .slice (some ⟨g, 0, none⟩) s.length cap ∧ ∀ j (hj : j < s.length), w.cell? ⟨g, j, none⟩ = some (.int .u8 s[j].toNat) := by
  obtain ⟨g, cap, cur, fr, rfl, h2, h3, h4, h5, h6, _⟩ := h
  refine ⟨g, cap, rfl, fun j hj => ?_⟩
  rw [cell_of_row _ _ _ _ _ _ h2]
  have e : cur[j]? = (cur.toList.take s.length)[j]? := by rw [List.getElem?_take_of_lt hj]; simp
  rw [e, h6]
  simp [byt, hj]

/-- A store of cells into a row whose frozen mark does not reach them. -/
theorem storeCells_free (g : Nat) (t : TypeId) (fr : Nat × Nat) : ∀ (vs : List Value) (i : Nat) (o : Nat) (cur : Array Value) (w : World), w.heap[g]? = some (.cells cur t fr) → o + i + vs.length ≤ cur.size → (∀ v ∈ vs, v.oneCell' = true) → (∀ j, j < cur.size → ¬ (fr.1 ≤ j ∧ j < fr.2)) →
    (storeCells ⟨g, o, none⟩ vs i).run Tryd.prog w = .ok () (w.setRow g (cur.toList.take (o + i) ++ vs ++ cur.toList.drop (o + i + vs.length)).toArray)
  | [], i, o, cur, w, hg, _, _, _ => by
    simp only [storeCells, List.append_nil, List.length_nil, Nat.add_zero, List.take_append_drop, Array.toArray_toList]
    rw [setRow_self w g cur t fr hg]
    rfl
  | v :: rest, i, o, cur, w, hg, hl, h1, hf => by
    have hi : o + i < cur.size := by simp at hl; omega
    have hcell : w.cell? ⟨g, o + i, none⟩ = some cur[o + i] := by simp [World.cell?, hg, hi]
    have hfro : w.frozen? ⟨g, o + i, none⟩ = false := by
      have := hf (o + i) hi
      unfold World.frozen?
      simp only [hg]
      by_cases h : fr.1 ≤ o + i
      · simp [h]; omega
      · simp [h]
    have hst : (store ((⟨g, o, none⟩ : Addr).add i) v).run Tryd.prog w = .ok () (w.setRow g (cur.setIfInBounds (o + i) v)) := by
      rw [addr_add, run_store Tryd.prog w _ v _ (h1 v (by simp)), hcell]
      simp [hfro, setCell_eq_setRow w g (o + i) cur t fr v hg]
    have ih := storeCells_free g t fr rest (i + 1) o (cur.setIfInBounds (o + i) v) (w.setRow g (cur.setIfInBounds (o + i) v)) (setRow_heap w g cur _ t _ hg) (by simp at hl ⊢; omega) (fun x hx => h1 x (by simp [hx])) (fun j hj => hf j (by simpa using hj))
    simp only [storeCells, Sem.run_bind, hst, Result.andThen_ok, ih, setRow_setRow]
    congr 3
    have e := list_seg_step cur.toList (o + i) v rest (by simp at hl ⊢; omega)
    simpa [Array.toList_setIfInBounds, Nat.add_assoc] using e

abbrev AppS (v : Value) (s : List UInt8) (w : World) (v' : Value) (w' : World) : Prop := (Builtin.append_ #[75, 9] 75 #[v, .string (S s)]).run Tryd.prog w = .ok v' w'
theorem info8 : (Tryd.prog.info? 5).map (fun i => (i.zero, i.size, i.bytes)) = some (some (.int .u8 0), 1, 1) := by kernel_rfl
/-- 'append(v, s...)', s a string. -/
theorem append_str (v : Value) (o s : List UInt8) (w : World) (h : RowB w v o) (hlen : o.length + s.length ≤ 140737488355328) :
    ∃ v' w', AppS v s w v' w' ∧ RowB w' v' (o ++ s) ∧ w.grownBy w' v.ownBlock ∧ (v'.ownBlock = v.ownBlock ∨ v'.ownBlock = some w.heap.size) := by
  obtain ⟨i, hi, hz, hs1, hb1⟩ := info_parts info8
  obtain ⟨g, cap, cur, fr, rfl, h2, h3, h4, h5, h6, h7⟩ := h
  by_cases hroom : o.length + s.length ≤ cap
  · have hst := storeCells_free g 5 fr (byt s) 0 o.length cur w h2 (by rw [byt_length]; omega) (byt_one s) (by rw [h5]; exact h7)
    have hf := run_firstCells_string (P := Tryd.prog) w 1 (S s)
    rw [byt_str, S_size] at hf
    simp only [Nat.add_zero, byt_length] at hst
    have hr : AppS (.slice (some ⟨g, 0, none⟩) o.length cap) s w (.slice (some ⟨g, 0, none⟩) (o.length + s.length) cap) (w.setRow g (cur.toList.take o.length ++ byt s ++ cur.toList.drop (o.length + s.length)).toArray) := by
      simp [AppS, Builtin.append_, run_underlying Tryd.underlying75, run_underlying Tryd.underlying9, sizeOf, typeInfo, hi, hs1, Builtin.lenOf, S_size, hroom, hf, Addr.add_lit, hst]
    refine ⟨_, _, hr, ⟨g, cap, _, fr, by rw [List.length_append], setRow_heap w g cur _ _ _ h2, by rw [List.length_append]; exact hroom, h4, ?_, ?_, h7⟩, ⟨rfl, rfl, rfl, by simp, fun k _ hk => setRow_other w g k _ (fun e => hk (by simp [Value.ownBlock, e]))⟩, .inl rfl⟩
    · simp only [List.size_toArray, List.length_append, List.length_take, List.length_drop, Array.length_toList, byt_length]
      omega
    · rw [h6, List.toList_toArray, byt_append]
      refine List.take_left' ?_
      simp [byt_length]
  · have hold : ∀ j u, (byt o)[j]? = some u → w.cell? ((⟨g, 0, none⟩ : Addr).add j) = some u := by
      intro j u hj
      have hjl : j < o.length := by have := (List.getElem?_eq_some_iff.1 hj).1; rwa [byt_length] at this
      rw [addr_add, Nat.zero_add, cell_of_row _ _ _ _ _ _ h2]
      have e : cur[j]? = (cur.toList.take o.length)[j]? := by rw [List.getElem?_take_of_lt hjl]; simp
      rw [e, h6, hj]
    have hr := run_append_grow_string (P := Tryd.prog) w 75 9 75 5 i (.int .u8 0) Tryd.underlying75 Tryd.underlying9 hi hz ⟨g, 0, none⟩ o.length cap (byt o) (by rw [hs1, byt_length, Nat.mul_one]) hold (S s) (by rw [S_size]; omega) (by rw [S_size]; omega)
      (by rw [hb1]; exact growslice_fits (by rw [S_size]; omega) (by rw [S_size]; omega))
    rw [byt_str, S_size] at hr
    have hge := grownCap_ge w (o.length + s.length) cap 5
    have hcm := grownCap_le_maxLen w (o.length + s.length) cap 5 (by unfold maxLen; omega)
    refine ⟨_, _, hr, ⟨w.heap.size, _, _, (0, 0), by rw [List.length_append], heap_alloc_new w.drew _, by rw [List.length_append]; exact hge, hcm, ?_, ?_, fun j _ hh => by simp at hh⟩, ⟨rfl, rfl, rfl, by simp, fun k hk _ => heap_alloc_old w.drew _ hk⟩, .inr rfl⟩
    · have hz1 : (Value.int IntKind.u8 0).cells.size = 1 := rfl
      simp only [Array.size_append, List.size_toArray, size_zeroCells, hz1, byt_length]
      omega
    · simp only [Array.toList_append, List.append_assoc, byt_append]
      rw [← List.append_assoc]
      refine List.take_left' ?_
      simp [byt_length]
/-- 'append(nil, s...)'. -/
theorem append_str_nil (s : List UInt8) (w : World) (hs : s ≠ []) (hlen : s.length ≤ 140737488355328) :
    ∃ v' w', AppS (.slice none 0 0) s w v' w' ∧ RowB w' v' s ∧ Below w.heap.size w w' ∧ v'.ownBlock = some w.heap.size := by
  obtain ⟨i, hi, hz, hs1, hb1⟩ := info_parts info8
  have hpos : 0 < s.length := List.length_pos_iff.2 hs
  have hr := run_append_nil_string (P := Tryd.prog) w 75 9 75 5 i (.int .u8 0) Tryd.underlying75 Tryd.underlying9 hi hz (S s) (by rw [S_size]; omega) (by rw [S_size]; omega) (by rw [hb1, S_size]; omega)
  have e1 : ((S s).data.map fun b => Value.int .u8 b.toNat) = (byt s).toArray := by
    apply Array.ext'
    simp [byt, S]
  rw [e1, S_size] at hr
  have hge := grownCap_ge w s.length 0 5
  have hcm := grownCap_le_maxLen w s.length 0 5 (by unfold maxLen; omega)
  refine ⟨_, _, hr, ⟨w.heap.size, _, _, (0, 0), rfl, heap_alloc_new w.drew _, hge, hcm, ?_, ?_, fun j _ hh => by simp at hh⟩, (below_drew (Below.refl _ w)).alloc (Nat.le_refl _) _, rfl⟩
  · have hz1 : (Value.int IntKind.u8 0).cells.size = 1 := rfl
    simp only [Array.size_append, List.size_toArray, size_zeroCells, hz1, byt_length]
    omega
  · simp only [Array.toList_append]
    refine List.take_left' ?_
    simp [byt_length]
/-- '[]byte(s)'. -/
theorem conv_str (s : List UInt8) (w : World) (hlen : s.length ≤ 140737488355328) :
    ∃ v' w', (convert 9 75 (.string (S s))).run Tryd.prog w = .ok v' w' ∧ RowB w' v' s ∧ Below w.heap.size w w' ∧ v'.ownBlock = some w.heap.size := by
  have hr := Lib.run_convert_string_bytes (P := Tryd.prog) w 9 75 5 (S s) Tryd.underlying9 Tryd.underlying75 Tryd.underlying5
  have hge := grownCap_ge w s.length 0 5
  have hcm := grownCap_le_maxLen w s.length 0 5 (by unfold maxLen; omega)
  have hsz : (Lib.bytesCells w 5 (S s)).size = grownCap w s.length 0 5 := by
    unfold Lib.bytesCells
    rw [Array.size_append, Array.size_map, Array.size_replicate]
    show s.length + (grownCap w s.length 0 5 - s.length) = _
    omega
  refine ⟨_, _, hr, ⟨w.heap.size, _, _, _, rfl, Lib.bytesWorld_at_new w _ (S s), hge, hcm, hsz, ?_, fun j hj hh => by
    have h1 : (Lib.bytesCells w 5 (S s)).size ≤ j := hh.1
    have h2 : j < grownCap w s.length 0 5 := hj
    omega⟩, ⟨rfl, rfl, rfl, by rw [Lib.bytesWorld_size]; omega, fun k hk => Lib.bytesWorld_at_old w _ _ k hk⟩, rfl⟩
  unfold Lib.bytesCells
  rw [Array.toList_append]
  have e1 : ((S s).data.map fun b => Value.int .u8 b.toNat).toList = byt s := by simp [byt, S]
  rw [e1]
  refine List.take_left' ?_
  simp [byt_length]
/-- 'string(v)'. -/
theorem conv_row (v : Value) (s : List UInt8) (w : World) (h : RowB w v s) : (convert 75 9 v).run Tryd.prog w = .ok (.string (S s)) w := by
  obtain ⟨g, cap, rfl, hc⟩ := h.cell
  have hr := run_convert_bytes_arg (P := Tryd.prog) w 75 5 Tryd.underlying75 Tryd.underlying5 g 0 s.length cap (s.map fun c => (c.toNat : Int)) (by simp) (fun i hi => by
    rw [Nat.zero_add, hc i hi]
    simp [List.getD_eq_getElem?_getD, hi]) 9 Tryd.underlying9
  rw [hr]
  have e : strOfNums (s.map fun c => (c.toNat : Int)) = S s := by
    show (⟨((s.map fun c => (c.toNat : Int)).map fun n => UInt8.ofNat n.toNat).toArray⟩ : ByteArray) = ⟨s.toArray⟩
    have e2 : ((s.map fun c => (c.toNat : Int)).map fun n => UInt8.ofNat n.toNat) = s := by
      rw [List.map_map]
      conv => rhs; rw [← List.map_id s]
      refine List.map_congr_left fun c _ => ?_
      show UInt8.ofNat ((c.toNat : Int)).toNat = c
      rw [Int.toNat_natCast, UInt8.ofNat_toNat]
    rw [e2]
  rw [e]
end Go.Proofs.YtpimdbnhpbjlkaaDoor.rw
/-! Mp -/
namespace Go.Proofs.YtpimdbnhpbjlkaaDoor.mp
set_option linter.unusedVariables false
open Go.RowKit Go.Maps Go.ChangeMaps Go.MapKept Go.WideMaps
open fl (S S_size S_data)

abbrev Bs := List UInt8
section
variable {β : Type}
def kget (l : List (Bs × β)) (n : Bs) : Option β := (l.find? fun f => decide (f.1 = n)).map (·.2)
def kwithout (l : List (Bs × β)) (n : Bs) : List (Bs × β) := l.filter fun f => decide (f.1 ≠ n)
def kins (f : Bs × β) : List (Bs × β) → List (Bs × β)
  | [] => [f]
  | x :: r => if f.1 < x.1 then f :: x :: r else x :: kins f r
def kput (l : List (Bs × β)) (f : Bs × β) : List (Bs × β) := kins f (kwithout l f.1)
def KSorted (l : List (Bs × β)) : Prop := l.Pairwise fun a b => a.1 < b.1

theorem mem_kwithout {l : List (Bs × β)} {n : Bs} {f : Bs × β} : f ∈ kwithout l n ↔ f ∈ l ∧ f.1 ≠ n := by simp [kwithout]
theorem mem_kins {f g : Bs × β} : ∀ {l : List (Bs × β)}, g ∈ kins f l ↔ g = f ∨ g ∈ l
  | [] => by simp [kins]
  | x :: r => by
    unfold kins
    split
    · simp
    · rw [List.mem_cons, mem_kins, List.mem_cons]
      constructor
      · rintro (h | h | h)
        · exact .inr (.inl h)
        · exact .inl h
        · exact .inr (.inr h)
      · rintro (h | h | h)
        · exact .inr (.inl h)
        · exact .inl h
        · exact .inr (.inr h)
theorem mem_kput {l : List (Bs × β)} {f g : Bs × β} : g ∈ kput l f ↔ g = f ∨ (g ∈ l ∧ g.1 ≠ f.1) := by unfold kput; rw [mem_kins, mem_kwithout]
theorem klt_irr (a : Bs) : ¬ a < a := List.lt_irrefl a
theorem klt_tri {a b : Bs} (h : a ≠ b) : a < b ∨ b < a := by
  by_cases h1 : a < b
  · exact .inl h1
  · by_cases h2 : b < a
    · exact .inr h2
    · exact absurd (List.le_antisymm (List.not_lt.1 h2) (List.not_lt.1 h1)) h
theorem kwithout_sorted {l : List (Bs × β)} (h : KSorted l) (n : Bs) : KSorted (kwithout l n) := h.sublist List.filter_sublist
theorem kins_sorted {f : Bs × β} : ∀ {l : List (Bs × β)}, KSorted l → (∀ g ∈ l, g.1 ≠ f.1) → KSorted (kins f l)
  | [], _, _ => List.pairwise_singleton _ _
  | x :: r, h, hn => by
    unfold kins
    obtain ⟨hx, hr⟩ := List.pairwise_cons.1 h
    split
    · next hlt =>
      refine List.pairwise_cons.2 ⟨fun g hg => ?_, h⟩
      rcases List.mem_cons.1 hg with rfl | hg
      · exact hlt
      · exact List.lt_trans hlt (hx g hg)
    · next hlt =>
      have hxf : x.1 < f.1 := by
        rcases klt_tri (hn x List.mem_cons_self) with h1 | h1
        · exact h1
        · exact absurd h1 hlt
      refine List.pairwise_cons.2 ⟨fun g hg => ?_, kins_sorted hr (fun g hg => hn g (List.mem_cons_of_mem _ hg))⟩
      rcases mem_kins.1 hg with rfl | hg
      · exact hxf
      · exact hx g hg
theorem kput_sorted {l : List (Bs × β)} (h : KSorted l) (f : Bs × β) : KSorted (kput l f) := kins_sorted (kwithout_sorted h _) (fun g hg => (mem_kwithout.1 hg).2)
theorem kget_some {l : List (Bs × β)} {n : Bs} {s : β} (h : kget l n = some s) : (n, s) ∈ l := by
  unfold kget at h
  obtain ⟨f, h1, h2⟩ := Option.map_eq_some_iff.1 h
  have h3 := List.find?_some h1
  have h4 := List.mem_of_find?_eq_some h1
  obtain ⟨a, b⟩ := f
  simp only [decide_eq_true_eq] at h3 h2
  subst h3 h2
  exact h4
theorem kget_none {l : List (Bs × β)} {n : Bs} (h : kget l n = none) : ∀ f ∈ l, f.1 ≠ n := by
  unfold kget at h
  intro f hf
  have := List.find?_eq_none.1 (Option.map_eq_none_iff.1 h) f hf
  simpa using this
theorem kget_of_mem {l : List (Bs × β)} (h : KSorted l) {n : Bs} {s : β} (hm : (n, s) ∈ l) : kget l n = some s := by
  induction l with
  | nil => cases hm
  | cons x r ih =>
    obtain ⟨hx, hr⟩ := List.pairwise_cons.1 h
    unfold kget
    rw [List.find?_cons]
    rcases List.mem_cons.1 hm with e | hm
    · subst e
      simp
    · have : x.1 ≠ n := fun e => klt_irr n (by have := hx _ hm; rwa [e] at this)
      simp only [this, decide_false]
      exact ih hr hm
theorem kget_eq_none {l : List (Bs × β)} {n : Bs} (h : ∀ f ∈ l, f.1 ≠ n) : kget l n = none := by
  unfold kget
  rw [Option.map_eq_none_iff, List.find?_eq_none]
  intro f hf
  simpa using h f hf
theorem kwithout_length (l : List (Bs × β)) (n : Bs) : (kwithout l n).length ≤ l.length := List.length_filter_le _ _
theorem kins_length (f : Bs × β) : ∀ l : List (Bs × β), (kins f l).length = l.length + 1
  | [] => rfl
  | x :: r => by
    unfold kins
    split
    · rfl
    · simp [kins_length f r]
theorem kput_length (l : List (Bs × β)) (f : Bs × β) : (kput l f).length ≤ l.length + 1 := by
  unfold kput
  rw [kins_length]
  have := kwithout_length l f.1
  omega
variable {γ : Type}
/-- What stands at the keys, seen otherwise. -/
abbrev kmap (g : β → γ) (l : List (Bs × β)) : List (Bs × γ) := l.map fun f => (f.1, g f.2)
theorem kmap_without (g : β → γ) (l : List (Bs × β)) (n : Bs) : kmap g (kwithout l n) = kwithout (kmap g l) n := by
  unfold kmap kwithout
  rw [List.filter_map]
  rfl
theorem kmap_ins (g : β → γ) (f : Bs × β) : ∀ l : List (Bs × β), kmap g (kins f l) = kins (f.1, g f.2) (kmap g l)
  | [] => rfl
  | x :: r => by
    have ih := kmap_ins g f r
    unfold kins
    by_cases h : f.1 < x.1
    · rw [if_pos h]
      show _ = if f.1 < x.1 then _ else _
      rw [if_pos h]
      rfl
    · rw [if_neg h]
      show _ = if f.1 < x.1 then _ else _
      rw [if_neg h]
      show (x.1, g x.2) :: kmap g (kins f r) = _
      rw [ih]
theorem kmap_put (g : β → γ) (f : Bs × β) (l : List (Bs × β)) : kmap g (kput l f) = kput (kmap g l) (f.1, g f.2) := by unfold kput; rw [kmap_ins, kmap_without]
theorem kmap_get (g : β → γ) (l : List (Bs × β)) (n : Bs) : kget (kmap g l) n = (kget l n).map g := by
  unfold kget kmap
  rw [List.find?_map, Option.map_map, Option.map_map]
  rfl
theorem kmap_sorted (g : β → γ) {l : List (Bs × β)} : KSorted (kmap g l) ↔ KSorted l := by unfold KSorted kmap; rw [List.pairwise_map]
theorem kmap_length (g : β → γ) (l : List (Bs × β)) : (kmap g l).length = l.length := by simp
end

/-! ### As the datum that the library's laws speak of -/
def R (v : Value) : Option (DataW Value × List MemPlace) := some (.held v, [])
def enc (l : List (Bs × Value)) : DataW Value := .map (l.map fun p => (.string p.1, .held p.2))
theorem before_lt : ∀ a b : Bs, bytesBefore a b = decide (a < b)
  | [], [] => by simp [bytesBefore]
  | [], b :: s => by simp [bytesBefore]
  | a :: r, [] => by simp [bytesBefore]
  | a :: r, b :: s => by
    rw [bytesBefore, before_lt r s, Bool.eq_iff_iff, decide_eq_true_eq, List.cons_lt_cons_iff]
    simp
theorem enc_insert (f : Bs × Value) : ∀ l : List (Bs × Value), DataW.insert (.string f.1, .held f.2) (l.map fun p => ((.string p.1 : Lit), (.held p.2 : DataW Value))) = (kins f l).map fun p => (.string p.1, .held p.2)
  | [] => rfl
  | x :: r => by
    have ih := enc_insert f r
    rw [List.map_cons, DataW.insert, kins]
    have e : Lit.before (.string f.1) (.string x.1) = decide (f.1 < x.1) := before_lt _ _
    simp only [e, decide_eq_true_eq]
    split
    · rfl
    · rw [List.map_cons, ih]
theorem enc_filter (n : Bs) (l : List (Bs × Value)) : (l.map fun p => ((.string p.1 : Lit), (.held p.2 : DataW Value))).filter (fun p => !p.1.sameKey (.string n)) = (kwithout l n).map fun p => (.string p.1, .held p.2) := by
  rw [List.filter_map]
  unfold kwithout
  congr 1
  refine List.filter_congr fun x _ => ?_
  by_cases h : x.1 = n <;> simp [Lit.sameKey, Function.comp, h]
theorem enc_put (l : List (Bs × Value)) (n : Bs) (v : Value) : (enc l).put (.string n) (.held v) = enc (kput l (n, v)) := by
  unfold enc DataW.put kput
  simp only
  rw [enc_filter, enc_insert (n, v)]
theorem enc_del (l : List (Bs × Value)) (n : Bs) : (enc l).del (.string n) = enc (kwithout l n) := by
  unfold enc DataW.del
  simp only
  rw [enc_filter]
theorem enc_at (l : List (Bs × Value)) (n : Bs) (z : DataW Value) : (enc l).atKey (.string n) z = match kget l n with | some v => .held v | none => z := by
  unfold enc DataW.atKey kget
  simp only
  rw [List.find?_map]
  have e : ((fun p : Lit × DataW Value => p.1.sameKey (.string n)) ∘ fun p : Bs × Value => ((.string p.1 : Lit), (.held p.2 : DataW Value))) = fun f : Bs × Value => decide (f.1 = n) := by
    funext f
    by_cases h : f.1 = n <;> simp [Lit.sameKey, Function.comp, h]
  rw [e]
  cases l.find? (fun f => decide (f.1 = n)) <;> rfl
theorem enc_has (l : List (Bs × Value)) (n : Bs) : has (enc l) (.string n) = (kget l n).isSome := by
  unfold enc kget
  rw [has_eq, List.any_map, Option.isSome_map, Bool.eq_iff_iff, List.any_eq_true, List.find?_isSome]
  constructor
  · rintro ⟨x, h1, h2⟩
    exact ⟨x, h1, by simpa [Lit.sameKey, Function.comp] using h2⟩
  · rintro ⟨x, h1, h2⟩
    exact ⟨x, h1, by simpa [Lit.sameKey, Function.comp] using h2⟩
theorem enc_size (l : List (Bs × Value)) : size (enc l) = l.length := by unfold enc; rw [size_eq, List.length_map]
theorem enc_strKeys (l : List (Bs × Value)) : strKeys (enc l) = l.map (·.1) := by
  show (l.map fun p => ((.string p.1 : Lit), (.held p.2 : DataW Value))).map (fun p => strOf p.1) = _
  rw [List.map_map]; rfl

/-! ### In memory -/
theorem klaw : Keyed Tryd.prog 9 := string_keyed Tryd.underlying9
theorem kstr (n : Bs) (h : n.length ≤ maxLen) : keyOf Tryd.prog 9 (.string (S n)) = some (.string n) := by
  have := keyOf_string_mk (P := Tryd.prog) Tryd.underlying9 (s := S n) h
  rwa [S_data] at this
/-- Block b is a map that holds l. -/
def Mp (w : World) (b : Nat) (l : List (Bs × Value)) : Prop := w.ownsMap Tryd.prog 9 R b l.length (enc l) ∧ KSorted l
theorem Mp.lt {w : World} {b : Nat} {l : List (Bs × Value)} (h : Mp w b l) : b < w.heap.size := h.1.lt
theorem Mp.block {w : World} {b : Nat} {l : List (Bs × Value)} (h : Mp w b l) : ∃ es c, w.heap[b]? = some (.map es c) := by obtain ⟨es, c, hb, _⟩ := h.1; exact ⟨es, c, hb⟩
theorem Mp.of {w w' : World} {b : Nat} {l : List (Bs × Value)} (h : Mp w b l) (hb : w'.heap[b]? = w.heap[b]?) : Mp w' b l := by
  obtain ⟨⟨es, c, h1, h2⟩, hs⟩ := h
  exact ⟨⟨es, c, hb.trans h1, h2⟩, hs⟩
theorem Mp.made (w : World) : Mp (w.alloc (.map #[] 0)) w.heap.size [] := ⟨World.ownsMap_made w _ _ _, List.Pairwise.nil⟩
theorem Mp.look {w : World} {b : Nat} {l : List (Bs × Value)} (h : Mp w b l) {T E : TypeId} (hT : Tryd.prog.underlying T = some (.map 9 E)) {z : Value} (hz : (zeroValue E).run Tryd.prog w = .ok z w) (n : Bs) (hn : n.length ≤ maxLen) :
    (Instr.lookup T (.map (some b)) (.string (S n)) false).run Tryd.prog w = .ok ((kget l n).getD z) w := by
  obtain ⟨v, ps, h1, h2⟩ := h.1.lookup klaw hT hz (zd := .held z) (zp := []) rfl (kstr n hn)
  rw [h1, enc_at] at *
  have e : v = (kget l n).getD z := by
    unfold R at h2
    cases hk : kget l n with
    | none => rw [hk] at h2; simp at h2; exact h2.1
    | some u => rw [hk] at h2; simp at h2; exact h2.1
  rw [e]
theorem Mp.lookok {w : World} {b : Nat} {l : List (Bs × Value)} (h : Mp w b l) {T E : TypeId} (hT : Tryd.prog.underlying T = some (.map 9 E)) {z : Value} (hz : (zeroValue E).run Tryd.prog w = .ok z w) (n : Bs) (hn : n.length ≤ maxLen) :
    (Instr.lookup T (.map (some b)) (.string (S n)) true).run Tryd.prog w = .ok (.tuple #[(kget l n).getD z, .bool (kget l n).isSome]) w := by
  obtain ⟨v, ps, h1, h2⟩ := h.1.look_ok klaw hT hz (zd := .held z) (zp := []) rfl (kstr n hn)
  rw [enc_has] at h1
  rw [enc_at] at h2
  rw [h1]
  have e : v = (kget l n).getD z := by
    unfold R at h2
    cases hk : kget l n with
    | none => rw [hk] at h2; simp at h2; exact h2.1
    | some u => rw [hk] at h2; simp at h2; exact h2.1
  rw [e]
/-- Only that map has turned. -/
structure Turned (b : Nat) (w w' : World) : Prop where
  os : w'.os = w.os
  tape : w'.tape = w.tape
  output : w'.output = w.output
  size : w'.heap.size = w.heap.size
  block : ∀ k, k ≠ b → w'.heap[k]? = w.heap[k]?
theorem Turned.of {b : Nat} {w w' : World} (h : w.mapTurned w' b) : Turned b w w' := by
  obtain ⟨es, c, es', c', hb, rfl⟩ := h
  exact ⟨rfl, rfl, rfl, by simp [setBlock], fun k hk => heap_setBlock_other hb _ hk⟩
theorem enc_tidy {w : World} {b : Nat} {l : List (Bs × Value)} {n : Nat} (h : w.ownsMap Tryd.prog 9 R b n (enc l)) : w.ownsMap Tryd.prog 9 R b l.length (enc l) := by
  obtain ⟨es, c, hb, F, hs, hD⟩ := h
  refine ⟨es, c, hb, F, ?_, hD⟩
  have := enc_size l
  rw [hD, size_eq, length_read] at this
  omega
theorem Mp.store {w : World} {b : Nat} {l : List (Bs × Value)} (h : Mp w b l) {T E : TypeId} (hT : Tryd.prog.underlying T = some (.map 9 E)) (n : Bs) (hn : n.length ≤ maxLen) (hl : l.length < maxLen) (v : Value) :
    ∃ w', (Instr.mapUpdate T (.map (some b)) (.string (S n)) v).run Tryd.prog w = .ok () w' ∧ Mp w' b (kput l (n, v)) ∧ Turned b w w' := by
  obtain ⟨w', h1, h2, h3⟩ := h.1.store klaw hT hl (kstr n hn) (val := v) (d := .held v) (ps := []) rfl
  rw [enc_put] at h2
  exact ⟨w', h1, ⟨enc_tidy h2, kput_sorted h.2 _⟩, Turned.of h3⟩
theorem Mp.drop {w : World} {b : Nat} {l : List (Bs × Value)} (h : Mp w b l) {T E : TypeId} (hT : Tryd.prog.underlying T = some (.map 9 E)) (n : Bs) (hn : n.length ≤ maxLen) (ty : TypeId) :
    ∃ w', (Builtin.delete_ #[T, 9] ty #[.map (some b), .string (S n)]).run Tryd.prog w = .ok (.tuple #[]) w' ∧ Mp w' b (kwithout l n) ∧ Turned b w w' := by
  obtain ⟨w', h1, h2, h3⟩ := h.1.drop klaw hT (kstr n hn) ty
  rw [enc_del] at h2
  exact ⟨w', h1, ⟨enc_tidy h2, kwithout_sorted h.2 _⟩, Turned.of h3⟩
theorem Mp.len {w : World} {b : Nat} {l : List (Bs × Value)} (h : Mp w b l) {T E : TypeId} (hT : Tryd.prog.underlying T = some (.map 9 E)) (ty : TypeId) :
    (Builtin.len_ #[T] ty #[.map (some b)]).run Tryd.prog w = .ok (.int .i64 (l.length : Nat)) w := by
  rw [h.1.len hT ty, enc_size]

/-! ### Gone over -/
/-- What is under way: r is the iterator; rest: what is still to come, in the map's own order. -/
def Ranging (w : World) (b r : Nat) (l rest : List (Bs × Value)) : Prop :=
  KSorted l ∧ rest.Sublist l ∧ ∃ left cnt, w.ranges Tryd.prog 9 R b r l.length (enc l) left cnt ∧ ∀ n, left (.string n) = (kget rest n).isSome
theorem Ranging.mp {w : World} {b r : Nat} {l rest : List (Bs × Value)} (h : Ranging w b r l rest) : Mp w b l := by obtain ⟨h1, _, left, cnt, h3, _⟩ := h; exact ⟨h3.owns, h1⟩
theorem Ranging.lt {w : World} {b r : Nat} {l rest : List (Bs × Value)} (h : Ranging w b r l rest) : r < w.heap.size := by obtain ⟨_, _, left, cnt, h3, _⟩ := h; exact h3.lt
theorem Ranging.ne {w : World} {b r : Nat} {l rest : List (Bs × Value)} (h : Ranging w b r l rest) : r ≠ b := by obtain ⟨_, _, left, cnt, h3, _⟩ := h; exact h3.ne
theorem Ranging.iter {w : World} {b r : Nat} {l rest : List (Bs × Value)} (h : Ranging w b r l rest) : ∃ a c d e, w.heap[r]? = some (.mapIter a c d e) := by
  obtain ⟨_, _, left, cnt, ⟨es, c, si, se, c0, a1, a2, a3, a4, a5, a6⟩, _⟩ := h
  exact ⟨_, _, _, _, a5⟩
theorem Ranging.of {w w' : World} {b r : Nat} {l rest : List (Bs × Value)} (h : Ranging w b r l rest) (hb : w'.heap[b]? = w.heap[b]?) (hr : w'.heap[r]? = w.heap[r]?) : Ranging w' b r l rest := by
  obtain ⟨h1, h2, left, cnt, ⟨es, c, si, se, c0, a1, a2, a3, a4, a5, a6⟩, h4⟩ := h
  exact ⟨h1, h2, left, cnt, ⟨es, c, si, se, c0, hb.trans a1, a2, a3, a4, hr.trans a5, a6⟩, h4⟩
theorem left_of {w w' : World} {b r : Nat} (hb : w'.heap[b]? = w.heap[b]?) (hr : w'.heap[r]? = w.heap[r]?) : w'.rangeLeft b r = w.rangeLeft b r := by unfold World.rangeLeft; rw [hb, hr]
theorem Mp.range {w : World} {b : Nat} {l : List (Bs × Value)} (h : Mp w b l) {T E : TypeId} (hT : Tryd.prog.underlying T = some (.map 9 E)) :
    ∃ w', (Instr.range T (.map (some b))).run Tryd.prog w = .ok (.pointer (some ⟨w.heap.size, 0, none⟩)) w' ∧ Ranging w' b w.heap.size l l ∧ Below w.heap.size w w' ∧ w'.heap.size = w.heap.size + 1 := by
  obtain ⟨w', h1, h2, h3, h4⟩ := h.1.range klaw hT
  exact ⟨w', h1, ⟨h.2, List.Sublist.refl _, _, _, h2, fun n => enc_has l n⟩, ⟨h3.os, h3.tape, h3.output, h3.size, fun k hk => h3.block k hk (by simp)⟩, h4⟩
theorem kget_without (l : List (Bs × Value)) (n m : Bs) : kget (kwithout l n) m = if m = n then none else kget l m := by
  split
  · next h => subst h; exact kget_eq_none fun f hf => (mem_kwithout.1 hf).2
  · next h =>
    unfold kget kwithout
    rw [List.find?_filter]
    congr 2
    funext f
    by_cases h2 : f.1 = m
    · subst h2; simp [h]
    · simp [h2]
/-- The step: nothing is left, or one that is left comes, whichever. -/
theorem Ranging.next {w : World} {b r : Nat} {l rest : List (Bs × Value)} (h : Ranging w b r l rest) (ty : TypeId) :
    (rest = [] ∧ (Instr.next (.pointer (some ⟨r, 0, none⟩)) false ty).run Tryd.prog w = .ok (.tuple #[.bool false]) w) ∨
    ∃ n v w', (n, v) ∈ rest ∧ n.length ≤ maxLen ∧ (Instr.next (.pointer (some ⟨r, 0, none⟩)) false ty).run Tryd.prog w = .ok (.tuple #[.bool true, .string (S n), v]) w' ∧ Ranging w' b r l (kwithout rest n) ∧ Turned r w w' ∧
      w'.rangeLeft b r < w.rangeLeft b r ∧ (Instr.entry (.pointer (some ⟨r, 0, none⟩))).run Tryd.prog w' = .ok (.tuple #[.string (S n), v]) w' := by
  obtain ⟨h1, h2, left, cnt, h3, h4⟩ := h
  rcases h3.next klaw ty with ⟨_, e2, e3⟩ | ⟨key, v, kl, y, w', cnt', a1, a2, a3, a4, a5, a6, a7, a8, a9, a10⟩
  · refine .inl ⟨?_, e3⟩
    cases rest with
    | nil => rfl
    | cons x t =>
      exfalso
      have h5 := h4 x.1
      rw [e2] at h5
      have : kget (x :: t) x.1 = some x.2 := by unfold kget; rw [List.find?_cons]; simp
      rw [this] at h5
      cases h5
  · obtain ⟨n, rfl, rfl, hn⟩ := Maps.keyOf_str Tryd.underlying9 a1
    obtain rfl : y = (.held v, []) := by unfold R at a3; exact (Option.some.inj a3).symm
    have hs : KSorted rest := List.Pairwise.sublist h2 h1
    have hr : (kget rest n).isSome = true := by rw [← h4]; exact a2
    obtain ⟨u, hu⟩ := Option.isSome_iff_exists.1 hr
    have hm := kget_some hu
    have hml : (n, u) ∈ l := h2.subset hm
    have hv : u = v := by
      have := a4 .nil
      rw [enc_at, kget_of_mem h1 hml] at this
      simpa using this
    subst hv
    have hlt : w'.rangeLeft b r < w.rangeLeft b r := by rw [a6.left_eq, h3.left_eq]; exact a7
    refine .inr ⟨n, u, w', hm, hn, a5, ⟨h1, List.Sublist.trans List.filter_sublist h2, _, cnt', a6, fun m => ?_⟩, ⟨a8.os, a8.tape, a8.output, a9, fun k hk => ?_⟩, hlt, a10⟩
    · show (left (.string m) && !(Lit.string m).sameKey (.string n)) = _
      rw [kget_without, h4]
      by_cases e : m = n
      · subst e; simp [Lit.sameKey]
      · simp [e, Lit.sameKey]
    · by_cases hlt : k < w.heap.size
      · exact a8.block k hlt (fun e => hk (Option.some.inj e))
      · rw [Array.getElem?_eq_none (by omega), Array.getElem?_eq_none (by omega)]
end Go.Proofs.YtpimdbnhpbjlkaaDoor.mp
/-! Shelf -/
namespace Go.Proofs
open Go.Shelf
def Tryd.lays128_ren : Go.Shelf.Ren := ⟨fun | 128 => 78 | n => n, fun | 51 => 78 | 3 => 3 | 4 => 4 | 46 => 37 | 5 => 5 | 9 => 9 | n => n, fun | n => n⟩
theorem Tryd.lays128 : Go.Proofs.Lays.n128 Tryd.prog Tryd.lays128_ren := {
  mixed := by kernel_rfl
  f128 := Tryd.func78.trans (congrArg some (by kernel_rfl))
  t3 := Tryd.underlying3
  a3 := Tryd.isAgg3
  z3 := Tryd.sizeOf3
  v3 := Tryd.zeroValue3
  t4 := Tryd.underlying4
  a4 := Tryd.isAgg4
  z4 := Tryd.sizeOf4
  v4 := Tryd.zeroValue4
  t5 := Tryd.underlying5
  a5 := Tryd.isAgg5
  z5 := Tryd.sizeOf5
  v5 := Tryd.zeroValue5
  t9 := Tryd.underlying9
  a9 := Tryd.isAgg9
  z9 := Tryd.sizeOf9
  v9 := Tryd.zeroValue9
  t46 := Tryd.underlying37
  a46 := Tryd.isAgg37
  z46 := Tryd.sizeOf37
  v46 := Tryd.zeroValue37
  t51 := Tryd.underlying78
  a51 := Tryd.isAgg78
  z51 := Tryd.sizeOf78
  v51 := Tryd.zeroValue78 }
/-- bits.Len32: "Len32 returns the minimum number of bits required to represent x; the result is 0 for x == 0.": IT RETURNS 'Lib.bitLen x'; the world is as it was. ('h0', 'h1': x is a uint32.) (LAID: no walk: one application.) -/
theorem Tryd.bits_Len32 (x : Int) (w : World) (h0 : 0 ≤ x) (h1 : x ≤ 4294967295) :
    Calls Tryd.prog 78 #[.int .u32 x] w fun e w' => e = .returned (.int .i64 (Lib.bitLen x.toNat)) ∧ w' = w := Any.bits_Len32 Tryd.lays128 x w h0 h1
def Tryd.lays125_ren : Go.Shelf.Ren := ⟨fun | 125 => 66 | 128 => 78 | 129 => 79 | n => n, fun | 46 => 37 | 3 => 3 | 51 => 78 | 53 => 92 | 4 => 4 | 5 => 5 | 9 => 9 | n => n, fun | n => n⟩
theorem Tryd.lays125 : Go.Proofs.Lays.n125 Tryd.prog Tryd.lays125_ren := {
  mixed := by kernel_rfl
  f125 := Tryd.func66.trans (congrArg some (by kernel_rfl))
  f128 := Tryd.func78.trans (congrArg some (by kernel_rfl))
  f129 := Tryd.func79.trans (congrArg some (by kernel_rfl))
  t3 := Tryd.underlying3
  a3 := Tryd.isAgg3
  z3 := Tryd.sizeOf3
  v3 := Tryd.zeroValue3
  t4 := Tryd.underlying4
  a4 := Tryd.isAgg4
  z4 := Tryd.sizeOf4
  v4 := Tryd.zeroValue4
  t5 := Tryd.underlying5
  a5 := Tryd.isAgg5
  z5 := Tryd.sizeOf5
  v5 := Tryd.zeroValue5
  t9 := Tryd.underlying9
  a9 := Tryd.isAgg9
  z9 := Tryd.sizeOf9
  v9 := Tryd.zeroValue9
  t46 := Tryd.underlying37
  a46 := Tryd.isAgg37
  z46 := Tryd.sizeOf37
  v46 := Tryd.zeroValue37
  t51 := Tryd.underlying78
  a51 := Tryd.isAgg78
  z51 := Tryd.sizeOf78
  v51 := Tryd.zeroValue78
  t53 := Tryd.underlying92
  a53 := Tryd.isAgg92
  z53 := Tryd.sizeOf92
  v53 := Tryd.zeroValue92 }
/-- bits.Len: "Len returns the minimum number of bits required to represent x; the result is 0 for x == 0.": IT RETURNS 'Lib.bitLen x'; the world is as it was. (A uint has 64 bits in the model.) ITS CALLEE bits.Len64 IS MET BY ITS OWN CONTRACT OFF THE SHELF (lay that first). (LAID: no walk: one application.) -/
theorem Tryd.bits_Len (x : Int) (w : World) (h0 : 0 ≤ x) (h1 : x ≤ 18446744073709551615) :
    Calls Tryd.prog 66 #[.int .u64 x] w fun e w' => e = .returned (.int .i64 (Lib.bitLen x.toNat)) ∧ w' = w := Any.bits_Len Tryd.lays125 x w h0 h1
def Tryd.lays137_ren : Go.Shelf.Ren := ⟨fun | 137 => 68 | 217 => 81 | 266 => 88 | n => n, fun | 9 => 9 | 5 => 5 | 3 => 3 | n => n, fun | n => n⟩
theorem Tryd.lays137 : Go.Proofs.Lays.n137 Tryd.prog Tryd.lays137_ren := {
  mixed := by kernel_rfl
  f137 := Tryd.func68.trans (congrArg some (by kernel_rfl))
  f217 := Tryd.func81.trans (congrArg some (by kernel_rfl))
  f266 := Tryd.func88.trans (congrArg some (by kernel_rfl))
  t3 := Tryd.underlying3
  a3 := Tryd.isAgg3
  z3 := Tryd.sizeOf3
  v3 := Tryd.zeroValue3
  t5 := Tryd.underlying5
  a5 := Tryd.isAgg5
  z5 := Tryd.sizeOf5
  v5 := Tryd.zeroValue5
  t9 := Tryd.underlying9
  a9 := Tryd.isAgg9
  z9 := Tryd.sizeOf9
  v9 := Tryd.zeroValue9 }
open Go.RowKit in
/-- strings.IndexByte: "IndexByte returns the index of the first instance of c in s, or -1 if c is not present in s.": IT RETURNS 'Lib.indexByte s c'; the world is as it was. (LAID: no walk: one application.) -/
theorem Tryd.strings_IndexByte (s : ByteArray) (c : Int) (w : World) :
    Calls Tryd.prog 68 #[.string s, .int .u8 c] w fun e w' => e = .returned (.int .i64 (Lib.indexByte s.data.toList c.toNat.toUInt8)) ∧ w' = w := Any.strings_IndexByte Tryd.lays137 s c w
def Tryd.lays210_ren : Go.Shelf.Ren := ⟨fun | 210 => 67 | 206 => 80 | n => n, fun | 9 => 9 | 4 => 4 | 3 => 3 | n => n, fun | n => n⟩
theorem Tryd.lays210 : Go.Proofs.Lays.n210 Tryd.prog Tryd.lays210_ren := {
  mixed := by kernel_rfl
  f206 := Tryd.func80.trans (congrArg some (by kernel_rfl))
  f210 := Tryd.func67.trans (congrArg some (by kernel_rfl))
  t3 := Tryd.underlying3
  a3 := Tryd.isAgg3
  z3 := Tryd.sizeOf3
  v3 := Tryd.zeroValue3
  t4 := Tryd.underlying4
  a4 := Tryd.isAgg4
  z4 := Tryd.sizeOf4
  v4 := Tryd.zeroValue4
  t9 := Tryd.underlying9
  a9 := Tryd.isAgg9
  z9 := Tryd.sizeOf9
  v9 := Tryd.zeroValue9 }
open Go.RowKit in
/-- internal/stringslite.CutPrefix (what strings.CutPrefix calls). (LAID: no walk: one application.) -/
theorem Tryd.stringslite_CutPrefix (s p : ByteArray) (w : World) :
    Calls Tryd.prog 67 #[.string s, .string p] w fun e w' => e = .returned (.tuple #[.string ⟨(Lib.trimPrefix s.data.toList p.data.toList).toArray⟩, .bool (Lib.hasPrefix s.data.toList p.data.toList)]) ∧ w' = w := Any.stringslite_CutPrefix Tryd.lays210 s p w
def Tryd.lays103_ren : Go.Shelf.Ren := ⟨fun | 103 => 61 | 210 => 67 | 206 => 80 | n => n, fun | 9 => 9 | 4 => 4 | 24 => 85 | 3 => 3 | n => n, fun | n => n⟩
theorem Tryd.lays103 : Go.Proofs.Lays.n103 Tryd.prog Tryd.lays103_ren := {
  mixed := by kernel_rfl
  f103 := Tryd.func61.trans (congrArg some (by kernel_rfl))
  f206 := Tryd.func80.trans (congrArg some (by kernel_rfl))
  f210 := Tryd.func67.trans (congrArg some (by kernel_rfl))
  t3 := Tryd.underlying3
  a3 := Tryd.isAgg3
  z3 := Tryd.sizeOf3
  v3 := Tryd.zeroValue3
  t4 := Tryd.underlying4
  a4 := Tryd.isAgg4
  z4 := Tryd.sizeOf4
  v4 := Tryd.zeroValue4
  t9 := Tryd.underlying9
  a9 := Tryd.isAgg9
  z9 := Tryd.sizeOf9
  v9 := Tryd.zeroValue9
  t24 := Tryd.underlying85
  a24 := Tryd.isAgg85
  z24 := Tryd.sizeOf85
  v24 := Tryd.zeroValue85 }
open Go.RowKit in
/-- strings.CutPrefix: "CutPrefix returns s without the provided leading prefix string and reports whether it found the prefix. If s doesn't start with prefix, CutPrefix returns s, false. If prefix is the empty string, CutPrefix returns s, true.": IT RETURNS '(Lib.trimPrefix s p, Lib.hasPrefix s p)'; the world is as it was. (LAID: no walk: one application.) -/
theorem Tryd.strings_CutPrefix (s p : ByteArray) (w : World) :
    Calls Tryd.prog 61 #[.string s, .string p] w fun e w' => e = .returned (.tuple #[.string ⟨(Lib.trimPrefix s.data.toList p.data.toList).toArray⟩, .bool (Lib.hasPrefix s.data.toList p.data.toList)]) ∧ w' = w := Any.strings_CutPrefix Tryd.lays103 s p w
def Tryd.lays129_ren : Go.Shelf.Ren := ⟨fun | 129 => 79 | n => n, fun | 53 => 92 | 3 => 3 | 4 => 4 | 46 => 37 | 5 => 5 | 9 => 9 | n => n, fun | n => n⟩
theorem Tryd.lays129 : Go.Proofs.Lays.n129 Tryd.prog Tryd.lays129_ren := {
  mixed := by kernel_rfl
  f129 := Tryd.func79.trans (congrArg some (by kernel_rfl))
  t3 := Tryd.underlying3
  a3 := Tryd.isAgg3
  z3 := Tryd.sizeOf3
  v3 := Tryd.zeroValue3
  t4 := Tryd.underlying4
  a4 := Tryd.isAgg4
  z4 := Tryd.sizeOf4
  v4 := Tryd.zeroValue4
  t5 := Tryd.underlying5
  a5 := Tryd.isAgg5
  z5 := Tryd.sizeOf5
  v5 := Tryd.zeroValue5
  t9 := Tryd.underlying9
  a9 := Tryd.isAgg9
  z9 := Tryd.sizeOf9
  v9 := Tryd.zeroValue9
  t46 := Tryd.underlying37
  a46 := Tryd.isAgg37
  z46 := Tryd.sizeOf37
  v46 := Tryd.zeroValue37
  t53 := Tryd.underlying92
  a53 := Tryd.isAgg92
  z53 := Tryd.sizeOf92
  v53 := Tryd.zeroValue92 }
/-- bits.Len64: "Len64 returns the minimum number of bits required to represent x; the result is 0 for x == 0.": IT RETURNS 'Lib.bitLen x'; the world is as it was. ('h0', 'h1': x is a uint64.) (LAID: no walk: one application.) -/
theorem Tryd.bits_Len64 (x : Int) (w : World) (h0 : 0 ≤ x) (h1 : x ≤ 18446744073709551615) :
    Calls Tryd.prog 79 #[.int .u64 x] w fun e w' => e = .returned (.int .i64 (Lib.bitLen x.toNat)) ∧ w' = w := Any.bits_Len64 Tryd.lays129 x w h0 h1
def Tryd.laysM316_ren : Go.Shelf.Ren := ⟨fun | 316 => 57 | n => n, fun | 9 => 9 | 3 => 3 | 4 => 4 | 37 => 75 | 0 => 0 | 127 => 95 | 5 => 5 | n => n, fun | n => n⟩
theorem Tryd.laysM316 : Go.Proofs.LaysM.n316 Tryd.prog Tryd.laysM316_ren := {
  mixed := by kernel_rfl
  f316 := Tryd.func57.trans (congrArg some (by kernel_rfl))
  t0 := Tryd.underlying0
  a0 := Tryd.isAgg0
  z0 := Tryd.sizeOf0
  v0 := Tryd.zeroValue0
  t3 := Tryd.underlying3
  a3 := Tryd.isAgg3
  z3 := Tryd.sizeOf3
  v3 := Tryd.zeroValue3
  t4 := Tryd.underlying4
  a4 := Tryd.isAgg4
  z4 := Tryd.sizeOf4
  v4 := Tryd.zeroValue4
  t9 := Tryd.underlying9
  a9 := Tryd.isAgg9
  z9 := Tryd.sizeOf9
  v9 := Tryd.zeroValue9
  t37 := Tryd.underlying75
  a37 := Tryd.isAgg75
  z37 := Tryd.sizeOf75
  v37 := Tryd.zeroValue75
  t127 := Tryd.underlying95
  a127 := Tryd.isAgg95
  z127 := Tryd.sizeOf95
  v127 := Tryd.zeroValue95
  t5 := Tryd.underlying5
  a5 := Tryd.isAgg5
  z5 := Tryd.sizeOf5
  v5 := Tryd.zeroValue5
  i0 := by kernel_rfl
  i3 := by kernel_rfl
  i4 := by kernel_rfl
  i5 := by kernel_rfl
  i9 := by kernel_rfl
  i37 := by kernel_rfl
  i127 := by kernel_rfl }
open Go.RowKit in
/-- internal/stringslite.Clone (what strings.Clone calls): "Clone returns a fresh copy of s.": THE SAME BYTES. Of what was there nothing has turned (a new row is laid, and frozen, where s is not empty). (LAID: no walk: one application.) -/
theorem Tryd.stringslite_Clone (s : ByteArray) (w : World) (hlim : s.size ≤ 281474976710656) :
    Calls Tryd.prog 57 #[.string s] w fun e w' => e = .returned (.string s) ∧ Below w.heap.size w w' := Any.stringslite_Clone Tryd.laysM316 s w hlim
def Tryd.lays217_ren : Go.Shelf.Ren := ⟨fun | 217 => 81 | 266 => 88 | n => n, fun | 9 => 9 | 5 => 5 | 3 => 3 | n => n, fun | n => n⟩
theorem Tryd.lays217 : Go.Proofs.Lays.n217 Tryd.prog Tryd.lays217_ren := {
  mixed := by kernel_rfl
  f217 := Tryd.func81.trans (congrArg some (by kernel_rfl))
  f266 := Tryd.func88.trans (congrArg some (by kernel_rfl))
  t3 := Tryd.underlying3
  a3 := Tryd.isAgg3
  z3 := Tryd.sizeOf3
  v3 := Tryd.zeroValue3
  t5 := Tryd.underlying5
  a5 := Tryd.isAgg5
  z5 := Tryd.sizeOf5
  v5 := Tryd.zeroValue5
  t9 := Tryd.underlying9
  a9 := Tryd.isAgg9
  z9 := Tryd.sizeOf9
  v9 := Tryd.zeroValue9 }
open Go.RowKit Go.Lib in
/-- internal/stringslite.IndexByte (what strings.IndexByte calls): IT RETURNS 'Lib.indexByte s c'; the world is as it was. (LAID: no walk: one application.) -/
theorem Tryd.stringslite_IndexByte (s : ByteArray) (c : Int) (w : World) :
    Calls Tryd.prog 81 #[.string s, .int .u8 c] w fun e w' => e = .returned (.int .i64 (Lib.indexByte s.data.toList c.toNat.toUInt8)) ∧ w' = w := Any.stringslite_IndexByte Tryd.lays217 s c w
def Tryd.lays190_ren : Go.Shelf.Ren := ⟨fun | 190 => 60 | 125 => 66 | 258 => 65 | 128 => 78 | 129 => 79 | 302 => 69 | 303 => 70 | 304 => 71 | 305 => 72 | 306 => 73 | 307 => 74 | 308 => 75 | 309 => 76 | 310 => 77 | 333 => 82 | 329 => 83 | 330 => 84 | 334 => 85 | 335 => 86 | 336 => 87 | 344 => 89 | n => n, fun | 31 => 22 | 9 => 9 | 3 => 3 | 46 => 37 | 0 => 0 | 51 => 78 | 53 => 92 | 4 => 4 | 183 => 102 | 182 => 101 | 131 => 106 | 5 => 5 | 218 => 110 | 222 => 114 | 228 => 116 | 229 => 117 | n => n, fun | n => n⟩
theorem Tryd.lays190 : Go.Proofs.Lays.n190 Tryd.prog Tryd.lays190_ren := {
  mixed := by kernel_rfl
  f125 := Tryd.func66.trans (congrArg some (by kernel_rfl))
  f128 := Tryd.func78.trans (congrArg some (by kernel_rfl))
  f129 := Tryd.func79.trans (congrArg some (by kernel_rfl))
  f190 := Tryd.func60.trans (congrArg some (by kernel_rfl))
  f258 := Tryd.func65.trans (congrArg some (by kernel_rfl))
  f302 := Tryd.func69.trans (congrArg some (by kernel_rfl))
  f303 := Tryd.func70.trans (congrArg some (by kernel_rfl))
  f304 := Tryd.func71.trans (congrArg some (by kernel_rfl))
  f305 := Tryd.func72.trans (congrArg some (by kernel_rfl))
  f306 := Tryd.func73.trans (congrArg some (by kernel_rfl))
  f307 := Tryd.func74.trans (congrArg some (by kernel_rfl))
  f308 := Tryd.func75.trans (congrArg some (by kernel_rfl))
  f309 := Tryd.func76.trans (congrArg some (by kernel_rfl))
  f310 := Tryd.func77.trans (congrArg some (by kernel_rfl))
  f329 := Tryd.func83.trans (congrArg some (by kernel_rfl))
  f330 := Tryd.func84.trans (congrArg some (by kernel_rfl))
  f333 := Tryd.func82.trans (congrArg some (by kernel_rfl))
  f334 := Tryd.func85.trans (congrArg some (by kernel_rfl))
  f335 := Tryd.func86.trans (congrArg some (by kernel_rfl))
  f336 := Tryd.func87.trans (congrArg some (by kernel_rfl))
  f344 := Tryd.func89.trans (congrArg some (by kernel_rfl))
  t0 := Tryd.underlying0
  a0 := Tryd.isAgg0
  z0 := Tryd.sizeOf0
  v0 := Tryd.zeroValue0
  t3 := Tryd.underlying3
  a3 := Tryd.isAgg3
  z3 := Tryd.sizeOf3
  v3 := Tryd.zeroValue3
  t4 := Tryd.underlying4
  a4 := Tryd.isAgg4
  z4 := Tryd.sizeOf4
  v4 := Tryd.zeroValue4
  t5 := Tryd.underlying5
  a5 := Tryd.isAgg5
  z5 := Tryd.sizeOf5
  v5 := Tryd.zeroValue5
  t9 := Tryd.underlying9
  a9 := Tryd.isAgg9
  z9 := Tryd.sizeOf9
  v9 := Tryd.zeroValue9
  t31 := Tryd.underlying22
  a31 := Tryd.isAgg22
  z31 := Tryd.sizeOf22
  v31 := Tryd.zeroValue22
  t46 := Tryd.underlying37
  a46 := Tryd.isAgg37
  z46 := Tryd.sizeOf37
  v46 := Tryd.zeroValue37
  t51 := Tryd.underlying78
  a51 := Tryd.isAgg78
  z51 := Tryd.sizeOf78
  v51 := Tryd.zeroValue78
  t53 := Tryd.underlying92
  a53 := Tryd.isAgg92
  z53 := Tryd.sizeOf92
  v53 := Tryd.zeroValue92
  t131 := Tryd.underlying106
  a131 := Tryd.isAgg106
  z131 := Tryd.sizeOf106
  v131 := Tryd.zeroValue106
  t182 := Tryd.underlying101
  a182 := Tryd.isAgg101
  z182 := Tryd.sizeOf101
  v182 := Tryd.zeroValue101
  t183 := Tryd.underlying102
  a183 := Tryd.isAgg102
  z183 := Tryd.sizeOf102
  v183 := Tryd.zeroValue102
  t218 := Tryd.underlying110
  a218 := Tryd.isAgg110
  z218 := Tryd.sizeOf110
  v218 := Tryd.zeroValue110
  t222 := Tryd.underlying114
  a222 := Tryd.isAgg114
  z222 := Tryd.sizeOf114
  v222 := Tryd.zeroValue114
  t228 := Tryd.underlying116
  a228 := Tryd.isAgg116
  z228 := Tryd.sizeOf116
  v228 := Tryd.zeroValue116
  t229 := Tryd.underlying117
  a229 := Tryd.isAgg117
  z229 := Tryd.sizeOf117
  v229 := Tryd.zeroValue117 }
open Go.Sort Go.RowKit in
theorem Tryd.slices_Sort_string (blk off cap : Nat) (ss : List (List UInt8)) (w : World) (hH : Holds encStr w blk off ss.toArray) (hblk : blk < w.heap.size) (hsz : ss.length < 4611686018427387904) :
    Calls Tryd.prog 60 #[.slice (some ⟨blk, off, none⟩) ss.length cap] w fun e w' =>
      e = .returned (.tuple #[]) ∧ ∃ n os, w' = grow (putRow encStr (Sort.ahead w n) blk off (ss.mergeSort fun x y => decide (x ≤ y)).toArray) os := Any.slices_Sort_string Tryd.lays190 blk off cap ss w hH hblk hsz
def Tryd.lays206_ren : Go.Shelf.Ren := ⟨fun | 206 => 80 | n => n, fun | 9 => 9 | 4 => 4 | 3 => 3 | n => n, fun | n => n⟩
theorem Tryd.lays206 : Go.Proofs.Lays.n206 Tryd.prog Tryd.lays206_ren := {
  mixed := by kernel_rfl
  f206 := Tryd.func80.trans (congrArg some (by kernel_rfl))
  t3 := Tryd.underlying3
  a3 := Tryd.isAgg3
  z3 := Tryd.sizeOf3
  v3 := Tryd.zeroValue3
  t4 := Tryd.underlying4
  a4 := Tryd.isAgg4
  z4 := Tryd.sizeOf4
  v4 := Tryd.zeroValue4
  t9 := Tryd.underlying9
  a9 := Tryd.isAgg9
  z9 := Tryd.sizeOf9
  v9 := Tryd.zeroValue9 }
open Go.RowKit Go.Lib in
/-- internal/stringslite.HasPrefix (what strings.HasPrefix calls). (LAID: no walk: one application.) -/
theorem Tryd.stringslite_HasPrefix (s p : ByteArray) (w : World) :
    Calls Tryd.prog 80 #[.string s, .string p] w fun e w' => e = .returned (.bool (Lib.hasPrefix s.data.toList p.data.toList)) ∧ w' = w := Any.stringslite_HasPrefix Tryd.lays206 s p w
open Go.RowKit Go.Sort in
/-- .. and plain. (LAID: no walk: one application.) -/
theorem Tryd.slices_Sort_string_none (p : Option Addr) (cap : Nat) (w : World) :
    Calls Tryd.prog 60 #[.slice p 0 cap] w fun e w' => e = .returned (.tuple #[]) ∧ w' = w := Any.slices_Sort_string_none Tryd.lays190 p cap w
end Go.Proofs
/-! DkP1 -/
namespace Go.Proofs.YtpimdbnhpbjlkaaDoor.dk
set_option linter.unusedVariables false
open Go.RowKit
open fl (S S_size S_append S_inj str_eq str_ne)
open rw (Arr But Row Own bnext below_box below_drew below_drewN addr_add Fr RowB)
open mp (Mp Turned kget kput kwithout kmap KSorted)

/-! ### The lists are the same -/
theorem get_k (l : List File) (n : Bs) : kget l n = get l n := rfl
theorem without_k (l : List File) (n : Bs) : kwithout l n = without l n := rfl
theorem ins_k (f : File) : ∀ l : List File, mp.kins f l = ins f l
  | [] => rfl
  | x :: r => by unfold mp.kins ins; rw [ins_k f r]
theorem put_k (l : List File) (f : File) : kput l f = put l f := by unfold kput put; rw [ins_k]; rfl
theorem sorted_k (l : List File) : KSorted l ↔ Sorted l := Iff.rfl

/-- A file as it lies: its name, its bytes, its row. -/
abbrev FV := Bs × (Bs × Value)
abbrev con (fs : List FV) : List File := kmap (fun x => x.1) fs
abbrev vals (fs : List FV) : List (Bs × Value) := kmap (fun x => Value.agg #[x.2]) fs
structure FMs (w : World) (b : Nat) (fs : List FV) : Prop where
  map : Mp w b (vals fs)
  own : ∀ f ∈ fs, RowB w f.2.2 f.2.1
  apart : ∀ f ∈ fs, ∀ g ∈ fs, f.1 ≠ g.1 → ∀ q, f.2.2.ownBlock = some q → g.2.2.ownBlock ≠ some q
  small : ∀ f ∈ fs, f.1.length ≤ maxLen
/-- The blocks that they take. -/
def foot (b : Nat) (fs : List FV) (k : Nat) : Prop := k = b ∨ ∃ f ∈ fs, f.2.2.ownBlock = some k
def FM (w : World) (F : Nat → Prop) (b : Nat) (l : List File) : Prop := ∃ fs, FMs w b fs ∧ con fs = l ∧ ∀ k, F k ↔ foot b fs k
/-- No block of F' but those of F and new ones. -/
def Nu (w : World) (F F' : Nat → Prop) : Prop := ∀ k, F' k → F k ∨ w.heap.size ≤ k
theorem Nu.refl (w : World) (F : Nat → Prop) : Nu w F F := fun _ h => .inl h
theorem Nu.trans {w w1 : World} {F F' F'' : Nat → Prop} (h : Nu w F F') (k : Nu w1 F' F'') (hs : w.heap.size ≤ w1.heap.size) : Nu w F F'' := fun i hi => by
  rcases k i hi with h1 | h1
  · exact h i h1
  · exact .inr (by omega)
theorem FMs.sorted {w : World} {b : Nat} {fs : List FV} (h : FMs w b fs) : KSorted fs := (mp.kmap_sorted _).1 h.map.2
theorem FM.sorted {w : World} {F : Nat → Prop} {b : Nat} {l : List File} (h : FM w F b l) : Sorted l := by
  obtain ⟨fs, h1, rfl, _⟩ := h
  exact (mp.kmap_sorted _).2 h1.sorted
/-- Of what block is each of them. -/
theorem FM.typed {w : World} {F : Nat → Prop} {b : Nat} {l : List File} (h : FM w F b l) : ∀ k, F k → (∃ es c, w.heap[k]? = some (.map es c)) ∨ ∃ cs fr, w.heap[k]? = some (.cells cs 5 fr) := by
  obtain ⟨fs, h1, rfl, hF⟩ := h
  intro k hk
  rcases (hF k).1 hk with rfl | ⟨f, hf, e⟩
  · exact .inl h1.map.block
  · obtain ⟨g, e2, _, cs, fr, hh⟩ := (h1.own f hf).at
    rw [e] at e2
    cases e2
    exact .inr ⟨cs, fr, hh⟩
theorem FM.lt {w : World} {F : Nat → Prop} {b : Nat} {l : List File} (h : FM w F b l) {k : Nat} (hk : F k) : k < w.heap.size := by
  rcases h.typed k hk with ⟨es, c, hh⟩ | ⟨cs, fr, hh⟩ <;> exact (Array.getElem?_eq_some_iff.1 hh).1
theorem FM.map {w : World} {F : Nat → Prop} {b : Nat} {l : List File} (h : FM w F b l) : F b := by
  obtain ⟨fs, h1, rfl, hF⟩ := h
  exact (hF b).2 (.inl rfl)
theorem FMs.of {w w' : World} {b : Nat} {fs : List FV} (h : FMs w b fs) (hb : ∀ k, foot b fs k → w'.heap[k]? = w.heap[k]?) : FMs w' b fs :=
  ⟨h.map.of (hb b (.inl rfl)), fun f hf => (h.own f hf).of fun q hq => hb q (.inr ⟨f, hf, hq⟩), h.apart, h.small⟩
theorem FM.of {w w' : World} {F : Nat → Prop} {b : Nat} {l : List File} (h : FM w F b l) (hb : ∀ k, F k → w'.heap[k]? = w.heap[k]?) : FM w' F b l := by
  obtain ⟨fs, h1, h2, hF⟩ := h
  exact ⟨fs, h1.of fun k hk => hb k ((hF k).2 hk), h2, hF⟩
theorem FM.fr {w w' : World} {F G : Nat → Prop} {b : Nat} {l : List File} (h : FM w F b l) (k : Fr G w w') (hd : ∀ i, F i → ¬ G i) : FM w' F b l := h.of fun i hi => k.block i (h.lt hi) (hd i hi)
theorem FM.below {w w' : World} {F : Nat → Prop} {b : Nat} {l : List File} (h : FM w F b l) (k : Below w.heap.size w w') : FM w' F b l := h.of fun i hi => k.block i (h.lt hi)
/-- What stands at a name. -/
theorem FMs.at {w : World} {b : Nat} {fs : List FV} (h : FMs w b fs) (n : Bs) : (kget (con fs) n = none ∧ kget (vals fs) n = none ∧ kget fs n = none) ∨ ∃ o v, kget fs n = some (o, v) ∧ (n, (o, v)) ∈ fs ∧ kget (con fs) n = some o ∧ kget (vals fs) n = some (.agg #[v]) ∧ RowB w v o := by
  rw [mp.kmap_get, mp.kmap_get]
  cases hk : kget fs n with
  | none => exact .inl ⟨rfl, rfl, rfl⟩
  | some x => exact .inr ⟨x.1, x.2, rfl, mp.kget_some hk, rfl, rfl, h.own _ (mp.kget_some hk)⟩
/-- Another row in place of what stood at a name. -/
theorem FMs.put {w w' : World} {b : Nat} {fs : List FV} (h : FMs w b fs) {n s : Bs} {v : Value} (hm : Mp w' b (kput (vals fs) (n, .agg #[v]))) (hv : RowB w' v s) (hn : n.length ≤ maxLen)
    (hk : ∀ f ∈ fs, f.1 ≠ n → ∀ q, f.2.2.ownBlock = some q → w'.heap[q]? = w.heap[q]?) (hq : ∀ f ∈ fs, f.1 ≠ n → ∀ q, f.2.2.ownBlock = some q → v.ownBlock ≠ some q) : FMs w' b (kput fs (n, (s, v))) := by
  refine ⟨by unfold vals; rw [mp.kmap_put]; exact hm, fun f hf => ?_, fun f hf g hg hne q hqf => ?_, fun f hf => ?_⟩
  · rcases mp.mem_kput.1 hf with rfl | ⟨hf, hne⟩
    · exact hv
    · exact (h.own f hf).of (hk f hf hne)
  · rcases mp.mem_kput.1 hf with rfl | ⟨hf, hnf⟩
    · rcases mp.mem_kput.1 hg with rfl | ⟨hg, hng⟩
      · exact absurd rfl hne
      · intro e
        exact hq g hg hng q e hqf
    · rcases mp.mem_kput.1 hg with rfl | ⟨hg, hng⟩
      · exact hq f hf hnf q hqf
      · exact h.apart f hf g hg hne q hqf
  · rcases mp.mem_kput.1 hf with rfl | ⟨hf, hne⟩
    · exact hn
    · exact h.small f hf
theorem FMs.drop {w w' : World} {b : Nat} {fs : List FV} (h : FMs w b fs) {n : Bs} (hm : Mp w' b (kwithout (vals fs) n)) (hk : ∀ f ∈ fs, ∀ q, f.2.2.ownBlock = some q → w'.heap[q]? = w.heap[q]?) : FMs w' b (kwithout fs n) := by
  refine ⟨by unfold vals; rw [mp.kmap_without]; exact hm, fun f hf => ?_, fun f hf g hg => h.apart f (mp.mem_kwithout.1 hf).1 g (mp.mem_kwithout.1 hg).1, fun f hf => h.small f (mp.mem_kwithout.1 hf).1⟩
  have := (mp.mem_kwithout.1 hf).1
  exact (h.own f this).of (hk f this)
theorem FMs.row_ne {w : World} {b : Nat} {fs : List FV} (h : FMs w b fs) {f : FV} (hf : f ∈ fs) {q : Nat} (hq : f.2.2.ownBlock = some q) : q ≠ b := by
  obtain ⟨g, e, _, cur, fr, hh⟩ := (h.own f hf).at
  rw [hq] at e
  cases e
  obtain ⟨es, c, hb⟩ := h.map.block
  intro e
  rw [e, hb] at hh
  cases hh
theorem field_file (a : Option Addr) (n c : Nat) (w : World) : (Instr.field 77 (.agg #[.slice a n c]) 0).run Tryd.prog w = .ok (.slice a n c) w := by kernel_rfl
theorem zero_file (w : World) : (zeroValue 77).run Tryd.prog w = .ok (.agg #[.slice none 0 0]) w := by kernel_rfl

/-- The law's forms at the operations: an equation on the run is all that they ask. -/
theorem wpList_update_at {P : Program} {w : World} {ops : Array Oper} {rest : List Oper} {o : Oper} {a : Act} {Q : Exit → Act → World → Prop} (m x v : Operand) (t : TypeId)
    (hw : Region.wanted o (yielded ops a.tmps) = true) (ho : o.op = .mapUpdate t m x v) (vm vx vv : Value) (w' : World) (hm : a.eval m = vm) (hx : a.eval x = vx) (hv : a.eval v = vv)
    (hr : (Instr.mapUpdate t vm vx vv).run P w = .ok () w') (h : wpList P ops Q rest (a.put o.dst undef) w') : wpList P ops Q (o :: rest) a w :=
  wpList_step fun K hK => by
    rw [if_pos hw]
    unfold Oper.wp
    simp [execOp, ho, hm, hx, hv, hr, Result.andThen]
    exact hK _ _ h
theorem wpList_append2_at {P : Program} {w : World} {ops : Array Oper} {rest : List Oper} {o : Oper} {a : Act} {Q : Exit → Act → World → Prop} (s x : Operand) (t u : TypeId)
    (hw : Region.wanted o (yielded ops a.tmps) = true)
    (ho : o.op = .call { callee := .builtin .append, args := #[s, x], argTypes := #[t, u] }) (vs vx v' : Value) (w' : World) (hs : a.eval s = vs) (hx : a.eval x = vx)
    (hr : (Builtin.append_ #[t, u] o.type #[vs, vx]).run P w = .ok v' w') (h : wpList P ops Q rest (a.put o.dst v') w') : wpList P ops Q (o :: rest) a w :=
  wpList_step fun K hK => by
    rw [if_pos hw]
    unfold Oper.wp execOp
    simp only [ho, resolve, invoke, builtin, Sem.run_bind, Sem.run_pure, Result.andThen_ok, List.map_toArray, List.map_cons, List.map_nil, hs, hx, hr]
    exact hK _ _ h
theorem wpList_delete_at {P : Program} {w : World} {ops : Array Oper} {rest : List Oper} {o : Oper} {a : Act} {Q : Exit → Act → World → Prop} (s x : Operand) (t u : TypeId)
    (hw : Region.wanted o (yielded ops a.tmps) = true)
    (ho : o.op = .call { callee := .builtin .delete, args := #[s, x], argTypes := #[t, u] }) (vs vx v' : Value) (w' : World) (hs : a.eval s = vs) (hx : a.eval x = vx)
    (hr : (Builtin.delete_ #[t, u] o.type #[vs, vx]).run P w = .ok v' w') (h : wpList P ops Q rest (a.put o.dst v') w') : wpList P ops Q (o :: rest) a w :=
  wpList_step fun K hK => by
    rw [if_pos hw]
    unfold Oper.wp execOp
    simp only [ho, resolve, invoke, builtin, Sem.run_bind, Sem.run_pure, Result.andThen_ok, List.map_toArray, List.map_cons, List.map_nil, hs, hx, hr]
    exact hK _ _ h

abbrev tf := 51
theorem und_f : Tryd.prog.underlying 51 = some (.map 9 77) := Tryd.underlying51

set_option maxRecDepth 100000 in
theorem size_any (F : Nat → Prop) (b : Nat) (l : List File) (n : Bs) (hn : n.length ≤ maxLen) (w : World) (h : FM w F b l) :
    Calls Tryd.prog 39 #[.map (some b), .string (S n)] w fun e w' => e = .returned (.int .i64 (((get l n).getD []).length : Nat)) ∧ w' = w := by
  obtain ⟨fs, h1, rfl, hF⟩ := h
  have hr := h1.map.look und_f (zero_file w) n hn
  rw [← get_k]
  rcases h1.at n with ⟨e1, e2, _⟩ | ⟨o, v, _, _, e1, e2, hv⟩
  · rw [e1]
    rw [e2] at hr
    simp only [Option.getD_none, List.length_nil] at hr ⊢
    clear e1 e2 hF h1
    have hfl := fun x => field_file x
    go_enter Tryd.func39, Tryd.ntmps39
    go_wp2
    go_ret
    exact ⟨rfl, rfl⟩
  · rw [e1]
    rw [e2] at hr
    obtain ⟨a, c, rfl, _⟩ := hv.form
    simp only [Option.getD_some] at hr ⊢
    clear e1 e2 hF h1 hv
    have hfl := fun x => field_file x
    go_enter Tryd.func39, Tryd.ntmps39
    go_wp2
    go_ret
    exact ⟨rfl, rfl⟩
set_option maxRecDepth 100000 in
theorem has_any (F : Nat → Prop) (b : Nat) (l : List File) (n : Bs) (hn : n.length ≤ maxLen) (w : World) (h : FM w F b l) :
    Calls Tryd.prog 46 #[.map (some b), .string (S n)] w fun e w' => e = .returned (.bool (get l n).isSome) ∧ Below w.heap.size w w' := by
  obtain ⟨fs, h1, rfl, hF⟩ := h
  have hr := h1.map.lookok und_f (zero_file w) n hn
  rw [← get_k]
  rcases h1.at n with ⟨e1, e2, _⟩ | ⟨o, v, _, _, e1, e2, hv⟩
  · rw [e1]
    rw [e2] at hr
    simp only [Option.getD_none, Option.isSome_none] at hr ⊢
    clear e1 e2 hF h1
    go_enter Tryd.func46, Tryd.ntmps46
    go_wp2
    go_ret
    exact ⟨rfl, below_box w _⟩
  · rw [e1]
    rw [e2] at hr
    obtain ⟨a, c, rfl, _⟩ := hv.form
    simp only [Option.getD_some, Option.isSome_some] at hr ⊢
    clear e1 e2 hF h1 hv
    go_enter Tryd.func46, Tryd.ntmps46
    go_wp2
    go_ret
    exact ⟨rfl, below_box w _⟩

theorem foot_put {b : Nat} {fs : List FV} {n s : Bs} {v : Value} {k : Nat} (h : foot b (kput fs (n, (s, v))) k) : foot b fs k ∨ v.ownBlock = some k := by
  rcases h with rfl | ⟨f, hf, e⟩
  · exact .inl (.inl rfl)
  · rcases mp.mem_kput.1 hf with rfl | ⟨hf, _⟩
    · exact .inr e
    · exact .inl (.inr ⟨f, hf, e⟩)
theorem con_put (fs : List FV) (n s : Bs) (v : Value) : con (kput fs (n, (s, v))) = put (con fs) (n, s) := by unfold con; rw [mp.kmap_put, put_k]
theorem con_without (fs : List FV) (n : Bs) : con (kwithout fs n) = without (con fs) n := by unfold con; rw [mp.kmap_without, without_k]
/-- What a call makes of files. -/
def Made (w : World) (F : Nat → Prop) (b : Nat) (l : List File) (w' : World) : Prop := ∃ F', FM w' F' b l ∧ Fr F w w' ∧ Nu w F F'

set_option maxHeartbeats 1000000 in
set_option maxRecDepth 100000 in
theorem fput_any (F : Nat → Prop) (b : Nat) (l : List File) (n s : Bs) (hn : n.length ≤ 80) (hl : l.length ≤ 1000000) (hz : s.length ≤ 140737488355328) (w : World) (h : FM w F b l) :
    Calls Tryd.prog 43 #[.map (some b), .string (S n), .string (S s)] w fun e w' => e = .returned (.tuple #[]) ∧ Made w F b (put l (n, s)) w' := by
  obtain ⟨fs, h1, rfl, hF⟩ := h
  have hnm : n.length ≤ maxLen := by unfold maxLen; omega
  have hlen : (vals fs).length < maxLen := by
    rw [mp.kmap_length] at hl ⊢
    unfold maxLen; omega
  obtain ⟨v', w1, ha, hrow, hb, hnew⟩ := rw.conv_str s w hz
  obtain ⟨a', c', rfl, _⟩ := hrow.form
  have hlt : ∀ f ∈ fs, ∀ q, f.2.2.ownBlock = some q → q < w.heap.size := by
    intro f hf q hq
    obtain ⟨g, e, hlt, _⟩ := (h1.own f hf).at
    rw [hq] at e
    cases e
    exact hlt
  have hm1 : Mp w1 b (vals fs) := h1.map.of (hb.block b h1.map.lt)
  obtain ⟨w2, hup, hm2, ht⟩ := hm1.store und_f n hnm hlen (.agg #[.slice (some a') s.length c'])
  have hgb : w.heap.size ≠ b := by have := h1.map.lt; omega
  have hrow2 : RowB w2 (.slice (some a') s.length c') s := hrow.of fun q hq => ht.block q (by rw [hnew] at hq; cases hq; exact hgb)
  have hF2 := h1.put (w' := w2) (n := n) (s := s) (v := .slice (some a') s.length c') hm2 hrow2 hnm
    (fun f hf hne q hq => (ht.block q (h1.row_ne hf hq)).trans (hb.block q (hlt f hf q hq)))
    (fun f hf hne q hq e => by
      rw [hnew] at e
      have := hlt f hf q hq
      cases e
      omega)
  have hM : Hid (Made w F b (put (con fs) (n, s)) w2) := by
    refine ⟨foot b (kput fs (n, (s, .slice (some a') s.length c'))), ⟨_, hF2, con_put _ _ _ _, fun k => Iff.rfl⟩, ?_, ?_⟩
    · have f1 : Fr F w w1 := Fr.of_below hb
      exact f1.trans (G := fun k => k = b) ⟨ht.os, ht.tape, ht.output, Nat.le_of_eq ht.size.symm, fun k _ hk => ht.block k hk⟩ fun i _ e => by rw [e]; exact (hF b).2 (.inl rfl)
    · intro k hk
      rcases foot_put hk with hk | hk
      · exact .inl ((hF k).2 hk)
      · rw [hnew] at hk
        cases hk
        exact .inr (Nat.le_refl _)
  clear hF2 hrow2 hm1 hm2 ht hrow hb hnew hF h1 hlt hgb
  generalize s.length = L at *
  go_enter Tryd.func43, Tryd.ntmps43
  go_wp2_with (first | (refine wpList_update_at _ _ _ _ rfl rfl _ _ _ _ rfl rfl rfl hup ?_) | fail)
  exact bodyPost_end (results_none rfl _ _ _) rfl ⟨rfl, hM.out⟩

set_option maxHeartbeats 1000000 in
set_option maxRecDepth 100000 in
theorem fdrop_any (F : Nat → Prop) (b : Nat) (l : List File) (n : Bs) (hn : n.length ≤ 80) (w : World) (h : FM w F b l) :
    Calls Tryd.prog 55 #[.map (some b), .string (S n)] w fun e w' => e = .returned (.tuple #[]) ∧ Made w F b (without l n) w' := by
  obtain ⟨fs, h1, rfl, hF⟩ := h
  have hnm : n.length ≤ maxLen := by unfold maxLen; omega
  obtain ⟨w2, hup, hm2, ht⟩ := h1.map.drop und_f n hnm 0
  have hF2 := h1.drop (w' := w2) (n := n) hm2 (fun f hf q hq => ht.block q (h1.row_ne hf hq))
  have hM : Hid (Made w F b (without (con fs) n) w2) := by
    refine ⟨foot b (kwithout fs n), ⟨_, hF2, con_without _ _, fun k => Iff.rfl⟩, ⟨ht.os, ht.tape, ht.output, Nat.le_of_eq ht.size.symm, fun k _ hk => ht.block k fun e => hk (by rw [e]; exact (hF b).2 (.inl rfl))⟩, fun k hk => .inl ((hF k).2 ?_)⟩
    rcases hk with rfl | ⟨f, hf, e⟩
    · exact .inl rfl
    · exact .inr ⟨f, (mp.mem_kwithout.1 hf).1, e⟩
  clear hF2 hm2 ht hF h1
  go_enter Tryd.func55, Tryd.ntmps55
  go_wp2_with (first | (refine wpList_delete_at _ _ _ _ rfl rfl _ _ _ _ rfl rfl hup ?_) | fail)
  exact bodyPost_end (results_none rfl _ _ _) rfl ⟨rfl, hM.out⟩

end Go.Proofs.YtpimdbnhpbjlkaaDoor.dk
/-! DkP2 -/
namespace Go.Proofs.YtpimdbnhpbjlkaaDoor.dk
set_option linter.unusedVariables false
open Go.RowKit
open fl (S S_size S_append S_inj str_eq str_ne)
open rw (Arr But Row Own bnext below_box below_drew below_drewN addr_add Fr RowB)
open mp (Mp Turned kget kput kwithout kmap KSorted)

def Boxed (w : World) (a : Nat) (s : Bs) : Prop := Arr w a 9 #[.string (S s)]
theorem Boxed.lt {w : World} {a : Nat} {s : Bs} (h : Boxed w a s) : a < w.heap.size := Arr.lt h
theorem Boxed.of {w w' : World} {a : Nat} {s : Bs} (h : Boxed w a s) (hb : w'.heap[a]? = w.heap[a]?) : Boxed w' a s := Arr.of h hb
/-- v does the call c again. -/
def Does (w : World) (v : Value) (c : Call) : Prop :=
  (c.kind = 1 ∧ ∃ a b : Nat, False ∧ Boxed w a c.name ∧ Boxed w b c.s) ∨
  (c.kind = 2 ∧ ∃ a b, v = .func (.func 42) #[] #[.pointer (some ⟨a, 0, none⟩), .pointer (some ⟨b, 0, none⟩)] ∧ Boxed w a c.name ∧ Boxed w b c.s) ∨
  (c.kind = 3 ∧ ∃ a, v = .func (.func 54) #[] #[.pointer (some ⟨a, 0, none⟩)] ∧ Boxed w a c.name)
/-- A box's block is of strings. -/
def NoBox (w : World) (F : Nat → Prop) : Prop := ∀ k, F k → ∀ s, ¬ Boxed w k s
theorem Does.of {w w' : World} {v : Value} {c : Call} (h : Does w v c) (hb : ∀ a s, Boxed w a s → w'.heap[a]? = w.heap[a]?) : Does w' v c := by
  rcases h with ⟨h1, a, b, h2, h3, h4⟩ | ⟨h1, a, b, h2, h3, h4⟩ | ⟨h1, a, h2, h3⟩
  · exact .inl ⟨h1, a, b, h2, h3.of (hb a _ h3), h4.of (hb b _ h4)⟩
  · exact .inr (.inl ⟨h1, a, b, h2, h3.of (hb a _ h3), h4.of (hb b _ h4)⟩)
  · exact .inr (.inr ⟨h1, a, h2, h3.of (hb a _ h3)⟩)
theorem Does.below {w w' : World} {v : Value} {c : Call} (h : Does w v c) (k : Below w.heap.size w w') : Does w' v c := h.of fun a s hs => k.block a hs.lt
theorem Does.fr {w w' : World} {v : Value} {c : Call} (h : Does w v c) {F : Nat → Prop} (k : Fr F w w') (hF : NoBox w F) : Does w' v c := h.of fun a s hs => k.block a hs.lt fun hk => hF a hk s hs
theorem FM.nobox {w : World} {F : Nat → Prop} {b : Nat} {l : List File} (h : FM w F b l) : NoBox w F := by
  intro k hk s hs
  unfold Boxed Arr at hs
  rcases h.typed k hk with ⟨es, c, e⟩ | ⟨cs, fr, e⟩
  · rw [hs] at e; cases e
  · rw [hs] at e; cases e

set_option maxHeartbeats 1000000 in
set_option maxRecDepth 100000 in
theorem put1_any (F : Nat → Prop) (b : Nat) (l : List File) (c : Call) (a1 a2 : Nat) (n : Nat) (hk : c.kind = 2) (hc : Good c) (hn1 : 1 ≤ n) (hl : l.length ≤ 1000000) (hz : c.s.length ≤ 140737488355328) (w : World) (h : FM w F b l)
    (h1 : Boxed w a1 c.name) (h2 : Boxed w a2 c.s) :
    Calls Tryd.prog 42 #[.map (some b), .int .i64 (n : Nat), .pointer (some ⟨a1, 0, none⟩), .pointer (some ⟨a2, 0, none⟩)] w fun e w' => e = .returned (.tuple #[]) ∧ Made w F b (done l c n) w' := by
  have hA := fput_any F b l c.name c.s hc.1.2 hl hz w h
  have ed : done l c n = put l (c.name, c.s) := by unfold done; rw [if_neg (by omega), if_neg (by omega), if_pos hk]
  rw [ed]
  have c1 : w.cell? ⟨a1, 0, none⟩ = some (.string (S c.name)) := h1.cell rfl
  have c2 : w.cell? ⟨a2, 0, none⟩ = some (.string (S c.s)) := h2.cell rfl
  generalize (put l (c.name, c.s)) = P at *
  clear h1 h2 h ed hk hc hn1 hl hz
  go_enter Tryd.func42, Tryd.ntmps42
  go_wp2_with fail
  refine hA.mono ?_
  rintro e w1 ⟨rfl, hM⟩
  have HM := Lib.hid hM
  clear hM hA
  go_wp2_with fail
  exact bodyPost_end (results_none rfl _ _ _) rfl ⟨rfl, HM.out⟩
set_option maxHeartbeats 1000000 in
set_option maxRecDepth 100000 in
theorem drop1_any (F : Nat → Prop) (b : Nat) (l : List File) (c : Call) (a1 : Nat) (n : Nat) (hk : c.kind = 3) (hc : Good c) (hn1 : 1 ≤ n) (w : World) (h : FM w F b l) (h1 : Boxed w a1 c.name) :
    Calls Tryd.prog 54 #[.map (some b), .int .i64 (n : Nat), .pointer (some ⟨a1, 0, none⟩)] w fun e w' => e = .returned (.tuple #[]) ∧ Made w F b (done l c n) w' := by
  have hA := fdrop_any F b l c.name hc.1.2 w h
  have ed : done l c n = without l c.name := by unfold done; rw [if_neg (by omega), if_neg (by omega), if_neg (by omega)]
  rw [ed]
  have c1 : w.cell? ⟨a1, 0, none⟩ = some (.string (S c.name)) := h1.cell rfl
  generalize without l c.name = P at *
  clear h1 h ed hk hc hn1
  go_enter Tryd.func54, Tryd.ntmps54
  go_wp2_with fail
  refine hA.mono ?_
  rintro e w1 ⟨rfl, hM⟩
  have HM := Lib.hid hM
  clear hM hA
  go_wp2_with fail
  exact bodyPost_end (results_none rfl _ _ _) rfl ⟨rfl, HM.out⟩
end Go.Proofs.YtpimdbnhpbjlkaaDoor.dk
/-! DkRef4 -/
namespace Go.Proofs.YtpimdbnhpbjlkaaDoor.dk
set_option linter.unusedVariables false
open Go.RowKit
open fl (S S_size S_append S_inj str_eq str_ne)
open rw (Arr But Row Own bnext below_box below_drew below_drewN addr_add)

/-- How large a disk may be, for the contracts. -/
structure Fit (d : Dk) : Prop where
  n : d.seen.length ≤ 100000 ∧ d.lasts.length ≤ 100000 ∧ d.pend.length ≤ 100000
  s : ∀ c ∈ d.pend, c.s.length ≤ 140737488355328
  l : d.fused = true → -9000000000000000000 ≤ d.left ∧ d.left ≤ 9223372036854775807
def diskCells (d : Dk) (sv lv pv : Value) : Array Value := #[.int .i64 (d.cap : Nat), sv, lv, pv, .bool d.fused, .int .i64 d.left]
end Go.Proofs.YtpimdbnhpbjlkaaDoor.dk
/-! DkP3 -/
namespace Go.Proofs.YtpimdbnhpbjlkaaDoor.dk
set_option linter.unusedVariables false
open Go.RowKit
open fl (S S_size S_append S_inj str_eq str_ne)
open rw (Arr But Row Own bnext below_box below_drew below_drewN addr_add Fr RowB)
open mp (Mp Turned kget kput kwithout kmap KSorted)

/-- A pending call as it lies: the closure's function, what it holds, and the call that it is. -/
abbrev TC := (Nat × Array Value) × Call
def fnv (x : TC) : Value := .func (.func x.1.1) #[] x.1.2
def turnSh : rw.Sh TC where
  t := 74
  st := 52
  k := 2
  bytes := 16
  z := .agg #[.int .i64 0, .nilFunc]
  enc := fun x => [.int .i64 (steps x.2 : Nat), fnv x]
  hu := Tryd.underlying52
  hi := by kernel_rfl
  hz := by rfl
  hk := by decide
  hb := by decide
  len := fun _ => rfl
  one := fun x u hu => by
    simp only [List.mem_cons, List.not_mem_nil, or_false] at hu
    rcases hu with rfl | rfl <;> rfl
abbrev OwnT (w : World) (v : Value) (l : List TC) : Prop := rw.Own turnSh w 0 v l
theorem ownT_typed {w : World} {v : Value} {l : List TC} (h : OwnT w v l) {q : Nat} (hq : v.ownBlock = some q) : ∃ cs, w.heap[q]? = some (.cells cs 74 (0, 0)) := by
  obtain ⟨_, ⟨e, _⟩ | ⟨g, cap, cur, e, _, h5, _⟩⟩ := h
  · rw [e] at hq; cases hq
  · rw [e] at hq
    cases hq
    exact ⟨cur, h5⟩
theorem ownT_of {w w' : World} {v : Value} {l : List TC} (h : OwnT w v l) (hb : ∀ q, v.ownBlock = some q → w'.heap[q]? = w.heap[q]?) : OwnT w' v l := by
  obtain ⟨h1, h2 | ⟨g, cap, cur, h3, h4, h5, h6⟩⟩ := h
  · exact ⟨h1, .inl h2⟩
  · exact ⟨h1, .inr ⟨g, cap, cur, h3, h4, (hb g (by rw [h3]; rfl)).trans h5, h6⟩⟩

def fo (p : Nat) (Fs Fl : Nat → Prop) (pv : Value) (k : Nat) : Prop := k = p ∨ Fs k ∨ Fl k ∨ pv.ownBlock = some k
/-- The pieces of a disk. -/
structure Pc (w : World) (p : Nat) (cs : Array Value) (bs bl : Nat) (Fs Fl : Nat → Prop) (seen lasts : List File) (pv : Value) (ts : List TC) : Prop where
  a : Arr w p 54 cs
  s : FM w Fs bs seen
  l : FM w Fl bl lasts
  o : OwnT w pv ts
  does : ∀ x ∈ ts, Does w (fnv x) x.2
  dis : ∀ k, Fs k → ¬ Fl k
section
variable {w w' : World} {p : Nat} {cs : Array Value} {bs bl : Nat} {Fs Fl : Nat → Prop} {seen lasts : List File} {pv : Value} {ts : List TC}
/-- Of what block is each of a disk's. -/
theorem Pc.typed (h : Pc w p cs bs bl Fs Fl seen lasts pv ts) {k : Nat} (hk : fo p Fs Fl pv k) : (∃ es c, w.heap[k]? = some (.map es c)) ∨ ∃ cs t fr, w.heap[k]? = some (.cells cs t fr) ∧ (t = 54 ∨ t = 74 ∨ t = 5) := by
  rcases hk with rfl | hk | hk | hk
  · exact .inr ⟨_, _, _, h.a, .inl rfl⟩
  · rcases h.s.typed k hk with h1 | ⟨c, fr, h1⟩
    · exact .inl h1
    · exact .inr ⟨_, _, _, h1, .inr (.inr rfl)⟩
  · rcases h.l.typed k hk with h1 | ⟨c, fr, h1⟩
    · exact .inl h1
    · exact .inr ⟨_, _, _, h1, .inr (.inr rfl)⟩
  · obtain ⟨c, h1⟩ := ownT_typed h.o hk
    exact .inr ⟨_, _, _, h1, .inr (.inl rfl)⟩
theorem Pc.lt (h : Pc w p cs bs bl Fs Fl seen lasts pv ts) {k : Nat} (hk : fo p Fs Fl pv k) : k < w.heap.size := by
  rcases h.typed hk with ⟨es, c, hh⟩ | ⟨cs, t, fr, hh, _⟩ <;> exact (Array.getElem?_eq_some_iff.1 hh).1
theorem Pc.off (h : Pc w p cs bs bl Fs Fl seen lasts pv ts) {k : Nat} (hk : fo p Fs Fl pv k) {x : Array Value} {t : TypeId} {fr : Nat × Nat} (hx : w.heap[k]? = some (.cells x t fr)) : t = 54 ∨ t = 74 ∨ t = 5 := by
  rcases h.typed hk with ⟨es, c, hh⟩ | ⟨cs, t, fr, hh, ht⟩
  · rw [hx] at hh; cases hh
  · rw [hx] at hh; cases hh; exact ht
theorem Pc.nobox (h : Pc w p cs bs bl Fs Fl seen lasts pv ts) : NoBox w (fo p Fs Fl pv) := by
  intro k hk s hs
  have := h.off hk hs
  simp at this
theorem Pc.p_s (h : Pc w p cs bs bl Fs Fl seen lasts pv ts) : ¬ Fs p := by
  intro hk
  have ha := h.a
  unfold Arr at ha
  rcases h.s.typed p hk with ⟨es, c, e⟩ | ⟨x, fr, e⟩
  · rw [ha] at e; cases e
  · rw [ha] at e; cases e
theorem Pc.p_l (h : Pc w p cs bs bl Fs Fl seen lasts pv ts) : ¬ Fl p := by
  intro hk
  have ha := h.a
  unfold Arr at ha
  rcases h.l.typed p hk with ⟨es, c, e⟩ | ⟨x, fr, e⟩
  · rw [ha] at e; cases e
  · rw [ha] at e; cases e
theorem Pc.p_o (h : Pc w p cs bs bl Fs Fl seen lasts pv ts) : pv.ownBlock ≠ some p := by
  intro hk
  have ha := h.a
  unfold Arr at ha
  obtain ⟨c, e⟩ := ownT_typed h.o hk
  rw [ha] at e; cases e
theorem Pc.o_s (h : Pc w p cs bs bl Fs Fl seen lasts pv ts) {k : Nat} (hk : pv.ownBlock = some k) : ¬ Fs k := by
  intro h2
  obtain ⟨c, e⟩ := ownT_typed h.o hk
  rcases h.s.typed k h2 with ⟨es, c, e2⟩ | ⟨x, fr, e2⟩
  · rw [e] at e2; cases e2
  · rw [e] at e2; cases e2
theorem Pc.o_l (h : Pc w p cs bs bl Fs Fl seen lasts pv ts) {k : Nat} (hk : pv.ownBlock = some k) : ¬ Fl k := by
  intro h2
  obtain ⟨c, e⟩ := ownT_typed h.o hk
  rcases h.l.typed k h2 with ⟨es, c, e2⟩ | ⟨x, fr, e2⟩
  · rw [e] at e2; cases e2
  · rw [e] at e2; cases e2
/-- Other blocks turn. -/
theorem Pc.fr (h : Pc w p cs bs bl Fs Fl seen lasts pv ts) {G : Nat → Prop} (k : Fr G w w') (hG : ∀ i, fo p Fs Fl pv i → ¬ G i) (hn : NoBox w G) : Pc w' p cs bs bl Fs Fl seen lasts pv ts :=
  ⟨k.arr h.a (hG p (.inl rfl)), h.s.fr k fun i hi => hG i (.inr (.inl hi)), h.l.fr k fun i hi => hG i (.inr (.inr (.inl hi))),
    ownT_of h.o fun q hq => k.block q (h.lt (.inr (.inr (.inr hq)))) (hG q (.inr (.inr (.inr hq)))), fun x hx => (h.does x hx).fr k hn, h.dis⟩
theorem Pc.below (h : Pc w p cs bs bl Fs Fl seen lasts pv ts) (k : Below w.heap.size w w') : Pc w' p cs bs bl Fs Fl seen lasts pv ts :=
  h.fr (Fr.of_below (F := fun _ => False) k) (fun _ _ hh => hh) (fun _ hh => hh.elim)
theorem Pc.cell (h : Pc w p cs bs bl Fs Fl seen lasts pv ts) {j : Nat} {v : Value} (hv : cs[j]? = some v) : w.cell? ⟨p, j, none⟩ = some v := h.a.cell hv
/-- A store into the disk itself. -/
theorem Pc.set (h : Pc w p cs bs bl Fs Fl seen lasts pv ts) (j : Nat) (u : Value) : Pc (w.setCell ⟨p, j, none⟩ u) p (cs.setIfInBounds j u) bs bl Fs Fl seen lasts pv ts := by
  have hB : But p w (w.setCell ⟨p, j, none⟩ u) := (But.refl p w).set j u
  have hF : Fr (fun k => k = p) w (w.setCell ⟨p, j, none⟩ u) := Fr.but hB rfl
  have hnb : NoBox w (fun k => k = p) := fun k hk s hs => h.nobox k (.inl hk) s hs
  exact ⟨h.a.set j u, h.s.fr hF fun i hi e => h.p_s (e ▸ hi), h.l.fr hF fun i hi e => h.p_l (e ▸ hi), ownT_of h.o fun q hq => hB.block q (h.lt (.inr (.inr (.inr hq)))) (fun e => h.p_o (e ▸ hq)), fun x hx => (h.does x hx).fr hF hnb, h.dis⟩
theorem Pc.set_fr (h : Pc w p cs bs bl Fs Fl seen lasts pv ts) (j : Nat) (u : Value) : Fr (fo p Fs Fl pv) w (w.setCell ⟨p, j, none⟩ u) := Fr.but ((But.refl p w).set j u) (.inl rfl)
/-- What is seen has turned. -/
theorem Pc.turn (h : Pc w p cs bs bl Fs Fl seen lasts pv ts) {Fs' : Nat → Prop} {seen' : List File} (hs : FM w' Fs' bs seen') (k : Fr Fs w w') (hn : Nu w Fs Fs') : Pc w' p cs bs bl Fs' Fl seen' lasts pv ts := by
  have hnb : NoBox w Fs := fun k hk s hs => h.nobox k (.inr (.inl hk)) s hs
  exact ⟨k.arr h.a h.p_s, hs, h.l.fr k fun i hi e => h.dis i e hi, ownT_of h.o fun q hq => k.block q (h.lt (.inr (.inr (.inr hq)))) (h.o_s hq), fun x hx => (h.does x hx).fr k hnb, fun i hi hl => by
    rcases hn i hi with h1 | h1
    · exact h.dis i h1 hl
    · have := h.l.lt hl; omega⟩
/-- What lasts has turned. -/
theorem Pc.turnL (h : Pc w p cs bs bl Fs Fl seen lasts pv ts) {Fl' : Nat → Prop} {lasts' : List File} (hs : FM w' Fl' bl lasts') (k : Fr Fl w w') (hn : Nu w Fl Fl') : Pc w' p cs bs bl Fs Fl' seen lasts' pv ts := by
  have hnb : NoBox w Fl := fun k hk s hs => h.nobox k (.inr (.inr (.inl hk))) s hs
  exact ⟨k.arr h.a h.p_l, h.s.fr k fun i hi e => h.dis i hi e, hs, ownT_of h.o fun q hq => k.block q (h.lt (.inr (.inr (.inr hq)))) (h.o_l hq), fun x hx => (h.does x hx).fr k hnb, fun i hi hl => by
    rcases hn i hl with h1 | h1
    · exact h.dis i hi h1
    · have := h.s.lt hi; omega⟩
/-- One more is pending. -/
theorem Pc.push (h : Pc w p cs bs bl Fs Fl seen lasts pv ts) {pv' : Value} {x : TC} (ho : OwnT w' pv' (ts ++ [x])) (hg : w.grownBy w' pv.ownBlock) (hx : Does w (fnv x) x.2) : Pc w' p cs bs bl Fs Fl seen lasts pv' (ts ++ [x]) := by
  have k : Fr (fun i => pv.ownBlock = some i) w w' := Fr.grown hg fun q hq => hq
  have hnb : NoBox w (fun i => pv.ownBlock = some i) := fun i hi s hs => h.nobox i (.inr (.inr (.inr hi))) s hs
  exact ⟨k.arr h.a h.p_o, h.s.fr k fun i hi e => h.o_s e hi, h.l.fr k fun i hi e => h.o_l e hi, ho, fun y hy => by
    rcases List.mem_append.1 hy with hy | hy
    · exact (h.does y hy).fr k hnb
    · rw [List.mem_singleton.1 hy]; exact hx.fr k hnb, h.dis⟩
end

def FuseOk (d : Dk) (fz : Int) : Prop := (d.fused = true ∧ fz = d.left ∧ 0 ≤ d.left ∧ d.left ≤ 9223372036854775807) ∨ (d.fused = false ∧ fz < 0 ∧ -9223372036854775808 ≤ fz)
theorem FuseOk.off {d : Dk} {fz : Int} (h : FuseOk d fz) : off d = (fz == 0) := by
  unfold dk.off
  rcases h with ⟨h1, h2, h3, _⟩ | ⟨h1, h2, _⟩
  · rw [h1, h2, Bool.true_and, Bool.eq_iff_iff, decide_eq_true_eq, beq_iff_eq]; omega
  · rw [h1, Bool.false_and]
    symm
    rw [beq_eq_false_iff_ne]
    omega
def dkCells (d : Dk) (bs bl : Nat) (pv : Value) (fz : Int) : Array Value :=
  #[.int .i64 (d.cap : Nat), .map (some bs), .int .i64 (used d.seen : Nat), .map (some bl), pv, .int .i64 (count d.pend : Nat), .int .i64 fz]
/-- Block p is the program's disk; F: all that it takes. -/
def PD (w : World) (F : Nat → Prop) (p : Nat) (d : Dk) : Prop :=
  ∃ bs bl Fs Fl pv ts fz, Pc w p (dkCells d bs bl pv fz) bs bl Fs Fl d.seen d.lasts pv ts ∧ ts.map (·.2) = d.pend ∧ FuseOk d fz ∧ ∀ k, F k ↔ fo p Fs Fl pv k
theorem PD.of_pc {w : World} {p : Nat} {d : Dk} {cs : Array Value} {bs bl : Nat} {Fs Fl : Nat → Prop} {pv : Value} {ts : List TC} {fz : Int} (h : Pc w p cs bs bl Fs Fl d.seen d.lasts pv ts) (hc : cs = dkCells d bs bl pv fz) (ht : ts.map (·.2) = d.pend) (hf : FuseOk d fz) : PD w (fo p Fs Fl pv) p d :=
  ⟨bs, bl, Fs, Fl, pv, ts, fz, hc ▸ h, ht, hf, fun _ => Iff.rfl⟩
theorem PD.lt {w : World} {F : Nat → Prop} {p : Nat} {d : Dk} (h : PD w F p d) {k : Nat} (hk : F k) : k < w.heap.size := by
  obtain ⟨bs, bl, Fs, Fl, pv, ts, fz, h1, _, _, hF⟩ := h
  exact h1.lt ((hF k).1 hk)
theorem PD.own {w : World} {F : Nat → Prop} {p : Nat} {d : Dk} (h : PD w F p d) : F p := by
  obtain ⟨bs, bl, Fs, Fl, pv, ts, fz, h1, _, _, hF⟩ := h
  exact (hF p).2 (.inl rfl)
theorem PD.off {w : World} {F : Nat → Prop} {p : Nat} {d : Dk} (h : PD w F p d) {k : Nat} (hk : F k) {x : Array Value} {t : TypeId} {fr : Nat × Nat} (hx : w.heap[k]? = some (.cells x t fr)) : t = 54 ∨ t = 74 ∨ t = 5 := by
  obtain ⟨bs, bl, Fs, Fl, pv, ts, fz, h1, _, _, hF⟩ := h
  exact h1.off ((hF k).1 hk) hx
theorem PD.nobox {w : World} {F : Nat → Prop} {p : Nat} {d : Dk} (h : PD w F p d) : NoBox w F := by
  intro k hk s hs
  have := h.off hk hs
  simp at this
theorem PD.fr {w w' : World} {F G : Nat → Prop} {p : Nat} {d : Dk} (h : PD w F p d) (k : Fr G w w') (hG : ∀ i, F i → ¬ G i) (hn : NoBox w G) : PD w' F p d := by
  obtain ⟨bs, bl, Fs, Fl, pv, ts, fz, h1, h2, h3, hF⟩ := h
  exact ⟨bs, bl, Fs, Fl, pv, ts, fz, h1.fr k (fun i hi => hG i ((hF i).2 hi)) hn, h2, h3, hF⟩
theorem PD.below {w w' : World} {F : Nat → Prop} {p : Nat} {d : Dk} (h : PD w F p d) (k : Below w.heap.size w w') : PD w' F p d := by
  obtain ⟨bs, bl, Fs, Fl, pv, ts, fz, h1, h2, h3, hF⟩ := h
  exact ⟨bs, bl, Fs, Fl, pv, ts, fz, h1.below k, h2, h3, hF⟩
/-- What a call makes of a disk. -/
def Step (w : World) (F : Nat → Prop) (p : Nat) (d : Dk) (w' : World) : Prop := ∃ F', PD w' F' p d ∧ Fr F w w' ∧ Nu w F F'

/-! ### Small methods -/
set_option maxRecDepth 100000 in
theorem off_any (F : Nat → Prop) (p : Nat) (d : Dk) (w : World) (h : PD w F p d) :
    Calls Tryd.prog 45 #[.pointer (some ⟨p, 0, none⟩)] w fun e w' => e = .returned (.bool (off d)) ∧ w' = w := by
  obtain ⟨bs, bl, Fs, Fl, pv, ts, fz, h1, _, hf, hF⟩ := h
  have c6 := h1.cell (j := 6) (v := .int .i64 fz) rfl
  rw [hf.off]
  clear h1 hf hF
  go_enter Tryd.func45, Tryd.ntmps45
  go_wp2
  go_ret
  exact ⟨rfl, rfl⟩
set_option maxRecDepth 100000 in
theorem room_any (F : Nat → Prop) (p : Nat) (d : Dk) (w : World) (h : PD w F p d) (hc : d.cap ≤ 1048576) (hu : used d.seen ≤ 1048576) :
    Calls Tryd.prog 38 #[.pointer (some ⟨p, 0, none⟩)] w fun e w' => e = .returned (.int .i64 ((d.cap : Int) - (used d.seen : Int))) ∧ ∃ n, w' = w.drewN n := by
  obtain ⟨bs, bl, Fs, Fl, pv, ts, fz, h1, _, hf, hF⟩ := h
  have c0 := h1.cell (j := 0) (v := .int .i64 (d.cap : Nat)) rfl
  have c2 := h1.cell (j := 2) (v := .int .i64 (used d.seen : Nat)) rfl
  have hw : IntKind.i64.wrap ((d.cap : Int) - (used d.seen : Int)) = (d.cap : Int) - (used d.seen : Int) := IntWalk.i64_in _ (by omega)
  generalize used d.seen = u at *
  generalize d.cap = c at *
  clear h1 hf hF hc hu
  go_enter Tryd.func38, Tryd.ntmps38
  go_wp2
  go_quiet (fail)
  go_wp2
  go_ret
  exact ⟨rfl, _, rfl⟩
set_option maxRecDepth 100000 in
theorem pending_any (F : Nat → Prop) (p : Nat) (d : Dk) (w : World) (h : PD w F p d) :
    Calls Tryd.prog 17 #[.pointer (some ⟨p, 0, none⟩)] w fun e w' => e = .returned (.int .i64 (count d.pend : Nat)) ∧ w' = w := by
  obtain ⟨bs, bl, Fs, Fl, pv, ts, fz, h1, _, hf, hF⟩ := h
  have c2 := h1.cell (j := 5) (v := .int .i64 (count d.pend : Nat)) rfl
  generalize count d.pend = u at *
  clear h1 hf hF
  go_enter Tryd.func17, Tryd.ntmps17
  go_wp2
  go_ret
  exact ⟨rfl, rfl⟩
set_option maxRecDepth 100000 in
theorem fuse_any (F : Nat → Prop) (p : Nat) (d : Dk) (n : Int) (hn : -9223372036854775808 ≤ n ∧ n ≤ 9223372036854775807) (w : World) (h : PD w F p d) :
    Calls Tryd.prog 13 #[.pointer (some ⟨p, 0, none⟩), .int .i64 n] w fun e w' => e = .returned (.tuple #[]) ∧ Step w F p (fuse d n) w' := by
  obtain ⟨bs, bl, Fs, Fl, pv, ts, fz, h1, h2, hf, hF⟩ := h
  have c6 := h1.cell (j := 6) (v := .int .i64 fz) rfl
  have f6 := h1.a.frozen 6
  have HS : Hid (Step w F p (fuse d n) (w.setCell ⟨p, 6, none⟩ (.int .i64 n))) := by
    refine ⟨_, PD.of_pc (d := fuse d n) (fz := n) (h1.set 6 (.int .i64 n)) rfl h2 ?_, (h1.set_fr 6 _).mono fun k _ hk => (hF k).2 hk, fun k hk => .inl ((hF k).2 hk)⟩
    by_cases h0 : 0 ≤ n
    · exact .inl ⟨by simp [fuse, h0], rfl, h0, hn.2⟩
    · exact .inr ⟨by simp [fuse, h0], by omega, hn.1⟩
  clear h1 hf hF h2 hn
  go_enter Tryd.func13, Tryd.ntmps13
  go_wp2
  exact bodyPost_end (results_none rfl _ _ _) rfl ⟨rfl, HS.out⟩
/-- A call was done. -/
theorem spend_fuse {d : Dk} {fz : Int} (h : FuseOk d fz) (ho : off d = false) : FuseOk (spend d) (if 0 < fz then fz - 1 else fz) := by
  rw [h.off, beq_eq_false_iff_ne] at ho
  unfold spend
  rcases h with ⟨h1, h2, h3, h4⟩ | ⟨h1, h2, h3⟩
  · rw [if_pos h1, if_pos (by omega)]
    exact .inl ⟨h1, by show fz - 1 = d.left - 1; omega, by show 0 ≤ d.left - 1; omega, by show d.left - 1 ≤ _; omega⟩
  · rw [if_neg (by rw [h1]; decide), if_neg (by omega)]
    exact .inr ⟨h1, h2, h3⟩
set_option maxRecDepth 100000 in
theorem burn_any (F : Nat → Prop) (p : Nat) (d : Dk) (ho : off d = false) (w : World) (h : PD w F p d) :
    Calls Tryd.prog 47 #[.pointer (some ⟨p, 0, none⟩)] w fun e w' => e = .returned (.tuple #[]) ∧ Step w F p (spend d) w' := by
  obtain ⟨bs, bl, Fs, Fl, pv, ts, fz, h1, h2, hf, hF⟩ := h
  have c6 := h1.cell (j := 6) (v := .int .i64 fz) rfl
  have f6 := h1.a.frozen 6
  have hsp := spend_fuse hf ho
  obtain ⟨e1, e2, e3, e4, e5⟩ := spend_parts d
  have hcells : ∀ x, dkCells (spend d) bs bl pv x = dkCells d bs bl pv x := by intro x; unfold dkCells; rw [e1, e2, e4]
  by_cases h0 : 0 < fz
  · rw [if_pos h0] at hsp
    have HS : Hid (Step w F p (spend d) (w.setCell ⟨p, 6, none⟩ (.int .i64 (fz - 1)))) := by
      refine ⟨fo p Fs Fl pv, PD.of_pc (d := spend d) (fz := fz - 1) (bs := bs) (bl := bl) (pv := pv) (ts := ts) (cs := (dkCells d bs bl pv fz).setIfInBounds 6 (.int .i64 (fz - 1))) ?_ (by rw [hcells]; rfl) (by rw [e4]; exact h2) hsp, (h1.set_fr 6 _).mono fun k _ hk => (hF k).2 hk, fun k hk => .inl ((hF k).2 hk)⟩
      rw [e2, e3]
      exact h1.set 6 (.int .i64 (fz - 1))
    have hw : IntKind.i64.wrap (fz - 1) = fz - 1 := IntWalk.i64_in _ (by rcases hf with ⟨_, a, b, c⟩ | ⟨_, a, b⟩ <;> omega)
    clear h1 hf hF h2 hsp hcells e1 e2 e3 e4 e5
    go_enter Tryd.func47, Tryd.ntmps47
    go_wp2
    exact bodyPost_end (results_none rfl _ _ _) rfl ⟨rfl, HS.out⟩
  · rw [if_neg h0] at hsp
    have HS : Hid (Step w F p (spend d) w) := by
      refine ⟨F, ⟨bs, bl, Fs, Fl, pv, ts, fz, ?_, by rw [e4]; exact h2, hsp, hF⟩, Fr.refl _ _, Nu.refl _ _⟩
      rw [hcells, e2, e3]
      exact h1
    clear h1 hf hF h2 hsp hcells e1 e2 e3 e4 e5
    go_enter Tryd.func47, Tryd.ntmps47
    go_wp2
    exact bodyPost_end (results_none rfl _ _ _) rfl ⟨rfl, HS.out⟩
end Go.Proofs.YtpimdbnhpbjlkaaDoor.dk
/-! DkP4 -/
namespace Go.Proofs.YtpimdbnhpbjlkaaDoor.dk
set_option linter.unusedVariables false
open Go.RowKit
open fl (S S_size S_append S_inj str_eq str_ne)
open rw (Arr But Row Own bnext below_box below_drew below_drewN addr_add Fr RowB)
open mp (Mp Turned kget kput kwithout kmap KSorted)

set_option maxRecDepth 100000 in
theorem clone_any (s : Bs) (w : World) (hs : s.length ≤ 281474976710656) :
    Calls Tryd.prog 40 #[.string (S s)] w fun e w' => e = .returned (.string (S s)) ∧ Below w.heap.size w w' := by
  have hc := Tryd.stringslite_Clone (S s) w (by rw [S_size]; exact hs)
  go_enter Tryd.func40, Tryd.ntmps40
  go_wp2_with fail
  refine hc.mono ?_
  rintro e w1 ⟨rfl, b1⟩
  have HB := Lib.hid b1
  clear b1 hc
  go_wp2_with fail
  go_ret
  exact ⟨rfl, HB.out⟩
def refused (d : Dk) (n : Bs) : Nat := if n.length < 1 ∨ 80 < n.length then 1 else if off d = true then 8 else 0
set_option maxRecDepth 100000 in
theorem refuses_any (F : Nat → Prop) (p : Nat) (d : Dk) (n : Bs) (w : World) (h : PD w F p d) :
    Calls Tryd.prog 37 #[.pointer (some ⟨p, 0, none⟩), .string (S n)] w fun e w' => e = .returned (.int .i64 (refused d n : Nat)) ∧ w' = w := by
  have hO := off_any F p d w h
  have hz : ((S n).size : Int) = (n.length : Int) := by rw [S_size]
  unfold refused
  clear h
  by_cases h1 : n.length < 1
  · rw [if_pos (.inl h1)]
    have hi : (n.length : Int) < 1 := by omega
    go_enter Tryd.func37, Tryd.ntmps37
    go_wp2_with fail
    go_ret
    exact ⟨rfl, rfl⟩
  by_cases h2 : 80 < n.length
  · rw [if_pos (.inr h2)]
    have hi : ¬ (n.length : Int) < 1 := by omega
    have hi2 : (n.length : Int) > 80 := by omega
    go_enter Tryd.func37, Tryd.ntmps37
    go_wp2_with fail
    go_ret
    exact ⟨rfl, rfl⟩
  rw [if_neg (by omega)]
  have hi : ¬ (n.length : Int) < 1 := by omega
  have hi2 : ¬ (n.length : Int) > 80 := by omega
  cases ho : off d with
  | true =>
    rw [ho] at hO
    clear ho
    go_enter Tryd.func37, Tryd.ntmps37
    go_wp2_with fail
    refine hO.mono ?_
    rintro e w1 ⟨rfl, rfl⟩
    clear hO
    go_wp2_with fail
    go_ret
    exact ⟨rfl, rfl⟩
  | false =>
    rw [ho] at hO
    clear ho
    go_enter Tryd.func37, Tryd.ntmps37
    go_wp2_with fail
    refine hO.mono ?_
    rintro e w1 ⟨rfl, rfl⟩
    clear hO
    go_wp2_with fail
    go_ret
    exact ⟨rfl, rfl⟩
set_option maxHeartbeats 1000000 in
set_option maxRecDepth 100000 in
theorem read_any (F : Nat → Prop) (p : Nat) (d : Dk) (n : Bs) (hn : n.length ≤ maxLen) (w : World) (h : PD w F p d) :
    Calls Tryd.prog 23 #[.pointer (some ⟨p, 0, none⟩), .string (S n)] w fun e w' => e = .returned (.tuple #[.string (S (read d n).1), .int .i64 ((read d n).2 : Nat)]) ∧ Below w.heap.size w w' := by
  have hO := off_any F p d w h
  obtain ⟨bs, bl, Fs, Fl, pv, ts, fz, h1, _, hf, hF⟩ := h
  have c1 := h1.cell (j := 1) (v := .map (some bs)) rfl
  have hH := has_any Fs bs d.seen n hn w h1.s
  have h1s := h1.s
  obtain ⟨fs, g1, g2, _⟩ := h1.s
  have hlt := h1.a.lt
  unfold read
  cases ho : off d with
  | true =>
    rw [ho] at hO
    clear ho hH c1 h1 hf hF h1s g1 g2
    go_enter Tryd.func23, Tryd.ntmps23
    go_wp2_with fail
    refine hO.mono ?_
    rintro e w1 ⟨rfl, rfl⟩
    clear hO
    go_wp2_with fail
    go_ret2
    exact ⟨rfl, Below.refl _ _⟩
  | false =>
    rw [ho] at hO
    cases hg : get d.seen n with
    | none =>
      rw [hg] at hH
      simp only [Option.isSome_none] at hH
      clear ho h1 hf hF hg h1s g1 g2
      go_enter Tryd.func23, Tryd.ntmps23
      go_wp2_with fail
      refine hO.mono ?_
      rintro e w1 ⟨rfl, rfl⟩
      clear hO
      go_wp2_with fail
      refine hH.mono ?_
      rintro e w1 ⟨rfl, b1⟩
      have HB := Lib.hid b1
      clear hH b1
      go_wp2_with fail
      go_ret2
      exact ⟨rfl, HB.out⟩
    | some s =>
      rw [hg] at hH
      simp only [Option.isSome_some] at hH
      have hrow : ∃ v, kget (vals fs) n = some (.agg #[v]) ∧ RowB w v s := by
        rw [← get_k, ← g2] at hg
        rcases g1.at n with ⟨e1, _, _⟩ | ⟨o, v, _, _, e1, e2, e3⟩
        · rw [e1] at hg; cases hg
        · rw [e1] at hg; cases hg; exact ⟨v, e2, e3⟩
      obtain ⟨v, hk, hv⟩ := hrow
      have HL : Hid (∀ W, Below w.heap.size w W → (Instr.lookup tf (.map (some bs)) (.string (S n)) false).run Tryd.prog W = .ok (.agg #[v]) W ∧ (convert 75 9 v).run Tryd.prog W = .ok (.string (S s)) W ∧ W.cell? ⟨p, 1, none⟩ = some (.map (some bs))) := by
        intro W b
        have hlk := (g1.map.of (b.block bs g1.map.lt)).look und_f (zero_file W) n hn
        rw [hk] at hlk
        refine ⟨hlk, rw.conv_row v s W (hv.of fun q hq => ?_), (World.cell?_of_block (b.block p hlt)).trans c1⟩
        obtain ⟨g, e, hlt, _⟩ := hv.at
        rw [hq] at e
        cases e
        exact b.block q hlt
      obtain ⟨a, c, rfl, _⟩ := hv.form
      generalize s.length = L at *
      clear ho h1 hf hF hg h1s g1 g2 hk hv
      have hfl := fun x => field_file x
      go_enter Tryd.func23, Tryd.ntmps23
      go_wp2_with fail
      refine hO.mono ?_
      rintro e w1 ⟨rfl, rfl⟩
      clear hO
      go_wp2_with fail
      refine hH.mono ?_
      rintro e w2 ⟨rfl, b1⟩
      have HB := Lib.hid b1
      obtain ⟨l1, l2, l3⟩ := HL.out _ b1
      clear hH b1 HL c1
      go_wp2_with fail
      go_ret2
      exact ⟨rfl, HB.out⟩
end Go.Proofs.YtpimdbnhpbjlkaaDoor.dk
/-! DkRef5 -/
namespace Go.Proofs.YtpimdbnhpbjlkaaDoor.dk
set_option linter.unusedVariables false
open Go.RowKit
open fl (S S_size S_append S_inj str_eq str_ne)
open rw (Arr But Row Own bnext below_box below_drew below_drewN addr_add)

theorem count_take (l : List Call) (k : Nat) (h : k < l.length) : count (l.take (k + 1)) = count (l.take k) + steps l[k] := by
  unfold count
  rw [List.take_succ_eq_append_getElem h, List.map_append, List.sum_append]
  simp
theorem steps_le {c : Call} (h : c.s.length ≤ 140737488355328) : steps c ≤ 140737488355328 := by unfold steps; split <;> omega
theorem count_le : ∀ {l : List Call}, (∀ c ∈ l, c.s.length ≤ 140737488355328) → count l ≤ l.length * 140737488355328
  | [], _ => by simp [count]
  | c :: l, h => by
    have h1 := count_le (l := l) (fun x hx => h x (List.mem_cons_of_mem _ hx))
    have h2 := steps_le (h c List.mem_cons_self)
    unfold count at *
    simp only [List.map_cons, List.sum_cons, List.length_cons]
    omega

/-! ### Crash -/
theorem again_take (l : List File) : ∀ (p : List Call) (k j : Nat), j ≤ p.length → again l p k = again (again l (p.take j) k) (p.drop j) (k - min (count (p.take j)) k)
  | [], k, j, _ => by simp [again, count]
  | c :: p, k, 0, _ => by simp [again, count]
  | c :: p, k, j + 1, h => by
    rw [List.take_succ_cons, List.drop_succ_cons, again, again, again_take _ p _ j (by simpa using h)]
    congr 1
    have : count (c :: p.take j) = steps c + count (p.take j) := by simp [count]
    rw [this]
    omega
theorem done_le (l : List File) (c : Call) (n : Nat) : (done l c n).length ≤ l.length + 1 := by
  unfold done
  split
  · omega
  · split
    · exact put_length _ _
    · split
      · exact put_length _ _
      · have := without_length l c.name; omega
theorem again_length : ∀ (l : List File) (p : List Call) (k : Nat), (again l p k).length ≤ l.length + p.length
  | l, [], k => by simp [again]
  | l, c :: p, k => by
    unfold again
    have h1 := again_length (done l c (min (steps c) k)) p (k - min (steps c) k)
    have h2 := done_le l c (min (steps c) k)
    rw [List.length_cons]
    omega
/-- Where the loop stands: j calls done again, k steps were given at the start. -/
theorem again_snoc (l : List File) (p : List Call) (k : Nat) {j : Nat} (hj : j < p.length) : again l (p.take (j + 1)) k = done (again l (p.take j) k) p[j] (min (steps p[j]) (k - min (count (p.take j)) k)) := by
  have e : (p.take (j + 1)).take j = p.take j := by rw [List.take_take]; congr 1; omega
  have e2 : (p.take (j + 1)).drop j = [p[j]] := by
    rw [List.take_succ_eq_append_getElem hj, List.drop_left' (by rw [List.length_take]; omega)]
  rw [again_take l (p.take (j + 1)) k j (by rw [List.length_take]; omega), e, e2]
  rfl
theorem bytes_get {l : List File} {B : Nat} (h : ∀ f ∈ l, f.2.length ≤ B) (n : Bs) : ((get l n).getD []).length ≤ B := by
  cases hg : get l n with
  | none => exact Nat.zero_le _
  | some s => exact h _ (get_some hg)
theorem bytes_of_used {l : List File} {B : Nat} (h : used l ≤ B) : ∀ f ∈ l, f.2.length ≤ B := by
  intro f hf
  refine Nat.le_trans ?_ h
  unfold used
  induction l with
  | nil => cases hf
  | cons x l ih =>
    simp only [List.map_cons, List.sum_cons]
    rcases List.mem_cons.1 hf with rfl | hf
    · omega
    · have : used l ≤ B := by unfold used at h ⊢; simp only [List.map_cons, List.sum_cons] at h; omega
      have := ih this hf
      omega
theorem again_used {d : Dk} (h : Right d) (j k : Nat) : used (again d.lasts (d.pend.take j) k) ≤ d.cap := by
  refine again_room _ _ _ h.so fun i => ?_
  rw [List.take_take]
  exact h.room _

end Go.Proofs.YtpimdbnhpbjlkaaDoor.dk
