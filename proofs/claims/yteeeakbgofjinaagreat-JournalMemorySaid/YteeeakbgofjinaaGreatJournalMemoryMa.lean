/-
  What the law's walk stands on, part 1 of 6: the texts SealCrc, SealBits, SealLay, SealSum, SealRefSum, SealFrame, SealCutDef, SealParts, SealScan, PackDec, FlagBase, DkSpec, DkMath, JrSpec, PackForm, JrMath, JrRun, JrAlive, JrPure, PackMem, PackNum, PackNumber, PackBound, Shelf, PackClone, PackBytes, PackReadW, one behind the other.
-/
import Derived.Test.YteeeakbgofjinaaGreatProg
import Derived.WalkKit
import Derived.Lib.EndianBits
import Derived.Deep.Draws
import Derived.Lib.Hide
import Derived.Lib.Strings
import Derived.Laws.BytesArg
import Derived.Deep.QuietTactic
import Derived.BigQuiet
import Derived.BigRegion
import Derived.Lib.Varint
import Derived.Lib.VarintMem
import Derived.WalkLawsBesides
import Derived.Shelf.Strings.Builder1
import Derived.Shelf.LaysM
import Derived.Shelf.Strconv.Clone
import Derived.Ground.Names2Prog
import Derived.Shelf.Slices.Clone
import Derived.Deep.RegionWith
import Derived.Deep.RegionHeld3
/-! SealCrc -/
namespace Go.Proofs.YteeeakbgofjinaaGreat.sl

/-- One bit of the check sum: the bits are moved down by one; where the lowest one was 1 the polynomial is laid over. -/
def crcBit (c : Nat) : Nat := if c % 2 = 1 then c / 2 ^^^ 3988292384 else c / 2
/-- n bits. -/
def crcBits : Nat → Nat → Nat
  | 0, c => c
  | n + 1, c => crcBits n (crcBit c)
/-- One byte: it is laid over the lowest eight, then eight bits. -/
def crcByte (c : Nat) (b : UInt8) : Nat := crcBits 8 (c ^^^ b.toNat)
def crcFrom (c : Nat) (l : List UInt8) : Nat := l.foldl crcByte c
/-- The check sum. -/
def crc (l : List UInt8) : Nat := 4294967295 - crcFrom 4294967295 l

theorem crcBit_lt {c : Nat} (h : c < 4294967296) : crcBit c < 4294967296 := by
  unfold crcBit
  split
  · exact Nat.xor_lt_two_pow (n := 32) (by omega) (by decide)
  · omega

theorem top_of_xor {c : Nat} (h : c < 4294967296) : 2147483648 ≤ (c / 2 ^^^ 3988292384) := by
  have h1 : (c / 2).testBit 31 = false := Nat.testBit_lt_two_pow (by omega)
  have h2 : (3988292384 : Nat).testBit 31 = true := by decide
  have h3 : (c / 2 ^^^ 3988292384).testBit 31 = true := by rw [Nat.testBit_xor, h1, h2]; rfl
  exact Nat.ge_two_pow_of_testBit h3

theorem xor_right_inj {a b p : Nat} (h : a ^^^ p = b ^^^ p) : a = b := by
  have := congrArg (· ^^^ p) h
  simpa [Nat.xor_assoc] using this

theorem crcBit_inj {c d : Nat} (hc : c < 4294967296) (hd : d < 4294967296) (h : crcBit c = crcBit d) : c = d := by
  unfold crcBit at h
  by_cases h1 : c % 2 = 1 <;> by_cases h2 : d % 2 = 1
  · rw [if_pos h1, if_pos h2] at h
    have := xor_right_inj h
    omega
  · rw [if_pos h1, if_neg h2] at h
    have := top_of_xor hc
    omega
  · rw [if_neg h1, if_pos h2] at h
    have := top_of_xor hd
    omega
  · rw [if_neg h1, if_neg h2] at h
    omega

theorem crcBits_lt : ∀ (n : Nat) {c : Nat}, c < 4294967296 → crcBits n c < 4294967296
  | 0, _, h => h
  | n + 1, _, h => crcBits_lt n (crcBit_lt h)
theorem crcBits_inj : ∀ (n : Nat) {c d : Nat}, c < 4294967296 → d < 4294967296 → crcBits n c = crcBits n d → c = d
  | 0, _, _, _, _, h => h
  | n + 1, _, _, hc, hd, h => crcBit_inj hc hd (crcBits_inj n (crcBit_lt hc) (crcBit_lt hd) h)

theorem xor_byte_lt {c : Nat} (h : c < 4294967296) (b : UInt8) : c ^^^ b.toNat < 4294967296 :=
  Nat.xor_lt_two_pow (n := 32) (by omega) (by have := b.toNat_lt; omega)
theorem crcByte_lt {c : Nat} (h : c < 4294967296) (b : UInt8) : crcByte c b < 4294967296 := crcBits_lt 8 (xor_byte_lt h b)
theorem crcByte_inj {c d : Nat} (hc : c < 4294967296) (hd : d < 4294967296) {b : UInt8} (h : crcByte c b = crcByte d b) : c = d :=
  xor_right_inj (crcBits_inj 8 (xor_byte_lt hc b) (xor_byte_lt hd b) h)
theorem crcByte_byte {c : Nat} (hc : c < 4294967296) {b b' : UInt8} (h : crcByte c b = crcByte c b') : b = b' := by
  have h1 := crcBits_inj 8 (xor_byte_lt hc b) (xor_byte_lt hc b') h
  rw [Nat.xor_comm c, Nat.xor_comm c] at h1
  exact UInt8.toNat_inj.1 (xor_right_inj h1)

theorem crcFrom_lt : ∀ (l : List UInt8) {c : Nat}, c < 4294967296 → crcFrom c l < 4294967296
  | [], _, h => h
  | b :: l, _, h => crcFrom_lt l (crcByte_lt h b)
theorem crcFrom_inj : ∀ (l : List UInt8) {c d : Nat}, c < 4294967296 → d < 4294967296 → crcFrom c l = crcFrom d l → c = d
  | [], _, _, _, _, h => h
  | b :: l, _, _, hc, hd, h => crcByte_inj hc hd (crcFrom_inj l (crcByte_lt hc b) (crcByte_lt hd b) h)

/-- One byte turned: another check sum. -/
theorem crc_turned (p : List UInt8) (b b' : UInt8) (r : List UInt8) (hne : b ≠ b') : crc (p ++ b :: r) ≠ crc (p ++ b' :: r) := by
  intro h
  have h0 : (4294967295 : Nat) < 4294967296 := by decide
  have hp := crcFrom_lt p h0
  have e : ∀ x : UInt8, crcFrom 4294967295 (p ++ x :: r) = crcFrom (crcByte (crcFrom 4294967295 p) x) r := by
    intro x
    unfold crcFrom
    rw [List.foldl_append, List.foldl_cons]
  unfold crc at h
  rw [e, e] at h
  have l1 := crcFrom_lt r (crcByte_lt hp b)
  have l2 := crcFrom_lt r (crcByte_lt hp b')
  exact hne (crcByte_byte hp (crcFrom_inj r (crcByte_lt hp b) (crcByte_lt hp b') (by omega)))
theorem crc_lt (l : List UInt8) : crc l < 4294967296 := by unfold crc; omega

/-- A number's four bytes, the highest first. -/
def four (n : Nat) : List UInt8 := [(n / 16777216).toUInt8, (n / 65536 % 256).toUInt8, (n / 256 % 256).toUInt8, (n % 256).toUInt8]
/-- Four bytes as a number. -/
def big : List UInt8 → Nat
  | [a, b, c, d] => ((a.toNat * 256 + b.toNat) * 256 + c.toNat) * 256 + d.toNat
  | _ => 0
theorem toU8 {a : Nat} (h : a < 256) : (a.toUInt8).toNat = a := by
  simp [Nat.toUInt8, UInt8.toNat_ofNat']
  omega
theorem big_four {n : Nat} (h : n < 4294967296) : big (four n) = n := by
  unfold big four
  simp only
  rw [toU8 (by omega), toU8 (by omega), toU8 (by omega), toU8 (by omega)]
  omega
theorem four_length (n : Nat) : (four n).length = 4 := rfl
end Go.Proofs.YteeeakbgofjinaaGreat.sl
/-! SealBits -/
namespace Go.Proofs.YteeeakbgofjinaaGreat.sl
open Go.RowKit

/-- Bytes as a string. -/
def S (l : List UInt8) : ByteArray := ⟨l.toArray⟩
theorem S_size (l : List UInt8) : (S l).size = l.length := rfl
theorem S_data (l : List UInt8) : (S l).data.toList = l := by simp [S]
theorem S_append (a b : List UInt8) : S a ++ S b = S (a ++ b) := ByteArray.mk_append_mk a b
theorem S_inj {a b : List UInt8} (h : S a = S b) : a = b := by rw [← S_data a, h, S_data]
theorem S_of (s : ByteArray) : S s.data.toList = s := by simp [S]

theorem xor32 {a b : Nat} (ha : a < 4294967296) (hb : b < 4294967296) : bits .xor .u32 (a : Int) (b : Int) = ((a ^^^ b : Nat) : Int) := by
  have hx : a ^^^ b < 2 ^ 32 := Nat.xor_lt_two_pow (by omega) (by omega)
  have h1 : (BitVec.ofInt 32 (a : Int)).toNat = a := by
    rw [BitVec.ofInt_natCast, BitVec.toNat_ofNat]; exact Nat.mod_eq_of_lt (by omega)
  have h2 : (BitVec.ofInt 32 (b : Int)).toNat = b := by
    rw [BitVec.ofInt_natCast, BitVec.toNat_ofNat]; exact Nat.mod_eq_of_lt (by omega)
  show IntKind.u32.wrap ((BitVec.ofInt 32 (a : Int) ^^^ BitVec.ofInt 32 (b : Int)).toNat : Int) = _
  rw [BitVec.toNat_xor, h1, h2, IntKind.wrap_u32]
  omega
theorem and1 {a : Nat} (ha : a < 4294967296) : bits .and .u32 (a : Int) 1 = ((a % 2 : Nat) : Int) := by
  have := bits_mask .u32 32 (by decide) wraps_u32 1 (by decide) (a : Int) (by omega) (by omega)
  simpa using this
theorem not32 {a : Nat} (ha : a < 4294967296) : bits .xor .u32 IntKind.u32.max (a : Int) = ((4294967295 - a : Nat) : Int) := by
  have h1 : (BitVec.ofInt 32 (a : Int)).toNat = a := by
    rw [BitVec.ofInt_natCast, BitVec.toNat_ofNat]; exact Nat.mod_eq_of_lt (by omega)
  have h2 : BitVec.ofInt 32 IntKind.u32.max = BitVec.allOnes 32 := by decide
  show IntKind.u32.wrap ((BitVec.ofInt 32 IntKind.u32.max ^^^ BitVec.ofInt 32 (a : Int)).toNat : Int) = _
  rw [h2, ← BitVec.not_def, BitVec.toNat_not, h1, IntKind.wrap_u32]
  omega
theorem S_get (l : List UInt8) (k : Nat) (h : k < l.length) (h' : k < (S l).size) : (S l)[k]'h' = l[k]'h := rfl
theorem crcFrom_take (c : Nat) (l : List UInt8) (k : Nat) (h : k < l.length) : crcFrom c (l.take (k + 1)) = crcByte (crcFrom c (l.take k)) l[k] := by
  unfold crcFrom
  rw [List.take_succ_eq_append_getElem h, List.foldl_append]
  rfl
theorem crcBits_succ : ∀ (j c : Nat), crcBits (j + 1) c = crcBit (crcBits j c)
  | 0, _ => rfl
  | j + 1, c => crcBits_succ j (crcBit c)
theorem str_beq (x y : ByteArray) : (x.toList == y.toList) = true ↔ x = y := by
  rw [beq_iff_eq, ByteArray.toList_eq, ByteArray.toList_eq]
  exact ⟨fun h => ByteArray.ext (Array.toList_inj.mp h), fun h => by rw [h]⟩
theorem str_eq {x y : ByteArray} (h : x = y) : (x.toList == y.toList) = true := (str_beq x y).2 h
theorem str_ne {x y : ByteArray} (h : x ≠ y) : (x.toList == y.toList) = false := by
  cases hb : x.toList == y.toList with
  | false => rfl
  | true => exact absurd ((str_beq x y).1 hb) h
theorem below_drewN {B : Nat} {a w : World} (h : Below B a w) (n : Nat) : Below B a (w.drewN n) := ⟨h.os, h.tape, h.output, h.size, h.block⟩
end Go.Proofs.YteeeakbgofjinaaGreat.sl
/-! SealLay -/
namespace Go.Proofs.YteeeakbgofjinaaGreat.sl
open Go.RowKit

theorem or8 {x b : Nat} (hx : x < 16777216) (hb : b < 256) : bits .or .u32 ((x : Int) * 256) (b : Int) = ((x * 256 + b : Nat) : Int) := by
  have h := bits_join .u32 32 (by decide) wraps_u32 8 ((x : Int) * 256) (b : Int) (by omega) (by omega) (by omega) (by omega) (by omega) (by omega)
  rw [h]
  omega
theorem or0 {b : Nat} (hb : b < 256) : bits .or .u32 0 (b : Int) = ((b : Nat) : Int) := by
  have h := or8 (x := 0) (b := b) (by decide) hb
  simpa using h

set_option maxHeartbeats 4000000 in
set_option maxRecDepth 100000 in
theorem lift_core (l : List UInt8) (hz4 : 4 ≤ (S l).size) (w : World) (x0 x1 x2 x3 : Nat)
    (h0 : ((S l)[0]'(by omega)).toNat = x0) (h1 : ((S l)[1]'(by omega)).toNat = x1) (h2 : ((S l)[2]'(by omega)).toNat = x2) (h3 : ((S l)[3]'(by omega)).toNat = x3) :
    Calls Tryz.prog 132 #[.string (S l)] w fun e w' => e = .returned (.int .u32 ((((x0 * 256 + x1) * 256 + x2) * 256 + x3 : Nat) : Int)) ∧ w' = w := by
  have l0 : x0 < 256 := h0 ▸ UInt8.toNat_lt _
  have l1 : x1 < 256 := h1 ▸ UInt8.toNat_lt _
  have l2 : x2 < 256 := h2 ▸ UInt8.toNat_lt _
  have l3 : x3 < 256 := h3 ▸ UInt8.toNat_lt _
  have o0 := or0 l0
  obtain ⟨y1, e1⟩ : ∃ y : Nat, y = x0 * 256 + x1 := ⟨_, rfl⟩
  obtain ⟨y2, e2⟩ : ∃ y : Nat, y = y1 * 256 + x2 := ⟨_, rfl⟩
  obtain ⟨y3, e3⟩ : ∃ y : Nat, y = y2 * 256 + x3 := ⟨_, rfl⟩
  have o1 := or8 (x := x0) (by omega) l1
  rw [← e1] at o1 ⊢
  have o2 := or8 (x := y1) (by omega) l2
  rw [← e2] at o2 ⊢
  have o3 := or8 (x := y2) (by omega) l3
  rw [← e3] at o3 ⊢
  have k1 : y1 < 65536 := by omega
  have k2 : y2 < 16777216 := by omega
  clear e1 e2 e3
  go_enter Tryz.func132, Tryz.ntmps132
  go_wp2
  refine wp_loop_rounds 5 ?_
  rw [rounds_succ]
  go_wp2
  rw [rounds_succ]
  go_wp2
  rw [rounds_succ]
  go_wp2
  rw [rounds_succ]
  go_wp2
  rw [rounds_succ]
  go_wp2
  go_ret
  exact ⟨rfl, rfl⟩

theorem lift_any (l : List UInt8) (hl : 4 ≤ l.length) (w : World) :
    Calls Tryz.prog 132 #[.string (S l)] w fun e w' => e = .returned (.int .u32 (big (l.take 4))) ∧ w' = w := by
  obtain ⟨a, b, c, d, r, rfl⟩ : ∃ a b c d r, l = a :: b :: c :: d :: r := by
    match l, hl with
    | a :: b :: c :: d :: r, _ => exact ⟨a, b, c, d, r, rfl⟩
  exact lift_core (a :: b :: c :: d :: r) hl w a.toNat b.toNat c.toNat d.toNat rfl rfl rfl rfl

set_option maxHeartbeats 4000000 in
set_option maxRecDepth 100000 in
theorem lay_any (n : Nat) (hn : n < 4294967296) (w : World) :
    Calls Tryz.prog 146 #[.int .u32 n] w fun e w' => e = .returned (.agg #[.int .u8 (n / 256 / 256 / 256 : Int), .int .u8 (n / 256 / 256 % 256 : Int), .int .u8 (n / 256 % 256 : Int), .int .u8 (n % 256 : Int)]) ∧ Below w.heap.size w w' := by
  go_enter Tryz.func146, Tryz.ntmps146
  go_wp2
  refine wp_loop_rounds 5 ?_
  rw [rounds_succ]
  go_wp2
  rw [rounds_succ]
  go_wp2
  rw [rounds_succ]
  go_wp2
  rw [rounds_succ]
  go_wp2
  rw [rounds_succ]
  go_wp2
  refine bodyPost_ret (v := .agg #[.int .u8 (n / 256 / 256 / 256 : Int), .int .u8 (n / 256 / 256 % 256 : Int), .int .u8 (n / 256 % 256 : Int), .int .u8 (n % 256 : Int)]) (by simp [results, Tryz.results146, go_sem]) rfl ?_
  exact ⟨rfl, ((Below.refl _ w).alloc (Nat.le_refl _) _).alloc (by simp) _⟩
end Go.Proofs.YteeeakbgofjinaaGreat.sl
/-! SealSum -/
namespace Go.Proofs.YteeeakbgofjinaaGreat.sl
open Go.RowKit

set_option maxHeartbeats 4000000 in
set_option maxRecDepth 100000 in
theorem sum_any (l : List UInt8) (hl : l.length ≤ 9223372036854775807) (w : World) :
    Calls Tryz.prog 133 #[.string (S l)] w fun e w' => e = .returned (.int .u32 (crc l)) ∧ w' = w := by
  have hz := S_size l
  go_enter Tryz.func133, Tryz.ntmps133
  go_wp2
  go_loopw [3, 8] (fun c i wr => ∃ k : Nat, k ≤ l.length ∧ i = .int .i64 k ∧ c = .int .u32 (crcFrom 4294967295 (l.take k)) ∧ wr = w)
    (fun _ i _ => l.length - (intOf i).toNat)
  case atStart => exact ⟨0, Nat.zero_le _, rfl, rfl, rfl⟩
  case round =>
    obtain ⟨k, hk, rfl, rfl, rfl⟩ := hrel
    have hc0 : crcFrom 4294967295 (l.take k) < 4294967296 := crcFrom_lt _ (by decide)
    by_cases hlt : k < l.length
    · have hlt' : k < (S l).size := by rw [S_size]; exact hlt
      have hx0 : bits BinOp.xor IntKind.u32 (crcFrom 4294967295 (l.take k) : Nat) (((S l)[k]'hlt').toNat % 4294967296 : Int) = ((crcFrom 4294967295 (l.take k) ^^^ (l[k]).toNat : Nat) : Int) := by
        have hb := (l[k]).toNat_lt
        rw [S_get l k hlt hlt', show (((l[k]).toNat : Int) % 4294967296) = ((l[k]).toNat : Int) by omega]
        exact xor32 hc0 (by omega)
      have hc1 : crcFrom 4294967295 (l.take k) ^^^ (l[k]).toNat < 4294967296 := xor_byte_lt hc0 _
      have hc2 := crcFrom_take 4294967295 l k hlt
      unfold crcByte at hc2
      generalize crcFrom 4294967295 (l.take k) ^^^ (l[k]).toNat = c1 at hx0 hc1 hc2
      go_wp2
      go_loopw [3, 17] (fun c i wr' => ∃ j : Nat, j ≤ 8 ∧ i = .int .i64 j ∧ c = .int .u32 (crcBits j c1 : Nat) ∧ wr' = wr)
        (fun _ i _ => 8 - (intOf i).toNat)
      case atStart => exact ⟨0, Nat.zero_le _, rfl, by first | rfl | (rw [hx0]; rfl), rfl⟩
      case round =>
        obtain ⟨j, hj, rfl, rfl, rfl⟩ := hrel
        have hc3 := crcBits_lt j hc1
        have hc4 := crcBits_succ j c1
        unfold crcBit at hc4
        generalize hcj : crcBits j c1 = c at hc3 hc4
        have ha := and1 hc3
        by_cases h8 : j < 8
        · by_cases hodd : c % 2 = 1
          · have hx := xor32 (a := c / 2) (b := 3988292384) (by omega) (by decide)
            rw [Int.natCast_ediv] at hx
            rw [if_pos hodd] at hc4
            go_wp2
            go_roundw
            case rel => exact ⟨j + 1, by omega, by go_num, by rw [hc4, ← hx]; rfl, trivial⟩
            case measure => simp [intOf]; omega
          · rw [if_neg hodd] at hc4
            go_wp2
            go_roundw
            case rel => exact ⟨j + 1, by omega, by go_num, by rw [hc4]; simp, trivial⟩
            case measure => simp [intOf]; omega
        · obtain rfl : j = 8 := by omega
          rw [hcj] at hc2
          go_wp2
          go_roundw
          case rel => exact ⟨k + 1, by omega, by go_num, by rw [hc2], trivial⟩
          case measure => simp [intOf]; omega
    · have hn := not32 hc0
      obtain rfl : k = l.length := by omega
      rw [List.take_length] at *
      go_wp2
      go_ret
      exact ⟨rfl, rfl⟩
end Go.Proofs.YteeeakbgofjinaaGreat.sl
/-! SealRefSum -/
namespace Go.Proofs.YteeeakbgofjinaaGreat.sl
open Go.RowKit

set_option maxHeartbeats 4000000 in
set_option maxRecDepth 100000 in
theorem refsum_any (l : List UInt8) (hl : l.length ≤ 9223372036854775807) (w : World) :
    Calls Tryz.prog 149 #[.string (S l)] w fun e w' => e = .returned (.int .u32 (crc l)) ∧ w' = w := by
  have hz := S_size l
  go_enter Tryz.func149, Tryz.ntmps149
  go_wp2
  go_loopw [3, 4] (fun c i wr => ∃ k : Nat, k ≤ l.length ∧ i = .int .i64 k ∧ c = .int .u32 (crcFrom 4294967295 (l.take k)) ∧ wr = w)
    (fun _ i _ => l.length - (intOf i).toNat)
  case atStart => exact ⟨0, Nat.zero_le _, rfl, rfl, rfl⟩
  case round =>
    obtain ⟨k, hk, rfl, rfl, rfl⟩ := hrel
    have hc0 : crcFrom 4294967295 (l.take k) < 4294967296 := crcFrom_lt _ (by decide)
    by_cases hlt : k < l.length
    · have hlt' : k < (S l).size := by rw [S_size]; exact hlt
      have hx0 : bits BinOp.xor IntKind.u32 (crcFrom 4294967295 (l.take k) : Nat) (((S l)[k]'hlt').toNat % 4294967296 : Int) = ((crcFrom 4294967295 (l.take k) ^^^ (l[k]).toNat : Nat) : Int) := by
        have hb := (l[k]).toNat_lt
        rw [S_get l k hlt hlt', show (((l[k]).toNat : Int) % 4294967296) = ((l[k]).toNat : Int) by omega]
        exact xor32 hc0 (by omega)
      have hc1 : crcFrom 4294967295 (l.take k) ^^^ (l[k]).toNat < 4294967296 := xor_byte_lt hc0 _
      have hc2 := crcFrom_take 4294967295 l k hlt
      unfold crcByte at hc2
      generalize crcFrom 4294967295 (l.take k) ^^^ (l[k]).toNat = c1 at hx0 hc1 hc2
      go_wp2
      go_loopw [3, 5] (fun c i wr' => ∃ j : Nat, j ≤ 8 ∧ i = .int .i64 j ∧ c = .int .u32 (crcBits j c1 : Nat) ∧ wr' = wr)
        (fun _ i _ => 8 - (intOf i).toNat)
      case atStart => exact ⟨0, Nat.zero_le _, rfl, by first | rfl | (rw [hx0]; rfl), rfl⟩
      case round =>
        obtain ⟨j, hj, rfl, rfl, rfl⟩ := hrel
        have hc3 := crcBits_lt j hc1
        have hc4 := crcBits_succ j c1
        unfold crcBit at hc4
        generalize hcj : crcBits j c1 = c at hc3 hc4
        have ha := and1 hc3
        by_cases h8 : j < 8
        · by_cases hodd : c % 2 = 1
          · have hx := xor32 (a := c / 2) (b := 3988292384) (by omega) (by decide)
            rw [Int.natCast_ediv] at hx
            rw [if_pos hodd] at hc4
            go_wp2
            go_roundw
            case rel => exact ⟨j + 1, by omega, by go_num, by rw [hc4, ← hx]; rfl, trivial⟩
            case measure => simp [intOf]; omega
          · rw [if_neg hodd] at hc4
            go_wp2
            go_roundw
            case rel => exact ⟨j + 1, by omega, by go_num, by rw [hc4]; simp, trivial⟩
            case measure => simp [intOf]; omega
        · obtain rfl : j = 8 := by omega
          rw [hcj] at hc2
          go_wp2
          go_roundw
          case rel => exact ⟨k + 1, by omega, by go_num, by rw [hc2], trivial⟩
          case measure => simp [intOf]; omega
    · have hn := not32 hc0
      obtain rfl : k = l.length := by omega
      rw [List.take_length] at *
      go_wp2
      go_ret
      refine ⟨?_, rfl⟩
      have hx : (4294967295 : Int) - (crcFrom 4294967295 l : Nat) = (crc l : Nat) := by unfold crc; omega
      show Ending.returned (Value.int IntKind.u32 (4294967295 - (crcFrom 4294967295 l : Nat) : Int)) = _
      rw [hx]
end Go.Proofs.YteeeakbgofjinaaGreat.sl
/-! SealFrame -/
namespace Go.Proofs.YteeeakbgofjinaaGreat.sl
open Go.RowKit

/-- The frame of a body. -/
def frame (l : List UInt8) : List UInt8 := four l.length ++ (four (crc l) ++ l)
theorem frame_length (l : List UInt8) : (frame l).length = 8 + l.length := by unfold frame; rw [List.length_append, List.length_append, four_length, four_length]; omega

def isByte : Option Value → Bool
  | some (.int .u8 _) => true
  | _ => false
def byteOf : Option Value → UInt8
  | some (.int .u8 x) => UInt8.ofNat x.toNat
  | _ => 0
theorem isByte_u8 (x : Int) : isByte (some (.int .u8 x)) = true := rfl
theorem byteOf_u8 (x : Int) : byteOf (some (.int .u8 x)) = UInt8.ofNat x.toNat := rfl
theorem isByte_some {c : Option Value} (h : isByte c = true) : ∃ x, c = some (.int .u8 x) := by
  cases c with
  | none => cases h
  | some v =>
    cases v with
    | int k x => cases k <;> first | exact ⟨_, rfl⟩ | cases h
    | _ => cases h

theorem four_eq (n : Nat) : [UInt8.ofNat (n / 256 / 256 / 256), UInt8.ofNat (n / 256 / 256 % 256), UInt8.ofNat (n / 256 % 256), UInt8.ofNat (n % 256)] = four n := by
  unfold four
  rw [show n / 256 / 256 / 256 = n / 16777216 by omega, show n / 256 / 256 = n / 65536 by omega]

/-- 'string(four bytes)', for the walk to take. -/
theorem conv4 (W : World) (b : Nat) (h0 : isByte (W.cell? ⟨b, 0, none⟩) = true) (h1 : isByte (W.cell? ⟨b, 1, none⟩) = true) (h2 : isByte (W.cell? ⟨b, 2, none⟩) = true) (h3 : isByte (W.cell? ⟨b, 3, none⟩) = true) :
    (convert 135 9 (.slice (some ⟨b, 0, none⟩) 4 4)).run Tryz.prog W = .ok (.string (S [byteOf (W.cell? ⟨b, 0, none⟩), byteOf (W.cell? ⟨b, 1, none⟩), byteOf (W.cell? ⟨b, 2, none⟩), byteOf (W.cell? ⟨b, 3, none⟩)])) W := by
  obtain ⟨x0, e0⟩ := isByte_some h0
  obtain ⟨x1, e1⟩ := isByte_some h1
  obtain ⟨x2, e2⟩ := isByte_some h2
  obtain ⟨x3, e3⟩ := isByte_some h3
  have hr := run_convert_bytes_arg (P := Tryz.prog) W 135 5 Tryz.underlying135 Tryz.underlying5 b 0 4 4 [x0, x1, x2, x3] rfl (fun i hi => by
    match i, hi with
    | 0, _ => simpa using e0
    | 1, _ => simpa using e1
    | 2, _ => simpa using e2
    | 3, _ => simpa using e3) 9 Tryz.underlying9
  rw [hr, e0, e1, e2, e3]
  rfl

set_option maxHeartbeats 4000000 in
set_option maxRecDepth 100000 in
theorem four_any (n : Nat) (hn : n < 4294967296) (w : World) :
    Calls Tryz.prog 148 #[.int .u32 n] w fun e w' => e = .returned (.string (S (four n))) ∧ Below w.heap.size w w' := by
  have hib := isByte_u8
  have hbo := byteOf_u8
  have hcv := conv4
  go_enter Tryz.func148, Tryz.ntmps148
  go_wp2
  go_ret
  exact ⟨rfl, (Below.refl _ w).alloc (Nat.le_refl _) _⟩

set_option maxHeartbeats 4000000 in
set_option maxRecDepth 100000 in
theorem frame_any (l : List UInt8) (hl : l.length ≤ 65536) (w : World) :
    Calls Tryz.prog 116 #[.string (S l)] w fun e w' => e = .returned (.tuple #[.string (S (frame l)), .int .i64 0]) ∧ Below w.heap.size w w' := by
  have hib := isByte_u8
  have hbo := byteOf_u8
  have hcv := conv4
  have hz := S_size l
  have hcl := crc_lt l
  go_enter Tryz.func116, Tryz.ntmps116
  go_wp2_with fail
  refine (lay_any l.length (by omega) _).mono ?_
  rintro e w1 ⟨rfl, hb1⟩
  go_wp2_with fail
  refine (sum_any l (by omega) _).mono ?_
  rintro e w2 ⟨rfl, rfl⟩
  go_wp2_with fail
  refine (lay_any (crc l) hcl _).mono ?_
  rintro e w3 ⟨rfl, hb3⟩
  go_wp2
  have hz1 : ∀ a b c d : UInt8, (S [a, b, c, d]).size = 4 := fun _ _ _ _ => rfl
  go_region
  all_goals go_wp2
  all_goals simp only [four_eq]
  all_goals go_ret2
  all_goals refine ⟨by rw [S_append, S_append, List.append_assoc]; rfl, ?_⟩
  all_goals have hb := hb1.trans (hb3.mono hb1.size)
  all_goals have hs := hb.size
  all_goals exact ((hb.alloc hs _).alloc (by simp; omega) _).drew

set_option maxRecDepth 100000 in
theorem frame_long (l : List UInt8) (hl : 65536 < l.length) (hl2 : l.length ≤ 9223372036854775807) (w : World) :
    Calls Tryz.prog 116 #[.string (S l)] w fun e w' => e = .returned (.tuple #[.string (S []), .int .i64 2]) ∧ w' = w := by
  have hz := S_size l
  go_enter Tryz.func116, Tryz.ntmps116
  go_wp2
  go_ret2
  exact ⟨rfl, rfl⟩

set_option maxRecDepth 100000 in
theorem refframe_long (l : List UInt8) (hl : 65536 < l.length) (hl2 : l.length ≤ 9223372036854775807) (w : World) :
    Calls Tryz.prog 118 #[.string (S l)] w fun e w' => e = .returned (.tuple #[.string (S []), .int .i64 2]) ∧ w' = w := by
  have hz := S_size l
  go_enter Tryz.func118, Tryz.ntmps118
  go_wp2
  go_ret2
  exact ⟨rfl, rfl⟩

set_option maxHeartbeats 4000000 in
set_option maxRecDepth 100000 in
theorem refframe_any (l : List UInt8) (hl : l.length ≤ 65536) (w : World) :
    Calls Tryz.prog 118 #[.string (S l)] w fun e w' => e = .returned (.tuple #[.string (S (frame l)), .int .i64 0]) ∧ Below w.heap.size w w' := by
  have hz := S_size l
  have hcl := crc_lt l
  have z1 : (S (four l.length)).size = 4 := rfl
  have z2 : (S (four (crc l))).size = 4 := rfl
  go_enter Tryz.func118, Tryz.ntmps118
  go_wp2_with fail
  refine (four_any l.length (by omega) _).mono ?_
  rintro e w1 ⟨rfl, hb1⟩
  go_wp2_with fail
  refine (refsum_any l (by omega) _).mono ?_
  rintro e w2 ⟨rfl, rfl⟩
  go_wp2_with fail
  refine (four_any (crc l) hcl _).mono ?_
  rintro e w3 ⟨rfl, hb3⟩
  go_wp2
  go_ret2
  exact ⟨by rw [S_append, S_append]; rw [List.append_assoc]; rfl, hb1.trans (hb3.mono hb1.size)⟩
end Go.Proofs.YteeeakbgofjinaaGreat.sl
/-! SealCutDef -/
namespace Go.Proofs.YteeeakbgofjinaaGreat.sl
open Go.RowKit

/-- The first frame: its body, its size, the error's number. -/
def cut (l : List UInt8) : List UInt8 × Nat × Nat :=
  if l.length < 8 then ([], 0, 3)
  else if 65536 < big (l.take 4) then ([], 0, 2)
  else if l.length < 8 + big (l.take 4) then ([], 0, 3)
  else if crc ((l.drop 8).take (big (l.take 4))) ≠ big ((l.drop 4).take 4) then ([], 0, 5)
  else ((l.drop 8).take (big (l.take 4)), 8 + big (l.take 4), 0)

theorem S_slice (l : List UInt8) (a b : Nat) : (S l).extract a b = S ((l.take b).drop a) := by
  apply ByteArray.ext
  apply Array.toList_inj.1
  rw [Lib.extract_data, S_data, S_data, List.drop_take]
theorem S_drop (l : List UInt8) (a : Nat) : (S l).extract a l.length = S (l.drop a) := by rw [S_slice, List.take_length]
theorem S_part (l : List UInt8) (a n : Nat) : (S l).extract a (a + n) = S ((l.drop a).take n) := by
  rw [S_slice, List.take_drop]

theorem cut_short {l : List UInt8} (h : l.length < 8) : cut l = ([], 0, 3) := by unfold cut; rw [if_pos h]
theorem cut_long {l : List UInt8} (h : 8 ≤ l.length) (h2 : 65536 < big (l.take 4)) : cut l = ([], 0, 2) := by
  unfold cut; rw [if_neg (by omega), if_pos h2]
theorem cut_torn {l : List UInt8} (h : 8 ≤ l.length) (h2 : big (l.take 4) ≤ 65536) (h3 : l.length < 8 + big (l.take 4)) : cut l = ([], 0, 3) := by
  unfold cut; rw [if_neg (by omega), if_neg (by omega), if_pos h3]
theorem cut_sum {l : List UInt8} (h : 8 ≤ l.length) (h2 : big (l.take 4) ≤ 65536) (h3 : 8 + big (l.take 4) ≤ l.length) (h4 : crc ((l.drop 8).take (big (l.take 4))) ≠ big ((l.drop 4).take 4)) : cut l = ([], 0, 5) := by
  unfold cut; rw [if_neg (by omega), if_neg (by omega), if_neg (by omega), if_pos h4]
theorem cut_ok {l : List UInt8} (h : 8 ≤ l.length) (h2 : big (l.take 4) ≤ 65536) (h3 : 8 + big (l.take 4) ≤ l.length) (h4 : crc ((l.drop 8).take (big (l.take 4))) = big ((l.drop 4).take 4)) : cut l = ((l.drop 8).take (big (l.take 4)), 8 + big (l.take 4), 0) := by
  unfold cut; rw [if_neg (by omega), if_neg (by omega), if_neg (by omega), if_neg (by simpa using h4)]

/-- Four bytes as a number and back. -/
theorem four_big {l : List UInt8} (h : l.length = 4) : four (big l) = l := by
  match l, h with
  | [a, b, c, d], _ =>
    have ha := a.toNat_lt; have hb := b.toNat_lt; have hc := c.toNat_lt; have hd := d.toNat_lt
    have e : big [a, b, c, d] = ((a.toNat * 256 + b.toNat) * 256 + c.toNat) * 256 + d.toNat := rfl
    unfold four
    rw [e]
    have h0 : (((a.toNat * 256 + b.toNat) * 256 + c.toNat) * 256 + d.toNat) / 16777216 = a.toNat := by omega
    have h1 : (((a.toNat * 256 + b.toNat) * 256 + c.toNat) * 256 + d.toNat) / 65536 % 256 = b.toNat := by omega
    have h2 : (((a.toNat * 256 + b.toNat) * 256 + c.toNat) * 256 + d.toNat) / 256 % 256 = c.toNat := by omega
    have h3 : (((a.toNat * 256 + b.toNat) * 256 + c.toNat) * 256 + d.toNat) % 256 = d.toNat := by omega
    rw [h0, h1, h2, h3]
    simp [Nat.toUInt8]
theorem big_lt {l : List UInt8} (h : l.length = 4) : big l < 4294967296 := by
  match l, h with
  | [a, b, c, d], _ =>
    have ha := a.toNat_lt; have hb := b.toNat_lt; have hc := c.toNat_lt; have hd := d.toNat_lt
    show ((a.toNat * 256 + b.toNat) * 256 + c.toNat) * 256 + d.toNat < _
    omega
theorem take4_length {l : List UInt8} (h : 4 ≤ l.length) : (l.take 4).length = 4 := by rw [List.length_take]; omega
end Go.Proofs.YteeeakbgofjinaaGreat.sl
/-! SealParts -/
namespace Go.Proofs.YteeeakbgofjinaaGreat.sl
open Go.RowKit

/-- A length, four bytes, a body, and what stands behind. -/
theorem cut_parts (q b r : List UInt8) (hq : q.length = 4) (hb : b.length ≤ 65536) :
    cut (four b.length ++ (q ++ (b ++ r))) = if crc b = big q then (b, 8 + b.length, 0) else ([], 0, 5) := by
  have h4 := four_length b.length
  have hl : (four b.length ++ (q ++ (b ++ r))).length = 8 + b.length + r.length := by
    simp only [List.length_append, h4, hq]; omega
  have e1 : (four b.length ++ (q ++ (b ++ r))).take 4 = four b.length := by rw [List.take_append_of_le_length (by omega), List.take_of_length_le (by omega)]
  have e2 : (four b.length ++ (q ++ (b ++ r))).drop 4 = q ++ (b ++ r) := by rw [← h4, List.drop_left]
  have e3 : (four b.length ++ (q ++ (b ++ r))).drop 8 = b ++ r := by
    rw [show 8 = 4 + 4 from rfl, ← List.drop_drop, e2, ← hq, List.drop_left]
  have e4 : (q ++ (b ++ r)).take 4 = q := by rw [List.take_append_of_le_length (by omega), List.take_of_length_le (by omega)]
  have e5 : (b ++ r).take b.length = b := List.take_left
  have hbig : big ((four b.length ++ (q ++ (b ++ r))).take 4) = b.length := by rw [e1, big_four (by omega)]
  unfold cut
  rw [hbig, e2, e3, e4, e5, hl, if_neg (by omega), if_neg (by omega), if_neg (by omega)]
  by_cases h : crc b = big q
  · rw [if_neg (by simpa using h), if_pos h]
  · rw [if_pos h, if_neg h]

theorem cut_frame (b r : List UInt8) (hb : b.length ≤ 65536) : cut (frame b ++ r) = (b, 8 + b.length, 0) := by
  have h := cut_parts (four (crc b)) b r (four_length _) hb
  rw [big_four (crc_lt b), if_pos rfl] at h
  unfold frame
  rw [List.append_assoc, List.append_assoc]
  exact h

theorem frame_eq (b : List UInt8) : frame b = four b.length ++ (four (crc b) ++ b) := rfl

/-- One byte behind the length is another one: the sum is another one. -/
theorem cut_turned (b : List UInt8) (hb : b.length ≤ 65536) (k : Nat) (h4 : 4 ≤ k) (hk : k < (frame b).length) (c : UInt8) (hc : c ≠ (frame b)[k]) :
    cut ((frame b).set k c) = ([], 0, 5) := by
  have hf := frame_length b
  have h40 := four_length b.length
  have h41 := four_length (crc b)
  by_cases h8 : k < 8
  · have e : (frame b).set k c = four b.length ++ ((four (crc b)).set (k - 4) c ++ (b ++ [])) := by
      unfold frame
      rw [List.set_append_right _ _ (by omega), List.set_append_left _ _ (by omega), List.append_nil, h40]
    rw [e, cut_parts _ b [] (by rw [List.length_set]; exact h41) hb]
    rw [if_neg]
    intro h
    have h2 := four_big (l := (four (crc b)).set (k - 4) c) (by rw [List.length_set]; exact h41)
    rw [← h] at h2
    apply hc
    have h3 : ((four (crc b)).set (k - 4) c)[k - 4]'(by rw [List.length_set]; omega) = c := List.getElem_set_self _
    have h5 : (frame b)[k] = (four (crc b))[k - 4]'(by omega) := by
      rw [List.getElem_of_eq (frame_eq b) hk, List.getElem_append_right (by omega), List.getElem_append_left (by omega)]
      simp only [h40]
    rw [h5, ← h3]
    congr 1
    exact h2.symm
  · have e : (frame b).set k c = four (b.set (k - 8) c).length ++ (four (crc b) ++ (b.set (k - 8) c ++ [])) := by
      unfold frame
      rw [List.set_append_right _ _ (by omega), List.set_append_right _ _ (by omega), List.append_nil, h40, h41, List.length_set, show k - 4 - 4 = k - 8 by omega]
    rw [e, cut_parts _ _ [] h41 (by rw [List.length_set]; exact hb), big_four (crc_lt b), if_neg]
    intro h
    have hk8 : k - 8 < b.length := by omega
    have h5 : (frame b)[k] = b[k - 8] := by
      rw [List.getElem_of_eq (frame_eq b) hk, List.getElem_append_right (by omega), List.getElem_append_right (by omega)]
      simp only [h40, h41, show k - 4 - 4 = k - 8 by omega]
    have hs : b = b.take (k - 8) ++ b[k - 8] :: b.drop (k - 8 + 1) := by rw [← List.drop_eq_getElem_cons hk8, List.take_append_drop]
    have hs2 : b.set (k - 8) c = b.take (k - 8) ++ c :: b.drop (k - 8 + 1) := by rw [List.set_eq_take_append_cons_drop, if_pos hk8]
    rw [hs2] at h
    conv at h => rhs; rw [hs]
    exact crc_turned _ _ _ _ (by rw [← h5]; exact hc) h
end Go.Proofs.YteeeakbgofjinaaGreat.sl
/-! SealScan -/
namespace Go.Proofs.YteeeakbgofjinaaGreat.sl
open Go.RowKit

theorem cut_bounds {l : List UInt8} (h : (cut l).2.2 = 0) : 8 ≤ (cut l).2.1 ∧ (cut l).2.1 ≤ l.length ∧ (cut l).2.1 = 8 + (cut l).1.length ∧ (cut l).1.length ≤ 65536 := by
  by_cases h8 : l.length < 8
  · rw [cut_short h8] at h; cases h
  · by_cases hlong : 65536 < big (l.take 4)
    · rw [cut_long (by omega) hlong] at h; cases h
    · by_cases ht : l.length < 8 + big (l.take 4)
      · rw [cut_torn (by omega) (by omega) ht] at h; cases h
      · by_cases hs : crc ((l.drop 8).take (big (l.take 4))) = big ((l.drop 4).take 4)
        · rw [cut_ok (by omega) (by omega) (by omega) hs]
          simp only [List.length_take, List.length_drop]
          omega
        · rw [cut_sum (by omega) (by omega) (by omega) hs] at h; cases h
theorem cut_nil : (cut []).2.2 = 3 := by rw [cut_short (by simp)]

/-- The frames, each with the place where it begins. -/
def scan (p : Nat) (l : List UInt8) : List (Nat × List UInt8) :=
  if _h : (cut l).2.2 = 0 then (p, (cut l).1) :: scan (p + (cut l).2.1) (l.drop (cut l).2.1) else []
termination_by l.length
decreasing_by
  have := cut_bounds (l := l) (by assumption)
  rw [List.length_drop]
  omega
/-- Where the frames end. -/
def fin (p : Nat) (l : List UInt8) : Nat :=
  if _h : (cut l).2.2 = 0 then fin (p + (cut l).2.1) (l.drop (cut l).2.1) else p
termination_by l.length
decreasing_by
  have := cut_bounds (l := l) (by assumption)
  rw [List.length_drop]
  omega

theorem scan_ok {p : Nat} {l : List UInt8} (h : (cut l).2.2 = 0) : scan p l = (p, (cut l).1) :: scan (p + (cut l).2.1) (l.drop (cut l).2.1) := by
  rw [scan, dif_pos h]
theorem scan_no {p : Nat} {l : List UInt8} (h : (cut l).2.2 ≠ 0) : scan p l = [] := by rw [scan, dif_neg h]
theorem fin_ok {p : Nat} {l : List UInt8} (h : (cut l).2.2 = 0) : fin p l = fin (p + (cut l).2.1) (l.drop (cut l).2.1) := by
  rw [fin, dif_pos h]
theorem fin_no {p : Nat} {l : List UInt8} (h : (cut l).2.2 ≠ 0) : fin p l = p := by rw [fin, dif_neg h]
theorem scan_nil (p : Nat) : scan p [] = [] := scan_no (by rw [cut_nil]; decide)
theorem fin_nil (p : Nat) : fin p [] = p := fin_no (by rw [cut_nil]; decide)

theorem scan_len (l : List UInt8) : ∀ p, (scan p l).length * 8 ≤ l.length := by
  induction hn : l.length using Nat.strongRecOn generalizing l with
  | _ n ih =>
    intro p
    by_cases h : (cut l).2.2 = 0
    · have hb := cut_bounds h
      have := ih (l.drop (cut l).2.1).length (by rw [List.length_drop]; omega) (l.drop (cut l).2.1) rfl (p + (cut l).2.1)
      rw [scan_ok h, List.length_cons]
      rw [List.length_drop] at this
      omega
    · rw [scan_no h]; simp

/-- The end by the last frame. -/
def lastEnd : List (Nat × List UInt8) → Nat → Nat
  | [], d => d
  | x :: r, _ => lastEnd r (x.1 + 8 + x.2.length)
theorem lastEnd_snoc (pre : List (Nat × List UInt8)) (x : Nat × List UInt8) : ∀ d, lastEnd (pre ++ [x]) d = x.1 + 8 + x.2.length := by
  induction pre with
  | nil => intro d; rfl
  | cons y r ih => intro d; exact ih _
theorem lastEnd_scan (l : List UInt8) : ∀ p, lastEnd (scan p l) p = fin p l := by
  induction hn : l.length using Nat.strongRecOn generalizing l with
  | _ n ih =>
    intro p
    by_cases h : (cut l).2.2 = 0
    · have hb := cut_bounds h
      have := ih (l.drop (cut l).2.1).length (by rw [List.length_drop]; omega) (l.drop (cut l).2.1) rfl (p + (cut l).2.1)
      rw [scan_ok h, fin_ok h, ← this]
      show lastEnd _ (p + 8 + (cut l).1.length) = _
      rw [show p + 8 + (cut l).1.length = p + (cut l).2.1 by omega]
    · rw [scan_no h, fin_no h]; rfl
theorem fin_le (l : List UInt8) : ∀ p, fin p l ≤ p + l.length ∧ p ≤ fin p l := by
  induction hn : l.length using Nat.strongRecOn generalizing l with
  | _ n ih =>
    intro p
    by_cases h : (cut l).2.2 = 0
    · have hb := cut_bounds h
      have := ih (l.drop (cut l).2.1).length (by rw [List.length_drop]; omega) (l.drop (cut l).2.1) rfl (p + (cut l).2.1)
      rw [fin_ok h]
      rw [List.length_drop] at this
      omega
    · rw [fin_no h]; omega

/-- What All says at its end. -/
def err (l : List UInt8) : Nat := if fin 0 l = l.length then 0 else (cut (l.drop (fin 0 l))).2.2
def bodies (l : List UInt8) : List (List UInt8) := (scan 0 l).map (·.2)
def places (l : List UInt8) : List Nat := (scan 0 l).map (·.1)

/-- Behind the last frame no frame begins. -/
theorem cut_fin (l : List UInt8) : ∀ p, (cut (l.drop (fin p l - p))).2.2 ≠ 0 := by
  induction hn : l.length using Nat.strongRecOn generalizing l with
  | _ n ih =>
    intro p
    by_cases h : (cut l).2.2 = 0
    · have hb := cut_bounds h
      have h1 := ih (l.drop (cut l).2.1).length (by rw [List.length_drop]; omega) (l.drop (cut l).2.1) rfl (p + (cut l).2.1)
      have h2 := (fin_le (l.drop (cut l).2.1) (p + (cut l).2.1)).2
      rw [fin_ok h]
      rw [List.drop_drop] at h1
      rw [show fin (p + (cut l).2.1) (l.drop (cut l).2.1) - p = (cut l).2.1 + (fin (p + (cut l).2.1) (l.drop (cut l).2.1) - (p + (cut l).2.1)) by omega]
      exact h1
    · rw [fin_no h, Nat.sub_self]; exact h
end Go.Proofs.YteeeakbgofjinaaGreat.sl
/-! PackDec -/
namespace Go.Proofs.YteeeakbgofjinaaGreat.pk

/-- i bytes are read, each with the bit 128; acc is what they spell. Answers the fault's number (0 none), the number, what is left. -/
def dec (i acc : Nat) : List UInt8 → Nat × Nat × List UInt8
  | [] => (3, 0, [])
  | c :: r =>
    if i = 9 ∧ 1 < c.toNat then (4, 0, [])
    else if 0 < i ∧ c.toNat = 0 then (4, 0, [])
    else if c.toNat < 128 then (0, acc + c.toNat * 2 ^ (7 * i), r)
    else dec (i + 1) (acc + c.toNat % 128 * 2 ^ (7 * i)) r

/-- The bits of a further byte are laid beside those that were there. -/
theorem or_far (k acc c : Nat) (hk : k ≤ 9) (ha : acc < 2 ^ (7 * k)) (hc : c < 128) (h9 : k = 9 → c ≤ 1) :
    bits .or .u64 (acc : Int) (IntKind.u64.wrap ((c : Int) * 2 ^ (7 * k))) = ((acc + c * 2 ^ (7 * k) : Nat) : Int) ∧ acc + c * 2 ^ (7 * k) < 2 ^ (7 * (k + 1)) ∧ acc + c * 2 ^ (7 * k) < 18446744073709551616 := by
  have hp : c * 2 ^ (7 * k) < 18446744073709551616 ∧ acc + c * 2 ^ (7 * k) < 2 ^ (7 * (k + 1)) ∧ acc + c * 2 ^ (7 * k) < 18446744073709551616 ∧ acc < 18446744073709551616 := by
    have hs : k = 0 ∨ k = 1 ∨ k = 2 ∨ k = 3 ∨ k = 4 ∨ k = 5 ∨ k = 6 ∨ k = 7 ∨ k = 8 ∨ k = 9 := by omega
    rcases hs with rfl | rfl | rfl | rfl | rfl | rfl | rfl | rfl | rfl | rfl <;> simp at ha ⊢ <;> omega
  have hw : IntKind.u64.wrap ((c : Int) * 2 ^ (7 * k)) = ((c * 2 ^ (7 * k) : Nat) : Int) := by
    have e : ((c : Int) * 2 ^ (7 * k)) = ((c * 2 ^ (7 * k) : Nat) : Int) := by simp
    rw [e]
    simp only [IntKind.wrap, IntKind.bits, IntKind.signed]
    have := hp.1
    simp
    omega
  rw [hw]
  refine ⟨?_, hp.2.1, hp.2.2.1⟩
  have hwr : ∀ n : Int, 0 ≤ n → n < 2 ^ 64 → IntKind.u64.wrap n = n := by
    intro n h0 h1
    simp only [IntKind.wrap, IntKind.bits, IntKind.signed]
    simp at h1 ⊢
    omega
  rw [(bits_nat .u64 64 (by decide) hwr acc (c * 2 ^ (7 * k)) (by have := hp.2.2.2; simpa using this) (by have := hp.1; simpa using this)).2]
  have h := Nat.two_pow_add_eq_or_of_lt ha c
  rw [Nat.or_comm] at h
  rw [Nat.mul_comm c]
  rw [← h]
  congr 1
  omega

theorem andNot_all : ∀ a : Fin 256, bits .andNot .u8 ((a.val : Nat) : Int) 128 = ((a.val % 128 : Nat) : Int) := by decide +kernel
theorem andNot128 (c : Nat) (h : c < 256) : bits .andNot .u8 (c : Int) 128 = ((c % 128 : Nat) : Int) := andNot_all ⟨c, h⟩
theorem wrap_small (n : Nat) (h : n < 18446744073709551616) : IntKind.u64.wrap (n : Int) = (n : Int) := by
  simp only [IntKind.wrap, IntKind.bits, IntKind.signed]
  simp
  omega

/-- The number with one byte more, as the program spells it. -/
theorem word_far (k acc c : Nat) (hk : k ≤ 9) (ha : acc < 2 ^ (7 * k)) (hc : c < 256) (h9 : k = 9 → c ≤ 1) :
    bits .or .u64 (acc : Int) (IntKind.u64.wrap (IntKind.u64.wrap (bits .andNot .u8 (c : Int) 128) * 2 ^ (7 * k))) = ((acc + c % 128 * 2 ^ (7 * k) : Nat) : Int) ∧ acc + c % 128 * 2 ^ (7 * k) < 2 ^ (7 * (k + 1)) := by
  have h := or_far k acc (c % 128) hk ha (by omega) (fun e => by have := h9 e; omega)
  rw [andNot128 c hc, wrap_small (c % 128) (by omega)]
  exact ⟨h.1, h.2.1⟩
theorem word_zero (acc c : Nat) (ha : acc < 2 ^ (7 * 0)) (hc : c < 128) :
    bits .or .u64 (acc : Int) (IntKind.u64.wrap (IntKind.u64.wrap (bits .andNot .u8 (c : Int) 128))) = ((acc + c * 2 ^ (7 * 0) : Nat) : Int) := by
  have h := (word_far 0 acc c (by omega) ha (by omega) (fun e => by omega)).1
  rw [Nat.mod_eq_of_lt hc] at h
  rw [← h]
  simp
theorem word_nine (acc c : Nat) (ha : acc < 2 ^ (7 * 9)) (hc : c ≤ 1) :
    bits .or .u64 (acc : Int) (IntKind.u64.wrap (IntKind.u64.wrap (bits .andNot .u8 (c : Int) 128) * 9223372036854775808)) = ((acc + c * 2 ^ (7 * 9) : Nat) : Int) := by
  have h := (word_far 9 acc c (by omega) ha (by omega) (fun _ => hc)).1
  rw [Nat.mod_eq_of_lt (by omega)] at h
  rw [← h]
  rfl
end Go.Proofs.YteeeakbgofjinaaGreat.pk
/-! FlagBase -/
namespace Go.Proofs.YteeeakbgofjinaaGreat.fl
open Go.RowKit

/-- Bytes as a string. -/
def S (l : List UInt8) : ByteArray := ⟨l.toArray⟩
theorem S_size (l : List UInt8) : (S l).size = l.length := rfl
theorem S_data (l : List UInt8) : (S l).data.toList = l := by simp [S]
theorem S_append (a b : List UInt8) : S a ++ S b = S (a ++ b) := ByteArray.mk_append_mk a b
theorem S_inj {a b : List UInt8} (h : S a = S b) : a = b := by rw [← S_data a, h, S_data]
theorem S_of (s : ByteArray) : S s.data.toList = s := by simp [S]
theorem S_get (l : List UInt8) (k : Nat) (h : k < l.length) (h' : k < (S l).size) : (S l)[k]'h' = l[k]'h := rfl
theorem str_size (s : ByteArray) : s.size = s.data.toList.length := by rw [Array.length_toList]; rfl
theorem str_beq (x y : ByteArray) : (x.toList == y.toList) = true ↔ x = y := by
  rw [beq_iff_eq, ByteArray.toList_eq, ByteArray.toList_eq]
  exact ⟨fun h => ByteArray.ext (Array.toList_inj.mp h), fun h => by rw [h]⟩
theorem str_eq {x y : ByteArray} (h : x = y) : (x.toList == y.toList) = true := (str_beq x y).2 h
theorem str_ne {x y : ByteArray} (h : x ≠ y) : (x.toList == y.toList) = false := by
  cases hb : x.toList == y.toList with
  | false => rfl
  | true => exact absurd ((str_beq x y).1 hb) h

def isByte : Option Value → Bool
  | some (.int .u8 _) => true
  | _ => false
def byteOf : Option Value → UInt8
  | some (.int .u8 x) => UInt8.ofNat x.toNat
  | _ => 0
theorem isByte_u8 (x : Int) : isByte (some (.int .u8 x)) = true := rfl
theorem byteOf_u8 (x : Int) : byteOf (some (.int .u8 x)) = UInt8.ofNat x.toNat := rfl
theorem isByte_some {c : Option Value} (h : isByte c = true) : ∃ x, c = some (.int .u8 x) := by
  cases c with
  | none => cases h
  | some v =>
    cases v with
    | int k x => cases k <;> first | exact ⟨_, rfl⟩ | cases h
    | _ => cases h
/-- 'string(one byte)', for the walk to take. -/
theorem conv1 (W : World) (b : Nat) (h0 : isByte (W.cell? ⟨b, 0, none⟩) = true) :
    (convert 135 9 (.slice (some ⟨b, 0, none⟩) 1 1)).run Tryz.prog W = .ok (.string (S [byteOf (W.cell? ⟨b, 0, none⟩)])) W := by
  obtain ⟨x0, e0⟩ := isByte_some h0
  have hr := run_convert_bytes_arg (P := Tryz.prog) W 135 5 Tryz.underlying135 Tryz.underlying5 b 0 1 1 [x0] rfl (fun i hi => by
    match i, hi with
    | 0, _ => simpa using e0) 9 Tryz.underlying9
  rw [hr, e0]
  rfl
end Go.Proofs.YteeeakbgofjinaaGreat.fl
/-! DkSpec -/
namespace Go.Proofs.YteeeakbgofjinaaGreat.dk
set_option linter.unusedVariables false

abbrev Bs := List UInt8
abbrev File := Bs × Bs
structure Call where
  kind : Nat
  name : Bs
  s : Bs
  deriving DecidableEq

def get (l : List File) (n : Bs) : Option Bs := (l.find? fun f => decide (f.1 = n)).map (·.2)
def without (l : List File) (n : Bs) : List File := l.filter fun f => decide (f.1 ≠ n)
def ins (f : File) : List File → List File
  | [] => [f]
  | x :: r => if f.1 < x.1 then f :: x :: r else x :: ins f r
def put (l : List File) (f : File) : List File := ins f (without l f.1)
def steps (c : Call) : Nat := if c.kind = 1 then c.s.length else 1
/-- Files behind the first n steps of a call. -/
def done (l : List File) (c : Call) (n : Nat) : List File :=
  if n < 1 then l else if c.kind = 1 then put l (c.name, (get l c.name).getD [] ++ c.s.take n) else if c.kind = 2 then put l (c.name, c.s) else without l c.name
def used (l : List File) : Nat := (l.map fun f => f.2.length).sum
structure Dk where
  cap : Nat
  seen : List File
  lasts : List File
  pend : List Call
  fused : Bool
  left : Int
def off (d : Dk) : Bool := d.fused && decide (d.left < 1)
def spend (d : Dk) : Dk := if d.fused = true then { d with left := d.left - 1 } else d
def after (l : List File) (c : Call) : List File := if c.kind = 2 then put l (c.name, c.s) else done l c (steps c)
/-- What an Add, a Put, a Drop answers, and what it makes. -/
def turn (d : Dk) (c : Call) : Nat × Dk :=
  if c.name.length < 1 ∨ 80 < c.name.length then (1, d)
  else if off d = true then (8, d)
  else if c.kind = 3 ∧ get d.seen c.name = none then (6, d)
  else if c.kind = 1 ∧ c.s = [] then (0, d)
  else if d.cap < used (after d.seen c) then (7, d)
  else (0, spend { d with seen := after d.seen c, pend := d.pend ++ [c] })
def sync (d : Dk) : Nat × Dk := if off d = true then (8, d) else (0, spend { d with lasts := d.seen, pend := [] })
def read (d : Dk) (n : Bs) : Bs × Nat := if off d = true then ([], 8) else match get d.seen n with
  | none => ([], 6)
  | some s => (s, 0)
def fuse (d : Dk) (n : Int) : Dk := { d with fused := decide (0 ≤ n), left := n }
def count (l : List Call) : Nat := (l.map steps).sum
/-- The pending calls, done again as far as the first k steps go. -/
def again (l : List File) : List Call → Nat → List File
  | [], _ => l
  | c :: r, k => again (done l c (min (steps c) k)) r (k - min (steps c) k)
def crash (d : Dk) (k : Int) : Nat × Dk :=
  if k < 0 ∨ (count d.pend : Int) < k then (1, d)
  else (0, { d with seen := again d.lasts d.pend k.toNat, lasts := again d.lasts d.pend k.toNat, pend := [], fused := false })
def fresh (cap : Nat) : Dk := ⟨cap, [], [], [], false, 0⟩

/-! ### Files -/
theorem lt_irr (a : Bs) : ¬ a < a := List.lt_irrefl a
theorem lt_tr {a b c : Bs} (h : a < b) (k : b < c) : a < c := List.lt_trans h k
theorem lt_tri {a b : Bs} (h : a ≠ b) : a < b ∨ b < a := by
  by_cases h1 : a < b
  · exact .inl h1
  · by_cases h2 : b < a
    · exact .inr h2
    · exact absurd (List.le_antisymm (List.not_lt.1 h2) (List.not_lt.1 h1)) h
def Sorted (l : List File) : Prop := l.Pairwise fun a b => a.1 < b.1
theorem without_sorted {l : List File} (h : Sorted l) (n : Bs) : Sorted (without l n) := h.sublist List.filter_sublist
theorem mem_without {l : List File} {n : Bs} {f : File} : f ∈ without l n ↔ f ∈ l ∧ f.1 ≠ n := by simp [without]
theorem mem_ins {f g : File} : ∀ {l : List File}, g ∈ ins f l ↔ g = f ∨ g ∈ l
  | [] => by simp [ins]
  | x :: r => by
    unfold ins
    split
    · simp
    · rw [List.mem_cons, mem_ins, List.mem_cons]
      constructor
      · rintro (h | h | h)
        · exact .inr (.inl h)
        · exact .inl h
        · exact .inr (.inr h)
      · rintro (h | h | h)
        · exact .inr (.inl h)
        · exact .inl h
        · exact .inr (.inr h)
theorem mem_put {l : List File} {f g : File} : g ∈ put l f ↔ g = f ∨ (g ∈ l ∧ g.1 ≠ f.1) := by unfold put; rw [mem_ins, mem_without]
theorem ins_sorted {f : File} : ∀ {l : List File}, Sorted l → (∀ g ∈ l, g.1 ≠ f.1) → Sorted (ins f l)
  | [], _, _ => List.pairwise_singleton _ _
  | x :: r, h, hn => by
    unfold ins
    obtain ⟨hx, hr⟩ := List.pairwise_cons.1 h
    split
    · next hlt =>
      refine List.pairwise_cons.2 ⟨fun g hg => ?_, h⟩
      rcases List.mem_cons.1 hg with rfl | hg
      · exact hlt
      · exact lt_tr hlt (hx g hg)
    · next hlt =>
      have hxf : x.1 < f.1 := by
        rcases lt_tri (hn x List.mem_cons_self) with h1 | h1
        · exact h1
        · exact absurd h1 hlt
      refine List.pairwise_cons.2 ⟨fun g hg => ?_, ins_sorted hr (fun g hg => hn g (List.mem_cons_of_mem _ hg))⟩
      rcases mem_ins.1 hg with rfl | hg
      · exact hxf
      · exact hx g hg
theorem put_sorted {l : List File} (h : Sorted l) (f : File) : Sorted (put l f) := ins_sorted (without_sorted h _) (fun g hg => (mem_without.1 hg).2)
theorem done_sorted {l : List File} (h : Sorted l) (c : Call) (n : Nat) : Sorted (done l c n) := by
  unfold done
  split
  · exact h
  · split
    · exact put_sorted h _
    · split
      · exact put_sorted h _
      · exact without_sorted h _
theorem get_some {l : List File} {n s : Bs} (h : get l n = some s) : (n, s) ∈ l := by
  unfold get at h
  obtain ⟨f, h1, h2⟩ := Option.map_eq_some_iff.1 h
  have h3 := List.find?_some h1
  have h4 := List.mem_of_find?_eq_some h1
  obtain ⟨a, b⟩ := f
  simp only [decide_eq_true_eq] at h3 h2
  subst h3 h2
  exact h4
theorem get_none {l : List File} {n : Bs} (h : get l n = none) : ∀ f ∈ l, f.1 ≠ n := by
  unfold get at h
  intro f hf
  have := List.find?_eq_none.1 (Option.map_eq_none_iff.1 h) f hf
  simpa using this
theorem get_of_mem {l : List File} (h : Sorted l) {n s : Bs} (hm : (n, s) ∈ l) : get l n = some s := by
  induction l with
  | nil => cases hm
  | cons x r ih =>
    obtain ⟨hx, hr⟩ := List.pairwise_cons.1 h
    unfold get
    rw [List.find?_cons]
    rcases List.mem_cons.1 hm with e | hm
    · subst e
      simp
    · have : x.1 ≠ n := fun e => lt_irr n (by have := hx _ hm; rwa [e] at this)
      simp only [this, decide_false]
      exact ih hr hm
theorem get_eq_none {l : List File} {n : Bs} (h : ∀ f ∈ l, f.1 ≠ n) : get l n = none := by
  unfold get
  rw [Option.map_eq_none_iff, List.find?_eq_none]
  intro f hf
  simpa using h f hf
theorem get_put_same {l : List File} (h : Sorted l) (n s : Bs) : get (put l (n, s)) n = some s := get_of_mem (put_sorted h _) (mem_put.2 (.inl rfl))
theorem get_put_other {l : List File} (h : Sorted l) {n m : Bs} (s : Bs) (hn : m ≠ n) : get (put l (n, s)) m = get l m := by
  cases hg : get l m with
  | none =>
    refine get_eq_none fun f hf => ?_
    rcases mem_put.1 hf with rfl | ⟨hf, _⟩
    · exact fun e => hn e.symm
    · exact get_none hg f hf
  | some t => exact get_of_mem (put_sorted h _) (mem_put.2 (.inr ⟨get_some hg, hn⟩))
theorem get_without_same (l : List File) (n : Bs) : get (without l n) n = none := get_eq_none fun f hf => (mem_without.1 hf).2
theorem get_without_other {l : List File} (h : Sorted l) {n m : Bs} (hn : m ≠ n) : get (without l n) m = get l m := by
  cases hg : get l m with
  | none => exact get_eq_none fun f hf => get_none hg f (mem_without.1 hf).1
  | some t => exact get_of_mem (without_sorted h _) (mem_without.2 ⟨get_some hg, hn⟩)
theorem get_done_other {l : List File} (h : Sorted l) (c : Call) (n : Nat) {m : Bs} (hm : m ≠ c.name) : get (done l c n) m = get l m := by
  unfold done
  split
  · rfl
  · split
    · exact get_put_other h _ hm
    · split
      · exact get_put_other h _ hm
      · exact get_without_other h hm

/-! ### How many bytes -/
theorem used_ins (f : File) : ∀ l : List File, used (ins f l) = f.2.length + used l
  | [] => by simp [ins, used]
  | x :: r => by
    unfold ins
    split
    · simp [used]
    · have := used_ins f r
      simp only [used, List.map_cons, List.sum_cons] at *
      omega
theorem used_without : ∀ {l : List File} (h : Sorted l) (n : Bs), used l = used (without l n) + ((get l n).getD []).length
  | [], _, n => by simp [used, without, get]
  | x :: r, h, n => by
    obtain ⟨hx, hr⟩ := List.pairwise_cons.1 h
    have ih := used_without hr n
    by_cases e : x.1 = n
    · have hall : ∀ f ∈ r, f.1 ≠ n := fun f hf e2 => by
        have := hx f hf
        rw [e, e2] at this
        exact lt_irr _ this
      have hw : without r n = r := by
        unfold without
        rw [List.filter_eq_self]
        intro f hf
        simpa using hall f hf
      have h1 : without (x :: r) n = r := by
        have : without (x :: r) n = without r n := by unfold without; rw [List.filter_cons]; simp [e]
        rw [this, hw]
      have h2 : get (x :: r) n = some x.2 := by
        unfold get
        rw [List.find?_cons]
        simp [e]
      rw [h1, h2]
      simp only [used, List.map_cons, List.sum_cons, Option.getD_some]
      omega
    · have h1 : without (x :: r) n = x :: without r n := by unfold without; rw [List.filter_cons]; simp [e]
      have h2 : get (x :: r) n = get r n := by
        unfold get
        rw [List.find?_cons]
        simp [e]
      rw [h1, h2]
      simp only [used, List.map_cons, List.sum_cons] at *
      omega
theorem used_put {l : List File} (h : Sorted l) (f : File) : used (put l f) + ((get l f.1).getD []).length = used l + f.2.length := by
  unfold put
  rw [used_ins]
  have := used_without h f.1
  omega
theorem used_without_le {l : List File} (h : Sorted l) (n : Bs) : used (without l n) ≤ used l := by have := used_without h n; omega
theorem used_done_le {B : Nat} {l : List File} (h : Sorted l) (c : Call) (n : Nat) (hn : n ≤ steps c) (hl : used l ≤ B) (hf : used (done l c (steps c)) ≤ B) : used (done l c n) ≤ B := by
  by_cases h0 : n < 1
  · unfold done; rw [if_pos h0]; exact hl
  · by_cases h1 : c.kind = 1
    · have hs : steps c = c.s.length := by unfold steps; rw [if_pos h1]
      rw [hs] at hn hf
      have e1 : done l c n = put l (c.name, (get l c.name).getD [] ++ c.s.take n) := by unfold done; rw [if_neg h0, if_pos h1]
      have e2 : done l c c.s.length = put l (c.name, (get l c.name).getD [] ++ c.s.take c.s.length) := by unfold done; rw [if_neg (by omega), if_pos h1]
      rw [e1]
      rw [e2] at hf
      have u1 := used_put h (c.name, (get l c.name).getD [] ++ c.s.take n)
      have u2 := used_put h (c.name, (get l c.name).getD [] ++ c.s.take c.s.length)
      simp only [List.length_append, List.length_take] at u1 u2
      omega
    · have hs : steps c = 1 := by unfold steps; rw [if_neg h1]
      rw [hs] at hn hf
      obtain rfl : n = 1 := by omega
      exact hf
end Go.Proofs.YteeeakbgofjinaaGreat.dk
/-! DkMath -/
namespace Go.Proofs.YteeeakbgofjinaaGreat.dk
set_option linter.unusedVariables false

/-! ### Calls done again -/
/-- All of them. -/
def full (l : List File) (p : List Call) : List File := p.foldl (fun l c => done l c (steps c)) l
theorem full_snoc (l : List File) (p : List Call) (c : Call) : full l (p ++ [c]) = done (full l p) c (steps c) := by simp [full]
theorem count_append (p q : List Call) : count (p ++ q) = count p + count q := by simp [count]
theorem done_zero (l : List File) (c : Call) : done l c 0 = l := by unfold done; rw [if_pos (by omega)]
theorem again_zero (l : List File) : ∀ p : List Call, again l p 0 = l
  | [] => rfl
  | c :: r => by
    unfold again
    rw [Nat.min_zero, done_zero, Nat.sub_zero, again_zero l r]
theorem again_append : ∀ (l : List File) (p q : List Call) (k : Nat), count p ≤ k → again l (p ++ q) k = again (full l p) q (k - count p)
  | l, [], q, k, _ => by simp [full, count]
  | l, c :: r, q, k, h => by
    have hc : count (c :: r) = steps c + count r := by simp [count]
    rw [hc] at h ⊢
    rw [List.cons_append, again, Nat.min_eq_left (by omega), again_append _ r q _ (by omega)]
    have : full l (c :: r) = full (done l c (steps c)) r := rfl
    rw [this, Nat.sub_sub]
theorem again_full (l : List File) (p : List Call) (k : Nat) (h : count p ≤ k) : again l p k = full l p := by
  have := again_append l p [] k h
  rwa [List.append_nil] at this
/-- Where the steps end within a call. -/
theorem again_cut (l : List File) (p : List Call) (c : Call) (q : List Call) (k : Nat) (h : count p ≤ k) (h2 : k < count p + steps c) : again l (p ++ c :: q) k = done (full l p) c (k - count p) := by
  rw [again_append l p (c :: q) k h, again, Nat.min_eq_right (by omega), Nat.sub_self, again_zero]
theorem full_sorted {l : List File} (h : Sorted l) (p : List Call) : Sorted (full l p) := by
  induction p generalizing l with
  | nil => exact h
  | cons c r ih => exact ih (done_sorted h c _)
theorem again_sorted {l : List File} (h : Sorted l) : ∀ (p : List Call) (k : Nat), Sorted (again l p k) := by
  intro p
  induction p generalizing l with
  | nil => intro k; exact h
  | cons c r ih => intro k; exact ih (done_sorted h c _) _
theorem again_get {l : List File} (h : Sorted l) {n : Bs} : ∀ (p : List Call) (k : Nat), (∀ c ∈ p, c.name ≠ n) → get (again l p k) n = get l n := by
  intro p
  induction p generalizing l with
  | nil => intro k _; rfl
  | cons c r ih =>
    intro k hp
    unfold again
    rw [ih (done_sorted h c _) _ (fun x hx => hp x (List.mem_cons_of_mem _ hx)), get_done_other h c _ (fun e => hp c List.mem_cons_self e.symm)]

/-! ### What every disk keeps -/
def Named (n : Bs) : Prop := 1 ≤ n.length ∧ n.length ≤ 80
def Good (c : Call) : Prop := Named c.name ∧ (c.kind = 1 → c.s ≠ [])
theorem steps_pos {c : Call} (h : Good c) : 1 ≤ steps c := by
  unfold steps
  split
  · next hk =>
    have := h.2 hk
    cases hs : c.s with
    | nil => exact absurd hs this
    | cons => simp
  · omega
theorem done_named {l : List File} (hl : ∀ f ∈ l, Named f.1) {c : Call} (hc : Good c) (n : Nat) : ∀ f ∈ done l c n, Named f.1 := by
  intro f hf
  unfold done at hf
  split at hf
  · exact hl f hf
  · split at hf
    · rcases mem_put.1 hf with rfl | ⟨hf, _⟩
      · exact hc.1
      · exact hl f hf
    · split at hf
      · rcases mem_put.1 hf with rfl | ⟨hf, _⟩
        · exact hc.1
        · exact hl f hf
      · exact hl f (mem_without.1 hf).1
structure Right (d : Dk) : Prop where
  cap : d.cap ≤ 1048576
  so : Sorted d.lasts
  nl : ∀ f ∈ d.lasts, Named f.1
  np : ∀ c ∈ d.pend, Good c
  seen : d.seen = full d.lasts d.pend
  room : ∀ j, used (full d.lasts (d.pend.take j)) ≤ d.cap
theorem Right.sorted {d : Dk} (h : Right d) : Sorted d.seen := h.seen ▸ full_sorted h.so _
theorem full_named {l : List File} (hl : ∀ f ∈ l, Named f.1) : ∀ (p : List Call), (∀ c ∈ p, Good c) → ∀ f ∈ full l p, Named f.1 := by
  intro p
  induction p generalizing l with
  | nil => intro _; exact hl
  | cons c r ih => intro hp; exact ih (done_named hl (hp c List.mem_cons_self) _) (fun x hx => hp x (List.mem_cons_of_mem _ hx))
theorem Right.named {d : Dk} (h : Right d) : ∀ f ∈ d.seen, Named f.1 := by rw [h.seen]; exact full_named h.nl _ h.np
theorem Right.used {d : Dk} (h : Right d) : used d.seen ≤ d.cap := by
  have := h.room d.pend.length
  rw [List.take_length] at this
  rwa [h.seen]
theorem fresh_right {cap : Nat} (h : cap ≤ 1048576) : Right (fresh cap) :=
  ⟨h, List.Pairwise.nil, fun f hf => (by cases hf), fun c hc => (by cases hc), rfl, fun j => by show used (full [] (([] : List Call).take j)) ≤ cap; simp [full, dk.used]⟩
theorem spend_parts (d : Dk) : (spend d).cap = d.cap ∧ (spend d).seen = d.seen ∧ (spend d).lasts = d.lasts ∧ (spend d).pend = d.pend ∧ (spend d).fused = d.fused := by
  unfold spend; split <;> simp
theorem spend_right {d : Dk} (h : Right d) : Right (spend d) := by
  obtain ⟨e1, e2, e3, e4, _⟩ := spend_parts d
  exact ⟨by rw [e1]; exact h.cap, by rw [e3]; exact h.so, by rw [e3]; exact h.nl, by rw [e4]; exact h.np, by rw [e2, e3, e4]; exact h.seen, by rw [e1, e3, e4]; exact h.room⟩
theorem after_done {l : List File} {c : Call} (h : Good c) : after l c = done l c (steps c) := by
  unfold after
  split
  · next hk =>
    have : steps c = 1 := by unfold steps; rw [if_neg (by omega)]
    rw [this]
    unfold done
    rw [if_neg (by omega), if_neg (by omega), if_pos hk]
  · rfl
/-- The ways of a call. -/
theorem turn_cases (d : Dk) (c : Call) : (turn d c).2 = d ∨ ((turn d c).1 = 0 ∧ Good c ∧ used (done d.seen c (steps c)) ≤ d.cap ∧ (turn d c).2 = spend { d with seen := done d.seen c (steps c), pend := d.pend ++ [c] }) := by
  unfold turn
  by_cases h1 : c.name.length < 1 ∨ 80 < c.name.length
  · rw [if_pos h1]; exact .inl rfl
  rw [if_neg h1]
  by_cases h2 : off d = true
  · rw [if_pos h2]; exact .inl rfl
  rw [if_neg h2]
  by_cases h3 : c.kind = 3 ∧ get d.seen c.name = none
  · rw [if_pos h3]; exact .inl rfl
  rw [if_neg h3]
  by_cases h4 : c.kind = 1 ∧ c.s = []
  · rw [if_pos h4]; exact .inl rfl
  rw [if_neg h4]
  have hg : Good c := ⟨by unfold Named; omega, fun hk e => h4 ⟨hk, e⟩⟩
  by_cases h5 : d.cap < used (after d.seen c)
  · rw [if_pos h5]; exact .inl rfl
  rw [if_neg h5]
  rw [after_done hg] at h5 ⊢
  exact .inr ⟨rfl, hg, by omega, rfl⟩
theorem push_right {d : Dk} (h : Right d) {c : Call} (hc : Good c) (hu : dk.used (done d.seen c (steps c)) ≤ d.cap) : Right { d with seen := done d.seen c (steps c), pend := d.pend ++ [c] } := by
  refine ⟨h.cap, h.so, h.nl, fun x hx => ?_, ?_, fun j => ?_⟩
  · rcases List.mem_append.1 hx with hx | hx
    · exact h.np x hx
    · rw [List.mem_singleton.1 hx]; exact hc
  · show done d.seen c (steps c) = full d.lasts (d.pend ++ [c])
    rw [full_snoc, ← h.seen]
  · show dk.used (full d.lasts ((d.pend ++ [c]).take j)) ≤ d.cap
    by_cases hj : j ≤ d.pend.length
    · rw [List.take_append_of_le_length hj]; exact h.room j
    · rw [List.take_of_length_le (by simp; omega), full_snoc, ← h.seen]; exact hu
theorem turn_right {d : Dk} (h : Right d) (c : Call) : Right (turn d c).2 := by
  rcases turn_cases d c with e | ⟨_, hg, hu, e⟩
  · rw [e]; exact h
  · rw [e]; exact spend_right (push_right h hg hu)
theorem turn_refused {d : Dk} {c : Call} (h : (turn d c).1 ≠ 0) : (turn d c).2 = d := by
  rcases turn_cases d c with e | ⟨e, _⟩
  · exact e
  · exact absurd e h
theorem sync_right {d : Dk} (h : Right d) : Right (sync d).2 := by
  unfold sync
  split
  · exact h
  · refine spend_right ⟨h.cap, h.sorted, h.named, fun c hc => (by cases hc), rfl, fun j => ?_⟩
    show dk.used (full d.seen (([] : List Call).take j)) ≤ d.cap
    simpa [full] using h.used
theorem again_room {cap : Nat} : ∀ (l : List File) (p : List Call) (k : Nat), Sorted l → (∀ j, dk.used (full l (p.take j)) ≤ cap) → dk.used (again l p k) ≤ cap
  | l, [], k, _, h => by
    show dk.used l ≤ cap
    simpa [full] using h 0
  | l, c :: r, k, hs, h => by
    unfold again
    have h0 : dk.used l ≤ cap := by simpa [full] using h 0
    have h1 : dk.used (done l c (steps c)) ≤ cap := by simpa [full] using h 1
    by_cases hk : steps c ≤ k
    · rw [Nat.min_eq_left hk]
      refine again_room _ r _ (done_sorted hs c _) fun j => ?_
      have := h (j + 1)
      rwa [List.take_succ_cons] at this
    · rw [Nat.min_eq_right (by omega), Nat.sub_self, again_zero]
      exact used_done_le hs c k (by omega) h0 h1
theorem again_named {l : List File} (hl : ∀ f ∈ l, Named f.1) : ∀ (p : List Call) (k : Nat), (∀ c ∈ p, Good c) → ∀ f ∈ again l p k, Named f.1 := by
  intro p
  induction p generalizing l with
  | nil => intro _ _; exact hl
  | cons c r ih => intro k hp; exact ih (done_named hl (hp c List.mem_cons_self) _) _ (fun x hx => hp x (List.mem_cons_of_mem _ hx))
theorem crash_right {d : Dk} (h : Right d) (k : Int) : Right (crash d k).2 := by
  unfold crash
  split
  · exact h
  · refine ⟨h.cap, again_sorted h.so _ _, again_named h.nl _ _ h.np, fun c hc => (by cases hc), rfl, fun j => ?_⟩
    have := again_room d.lasts d.pend k.toNat h.so h.room
    simpa [full] using this
theorem crash_ok {d : Dk} {k : Nat} (h : k ≤ count d.pend) : crash d (k : Int) = (0, { d with seen := again d.lasts d.pend k, lasts := again d.lasts d.pend k, pend := [], fused := false }) := by
  unfold crash
  rw [if_neg (by omega)]
  simp
theorem fuse_right {d : Dk} (h : Right d) (n : Int) : Right (fuse d n) := ⟨h.cap, h.so, h.nl, h.np, h.seen, h.room⟩

/-! ### A script of turns -/
def all (d : Dk) (l : List Call) : Dk := l.foldl (fun d c => if 1 ≤ c.kind ∧ c.kind ≤ 3 then (turn d c).2 else d) d
theorem all_snoc (d : Dk) (l : List Call) (c : Call) : all d (l ++ [c]) = if 1 ≤ c.kind ∧ c.kind ≤ 3 then (turn (all d l) c).2 else all d l := by simp [all]
theorem all_cons (d : Dk) (c : Call) (l : List Call) : all d (c :: l) = all (if 1 ≤ c.kind ∧ c.kind ≤ 3 then (turn d c).2 else d) l := rfl
theorem all_right {d : Dk} (h : Right d) : ∀ l, Right (all d l) := by
  intro l
  induction l generalizing d with
  | nil => exact h
  | cons c r ih =>
    rw [all_cons]
    split
    · exact ih (turn_right h c)
    · exact ih h
theorem turn_kept (d : Dk) (c : Call) : (turn d c).2.lasts = d.lasts ∧ (turn d c).2.fused = d.fused ∧ (turn d c).2.cap = d.cap ∧ ∃ p, (turn d c).2.pend = d.pend ++ p ∧ (p = [] ∨ p = [c]) := by
  rcases turn_cases d c with e | ⟨_, _, _, e⟩
  · rw [e]; exact ⟨rfl, rfl, rfl, [], by simp, .inl rfl⟩
  · rw [e]
    obtain ⟨e1, e2, e3, e4, e5⟩ := spend_parts { d with seen := done d.seen c (steps c), pend := d.pend ++ [c] }
    exact ⟨e3, e5, e1, [c], by rw [e4], .inr rfl⟩
theorem all_kept (d : Dk) : ∀ l, (all d l).lasts = d.lasts ∧ (all d l).fused = d.fused ∧ (all d l).cap = d.cap ∧ ∃ p, (all d l).pend = d.pend ++ p ∧ ∀ c ∈ p, c ∈ l := by
  intro l
  induction l generalizing d with
  | nil => exact ⟨rfl, rfl, rfl, [], by simp [all], fun c hc => by cases hc⟩
  | cons c r ih =>
    rw [all_cons]
    split
    · obtain ⟨h1, h2, h3, p, h4, h5⟩ := turn_kept d c
      obtain ⟨g1, g2, g3, q, g4, g5⟩ := ih (turn d c).2
      refine ⟨g1.trans h1, g2.trans h2, g3.trans h3, p ++ q, by rw [g4, h4, List.append_assoc], fun x hx => ?_⟩
      rcases List.mem_append.1 hx with hx | hx
      · rcases h5 with e | e
        · rw [e] at hx; cases hx
        · rw [e] at hx; rw [List.mem_singleton.1 hx]; exact List.mem_cons_self
      · exact List.mem_cons_of_mem _ (g5 x hx)
    · obtain ⟨g1, g2, g3, q, g4, g5⟩ := ih d
      exact ⟨g1, g2, g3, q, g4, fun x hx => List.mem_cons_of_mem _ (g5 x hx)⟩
theorem off_not {d : Dk} (h : d.fused = false) : off d = false := by unfold off; rw [h]; rfl

/-! ### The laws -/
/-- What was synced, and not turned since, is there behind every crash. -/
theorem synced {d : Dk} (h : Right d) (hp : d.pend = []) (l : List Call) (k : Nat) {n : Bs} (hn : ∀ c ∈ l, c.name ≠ n) : get (again (all d l).lasts (all d l).pend k) n = get d.seen n := by
  obtain ⟨h1, _, _, p, h2, h3⟩ := all_kept d l
  have hr := all_right h l
  rw [again_get hr.so _ _ (fun c hc => by
    rw [h2, hp, List.nil_append] at hc
    exact hn c (h3 c hc)), h1]
  have := h.seen
  rw [hp] at this
  rw [this]
  rfl

/-- What the law's loop tells: 'some' files, if it ends there; t goes on. -/
def upto (t : Dk) (k : Nat) : List Call → List File
  | [] => t.seen
  | c :: r =>
    if 1 ≤ c.kind ∧ c.kind ≤ 3 then
      if (turn t c).1 ≠ 0 then upto t k r
      else if k < count (turn t c).2.pend then (if c.kind = 1 ∧ count t.pend < k then (turn t { c with s := c.s.take (k - count t.pend) }).2.seen else t.seen)
      else upto (turn t c).2 k r
    else upto t k r
theorem begins : ∀ (l : List Call) (t : Dk), Right t → t.fused = false → ∀ k, count t.pend ≤ k → again (all t l).lasts (all t l).pend k = upto t k l
  | [], t, h, hf, k, hk => by
    show again t.lasts t.pend k = t.seen
    rw [again_full _ _ _ hk, h.seen]
  | c :: r, t, h, hf, k, hk => by
    rw [all_cons, upto]
    by_cases hc : 1 ≤ c.kind ∧ c.kind ≤ 3
    · rw [if_pos hc, if_pos hc]
      by_cases he : (turn t c).1 ≠ 0
      · rw [if_pos he, turn_refused he]
        exact begins r t h hf k hk
      · rw [if_neg he]
        have hft : (turn t c).2.fused = false := (turn_kept t c).2.1.trans hf
        by_cases hn : k < count (turn t c).2.pend
        · rw [if_pos hn]
          rcases turn_cases t c with e | ⟨e0, hg, hu, e⟩
          · rw [e] at hn; omega
          · obtain ⟨e1, e2, e3, e4, e5⟩ := spend_parts { t with seen := done t.seen c (steps c), pend := t.pend ++ [c] }
            obtain ⟨g1, _, _, q, g4, _⟩ := all_kept (turn t c).2 r
            have hl : (all (turn t c).2 r).lasts = t.lasts := by rw [g1, e, e3]
            have hp : (all (turn t c).2 r).pend = t.pend ++ c :: q := by rw [g4, e, e4]; simp
            have hcn : count (turn t c).2.pend = count t.pend + steps c := by rw [e, e4, count_append]; simp [count]
            rw [hcn] at hn
            rw [hl, hp, again_cut _ _ _ _ _ hk hn, ← h.seen]
            by_cases h1 : c.kind = 1 ∧ count t.pend < k
            · rw [if_pos h1]
              have hs : steps c = c.s.length := by unfold steps; rw [if_pos h1.1]
              have hu' : used (done t.seen c (k - count t.pend)) ≤ t.cap := used_done_le h.sorted c _ (by omega) h.used hu
              -- the shorter Add
              have hdone : done t.seen c (k - count t.pend) = after t.seen { c with s := c.s.take (k - count t.pend) } := by
                obtain ⟨m, hm⟩ : ∃ m, k - count t.pend = m := ⟨_, rfl⟩
                have hm1 : 1 ≤ m := by omega
                have hms : m < c.s.length := by rw [hs] at hn; omega
                rw [hm]
                have hk1 : ({ c with s := c.s.take m } : Call).kind = 1 := h1.1
                have hs' : steps { c with s := c.s.take m } = (c.s.take m).length := by unfold steps; rw [if_pos hk1]
                have hp1 : 1 ≤ (c.s.take m).length := by rw [List.length_take]; omega
                have e1 : done t.seen c m = put t.seen (c.name, (get t.seen c.name).getD [] ++ c.s.take m) := by unfold done; rw [if_neg (by omega), if_pos h1.1]
                have e2 : after t.seen { c with s := c.s.take m } = put t.seen (c.name, (get t.seen c.name).getD [] ++ c.s.take m) := by
                  unfold after
                  rw [if_neg (by rw [hk1]; decide), hs']
                  unfold done
                  rw [if_neg (by omega), if_pos hk1]
                  simp only [List.take_length]
                rw [e1, e2]
              have hk3 : ¬ ({ c with s := c.s.take (k - count t.pend) } : Call).kind = 3 := by show ¬ c.kind = 3; omega
              have hne : ¬ ({ c with s := c.s.take (k - count t.pend) } : Call).s = [] := by
                intro hh
                have := congrArg List.length hh
                rw [List.length_take, List.length_nil] at this
                rw [hs] at hn
                omega
              have hnm : ¬ (({ c with s := c.s.take (k - count t.pend) } : Call).name.length < 1 ∨ 80 < ({ c with s := c.s.take (k - count t.pend) } : Call).name.length) := by
                have := hg.1
                unfold Named at this
                show ¬ (c.name.length < 1 ∨ 80 < c.name.length)
                omega
              rw [hdone] at hu' ⊢
              unfold turn
              rw [if_neg hnm, if_neg (by rw [off_not hf]; decide), if_neg (fun hh => hk3 hh.1), if_neg (fun hh => hne hh.2), if_neg (by omega)]
              exact (spend_parts { t with seen := after t.seen { c with s := c.s.take (k - count t.pend) }, pend := t.pend ++ [{ c with s := c.s.take (k - count t.pend) }] }).2.1.symm
            · rw [if_neg h1]
              have : k - count t.pend = 0 := by
                by_cases hk1 : c.kind = 1
                · omega
                · have : steps c = 1 := by unfold steps; rw [if_neg hk1]
                  omega
              rw [this, done_zero]
        · rw [if_neg hn]
          exact begins r _ (turn_right h c) hft k (by omega)
    · rw [if_neg hc, if_neg hc]
      exact begins r t h hf k hk
/-- What is taken away makes room. -/
theorem makes_room {d : Dk} (h : Right d) (hf : d.fused = false) {n s : Bs} (hg : get d.seen n = some s) :
    (turn d ⟨3, n, []⟩).1 = 0 ∧ used (turn d ⟨3, n, []⟩).2.seen = used d.seen - s.length ∧ (turn (turn d ⟨3, n, []⟩).2 ⟨3, n, []⟩).1 = 6 ∧
      (turn (turn d ⟨3, n, []⟩).2 ⟨2, n, s⟩).1 = 0 ∧ used (turn (turn d ⟨3, n, []⟩).2 ⟨2, n, s⟩).2.seen = used d.seen := by
  have hn : Named n := h.named _ (get_some hg)
  have h1 : ¬ (n.length < 1 ∨ 80 < n.length) := by unfold Named at hn; omega
  have hw := used_without h.sorted n
  rw [hg] at hw
  simp only [Option.getD_some] at hw
  have ha : after d.seen ⟨3, n, []⟩ = without d.seen n := by simp [after, done, steps]
  have ht : turn d ⟨3, n, []⟩ = (0, spend { d with seen := without d.seen n, pend := d.pend ++ [⟨3, n, []⟩] }) := by
    unfold turn
    simp only
    rw [if_neg h1, if_neg (by rw [off_not hf]; decide), if_neg (by rw [hg]; simp), if_neg (by simp), ha, if_neg (by have := h.used; omega)]
  obtain ⟨e1, e2, e3, e4, e5⟩ := spend_parts { d with seen := without d.seen n, pend := d.pend ++ [⟨3, n, []⟩] }
  have hs := without_sorted h.sorted n
  have hwn := get_without_same d.seen n
  have hu := h.used
  have t1 : (turn d ⟨3, n, []⟩).1 = 0 := by rw [ht]
  have t2 : (turn d ⟨3, n, []⟩).2 = spend { d with seen := without d.seen n, pend := d.pend ++ [⟨3, n, []⟩] } := by rw [ht]
  rw [t1, t2]
  generalize spend { d with seen := without d.seen n, pend := d.pend ++ [⟨3, n, []⟩] } = d1 at *
  have hcap : d1.cap = d.cap := e1
  have hseen : d1.seen = without d.seen n := e2
  have hoff : ¬ off d1 = true := by rw [off_not (e5.trans hf)]; decide
  have hp := used_put hs (n, s)
  simp only [hwn, Option.getD_none, List.length_nil] at hp
  have haf : after d1.seen ⟨2, n, s⟩ = put (without d.seen n) (n, s) := by rw [hseen]; simp [after]
  have t3 : turn d1 ⟨2, n, s⟩ = (0, spend { d1 with seen := after d1.seen ⟨2, n, s⟩, pend := d1.pend ++ [⟨2, n, s⟩] }) := by
    unfold turn
    rw [if_neg h1, if_neg hoff, if_neg (fun hh => absurd hh.1 (show ¬ (2 = 3) by decide)), if_neg (fun hh => absurd hh.1 (show ¬ (2 = 1) by decide)), if_neg (by rw [haf, hcap]; omega)]
  have t4 : (turn d1 ⟨3, n, []⟩).1 = 6 := by
    unfold turn
    rw [if_neg h1, if_neg hoff, if_pos ⟨rfl, by rw [hseen]; exact hwn⟩]
  obtain ⟨_, f2, _⟩ := spend_parts { d1 with seen := after d1.seen ⟨2, n, s⟩, pend := d1.pend ++ [⟨2, n, s⟩] }
  refine ⟨rfl, by rw [hseen]; omega, t4, by rw [t3], ?_⟩
  rw [t3]
  show used (spend { d1 with seen := after d1.seen ⟨2, n, s⟩, pend := d1.pend ++ [⟨2, n, s⟩] }).seen = _
  rw [f2]
  show used (after d1.seen ⟨2, n, s⟩) = _
  rw [haf]
  omega
end Go.Proofs.YteeeakbgofjinaaGreat.dk
/-! JrSpec -/
namespace Go.Proofs.YteeeakbgofjinaaGreat.jr
set_option linter.unusedVariables false

abbrev Bs := List UInt8
structure Hd where
  term : Nat
  vote : Nat
  life : Nat
  deriving DecidableEq
structure En where
  term : Nat
  kind : Nat
  data : Bs
  deriving DecidableEq
/-- A state: Hard, the log, the image. -/
structure St where
  h : Hd
  base : Nat
  bterm : Nat
  conf : List Nat
  l : List En
  image : Bs
  deriving DecidableEq
def zero : St := ⟨⟨0, 0, 0⟩, 0, 0, [], [], []⟩
def St.last (s : St) : Nat := s.base + s.l.length

/-! ### What is written -/
def num (n : Nat) : Bs := Lib.uvarint n
def text (s : Bs) : Bs := num s.length ++ s
def nums (l : List Nat) : Bs := num l.length ++ l.flatMap num
def hardB (h : Hd) : Bs := num 3 ++ (num h.term ++ (num h.vote ++ num h.life))
def hardRec (h : Hd) : Bs := sl.frame (hardB h)
def entB (i : Nat) (e : En) : Bs := num 4 ++ (num i ++ (num e.term ++ (num e.kind ++ text e.data)))
def entRec (i : Nat) (e : En) : Bs := sl.frame (entB i e)
def entRecs : Nat → List En → Bs
  | _, [] => []
  | i, e :: r => entRec i e ++ entRecs (i + 1) r
def baseB (s : St) : Bs := num 1 ++ (num s.base ++ (num s.bterm ++ (nums s.conf ++ num s.image.length)))
def pieceRec (p : Bs) : Bs := sl.frame (num 2 ++ text p)
/-- The pieces of an image from a place on, n of them. -/
def pieceRecs : Nat → Bs → Bs
  | 0, _ => []
  | n + 1, l => pieceRec (l.take 4096) ++ pieceRecs n (l.drop 4096)
def pieces (l : Bs) : Nat := (l.length + 4095) / 4096
def fileOf (s : St) : Bs := sl.frame (baseB s) ++ (pieceRecs (pieces s.image) s.image ++ (hardRec s.h ++ entRecs (s.base + 1) s.l))
theorem pieceRecs_snoc (n : Nat) : ∀ l : Bs, pieceRecs (n + 1) l = pieceRecs n l ++ pieceRec ((l.drop (n * 4096)).take 4096) := by
  induction n with
  | zero => intro l; simp [pieceRecs]
  | succ n ih =>
    intro l
    rw [pieceRecs, ih, pieceRecs, List.append_assoc, List.drop_drop]
    have e : 4096 + n * 4096 = (n + 1) * 4096 := by omega
    rw [e]
theorem entRecs_snoc (l : List En) (e : En) : ∀ i, entRecs i (l ++ [e]) = entRecs i l ++ entRec (i + l.length) e := by
  induction l with
  | nil => intro i; simp [entRecs]
  | cons a r ih =>
    intro i
    have e2 : i + 1 + r.length = i + (a :: r).length := by simp; omega
    rw [List.cons_append, entRecs, ih, entRecs, List.append_assoc, e2]

/-! ### What may be -/
def May (e : En) : Prop := 1 ≤ e.kind ∧ e.kind ≤ 3 ∧ e.data.length ≤ 2048
instance (e : En) : Decidable (May e) := by unfold May; infer_instance
/-- Members: nodes from 1 to 5, rising. -/
def Members (l : List Nat) : Prop := (∀ x ∈ l, 1 ≤ x ∧ x ≤ 5) ∧ l.Pairwise (· < ·)
instance (l : List Nat) : Decidable (Members l) := by unfold Members; infer_instance
theorem members_length {l : List Nat} (h : Members l) : l.length ≤ 5 := by
  obtain ⟨h1, h2⟩ := h
  have key : ∀ (l : List Nat) (b : Nat), (∀ x ∈ l, b < x ∧ x ≤ 5) → l.Pairwise (· < ·) → l.length ≤ 5 - b := by
    intro l
    induction l with
    | nil => intro b _ _; simp
    | cons a r ih =>
      intro b h1 h2
      obtain ⟨ha, hr⟩ := List.pairwise_cons.1 h2
      have h3 := h1 a List.mem_cons_self
      have := ih a (fun x hx => ⟨ha x hx, (h1 x (List.mem_cons_of_mem _ hx)).2⟩) hr
      rw [List.length_cons]
      omega
  exact key l 0 (fun x hx => ⟨(h1 x hx).1, (h1 x hx).2⟩) h2
/-- What holds of a state that a journal has. -/
structure Ok (s : St) : Prop where
  term : s.h.term < 18446744073709551616
  vote : s.h.vote ≤ 5
  life : s.h.life < 18446744073709551616
  base : s.base ≤ 4611686018427387904
  bterm : s.bterm < 18446744073709551616
  conf : Members s.conf
  l : ∀ e ∈ s.l, May e ∧ e.term < 18446744073709551616
  image : s.image.length ≤ 262144
theorem zero_ok : Ok zero := ⟨by decide, by decide, by decide, by decide, by decide, by decide, fun e he => (by cases he), by decide⟩

/-! ### What is read -/
def rdNum (l : Bs) : Option (Nat × Bs) := if (pk.dec 0 0 l).1 = 0 then some ((pk.dec 0 0 l).2.1, (pk.dec 0 0 l).2.2) else none
def rdCount (most : Nat) (l : Bs) : Option (Nat × Bs) := (rdNum l).bind fun x => if x.1 ≤ most then some x else none
def rdText (most : Nat) (l : Bs) : Option (Bs × Bs) := (rdNum l).bind fun x => if x.1 ≤ most ∧ x.1 ≤ x.2.length then some (x.2.take x.1, x.2.drop x.1) else none
def rdCounts (most : Nat) : Nat → Bs → Option (List Nat × Bs)
  | 0, l => some ([], l)
  | n + 1, l => (rdCount most l).bind fun x => (rdCounts most n x.2).map fun y => (x.1 :: y.1, y.2)
/-- A state that is being read, and how many bytes its image has. -/
structure Rd where
  s : St
  size : Nat
def rdBase (x : Rd) (r : Bs) : Option Rd :=
  (rdNum r).bind fun b => (rdNum b.2).bind fun t => (rdCount 5 t.2).bind fun n => (rdCounts 5 n.1 n.2).bind fun c => (rdNum c.2).bind fun z =>
    if z.2 = [] ∧ Members c.1 ∧ b.1 ≤ 4611686018427387904 ∧ z.1 ≤ 262144 then some ⟨{ x.s with base := b.1, bterm := t.1, conf := c.1 }, z.1⟩ else none
def rdPiece (x : Rd) (r : Bs) : Option Rd :=
  (rdText 4096 r).bind fun p =>
    if p.2 = [] ∧ 0 < x.size - x.s.image.length ∧ (p.1.length = x.size - x.s.image.length ∨ (p.1.length = 4096 ∧ 4096 < x.size - x.s.image.length)) then some ⟨{ x.s with image := x.s.image ++ p.1 }, x.size⟩ else none
def rdHard (x : Rd) (r : Bs) : Option Rd :=
  (rdNum r).bind fun t => (rdCount 5 t.2).bind fun v => (rdNum v.2).bind fun l =>
    if l.2 = [] ∧ x.s.image.length = x.size then some ⟨{ x.s with h := ⟨t.1, v.1, l.1⟩ }, x.size⟩ else none
def rdEnt (x : Rd) (r : Bs) : Option Rd :=
  (rdNum r).bind fun i => (rdNum i.2).bind fun t => (rdCount 3 t.2).bind fun k => (rdText 2048 k.2).bind fun d =>
    if d.2 = [] ∧ x.s.image.length = x.size ∧ May ⟨t.1, k.1, d.1⟩ ∧ x.s.base < i.1 ∧ i.1 - x.s.base ≤ x.s.l.length + 1 then some ⟨{ x.s with l := x.s.l.take (i.1 - x.s.base - 1) ++ [⟨t.1, k.1, d.1⟩] }, x.size⟩ else none
/-- One record; i: how many are ahead of it. -/
def record (i : Nat) (x : Rd) (b : Bs) : Option Rd :=
  (rdNum b).bind fun k =>
    if k.1 = 1 ∧ i = 0 then rdBase x k.2 else if k.1 = 2 ∧ 0 < i then rdPiece x k.2 else if k.1 = 3 ∧ 0 < i then rdHard x k.2 else if k.1 = 4 ∧ 0 < i then rdEnt x k.2 else none
def records : Nat → Rd → List Bs → Option Rd
  | _, x, [] => some x
  | i, x, b :: r => (record i x b).bind fun y => records (i + 1) y r
theorem records_snoc (l : List Bs) (b : Bs) : ∀ i x, records i x (l ++ [b]) = (records i x l).bind fun y => record (i + l.length) y b := by
  induction l with
  | nil =>
    intro i x
    simp only [List.nil_append, records, Option.bind_some, List.length_nil, Nat.add_zero]
    cases record i x b <;> rfl
  | cons a r ih =>
    intro i x
    rw [List.cons_append, records, records]
    cases record i x a with
    | none => rfl
    | some y =>
      have e : i + 1 + r.length = i + (a :: r).length := by simp; omega
      simp only [Option.bind_some]
      rw [ih, e]
/-- Once it fails, it has failed. -/
theorem records_none (l m : List Bs) : ∀ i x, records i x l = none → records i x (l ++ m) = none := by
  induction l with
  | nil => intro i x h; cases h
  | cons a r ih =>
    intro i x h
    rw [List.cons_append, records]
    rw [records] at h
    cases hr : record i x a with
    | none => rfl
    | some y =>
      rw [hr] at h
      simp only [Option.bind_some] at h ⊢
      exact ih _ _ h
def readAll (l : List Bs) : Option St := (records 0 ⟨zero, 0⟩ l).bind fun x => if l ≠ [] ∧ x.s.image.length = x.size then some x.s else none
/-- What Open finds: the state, how many bytes are kept, the error's number. -/
def found (b : Bs) : Option St × Nat × Nat :=
  if sl.err b ≠ 0 ∧ sl.err b ≠ 3 then (none, 0, sl.err b) else match readAll (sl.bodies b) with
    | none => (none, sl.fin 0 b, 4)
    | some s => (some s, sl.fin 0 b, 0)

/-! ### What is read may be -/
theorem rdNum_lt {l : Bs} {x : Nat × Bs} (h : rdNum l = some x) (hd : ∀ l : Bs, (pk.dec 0 0 l).2.1 < 18446744073709551616) : x.1 < 18446744073709551616 := by
  unfold rdNum at h
  split at h
  · cases h; exact hd l
  · cases h

/-! ### The calls -/
def log : Bs := [108, 111, 103]
/-- A call of the disk, and a Sync. -/
def jput (d : dk.Dk) (kind : Nat) (s : Bs) : Nat × dk.Dk := if (dk.turn d ⟨kind, log, s⟩).1 ≠ 0 then dk.turn d ⟨kind, log, s⟩ else dk.sync (dk.turn d ⟨kind, log, s⟩).2
def more (h : Hd) : Hd := if h.life < 9223372036854775807 then { h with life := h.life + 1 } else h
/-- Behind what was found: its hard record with Life one more. -/
def open3 (d : dk.Dk) (s : St) : Nat × Option St × dk.Dk :=
  if (jput d 1 (hardRec (more s.h))).1 ≠ 0 then ((jput d 1 (hardRec (more s.h))).1, none, (jput d 1 (hardRec (more s.h))).2)
  else (0, some { s with h := more s.h }, (jput d 1 (hardRec (more s.h))).2)
/-- The bytes of the file are at hand. -/
def open2 (d : dk.Dk) (b : Bs) : Nat × Option St × dk.Dk :=
  if (found b).2.2 ≠ 0 ∧ (found b).2.2 ≠ 4 then ((found b).2.2, none, d)
  else if (found b).2.1 < b.length then
    (if (jput d 2 (b.take (found b).2.1)).1 ≠ 0 then ((jput d 2 (b.take (found b).2.1)).1, none, (jput d 2 (b.take (found b).2.1)).2)
    else match (found b).1 with
      | none => (4, none, (jput d 2 (b.take (found b).2.1)).2)
      | some s => open3 (jput d 2 (b.take (found b).2.1)).2 s)
  else match (found b).1 with
    | none => (4, none, d)
    | some s => open3 d s
def openJ (d : dk.Dk) : Nat × Option St × dk.Dk :=
  if (dk.read d log).2 = 6 then
    (if (jput d 2 (fileOf zero)).1 ≠ 0 then ((jput d 2 (fileOf zero)).1, none, (jput d 2 (fileOf zero)).2) else open2 (jput d 2 (fileOf zero)).2 (fileOf zero))
  else if (dk.read d log).2 ≠ 0 then ((dk.read d log).2, none, d)
  else open2 d (dk.read d log).1
def save (s : St) (d : dk.Dk) (term : Nat) (vote : Int) : Nat × St × dk.Dk :=
  if vote < 0 ∨ 5 < vote then (1, s, d)
  else if (⟨term, vote.toNat, s.h.life⟩ : Hd) = s.h then (0, s, d)
  else if (jput d 1 (hardRec ⟨term, vote.toNat, s.h.life⟩)).1 ≠ 0 then ((jput d 1 (hardRec ⟨term, vote.toNat, s.h.life⟩)).1, s, (jput d 1 (hardRec ⟨term, vote.toNat, s.h.life⟩)).2)
  else (0, { s with h := ⟨term, vote.toNat, s.h.life⟩ }, (jput d 1 (hardRec ⟨term, vote.toNat, s.h.life⟩)).2)
/-- An entry that came in: its Kind may be anything. -/
structure EnIn where
  term : Nat
  kind : Int
  data : Bs
def MayIn (e : EnIn) : Prop := 1 ≤ e.kind ∧ e.kind ≤ 3 ∧ e.data.length ≤ 2048
instance (e : EnIn) : Decidable (MayIn e) := by unfold MayIn; infer_instance
def toEn (e : EnIn) : En := ⟨e.term, e.kind.toNat, e.data⟩
def append (s : St) (d : dk.Dk) (from_ : Nat) (l : List EnIn) : Nat × St × dk.Dk :=
  if from_ ≤ s.base ∨ s.last + 1 < from_ ∨ ¬ ∀ e ∈ l, MayIn e then (1, s, d)
  else if l = [] then ((if from_ = s.last + 1 then 0 else 1), s, d)
  else if (jput d 1 (entRecs from_ (l.map toEn))).1 ≠ 0 then ((jput d 1 (entRecs from_ (l.map toEn))).1, s, (jput d 1 (entRecs from_ (l.map toEn))).2)
  else (0, { s with l := s.l.take (from_ - s.base - 1) ++ l.map toEn }, (jput d 1 (entRecs from_ (l.map toEn))).2)
/-- A log that came in. -/
structure LogIn where
  base : Nat
  bterm : Nat
  conf : List Int
  l : List EnIn
def MembersIn (l : List Int) : Prop := (∀ x ∈ l, 1 ≤ x ∧ x ≤ 5) ∧ l.Pairwise (· < ·)
instance (l : List Int) : Decidable (MembersIn l) := by unfold MembersIn; infer_instance
def rebased (s : St) (g : LogIn) (image : Bs) : St := ⟨s.h, g.base, g.bterm, g.conf.map Int.toNat, g.l.map toEn, image⟩
def rebase (s : St) (d : dk.Dk) (g : LogIn) (image : Bs) : Nat × St × dk.Dk :=
  if ¬ MembersIn g.conf ∨ 4611686018427387904 < g.base ∨ 262144 < image.length ∨ ¬ ∀ e ∈ g.l, MayIn e then (1, s, d)
  else if (jput d 2 (fileOf (rebased s g image))).1 ≠ 0 then ((jput d 2 (fileOf (rebased s g image))).1, s, (jput d 2 (fileOf (rebased s g image))).2)
  else (0, rebased s g image, (jput d 2 (fileOf (rebased s g image))).2)

/-! ### What stays right -/
theorem jput_right {d : dk.Dk} (h : dk.Right d) (kind : Nat) (s : Bs) : dk.Right (jput d kind s).2 := by
  unfold jput
  split
  · exact dk.turn_right h _
  · exact dk.sync_right (dk.turn_right h _)
theorem save_ok {s : St} (h : Ok s) (d : dk.Dk) {term : Nat} (ht : term < 18446744073709551616) (vote : Int) : Ok (save s d term vote).2.1 := by
  unfold save
  split
  · exact h
  · split
    · exact h
    · split
      · exact h
      · exact ⟨ht, by show vote.toNat ≤ 5; omega, h.life, h.base, h.bterm, h.conf, h.l, h.image⟩
theorem mayIn_en {e : EnIn} (h : MayIn e) : May (toEn e) := by
  obtain ⟨h1, h2, h3⟩ := h
  exact ⟨by show 1 ≤ e.kind.toNat; omega, by show e.kind.toNat ≤ 3; omega, h3⟩
theorem append_ok {s : St} (h : Ok s) (d : dk.Dk) (from_ : Nat) {l : List EnIn} (hl : ∀ e ∈ l, e.term < 18446744073709551616) : Ok (append s d from_ l).2.1 := by
  unfold append
  split
  · exact h
  · next hc =>
    split
    · exact h
    · split
      · exact h
      · refine ⟨h.term, h.vote, h.life, h.base, h.bterm, h.conf, fun e he => ?_, h.image⟩
        have hm : ∀ e ∈ l, MayIn e := Decidable.not_not.1 (fun hn => hc (.inr (.inr hn)))
        rcases List.mem_append.1 he with he | he
        · exact h.l e (List.mem_of_mem_take he)
        · obtain ⟨x, hx, rfl⟩ := List.mem_map.1 he
          exact ⟨mayIn_en (hm x hx), hl x hx⟩
theorem membersIn_nat {l : List Int} (h : MembersIn l) : Members (l.map Int.toNat) := by
  obtain ⟨h1, h2⟩ := h
  refine ⟨fun x hx => ?_, ?_⟩
  · obtain ⟨y, hy, rfl⟩ := List.mem_map.1 hx
    have := h1 y hy
    omega
  · rw [List.pairwise_map]
    refine h2.imp_of_mem fun {a b} ha hb hab => ?_
    have := h1 a ha
    have := h1 b hb
    omega
theorem rebase_ok {s : St} (h : Ok s) (d : dk.Dk) {g : LogIn} {image : Bs} (hb : g.bterm < 18446744073709551616) (hl : ∀ e ∈ g.l, e.term < 18446744073709551616) : Ok (rebase s d g image).2.1 := by
  unfold rebase
  split
  · exact h
  · next hc =>
    split
    · exact h
    · have hM : MembersIn g.conf := Decidable.not_not.1 (fun hn => hc (.inl hn))
      have hm : ∀ e ∈ g.l, MayIn e := Decidable.not_not.1 (fun hn => hc (.inr (.inr (.inr hn))))
      have hbase : g.base ≤ 4611686018427387904 := by omega
      have him : image.length ≤ 262144 := by omega
      refine ⟨h.term, h.vote, h.life, hbase, hb, membersIn_nat hM, fun e he => ?_, him⟩
      obtain ⟨x, hx, rfl⟩ := List.mem_map.1 he
      exact ⟨mayIn_en (hm x hx), hl x hx⟩
end Go.Proofs.YteeeakbgofjinaaGreat.jr
/-! PackForm -/
namespace Go.Proofs.YteeeakbgofjinaaGreat.pk

theorem pow_step (i : Nat) : 2 ^ (7 * (i + 1)) = 128 * 2 ^ (7 * i) := by
  rw [show 7 * (i + 1) = 7 + 7 * i by omega, Nat.pow_add]

theorem toUInt8_of (c : UInt8) : (c.toNat).toUInt8 = c := by simp

theorem nine_le {i c : Nat} (hi : i ≤ 9) (hc : c < 128) (h9 : i = 9 → c ≤ 1) (acc : Nat) (ha : acc < 2 ^ (7 * i)) : acc + c * 2 ^ (7 * i) < 18446744073709551616 := by
  have hs : i = 0 ∨ i = 1 ∨ i = 2 ∨ i = 3 ∨ i = 4 ∨ i = 5 ∨ i = 6 ∨ i = 7 ∨ i = 8 ∨ i = 9 := by omega
  rcases hs with rfl | rfl | rfl | rfl | rfl | rfl | rfl | rfl | rfl | rfl <;> simp at ha ⊢ <;> omega

/-- What was read is one form: the bytes of the number, then what is left. -/
theorem dec_one : ∀ (l : List UInt8) (i acc v : Nat) (r : List UInt8), i ≤ 9 → acc < 2 ^ (7 * i) → dec i acc l = (0, v, r) →
    ∃ y, v = acc + y * 2 ^ (7 * i) ∧ l = Lib.uvarint y ++ r ∧ (0 < i → 0 < y) ∧ v < 18446744073709551616
  | [], i, acc, v, r, _, _, h => by simp [dec] at h
  | c :: t, i, acc, v, r, hi, ha, h => by
    have hc := c.toNat_lt
    unfold dec at h
    by_cases h1 : i = 9 ∧ 1 < c.toNat
    · rw [if_pos h1] at h; simp at h
    · rw [if_neg h1] at h
      by_cases h2 : 0 < i ∧ c.toNat = 0
      · rw [if_pos h2] at h; simp at h
      · rw [if_neg h2] at h
        by_cases h3 : c.toNat < 128
        · rw [if_pos h3] at h
          simp only [Prod.mk.injEq, true_and] at h
          obtain ⟨rfl, rfl⟩ := h
          exact ⟨c.toNat, rfl, by rw [Lib.uvarint_small h3, toUInt8_of]; rfl, fun h0 => by omega, nine_le hi h3 (fun e => by omega) acc ha⟩
        · rw [if_neg h3] at h
          have ha2 : acc + c.toNat % 128 * 2 ^ (7 * i) < 2 ^ (7 * (i + 1)) := by
            rw [pow_step]
            have : c.toNat % 128 * 2 ^ (7 * i) ≤ 127 * 2 ^ (7 * i) := Nat.mul_le_mul_right _ (by omega)
            omega
          obtain ⟨y, hv, ht, hy, hlt⟩ := dec_one t (i + 1) _ v r (by omega) ha2 h
          have hy0 := hy (by omega)
          refine ⟨c.toNat % 128 + 128 * y, ?_, ?_, fun _ => by omega, hlt⟩
          · rw [hv, pow_step, Nat.add_mul]
            have : y * (128 * 2 ^ (7 * i)) = 128 * y * 2 ^ (7 * i) := by rw [← Nat.mul_assoc, Nat.mul_comm y 128]
            omega
          · rw [Lib.uvarint_big (by omega), show (c.toNat % 128 + 128 * y) / 128 = y by omega, show (c.toNat % 128 + 128 * y) % 128 + 128 = c.toNat by omega, toUInt8_of, List.cons_append, ← ht]

theorem dec_err : ∀ (l : List UInt8) (i acc : Nat), (dec i acc l).1 = 0 ∨ (dec i acc l).1 = 3 ∨ (dec i acc l).1 = 4
  | [], i, acc => by simp [dec]
  | c :: t, i, acc => by
    unfold dec
    split
    · simp
    · split
      · simp
      · split
        · simp
        · exact dec_err t _ _

theorem le_of_mul {y i acc : Nat} (h : acc + y * 2 ^ (7 * i) < 18446744073709551616) (hi : 9 ≤ i) : y ≤ 1 := by
  rcases Nat.lt_or_ge y 2 with h2 | h2
  · omega
  · exfalso
    have h3 : (2 : Nat) ^ 63 ≤ 2 ^ (7 * i) := Nat.pow_le_pow_right (by decide) (by omega)
    have h4 : 2 * 2 ^ 63 ≤ y * 2 ^ (7 * i) := Nat.mul_le_mul h2 h3
    have h5 : (2 : Nat) * 2 ^ 63 = 18446744073709551616 := by decide
    omega

theorem div_step (acc y i : Nat) : acc + y % 128 * 2 ^ (7 * i) + y / 128 * 2 ^ (7 * (i + 1)) = acc + y * 2 ^ (7 * i) := by
  rw [pow_step]
  have e : y * 2 ^ (7 * i) = (128 * (y / 128) + y % 128) * 2 ^ (7 * i) := by rw [Nat.div_add_mod]
  rw [e, Nat.add_mul]
  have : y / 128 * (128 * 2 ^ (7 * i)) = 128 * (y / 128) * 2 ^ (7 * i) := by rw [← Nat.mul_assoc, Nat.mul_comm (y / 128) 128]
  omega

/-- What was written is read. -/
theorem dec_back (r : List UInt8) : ∀ (y i acc : Nat), i ≤ 9 → (0 < i → 0 < y) → acc + y * 2 ^ (7 * i) < 18446744073709551616 →
    dec i acc (Lib.uvarint y ++ r) = (0, acc + y * 2 ^ (7 * i), r) := by
  intro y
  induction y using Nat.strongRecOn with
  | _ y ih =>
    intro i acc hi h0 hv
    by_cases hy : y < 128
    · rw [Lib.uvarint_small hy]
      have ht : (y.toUInt8).toNat = y := Lib.toUInt8_toNat (by omega)
      have h9 : ¬ (i = 9 ∧ 1 < y) := fun ⟨e, h1⟩ => by have := le_of_mul hv (by omega); omega
      simp only [List.cons_append, List.nil_append, dec, ht]
      rw [if_neg h9, if_neg (by omega), if_pos hy]
    · rw [Lib.uvarint_big (by omega)]
      have ht : ((y % 128 + 128).toUInt8).toNat = y % 128 + 128 := Lib.toUInt8_toNat (by omega)
      have h9 : i < 9 := by
        rcases Nat.lt_or_ge i 9 with h | h
        · exact h
        · have := le_of_mul hv h; omega
      simp only [List.cons_append, dec, ht]
      rw [if_neg (by omega), if_neg (by omega), if_neg (by omega), show (y % 128 + 128) % 128 = y % 128 by omega]
      rw [ih (y / 128) (by omega) (i + 1) _ (by omega) (fun _ => by omega) (by rw [div_step]; exact hv), div_step]

/-- Of what was written, cut off, the reader meets the end. -/
theorem dec_cut : ∀ (y i acc k : Nat), i ≤ 9 → (0 < i → 0 < y) → acc + y * 2 ^ (7 * i) < 18446744073709551616 → k < (Lib.uvarint y).length →
    dec i acc ((Lib.uvarint y).take k) = (3, 0, []) := by
  intro y
  induction y using Nat.strongRecOn with
  | _ y ih =>
    intro i acc k hi h0 hv hk
    by_cases hy : y < 128
    · rw [Lib.uvarint_small hy] at hk ⊢
      obtain rfl : k = 0 := by simpa using hk
      rfl
    · rw [Lib.uvarint_big (by omega)] at hk ⊢
      have ht : ((y % 128 + 128).toUInt8).toNat = y % 128 + 128 := Lib.toUInt8_toNat (by omega)
      have h9 : i < 9 := by
        rcases Nat.lt_or_ge i 9 with h | h
        · exact h
        · have := le_of_mul hv h; omega
      cases k with
      | zero => rfl
      | succ k =>
        simp only [List.take_succ_cons, dec, ht]
        rw [if_neg (by omega), if_neg (by omega), if_neg (by omega), show (y % 128 + 128) % 128 = y % 128 by omega]
        exact ih (y / 128) (by omega) (i + 1) _ k (by omega) (fun _ => by omega) (by rw [div_step]; exact hv) (by simpa using hk)
end Go.Proofs.YteeeakbgofjinaaGreat.pk
/-! JrMath -/
namespace Go.Proofs.YteeeakbgofjinaaGreat.jr
set_option linter.unusedVariables false

/-! ### Frames -/
theorem scan_frames (K : List Bs) : ∀ p, (∀ b ∈ K, b.length ≤ 65536) → (sl.scan p (K.flatMap sl.frame)).map (·.2) = K ∧ sl.fin p (K.flatMap sl.frame) = p + (K.flatMap sl.frame).length := by
  induction K with
  | nil => intro p _; simp [sl.scan_nil, sl.fin_nil]
  | cons b r ih =>
    intro p hK
    have hc := sl.cut_frame b (r.flatMap sl.frame) (hK b List.mem_cons_self)
    have hok : (sl.cut (sl.frame b ++ r.flatMap sl.frame)).2.2 = 0 := by rw [hc]
    have hd : (sl.frame b ++ r.flatMap sl.frame).drop (8 + b.length) = r.flatMap sl.frame := by
      rw [← sl.frame_length, List.drop_left]
    obtain ⟨h1, h2⟩ := ih (p + (8 + b.length)) (fun x hx => hK x (List.mem_cons_of_mem _ hx))
    rw [List.flatMap_cons, sl.scan_ok hok, sl.fin_ok hok, hc]
    simp only
    rw [hd, h2]
    refine ⟨by rw [List.map_cons, h1], ?_⟩
    rw [List.length_append, sl.frame_length]
    omega
theorem frames_whole {K : List Bs} (hK : ∀ b ∈ K, b.length ≤ 65536) : sl.bodies (K.flatMap sl.frame) = K ∧ sl.fin 0 (K.flatMap sl.frame) = (K.flatMap sl.frame).length ∧ sl.err (K.flatMap sl.frame) = 0 := by
  obtain ⟨h1, h2⟩ := scan_frames K 0 hK
  rw [Nat.zero_add] at h2
  exact ⟨h1, h2, by unfold sl.err; rw [if_pos h2]⟩
theorem found_frames {K : List Bs} (hK : ∀ b ∈ K, b.length ≤ 65536) {s : St} (h : readAll K = some s) : found (K.flatMap sl.frame) = (some s, (K.flatMap sl.frame).length, 0) := by
  obtain ⟨h1, h2, h3⟩ := frames_whole hK
  unfold found
  rw [h3, if_neg (by simp), h1, h, h2]

/-! ### What is found may be -/
theorem dec_lt (l : Bs) : (pk.dec 0 0 l).2.1 < 18446744073709551616 := by
  rcases pk.dec_err l 0 0 with h | h | h
  · obtain ⟨_, _, _, _, h2⟩ := pk.dec_one l 0 0 (pk.dec 0 0 l).2.1 (pk.dec 0 0 l).2.2 (by decide) (by decide) (Prod.ext h rfl)
    exact h2
  · exact Nat.lt_of_le_of_lt (Nat.le_of_eq (dec_zero l 0 0 (by rw [h]; decide))) (by decide)
  · exact Nat.lt_of_le_of_lt (Nat.le_of_eq (dec_zero l 0 0 (by rw [h]; decide))) (by decide)
where
  dec_zero : ∀ (l : Bs) (i acc : Nat), (pk.dec i acc l).1 ≠ 0 → (pk.dec i acc l).2.1 = 0
  | [], i, acc, _ => rfl
  | c :: r, i, acc, h => by
    unfold pk.dec at h ⊢
    split
    · rfl
    · next h1 =>
      rw [if_neg h1] at h
      split
      · rfl
      · next h2 =>
        rw [if_neg h2] at h
        split
        · next h3 => rw [if_pos h3] at h; exact absurd rfl h
        · next h3 => rw [if_neg h3] at h; exact dec_zero r _ _ h
theorem rdNum_small {l : Bs} {x : Nat × Bs} (h : rdNum l = some x) : x.1 < 18446744073709551616 := rdNum_lt h dec_lt
theorem rdCount_le {most : Nat} {l : Bs} {x : Nat × Bs} (h : rdCount most l = some x) : x.1 ≤ most := by
  obtain ⟨y, _, h2⟩ := Option.bind_eq_some_iff.1 h
  split at h2
  · next hy => cases h2; exact hy
  · cases h2
/-- What holds while records are read. -/
structure Okd (x : Rd) : Prop where
  ok : Ok x.s
  size : x.size ≤ 262144
  image : x.s.image.length ≤ x.size
theorem rdBase_ok {x y : Rd} {r : Bs} (h : Okd x) (hx : x.s.image = []) (e : rdBase x r = some y) : Okd y := by
  obtain ⟨b, hb, e⟩ := Option.bind_eq_some_iff.1 e
  obtain ⟨t, ht, e⟩ := Option.bind_eq_some_iff.1 e
  obtain ⟨n, hn, e⟩ := Option.bind_eq_some_iff.1 e
  obtain ⟨c, hc, e⟩ := Option.bind_eq_some_iff.1 e
  obtain ⟨z, hz, e⟩ := Option.bind_eq_some_iff.1 e
  split at e
  · next hi =>
    cases e
    exact ⟨⟨h.ok.term, h.ok.vote, h.ok.life, hi.2.2.1, rdNum_small ht, hi.2.1, h.ok.l, h.ok.image⟩, hi.2.2.2, by show x.s.image.length ≤ z.1; rw [hx]; exact Nat.zero_le _⟩
  · cases e
theorem rdPiece_ok {x y : Rd} {r : Bs} (h : Okd x) (e : rdPiece x r = some y) : Okd y := by
  obtain ⟨p, hp, e⟩ := Option.bind_eq_some_iff.1 e
  split at e
  · next hi =>
    cases e
    have h1 := h.size
    have h2 := h.image
    have h3 : (x.s.image ++ p.1).length ≤ x.size := by rw [List.length_append]; omega
    exact ⟨⟨h.ok.term, h.ok.vote, h.ok.life, h.ok.base, h.ok.bterm, h.ok.conf, h.ok.l, Nat.le_trans h3 h1⟩, h1, h3⟩
  · cases e
theorem rdHard_ok {x y : Rd} {r : Bs} (h : Okd x) (e : rdHard x r = some y) : Okd y := by
  obtain ⟨t, ht, e⟩ := Option.bind_eq_some_iff.1 e
  obtain ⟨v, hv, e⟩ := Option.bind_eq_some_iff.1 e
  obtain ⟨l, hl, e⟩ := Option.bind_eq_some_iff.1 e
  split at e
  · cases e
    exact ⟨⟨rdNum_small ht, rdCount_le hv, rdNum_small hl, h.ok.base, h.ok.bterm, h.ok.conf, h.ok.l, h.ok.image⟩, h.size, h.image⟩
  · cases e
theorem rdEnt_ok {x y : Rd} {r : Bs} (h : Okd x) (e : rdEnt x r = some y) : Okd y := by
  obtain ⟨i, _, e⟩ := Option.bind_eq_some_iff.1 e
  obtain ⟨t, ht, e⟩ := Option.bind_eq_some_iff.1 e
  obtain ⟨k, _, e⟩ := Option.bind_eq_some_iff.1 e
  obtain ⟨d, _, e⟩ := Option.bind_eq_some_iff.1 e
  split at e
  · next hi =>
    cases e
    refine ⟨⟨h.ok.term, h.ok.vote, h.ok.life, h.ok.base, h.ok.bterm, h.ok.conf, fun e he => ?_, h.ok.image⟩, h.size, h.image⟩
    rcases List.mem_append.1 he with he | he
    · exact h.ok.l e (List.mem_of_mem_take he)
    · rw [List.mem_singleton.1 he]; exact ⟨hi.2.2.1, rdNum_small ht⟩
  · cases e
theorem record_ok {i : Nat} {x y : Rd} {b : Bs} (h : Okd x) (h0 : i = 0 → x.s.image = []) (e : record i x b = some y) : Okd y := by
  obtain ⟨k, _, e⟩ := Option.bind_eq_some_iff.1 e
  split at e
  · next hi => exact rdBase_ok h (h0 hi.2) e
  · split at e
    · exact rdPiece_ok h e
    · split at e
      · exact rdHard_ok h e
      · split at e
        · exact rdEnt_ok h e
        · cases e
theorem records_ok : ∀ (l : List Bs) (i : Nat) (x y : Rd), Okd x → (i = 0 → x.s.image = []) → records i x l = some y → Okd y
  | [], i, x, y, h, _, e => by cases e; exact h
  | b :: r, i, x, y, h, h0, e => by
    obtain ⟨z, hz, e⟩ := Option.bind_eq_some_iff.1 e
    exact records_ok r (i + 1) z y (record_ok h h0 hz) (fun h => absurd h (by omega)) e
theorem readAll_ok {l : List Bs} {s : St} (h : readAll l = some s) : Ok s := by
  obtain ⟨x, hx, e⟩ := Option.bind_eq_some_iff.1 h
  split at e
  · cases e
    exact (records_ok l 0 _ x ⟨zero_ok, by decide, by decide⟩ (fun _ => rfl) hx).ok
  · cases e
theorem found_ok {b : Bs} {s : St} (h : (found b).1 = some s) : Ok s := by
  unfold found at h
  split at h
  · cases h
  · split at h
    · cases h
    · next x hx => cases h; exact readAll_ok hx
theorem more_ok {s : St} (h : Ok s) : Ok { s with h := more s.h } := by
  have h1 : (more s.h).term = s.h.term ∧ (more s.h).vote = s.h.vote := by unfold more; split <;> exact ⟨rfl, rfl⟩
  have h2 : (more s.h).life < 18446744073709551616 := by
    unfold more
    split
    · next hl => show s.h.life + 1 < _; omega
    · exact h.life
  exact ⟨by rw [h1.1]; exact h.term, by rw [h1.2]; exact h.vote, h2, h.base, h.bterm, h.conf, h.l, h.image⟩
theorem open3_ok {d : dk.Dk} {s t : St} (h : Ok s) (e : (open3 d s).2.1 = some t) : Ok t := by
  unfold open3 at e
  split at e
  · cases e
  · cases e; exact more_ok h
theorem open2_ok {d : dk.Dk} {b : Bs} {t : St} (e : (open2 d b).2.1 = some t) : Ok t := by
  unfold open2 at e
  split at e
  · cases e
  · split at e
    · split at e
      · cases e
      · split at e
        · cases e
        · next s hs => exact open3_ok (found_ok hs) e
    · split at e
      · cases e
      · next s hs => exact open3_ok (found_ok hs) e
theorem openJ_ok {d : dk.Dk} {t : St} (e : (openJ d).2.1 = some t) : Ok t := by
  unfold openJ at e
  split at e
  · split at e
    · cases e
    · exact open2_ok e
  · split at e
    · cases e
    · exact open2_ok e
/-- A journal is there exactly when no error is told. -/
theorem open3_some (d : dk.Dk) (s : St) : (open3 d s).1 = 0 ↔ (open3 d s).2.1.isSome = true := by
  unfold open3
  split
  · next h => simp [h]
  · simp
theorem open2_some (d : dk.Dk) (b : Bs) : (open2 d b).1 = 0 ↔ (open2 d b).2.1.isSome = true := by
  unfold open2
  split
  · next h => simp [h.1]
  · split
    · split
      · next h => simp [h]
      · split
        · simp
        · exact open3_some _ _
    · split
      · simp
      · exact open3_some _ _
theorem openJ_some (d : dk.Dk) : (openJ d).1 = 0 ↔ (openJ d).2.1.isSome = true := by
  unfold openJ
  split
  · split
    · next h => simp [h]
    · exact open2_some _ _
  · split
    · next h => simp [h]
    · exact open2_some _ _
end Go.Proofs.YteeeakbgofjinaaGreat.jr
/-! JrRun -/
namespace Go.Proofs.YteeeakbgofjinaaGreat.jr
set_option linter.unusedVariables false

/-- Bodies as a file. -/
def F (K : List Bs) : Bs := K.flatMap sl.frame
theorem F_append (K L : List Bs) : F (K ++ L) = F K ++ F L := List.flatMap_append
theorem F_length (K : List Bs) : (F K).length = (K.map fun b => 8 + b.length).sum := by
  induction K with
  | nil => rfl
  | cons b r ih => unfold F at *; rw [List.flatMap_cons, List.length_append, ih, sl.frame_length, List.map_cons, List.sum_cons]
theorem F_ne {K : List Bs} (h : K ≠ []) : F K ≠ [] := by
  intro e
  have := F_length K
  rw [e] at this
  cases K with
  | nil => exact h rfl
  | cons b r => simp at this; omega
/-- A disk with the one file, all of it synced. -/
def dsk (cap : Nat) (b : Bs) : dk.Dk := ⟨cap, [(log, b)], [(log, b)], [], false, 0⟩
theorem used_one (b : Bs) : dk.used [(log, b)] = b.length := by simp [dk.used]
theorem get_one (b : Bs) : dk.get [(log, b)] log = some b := by simp [dk.get]
theorem put_one (b c : Bs) : dk.put [(log, b)] (log, c) = [(log, c)] := by simp [dk.put, dk.without, dk.ins]
theorem read_dsk (cap : Nat) (b : Bs) : dk.read (dsk cap b) log = (b, 0) := by
  unfold dk.read
  rw [if_neg (by simp [dk.off, dsk])]
  show (match dk.get [(log, b)] log with | none => ([], 6) | some s => (s, 0)) = _
  rw [get_one]
theorem read_fresh (cap : Nat) : dk.read (dk.fresh cap) log = ([], 6) := by
  unfold dk.read
  rw [if_neg (by simp [dk.off, dk.fresh])]
  rfl
theorem jput_add {cap : Nat} {b s : Bs} (hs : s ≠ []) (hc : b.length + s.length ≤ cap) : jput (dsk cap b) 1 s = (0, dsk cap (b ++ s)) := by
  have ha : dk.after (dsk cap b).seen ⟨1, log, s⟩ = [(log, b ++ s)] := by
    unfold dk.after dk.done dk.steps
    have : ¬ s.length < 1 := by have := List.length_pos_iff.2 hs; omega
    simp only [dsk, show ¬ (1 = 2) by decide, if_false, if_true, this, get_one, Option.getD_some, List.take_length, put_one]
  have ht : dk.turn (dsk cap b) ⟨1, log, s⟩ = (0, { dsk cap b with seen := [(log, b ++ s)], pend := [⟨1, log, s⟩] }) := by
    unfold dk.turn
    rw [if_neg (show ¬ (log.length < 1 ∨ 80 < log.length) by decide), if_neg (by simp [dk.off, dsk]), if_neg (fun h => absurd h.1 (show ¬ (1 = 3) by decide)), if_neg (fun h => hs h.2), ha, used_one, if_neg (by rw [List.length_append]; show ¬ cap < _; omega)]
    rfl
  unfold jput
  rw [ht]
  rfl
theorem jput_put {cap : Nat} {b s : Bs} (hc : s.length ≤ cap) : jput (dsk cap b) 2 s = (0, dsk cap s) := by
  have ha : dk.after (dsk cap b).seen ⟨2, log, s⟩ = [(log, s)] := by
    unfold dk.after
    simp only [dsk]
    rw [if_pos trivial, put_one]
  have ht : dk.turn (dsk cap b) ⟨2, log, s⟩ = (0, { dsk cap b with seen := [(log, s)], pend := [⟨2, log, s⟩] }) := by
    unfold dk.turn
    rw [if_neg (show ¬ (log.length < 1 ∨ 80 < log.length) by decide), if_neg (by simp [dk.off, dsk]), if_neg (fun h => absurd h.1 (show ¬ (2 = 3) by decide)), if_neg (fun h => absurd h.1 (show ¬ (2 = 1) by decide)), ha, used_one, if_neg (by show ¬ cap < _; omega)]
    rfl
  unfold jput
  rw [ht]
  rfl
theorem jput_new {cap : Nat} {s : Bs} (hc : s.length ≤ cap) : jput (dk.fresh cap) 2 s = (0, dsk cap s) := by
  have ha : dk.after (dk.fresh cap).seen ⟨2, log, s⟩ = [(log, s)] := by
    unfold dk.after
    rw [if_pos rfl]
    rfl
  have ht : dk.turn (dk.fresh cap) ⟨2, log, s⟩ = (0, { dk.fresh cap with seen := [(log, s)], pend := [⟨2, log, s⟩] }) := by
    unfold dk.turn
    rw [if_neg (show ¬ (log.length < 1 ∨ 80 < log.length) by decide), if_neg (by simp [dk.off, dk.fresh]), if_neg (fun h => absurd h.1 (show ¬ (2 = 3) by decide)), if_neg (fun h => absurd h.1 (show ¬ (2 = 1) by decide)), ha, used_one, if_neg (by show ¬ cap < _; omega)]
    rfl
  unfold jput
  rw [ht]
  rfl

/-! ### Open where nothing is torn -/
theorem open2_frames {cap : Nat} {K : List Bs} (hK : ∀ b ∈ K, b.length ≤ 65536) {s : St} (h : readAll K = some s) (hc : (F (K ++ [hardB (more s.h)])).length ≤ cap) :
    open2 (dsk cap (F K)) (F K) = (0, some { s with h := more s.h }, dsk cap (F (K ++ [hardB (more s.h)]))) := by
  have hf : found (F K) = (some s, (F K).length, 0) := found_frames hK h
  have hr : F [hardB (more s.h)] = hardRec (more s.h) := by unfold F hardRec; simp
  have hne : hardRec (more s.h) ≠ [] := by rw [← hr]; exact F_ne (by simp)
  rw [F_append, hr] at hc
  unfold open2
  rw [hf]
  simp only
  rw [if_neg (by simp), if_neg (Nat.lt_irrefl _)]
  show open3 (dsk cap (F K)) s = _
  unfold open3
  rw [jput_add hne (by rw [List.length_append] at hc; exact hc), F_append, hr]
  rfl
theorem openJ_frames {cap : Nat} {K : List Bs} (hK : ∀ b ∈ K, b.length ≤ 65536) {s : St} (h : readAll K = some s) (hc : (F (K ++ [hardB (more s.h)])).length ≤ cap) :
    openJ (dsk cap (F K)) = (0, some { s with h := more s.h }, dsk cap (F (K ++ [hardB (more s.h)]))) := by
  unfold openJ
  rw [read_dsk]
  simp only
  rw [if_neg (by decide), if_neg (by decide)]
  exact open2_frames hK h hc
end Go.Proofs.YteeeakbgofjinaaGreat.jr
/-! JrAlive -/
namespace Go.Proofs.YteeeakbgofjinaaGreat.jr
set_option linter.unusedVariables false
set_option linter.unusedSimpArgs false

theorem num_small {n : Nat} (h : n < 128) : num n = [n.toUInt8] := Lib.uvarint_small h
def entBs : Nat → List En → List Bs
  | _, [] => []
  | i, e :: r => entB i e :: entBs (i + 1) r
theorem entRecs_F : ∀ (l : List En) (i : Nat), entRecs i l = F (entBs i l)
  | [], i => rfl
  | e :: r, i => by
    rw [entRecs, entRecs_F r (i + 1)]
    rfl
def hard0 : Hd := ⟨0, 0, 0⟩
def K0 : List Bs := [baseB zero, hardB hard0]
theorem base_zero : baseB zero = [1, 0, 0, 0, 0] := by
  simp only [baseB, zero, nums, List.length_nil, List.flatMap_nil, num_small (show 1 < 128 by decide), num_small (show 0 < 128 by decide)]
  rfl
theorem hardB_small {a b c : Nat} (ha : a < 128) (hb : b < 128) (hc : c < 128) : hardB ⟨a, b, c⟩ = [3, a.toUInt8, b.toUInt8, c.toUInt8] := by
  simp only [hardB, num_small ha, num_small hb, num_small hc, num_small (show 3 < 128 by decide)]
  rfl
theorem K0_eq : K0 = [[1, 0, 0, 0, 0], [3, 0, 0, 0]] := by
  unfold K0 hard0
  rw [base_zero, hardB_small (by decide) (by decide) (by decide)]
  rfl
theorem file_zero : fileOf zero = F K0 := by
  unfold fileOf F K0
  simp [zero, pieces, pieceRecs, entRecs, hardRec, hard0]
theorem read_K0 : readAll K0 = some zero := by rw [K0_eq]; rfl
def K1 : List Bs := K0 ++ [hardB ⟨0, 0, 1⟩]
theorem K1_eq : K1 = [[1, 0, 0, 0, 0], [3, 0, 0, 0], [3, 0, 0, 1]] := by
  unfold K1
  rw [K0_eq, hardB_small (by decide) (by decide) (by decide)]
  rfl
def s1 : St := { zero with h := ⟨0, 0, 1⟩ }
/-- Open of an empty disk with room. -/
theorem open_fresh {cap : Nat} (h : 100 ≤ cap) : openJ (dk.fresh cap) = (0, some s1, dsk cap (F K1)) := by
  have hl0 : (F K0).length ≤ cap := by rw [F_length, K0_eq]; simp; omega
  have hl1 : (F (K0 ++ [hardB (more zero.h)])).length ≤ cap := by
    have : K0 ++ [hardB (more zero.h)] = K1 := rfl
    rw [this, F_length, K1_eq]; simp; omega
  have hK : ∀ b ∈ K0, b.length ≤ 65536 := by rw [K0_eq]; decide
  unfold openJ
  rw [read_fresh]
  simp only
  rw [if_pos trivial, file_zero, jput_new hl0]
  simp only
  rw [if_neg (by decide), open2_frames hK read_K0 hl1]
  rfl
/-- What Append makes where there is room. -/
theorem append_run {cap : Nat} {K : List Bs} {s : St} {from_ : Nat} {l : List EnIn} (h1 : s.base < from_) (h2 : from_ ≤ s.last + 1) (hm : ∀ e ∈ l, MayIn e) (hl : l ≠ []) (hc : (F (K ++ entBs from_ (l.map toEn))).length ≤ cap) :
    append s (dsk cap (F K)) from_ l = (0, { s with l := s.l.take (from_ - s.base - 1) ++ l.map toEn }, dsk cap (F (K ++ entBs from_ (l.map toEn)))) := by
  have hne : F (entBs from_ (l.map toEn)) ≠ [] := F_ne (by cases l with | nil => exact absurd rfl hl | cons a r => simp [entBs])
  have hn : ¬ (from_ ≤ s.base ∨ s.last + 1 < from_ ∨ ¬ ∀ e ∈ l, MayIn e) := by
    rintro (h | h | h)
    · omega
    · omega
    · exact h hm
  unfold append
  rw [if_neg hn, if_neg hl, entRecs_F, jput_add hne (by rw [F_append, List.length_append] at hc; exact hc), F_append]
  rfl
theorem append_refused {s : St} {d : dk.Dk} {from_ : Nat} {l : List EnIn} (h : from_ ≤ s.base ∨ s.last + 1 < from_) : append s d from_ l = (1, s, d) := by
  unfold append
  rw [if_pos (h.elim .inl fun h => .inr (.inl h))]
def two : List EnIn := [⟨1, 1, []⟩, ⟨1, 3, [120]⟩]
theorem two_may : ∀ e ∈ two, MayIn e := by decide
def s2 : St := { s1 with l := [⟨1, 1, []⟩, ⟨1, 3, [120]⟩] }
def K2 : List Bs := K1 ++ entBs 1 (two.map toEn)
theorem K2_eq : K2 = [[1, 0, 0, 0, 0], [3, 0, 0, 0], [3, 0, 0, 1], [4, 1, 1, 1, 0], [4, 2, 1, 3, 1, 120]] := by
  unfold K2
  rw [K1_eq]
  simp only [two, List.map_cons, List.map_nil, toEn, entBs, entB, text, List.length_nil, List.length_cons, num_small (show 4 < 128 by decide), num_small (show 1 < 128 by decide), num_small (show 2 < 128 by decide), num_small (show 0 < 128 by decide), num_small (show 0 + 1 < 128 by decide), num_small (show 1 + 1 < 128 by decide),
    show ((1 : Int)).toNat = 1 from rfl, show ((3 : Int)).toNat = 3 from rfl, num_small (show 1 < 128 by decide), num_small (show 3 < 128 by decide)]
  rfl
theorem a2 : append s1 (dsk 1000 (F K1)) 1 two = (0, s2, dsk 1000 (F K2)) := by
  rw [append_run (by decide) (by decide) two_may (by decide) (by rw [show K1 ++ entBs 1 (two.map toEn) = K2 from rfl, F_length, K2_eq]; decide)]
  rfl
theorem a3 : append s2 (dsk 1000 (F K2)) 4 two = (1, s2, dsk 1000 (F K2)) := append_refused (.inr (by decide))
def s3 : St := { s2 with h := ⟨3, 2, 1⟩ }
def K3 : List Bs := K2 ++ [hardB ⟨3, 2, 1⟩]
theorem K3_eq : K3 = [[1, 0, 0, 0, 0], [3, 0, 0, 0], [3, 0, 0, 1], [4, 1, 1, 1, 0], [4, 2, 1, 3, 1, 120], [3, 3, 2, 1]] := by
  unfold K3
  rw [K2_eq, hardB_small (by decide) (by decide) (by decide)]
  rfl
theorem a4 : save s2 (dsk 1000 (F K2)) 3 2 = (0, s3, dsk 1000 (F K3)) := by
  have hr : F [hardB ⟨3, 2, 1⟩] = hardRec ⟨3, 2, 1⟩ := by unfold F hardRec; simp
  have hj : jput (dsk 1000 (F K2)) 1 (hardRec ⟨3, Int.toNat 2, s2.h.life⟩) = (0, dsk 1000 (F K3)) := by
    rw [show hardRec ⟨3, Int.toNat 2, s2.h.life⟩ = F [hardB ⟨3, 2, 1⟩] from hr.symm, jput_add (F_ne (by simp)) (by rw [← List.length_append, ← F_append, show K2 ++ [hardB ⟨3, 2, 1⟩] = K3 from rfl, F_length, K3_eq]; decide), ← F_append]
    rfl
  unfold save
  rw [if_neg (by decide), if_neg (by decide), hj]
  rfl
def s4 : St := { s2 with h := ⟨3, 2, 2⟩ }
theorem read_K3 : readAll K3 = some s3 := by rw [K3_eq]; rfl
theorem a5 : openJ (dsk 1000 (F K3)) = (0, some s4, dsk 1000 (F (K3 ++ [hardB ⟨3, 2, 2⟩]))) := by
  have hK : ∀ b ∈ K3, b.length ≤ 65536 := by rw [K3_eq]; decide
  rw [openJ_frames hK read_K3 (by
    rw [show more s3.h = ⟨3, 2, 2⟩ from rfl, F_length, K3_eq, hardB_small (by decide) (by decide) (by decide)]; decide)]
  rfl
end Go.Proofs.YteeeakbgofjinaaGreat.jr
/-! JrPure -/
namespace Go.Proofs.YteeeakbgofjinaaGreat.jr
set_option linter.unusedVariables false

/-! ### A reader that may have failed -/
def vN (o : Option Bs) : Nat := ((o.bind rdNum).map (·.1)).getD 0
def nN (o : Option Bs) : Option Bs := (o.bind rdNum).map (·.2)
def vC (m : Nat) (o : Option Bs) : Nat := ((o.bind (rdCount m)).map (·.1)).getD 0
def nC (m : Nat) (o : Option Bs) : Option Bs := (o.bind (rdCount m)).map (·.2)
def vT (m : Nat) (o : Option Bs) : Bs := ((o.bind (rdText m)).map (·.1)).getD []
def nT (m : Nat) (o : Option Bs) : Option Bs := (o.bind (rdText m)).map (·.2)
def vCs (m : Nat) : Nat → Option Bs → List Nat
  | 0, _ => []
  | n + 1, o => vC m o :: vCs m n (nC m o)
def nCs (m : Nat) : Nat → Option Bs → Option Bs
  | 0, o => o
  | n + 1, o => nCs m n (nC m o)
theorem vCs_length (m : Nat) : ∀ (n : Nat) (o : Option Bs), (vCs m n o).length = n
  | 0, _ => rfl
  | n + 1, o => by rw [vCs, List.length_cons, vCs_length m n]
theorem vCs_snoc (m : Nat) : ∀ (n : Nat) (o : Option Bs), vCs m (n + 1) o = vCs m n o ++ [vC m (nCs m n o)]
  | 0, o => rfl
  | n + 1, o => by rw [vCs, vCs_snoc m n, vCs, List.cons_append, nCs]
theorem nCs_snoc (m : Nat) : ∀ (n : Nat) (o : Option Bs), nCs m (n + 1) o = nC m (nCs m n o)
  | 0, o => rfl
  | n + 1, o => by rw [nCs, nCs_snoc m n, nCs]
theorem vN_lt (o : Option Bs) : vN o < 18446744073709551616 := by
  unfold vN
  cases o with
  | none => decide
  | some r =>
    simp only [Option.bind_some]
    cases h : rdNum r with
    | none => decide
    | some x => exact rdNum_small h
theorem vC_le (m : Nat) (o : Option Bs) : vC m o ≤ m := by
  unfold vC
  cases o with
  | none => exact Nat.zero_le _
  | some r =>
    simp only [Option.bind_some]
    cases h : rdCount m r with
    | none => exact Nat.zero_le _
    | some x => exact rdCount_le h
theorem vT_le (m : Nat) (o : Option Bs) : (vT m o).length ≤ m := by
  unfold vT
  cases o with
  | none => exact Nat.zero_le _
  | some r =>
    simp only [Option.bind_some]
    cases h : rdText m r with
    | none => exact Nat.zero_le _
    | some x =>
      obtain ⟨y, _, h2⟩ := Option.bind_eq_some_iff.1 h
      split at h2
      · next hi =>
        cases h2
        show (y.2.take y.1).length ≤ m
        rw [List.length_take]
        omega
      · cases h2
theorem vCs_le (m : Nat) : ∀ (n : Nat) (o : Option Bs), ∀ x ∈ vCs m n o, x ≤ m
  | 0, _, x, h => by cases h
  | n + 1, o, x, h => by
    rw [vCs] at h
    rcases List.mem_cons.1 h with rfl | h
    · exact vC_le m o
    · exact vCs_le m n _ x h
theorem nCs_none (m : Nat) : ∀ n, nCs m n none = none
  | 0 => rfl
  | n + 1 => by rw [nCs]; exact nCs_none m n
theorem rdCounts_eq (m : Nat) : ∀ (n : Nat) (r : Bs), (∃ c t, rdCounts m n r = some (c, t) ∧ vCs m n (some r) = c ∧ nCs m n (some r) = some t) ∨ (rdCounts m n r = none ∧ nCs m n (some r) = none)
  | 0, r => .inl ⟨[], r, rfl, rfl, rfl⟩
  | n + 1, r => by
    cases h : rdCount m r with
    | none =>
      refine .inr ⟨?_, ?_⟩
      · rw [rdCounts, h]; rfl
      · rw [nCs, show nC m (some r) = none from by unfold nC; rw [Option.bind_some, h]; rfl, nCs_none]
    | some x =>
      obtain ⟨v, t⟩ := x
      have hn : nC m (some r) = some t := by unfold nC; rw [Option.bind_some, h]; rfl
      have hv : vC m (some r) = v := by unfold vC; rw [Option.bind_some, h]; rfl
      rcases rdCounts_eq m n t with ⟨c, t2, h1, h2, h3⟩ | ⟨h1, h3⟩
      · refine .inl ⟨v :: c, t2, ?_, ?_, ?_⟩
        · rw [rdCounts, h, Option.bind_some, h1]; rfl
        · rw [vCs, hn, hv, h2]
        · rw [nCs, hn, h3]
      · refine .inr ⟨?_, ?_⟩
        · rw [rdCounts, h, Option.bind_some, h1]; rfl
        · rw [nCs, hn, h3]

/-! ### The program's steps -/
/-- What a step leaves: the state, whether a base was read, how many bytes of the image are missing, what is left. -/
structure Pr where
  s : St
  based : Bool
  m : Nat
  o : Option Bs
def pbase (x : Pr) : Option Pr :=
  if x.based = true then none
  else if Members (vCs 5 (vC 5 (nN (nN x.o))) (nC 5 (nN (nN x.o)))) ∧ vN x.o ≤ 4611686018427387904 then
    some ⟨{ x.s with base := vN x.o, bterm := vN (nN x.o), conf := vCs 5 (vC 5 (nN (nN x.o))) (nC 5 (nN (nN x.o))) }, true, vC 262144 (nCs 5 (vC 5 (nN (nN x.o))) (nC 5 (nN (nN x.o)))), nC 262144 (nCs 5 (vC 5 (nN (nN x.o))) (nC 5 (nN (nN x.o))))⟩
  else none
def ppiece (x : Pr) : Option Pr :=
  if x.m = 0 then none else if (vT 4096 x.o).length = min x.m 4096 then some ⟨{ x.s with image := x.s.image ++ vT 4096 x.o }, x.based, x.m - (vT 4096 x.o).length, nT 4096 x.o⟩ else none
def phard (x : Pr) : Option Pr :=
  if x.based = true ∧ x.m = 0 then some ⟨{ x.s with h := ⟨vN x.o, vC 5 (nN x.o), vN (nC 5 (nN x.o))⟩ }, x.based, x.m, nN (nC 5 (nN x.o))⟩ else none
def pent (x : Pr) : Option Pr :=
  if x.based = true ∧ x.m = 0 then
    if (x.s.base < vN x.o ∧ vN x.o ≤ x.s.base + 1 + x.s.l.length) ∧ May ⟨vN (nN x.o), vC 3 (nN (nN x.o)), vT 2048 (nC 3 (nN (nN x.o)))⟩ then
      some ⟨{ x.s with l := x.s.l.take (vN x.o - x.s.base - 1) ++ [⟨vN (nN x.o), vC 3 (nN (nN x.o)), vT 2048 (nC 3 (nN (nN x.o)))⟩] }, x.based, x.m, nT 2048 (nC 3 (nN (nN x.o)))⟩
    else none
  else none
def pform (k : Nat) (x : Pr) : Option Pr := if k = 1 then pbase x else if k = 2 then ppiece x else if k = 3 then phard x else if k = 4 then pent x else none
/-- A record, as the program reads it. -/
def prec (s : St) (based : Bool) (m : Nat) (b : Bs) : Option Pr :=
  if vC 4 (some b) = 0 then none else (pform (vC 4 (some b)) ⟨s, based, m, nC 4 (some b)⟩).bind fun y => if y.o = some [] then some y else none

theorem nN_of {r : Bs} {x : Nat × Bs} (h : rdNum r = some x) : nN (some r) = some x.2 ∧ vN (some r) = x.1 := by unfold nN vN; rw [Option.bind_some, h]; exact ⟨rfl, rfl⟩
theorem nN_bad {r : Bs} (h : rdNum r = none) : nN (some r) = none := by unfold nN; rw [Option.bind_some, h]; rfl
theorem nC_of {m : Nat} {r : Bs} {x : Nat × Bs} (h : rdCount m r = some x) : nC m (some r) = some x.2 ∧ vC m (some r) = x.1 := by unfold nC vC; rw [Option.bind_some, h]; exact ⟨rfl, rfl⟩
theorem nC_bad {m : Nat} {r : Bs} (h : rdCount m r = none) : nC m (some r) = none ∧ vC m (some r) = 0 := by unfold nC vC; rw [Option.bind_some, h]; exact ⟨rfl, rfl⟩
theorem nT_of {m : Nat} {r : Bs} {x : Bs × Bs} (h : rdText m r = some x) : nT m (some r) = some x.2 ∧ vT m (some r) = x.1 := by unfold nT vT; rw [Option.bind_some, h]; exact ⟨rfl, rfl⟩
theorem nT_bad {m : Nat} {r : Bs} (h : rdText m r = none) : nT m (some r) = none ∧ vT m (some r) = [] := by unfold nT vT; rw [Option.bind_some, h]; exact ⟨rfl, rfl⟩
theorem nN_none : nN none = none := rfl
theorem nC_none (m : Nat) : nC m none = none := rfl
theorem nT_none (m : Nat) : nT m none = none := rfl
def fin (y : Pr) : Option Pr := if y.o = some [] then some y else none
theorem fin_none {y : Pr} (h : y.o = none) : fin y = none := by unfold fin; rw [h]; rfl

theorem pbase_eq (x : Rd) (r : Bs) : (pbase ⟨x.s, false, 0, some r⟩).bind fin = (rdBase x r).map fun y => ⟨y.s, true, y.size, some []⟩ := by
  unfold pbase
  simp only [Bool.false_eq_true, if_false]
  have key : ∀ {A : Prop} [Decidable A] (y : Pr), y.o = none → (if A then some y else none).bind fin = none := by
    intro A _ y hy
    split
    · exact fin_none hy
    · rfl
  unfold rdBase
  cases h1 : rdNum r with
  | none => rw [nN_bad h1]; exact key _ (by simp [nN_none, nC_none, nCs_none])
  | some b =>
    obtain ⟨e1, f1⟩ := nN_of h1
    rw [e1, f1, Option.bind_some]
    cases h2 : rdNum b.2 with
    | none => rw [nN_bad h2]; exact key _ (by simp [nC_none, nCs_none])
    | some t =>
      obtain ⟨e2, f2⟩ := nN_of h2
      rw [e2, f2, Option.bind_some]
      cases h3 : rdCount 5 t.2 with
      | none => rw [(nC_bad h3).1, (nC_bad h3).2]; exact key _ rfl
      | some n =>
        obtain ⟨e3, f3⟩ := nC_of h3
        rw [e3, f3, Option.bind_some]
        rcases rdCounts_eq 5 n.1 n.2 with ⟨c, t2, g1, g2, g3⟩ | ⟨g1, g3⟩
        · rw [g1, g2, g3, Option.bind_some]
          simp only
          cases h4 : rdNum t2 with
          | none =>
            have : rdCount 262144 t2 = none := by unfold rdCount; rw [h4]; rfl
            rw [(nC_bad this).1]
            exact key _ rfl
          | some z =>
            rw [Option.bind_some]
            by_cases hz : z.1 ≤ 262144
            · have : rdCount 262144 t2 = some z := by unfold rdCount; rw [h4, Option.bind_some, if_pos hz]
              obtain ⟨e4, f4⟩ := nC_of this
              rw [e4, f4]
              by_cases hc : Members c ∧ b.1 ≤ 4611686018427387904
              · rw [if_pos hc, Option.bind_some]
                unfold fin
                simp only [Option.some.injEq]
                by_cases he : z.2 = []
                · rw [if_pos he, if_pos ⟨he, hc.1, hc.2, hz⟩, he]; rfl
                · rw [if_neg he, if_neg (fun h => he h.1)]; rfl
              · rw [if_neg hc, if_neg (show ¬ (z.2 = [] ∧ Members c ∧ b.1 ≤ 4611686018427387904 ∧ z.1 ≤ 262144) from fun h => hc ⟨h.2.1, h.2.2.1⟩)]; rfl
            · have : rdCount 262144 t2 = none := by unfold rdCount; rw [h4, Option.bind_some, if_neg hz]
              rw [(nC_bad this).1, if_neg (show ¬ (z.2 = [] ∧ Members c ∧ b.1 ≤ 4611686018427387904 ∧ z.1 ≤ 262144) from fun h => hz h.2.2.2)]
              exact key _ rfl
        · rw [g1, g3]; exact key _ rfl
theorem ppiece_eq (x : Rd) (r : Bs) (hi : x.s.image.length ≤ x.size) (based : Bool) : (ppiece ⟨x.s, based, x.size - x.s.image.length, some r⟩).bind fin = (rdPiece x r).map fun y => ⟨y.s, based, y.size - y.s.image.length, some []⟩ := by
  unfold ppiece rdPiece
  simp only
  cases h : rdText 4096 r with
  | none =>
    rw [(nT_bad h).1, (nT_bad h).2]
    split
    · rfl
    · next h0 => rw [if_neg (by simp; omega)]; rfl
  | some p =>
    have hp := vT_le 4096 (some r)
    obtain ⟨e1, f1⟩ := nT_of h
    rw [e1, f1, Option.bind_some]
    rw [f1] at hp
    by_cases h0 : x.size - x.s.image.length = 0
    · rw [if_pos h0, if_neg (by omega)]; rfl
    · rw [if_neg h0]
      by_cases h1 : p.1.length = min (x.size - x.s.image.length) 4096
      · rw [if_pos h1, Option.bind_some]
        unfold fin
        simp only [Option.some.injEq]
        by_cases he : p.2 = []
        · rw [if_pos he, if_pos ⟨he, by omega, by omega⟩, he]
          simp only [Option.map_some, List.length_append, Option.some.injEq, Pr.mk.injEq, true_and, and_true]
          omega
        · rw [if_neg he, if_neg (fun h => he h.1)]; rfl
      · rw [if_neg h1, if_neg (by omega)]; rfl
theorem phard_eq (x : Rd) (r : Bs) (hi : x.s.image.length ≤ x.size) : (phard ⟨x.s, true, x.size - x.s.image.length, some r⟩).bind fin = (rdHard x r).map fun y => ⟨y.s, true, y.size - y.s.image.length, some []⟩ := by
  unfold phard rdHard
  simp only [true_and]
  have key : ∀ {A : Prop} [Decidable A] (y : Pr), y.o = none → (if A then some y else none).bind fin = none := by
    intro A _ y hy
    split
    · exact fin_none hy
    · rfl
  cases h1 : rdNum r with
  | none => rw [nN_bad h1]; exact key _ rfl
  | some t =>
    obtain ⟨e1, f1⟩ := nN_of h1
    rw [e1, f1, Option.bind_some]
    cases h2 : rdCount 5 t.2 with
    | none => rw [(nC_bad h2).1]; exact key _ rfl
    | some v =>
      obtain ⟨e2, f2⟩ := nC_of h2
      rw [e2, f2, Option.bind_some]
      cases h3 : rdNum v.2 with
      | none => rw [nN_bad h3]; exact key _ rfl
      | some l =>
        obtain ⟨e3, f3⟩ := nN_of h3
        rw [e3, f3, Option.bind_some]
        by_cases h0 : x.size - x.s.image.length = 0
        · rw [if_pos h0, Option.bind_some]
          unfold fin
          simp only [Option.some.injEq]
          by_cases he : l.2 = []
          · rw [if_pos he, if_pos ⟨he, by omega⟩, he, h0]
            simp only [Option.map_some, h0]
          · rw [if_neg he, if_neg (fun h => he h.1)]; rfl
        · rw [if_neg h0, if_neg (by omega)]; rfl
theorem pent_eq (x : Rd) (r : Bs) (hi : x.s.image.length ≤ x.size) : (pent ⟨x.s, true, x.size - x.s.image.length, some r⟩).bind fin = (rdEnt x r).map fun y => ⟨y.s, true, y.size - y.s.image.length, some []⟩ := by
  unfold pent rdEnt
  simp only [true_and]
  have key : ∀ {A : Prop} [Decidable A] {B : Prop} [Decidable B] (y : Pr), y.o = none → (if A then if B then some y else none else none).bind fin = none := by
    intro A _ B _ y hy
    split
    · split
      · exact fin_none hy
      · rfl
    · rfl
  cases h1 : rdNum r with
  | none => rw [nN_bad h1]; exact key _ rfl
  | some i =>
    obtain ⟨e1, f1⟩ := nN_of h1
    rw [e1, f1, Option.bind_some]
    cases h2 : rdNum i.2 with
    | none => rw [nN_bad h2]; exact key _ rfl
    | some t =>
      obtain ⟨e2, f2⟩ := nN_of h2
      rw [e2, f2, Option.bind_some]
      cases h3 : rdCount 3 t.2 with
      | none => rw [(nC_bad h3).1]; exact key _ rfl
      | some k =>
        obtain ⟨e3, f3⟩ := nC_of h3
        rw [e3, f3, Option.bind_some]
        cases h4 : rdText 2048 k.2 with
        | none => rw [(nT_bad h4).1]; exact key _ rfl
        | some d =>
          obtain ⟨e4, f4⟩ := nT_of h4
          rw [e4, f4, Option.bind_some]
          by_cases h0 : x.size - x.s.image.length = 0
          · rw [if_pos h0]
            by_cases hc : (x.s.base < i.1 ∧ i.1 ≤ x.s.base + 1 + x.s.l.length) ∧ May ⟨t.1, k.1, d.1⟩
            · rw [if_pos hc, Option.bind_some]
              unfold fin
              simp only [Option.some.injEq]
              by_cases he : d.2 = []
              · rw [if_pos he, if_pos ⟨he, by omega, hc.2, hc.1.1, by omega⟩, he, h0]
                simp only [Option.map_some, h0]
              · rw [if_neg he, if_neg (fun h => he h.1)]; rfl
            · rw [if_neg hc, if_neg (fun h => hc ⟨⟨h.2.2.2.1, by have := h.2.2.2.2; have := h.2.2.2.1; omega⟩, h.2.2.1⟩)]; rfl
          · rw [if_neg h0, if_neg (by omega)]; rfl
/-- What holds ahead of record i. -/
structure InvR (i : Nat) (x : Rd) : Prop where
  z : i = 0 → x.size = 0
  i : x.s.image.length ≤ x.size
def toPr (x : Rd) (based : Bool) : Pr := ⟨x.s, based, x.size - x.s.image.length, some []⟩
theorem prec_eq (i : Nat) (x : Rd) (b : Bs) (hi : InvR i x) : prec x.s (decide (0 < i)) (x.size - x.s.image.length) b = (record i x b).map fun y => toPr y true := by
  unfold prec record
  have hfin : (fun y : Pr => if y.o = some [] then some y else none) = fin := rfl
  rw [hfin]
  cases h : rdNum b with
  | none =>
    have : rdCount 4 b = none := by unfold rdCount; rw [h]; rfl
    rw [(nC_bad this).2, if_pos rfl]; rfl
  | some k =>
    rw [Option.bind_some]
    by_cases hk : k.1 ≤ 4
    · have : rdCount 4 b = some k := by unfold rdCount; rw [h, Option.bind_some, if_pos hk]
      obtain ⟨e1, f1⟩ := nC_of this
      rw [e1, f1]
      by_cases h0 : k.1 = 0
      · rw [if_pos h0, if_neg (by omega), if_neg (by omega), if_neg (by omega), if_neg (by omega)]; rfl
      rw [if_neg h0]
      unfold pform
      by_cases h1 : k.1 = 1
      · rw [if_pos h1]
        by_cases hz : i = 0
        · have hs := hi.z hz
          have hl := hi.i
          rw [if_pos ⟨h1, hz⟩, show x.size - x.s.image.length = 0 by omega, show decide (0 < i) = false by simp [hz], pbase_eq]
          cases hb : rdBase x k.2 with
          | none => rfl
          | some y =>
            have him : y.s.image = x.s.image := by
              unfold rdBase at hb
              obtain ⟨_, _, hb⟩ := Option.bind_eq_some_iff.1 hb
              obtain ⟨_, _, hb⟩ := Option.bind_eq_some_iff.1 hb
              obtain ⟨_, _, hb⟩ := Option.bind_eq_some_iff.1 hb
              obtain ⟨_, _, hb⟩ := Option.bind_eq_some_iff.1 hb
              obtain ⟨_, _, hb⟩ := Option.bind_eq_some_iff.1 hb
              split at hb
              · cases hb; rfl
              · cases hb
            simp only [Option.map_some, toPr, him, show x.s.image.length = 0 by omega, Nat.sub_zero]
        · rw [if_neg (fun h => hz h.2), if_neg (by omega), if_neg (by omega), if_neg (by omega), show decide (0 < i) = true by simp; omega]
          rfl
      rw [if_neg h1, if_neg (show ¬ (k.1 = 1 ∧ i = 0) from fun h => h1 h.1)]
      by_cases h2 : k.1 = 2
      · rw [if_pos h2]
        by_cases hz : i = 0
        · have hs := hi.z hz
          rw [if_neg (by omega), if_neg (by omega), if_neg (by omega), show x.size - x.s.image.length = 0 by omega]
          rfl
        · rw [if_pos ⟨h2, by omega⟩, show decide (0 < i) = true by simp; omega, ppiece_eq x k.2 hi.i true]; rfl
      rw [if_neg h2, if_neg (show ¬ (k.1 = 2 ∧ 0 < i) from fun h => h2 h.1)]
      by_cases h3 : k.1 = 3
      · rw [if_pos h3]
        by_cases hz : i = 0
        · rw [if_neg (by omega), if_neg (by omega), show decide (0 < i) = false by simp [hz]]
          unfold phard
          rw [if_neg (by simp)]; rfl
        · rw [if_pos ⟨h3, by omega⟩, show decide (0 < i) = true by simp; omega, phard_eq x k.2 hi.i]; rfl
      rw [if_neg h3, if_neg (show ¬ (k.1 = 3 ∧ 0 < i) from fun h => h3 h.1)]
      have h4 : k.1 = 4 := by omega
      rw [if_pos h4]
      by_cases hz : i = 0
      · rw [if_neg (by omega), show decide (0 < i) = false by simp [hz]]
        unfold pent
        rw [if_neg (by simp)]; rfl
      · rw [if_pos ⟨h4, by omega⟩, show decide (0 < i) = true by simp; omega, pent_eq x k.2 hi.i]; rfl
    · have : rdCount 4 b = none := by unfold rdCount; rw [h, Option.bind_some, if_neg hk]
      rw [(nC_bad this).2, if_pos rfl, if_neg (by omega), if_neg (by omega), if_neg (by omega), if_neg (by omega)]; rfl
end Go.Proofs.YteeeakbgofjinaaGreat.jr
/-! PackMem -/
namespace Go.Proofs.YteeeakbgofjinaaGreat.pk
open Go.RowKit

/-- Of the two worlds' blocks only block b may have changed; none came, none went. -/
structure Only (b : Nat) (w w' : World) : Prop where
  os : w'.os = w.os
  tape : w'.tape = w.tape
  output : w'.output = w.output
  size : w'.heap.size = w.heap.size
  block : ∀ k, k ≠ b → w'.heap[k]? = w.heap[k]?

theorem Only.refl (b : Nat) (w : World) : Only b w w := ⟨rfl, rfl, rfl, rfl, fun _ _ => rfl⟩
theorem Only.trans {b : Nat} {a c d : World} (h : Only b a c) (k : Only b c d) : Only b a d :=
  ⟨k.os.trans h.os, k.tape.trans h.tape, k.output.trans h.output, k.size.trans h.size, fun i hi => (k.block i hi).trans (h.block i hi)⟩
theorem Only.drewN {b : Nat} {a w : World} (h : Only b a w) (n : Nat) : Only b a (w.drewN n) := ⟨h.os, h.tape, h.output, h.size, h.block⟩
theorem Only.drew {b : Nat} {a w : World} (h : Only b a w) : Only b a w.drew := ⟨h.os, h.tape, h.output, h.size, h.block⟩
theorem Only.setCell {b : Nat} {a w : World} (h : Only b a w) (o : Nat) (v : Value) : Only b a (w.setCell ⟨b, o, none⟩ v) :=
  h.trans ⟨rfl, rfl, rfl, by simp [World.setCell], fun k hk => Below.heap_setCell _ _ _ _ hk⟩
theorem Only.below {b : Nat} {w w' : World} (h : Only b w w') {B : Nat} (hB : B ≤ b) : Below B w w' :=
  ⟨h.os, h.tape, h.output, by have := h.size; omega, fun k hk => h.block k (by omega)⟩
theorem Only.cell {b : Nat} {w w' : World} (h : Only b w w') {p : Addr} (hp : p.block ≠ b) : w'.cell? p = w.cell? p := World.cell?_of_block (w := w) (h.block p.block hp)
theorem Only.frozen {b : Nat} {w w' : World} (h : Only b w w') {p : Addr} (hp : p.block ≠ b) : w'.frozen? p = w.frozen? p := World.frozen?_of_block (w := w) (h.block p.block hp)

/-- Of the blocks that were there only block b may have changed; new ones may have come. -/
structure Touch (b : Nat) (w w' : World) : Prop where
  os : w'.os = w.os
  tape : w'.tape = w.tape
  output : w'.output = w.output
  size : w.heap.size ≤ w'.heap.size
  block : ∀ k, k < w.heap.size → k ≠ b → w'.heap[k]? = w.heap[k]?

theorem Touch.refl (b : Nat) (w : World) : Touch b w w := ⟨rfl, rfl, rfl, Nat.le_refl _, fun _ _ _ => rfl⟩
theorem Touch.trans {b : Nat} {a c d : World} (h : Touch b a c) (k : Touch b c d) : Touch b a d :=
  ⟨k.os.trans h.os, k.tape.trans h.tape, k.output.trans h.output, Nat.le_trans h.size k.size, fun i hi hb => (k.block i (Nat.lt_of_lt_of_le hi h.size) hb).trans (h.block i hi hb)⟩
theorem Only.touch {b : Nat} {w w' : World} (h : Only b w w') : Touch b w w' := ⟨h.os, h.tape, h.output, by have := h.size; omega, fun k _ hb => h.block k hb⟩
theorem Touch.of_below {b : Nat} {w w' : World} (h : Below w.heap.size w w') : Touch b w w' := ⟨h.os, h.tape, h.output, h.size, fun k hk _ => h.block k hk⟩
theorem Touch.drewN {b : Nat} {a w : World} (h : Touch b a w) (n : Nat) : Touch b a (w.drewN n) := ⟨h.os, h.tape, h.output, h.size, h.block⟩
theorem Touch.drew {b : Nat} {a w : World} (h : Touch b a w) : Touch b a w.drew := ⟨h.os, h.tape, h.output, h.size, h.block⟩
theorem Touch.setCell {b : Nat} {a w : World} (h : Touch b a w) (o : Nat) (v : Value) : Touch b a (w.setCell ⟨b, o, none⟩ v) :=
  h.trans ((Only.refl b w).setCell o v).touch
theorem Touch.below {b : Nat} {w w' : World} (h : Touch b w w') {B : Nat} (hB : B ≤ b) (hw : B ≤ w.heap.size) : Below B w w' :=
  ⟨h.os, h.tape, h.output, h.size, fun k hk => h.block k (by omega) (by omega)⟩
theorem Touch.cell {b : Nat} {w w' : World} (h : Touch b w w') {p : Addr} (hl : p.block < w.heap.size) (hp : p.block ≠ b) : w'.cell? p = w.cell? p := World.cell?_of_block (w := w) (h.block p.block hl hp)

/-- Of the blocks that were there only blocks p and q may have changed; new ones may have come. -/
structure Touch2 (p q : Nat) (w w' : World) : Prop where
  os : w'.os = w.os
  tape : w'.tape = w.tape
  output : w'.output = w.output
  size : w.heap.size ≤ w'.heap.size
  block : ∀ k, k < w.heap.size → k ≠ p → k ≠ q → w'.heap[k]? = w.heap[k]?

theorem Touch2.refl (p q : Nat) (w : World) : Touch2 p q w w := ⟨rfl, rfl, rfl, Nat.le_refl _, fun _ _ _ _ => rfl⟩
theorem Touch2.trans {p q : Nat} {a c d : World} (h : Touch2 p q a c) (k : Touch2 p q c d) : Touch2 p q a d :=
  ⟨k.os.trans h.os, k.tape.trans h.tape, k.output.trans h.output, Nat.le_trans h.size k.size, fun i hi hb hq => (k.block i (Nat.lt_of_lt_of_le hi h.size) hb hq).trans (h.block i hi hb hq)⟩
theorem Touch.two_l {p q : Nat} {w w' : World} (h : Touch p w w') : Touch2 p q w w' := ⟨h.os, h.tape, h.output, h.size, fun k hk hp _ => h.block k hk hp⟩
theorem Touch.two_r {p q : Nat} {w w' : World} (h : Touch q w w') : Touch2 p q w w' := ⟨h.os, h.tape, h.output, h.size, fun k hk _ hq => h.block k hk hq⟩
theorem Touch2.drewN {p q : Nat} {a w : World} (h : Touch2 p q a w) (n : Nat) : Touch2 p q a (w.drewN n) := ⟨h.os, h.tape, h.output, h.size, h.block⟩
theorem Touch2.drew {p q : Nat} {a w : World} (h : Touch2 p q a w) : Touch2 p q a w.drew := ⟨h.os, h.tape, h.output, h.size, h.block⟩
theorem Touch2.set_l {p q : Nat} {a w : World} (h : Touch2 p q a w) (o : Nat) (v : Value) : Touch2 p q a (w.setCell ⟨p, o, none⟩ v) := h.trans ((Touch.refl p w).setCell o v).two_l
theorem Touch2.set_r {p q : Nat} {a w : World} (h : Touch2 p q a w) (o : Nat) (v : Value) : Touch2 p q a (w.setCell ⟨q, o, none⟩ v) := h.trans ((Touch.refl q w).setCell o v).two_r
theorem Touch2.cell {p q : Nat} {w w' : World} (h : Touch2 p q w w') {x : Addr} (hl : x.block < w.heap.size) (hp : x.block ≠ p) (hq : x.block ≠ q) : w'.cell? x = w.cell? x := World.cell?_of_block (w := w) (h.block x.block hl hp hq)

/-- Block b is a reader: its text, how far, its fault. -/
def RD (w : World) (b : Nat) (s : ByteArray) (a f : Int) : Prop := w.heap[b]? = some (.cells #[.string s, .int .i64 a, .int .i64 f] 212 (0, 0))
/-- Block b is a piece: what is left, the most, the number, the text. -/
def PS (w : World) (b : Nat) (s : ByteArray) (m n : Int) (t : ByteArray) : Prop := w.heap[b]? = some (.cells #[.string s, .int .i64 m, .int .u64 n, .string t] 214 (0, 0))

theorem cell_at {w : World} {b : Nat} {cs : Array Value} {T : TypeId} (hb : w.heap[b]? = some (.cells cs T (0, 0))) (j : Nat) : w.cell? ⟨b, j, none⟩ = cs[j]? := by
  simp [World.cell?, hb]
theorem frozen_at {w : World} {b : Nat} {cs : Array Value} {T : TypeId} (hb : w.heap[b]? = some (.cells cs T (0, 0))) (j : Nat) : w.frozen? ⟨b, j, none⟩ = false := by
  simp [World.frozen?, hb]
theorem lt_of_at {w : World} {b : Nat} {o : Obj} (hb : w.heap[b]? = some o) : b < w.heap.size := by
  rcases Nat.lt_or_ge b w.heap.size with h' | h'
  · exact h'
  · simp [Array.getElem?_eq_none h'] at hb

theorem RD.cells {w : World} {b : Nat} {s : ByteArray} {a f : Int} (h : RD w b s a f) :
    w.cell? ⟨b, 0, none⟩ = some (.string s) ∧ w.cell? ⟨b, 1, none⟩ = some (.int .i64 a) ∧ w.cell? ⟨b, 2, none⟩ = some (.int .i64 f) ∧
    w.frozen? ⟨b, 0, none⟩ = false ∧ w.frozen? ⟨b, 1, none⟩ = false ∧ w.frozen? ⟨b, 2, none⟩ = false :=
  ⟨cell_at h 0, cell_at h 1, cell_at h 2, frozen_at h 0, frozen_at h 1, frozen_at h 2⟩
theorem PS.cells {w : World} {b : Nat} {s : ByteArray} {m n : Int} {t : ByteArray} (h : PS w b s m n t) :
    w.cell? ⟨b, 0, none⟩ = some (.string s) ∧ w.cell? ⟨b, 1, none⟩ = some (.int .i64 m) ∧ w.cell? ⟨b, 2, none⟩ = some (.int .u64 n) ∧ w.cell? ⟨b, 3, none⟩ = some (.string t) ∧
    w.frozen? ⟨b, 0, none⟩ = false ∧ w.frozen? ⟨b, 1, none⟩ = false ∧ w.frozen? ⟨b, 2, none⟩ = false ∧ w.frozen? ⟨b, 3, none⟩ = false :=
  ⟨cell_at h 0, cell_at h 1, cell_at h 2, cell_at h 3, frozen_at h 0, frozen_at h 1, frozen_at h 2, frozen_at h 3⟩
theorem RD.lt {w : World} {b : Nat} {s : ByteArray} {a f : Int} (h : RD w b s a f) : b < w.heap.size := lt_of_at h
theorem PS.lt {w : World} {b : Nat} {s : ByteArray} {m n : Int} {t : ByteArray} (h : PS w b s m n t) : b < w.heap.size := lt_of_at h

theorem RD.drewN {w : World} {b : Nat} {s : ByteArray} {a f : Int} (h : RD w b s a f) (q : Nat) : RD (w.drewN q) b s a f := h
theorem PS.drewN {w : World} {b : Nat} {s : ByteArray} {m n : Int} {t : ByteArray} (h : PS w b s m n t) (q : Nat) : PS (w.drewN q) b s m n t := h
theorem RD.drew {w : World} {b : Nat} {s : ByteArray} {a f : Int} (h : RD w b s a f) : RD w.drew b s a f := h
theorem PS.drew {w : World} {b : Nat} {s : ByteArray} {m n : Int} {t : ByteArray} (h : PS w b s m n t) : PS w.drew b s m n t := h

theorem RD.of_only {w w' : World} {c b : Nat} {s : ByteArray} {a f : Int} (h : RD w b s a f) (k : Only c w w') (hne : b ≠ c) : RD w' b s a f := (k.block b hne).trans h
theorem PS.of_only {w w' : World} {c b : Nat} {s : ByteArray} {m n : Int} {t : ByteArray} (h : PS w b s m n t) (k : Only c w w') (hne : b ≠ c) : PS w' b s m n t := (k.block b hne).trans h
theorem RD.of_touch {w w' : World} {c b : Nat} {s : ByteArray} {a f : Int} (h : RD w b s a f) (k : Touch c w w') (hne : b ≠ c) : RD w' b s a f := (k.block b (lt_of_at h) hne).trans h
theorem PS.of_touch {w w' : World} {c b : Nat} {s : ByteArray} {m n : Int} {t : ByteArray} (h : PS w b s m n t) (k : Touch c w w') (hne : b ≠ c) : PS w' b s m n t := (k.block b (lt_of_at h) hne).trans h
theorem RD.of_below {w w' : World} {B b : Nat} {s : ByteArray} {a f : Int} (h : RD w b s a f) (k : Below B w w') (hlt : b < B) : RD w' b s a f := (k.block b hlt).trans h
theorem PS.of_below {w w' : World} {B b : Nat} {s : ByteArray} {m n : Int} {t : ByteArray} (h : PS w b s m n t) (k : Below B w w') (hlt : b < B) : PS w' b s m n t := (k.block b hlt).trans h

theorem set_at {w : World} {b i : Nat} {cs : Array Value} {T : TypeId} (hb : w.heap[b]? = some (.cells cs T (0, 0))) (v : Value) :
    (w.setCell ⟨b, i, none⟩ v).heap[b]? = some (.cells (cs.setIfInBounds i v) T (0, 0)) := heap_setCell_same w b i cs T v hb

theorem RD.set1 {w : World} {b : Nat} {s : ByteArray} {a f : Int} (h : RD w b s a f) (x : Int) : RD (w.setCell ⟨b, 1, none⟩ (.int .i64 x)) b s x f := set_at h _
theorem RD.set2 {w : World} {b : Nat} {s : ByteArray} {a f : Int} (h : RD w b s a f) (x : Int) : RD (w.setCell ⟨b, 2, none⟩ (.int .i64 x)) b s a x := set_at h _
theorem PS.set0 {w : World} {b : Nat} {s : ByteArray} {m n : Int} {t : ByteArray} (h : PS w b s m n t) (x : ByteArray) : PS (w.setCell ⟨b, 0, none⟩ (.string x)) b x m n t := set_at h _
theorem PS.set1 {w : World} {b : Nat} {s : ByteArray} {m n : Int} {t : ByteArray} (h : PS w b s m n t) (x : Int) : PS (w.setCell ⟨b, 1, none⟩ (.int .i64 x)) b s x n t := set_at h _
theorem PS.set2 {w : World} {b : Nat} {s : ByteArray} {m n : Int} {t : ByteArray} (h : PS w b s m n t) (x : Int) : PS (w.setCell ⟨b, 2, none⟩ (.int .u64 x)) b s m x t := set_at h _
theorem PS.set3 {w : World} {b : Nat} {s : ByteArray} {m n : Int} {t : ByteArray} (h : PS w b s m n t) (x : ByteArray) : PS (w.setCell ⟨b, 3, none⟩ (.string x)) b s m n x := set_at h _
end Go.Proofs.YteeeakbgofjinaaGreat.pk
/-! PackNum -/
namespace Go.Proofs.YteeeakbgofjinaaGreat.pk
open Go.RowKit

theorem info5 : (Tryz.prog.info? 5).map (fun i => (i.zero, i.size, i.bytes)) = some (some (.int .u8 0), 1, 1) := by kernel_rfl

/-- Bytes as a string. -/
def S (l : List UInt8) : ByteArray := ⟨l.toArray⟩
theorem S_size (l : List UInt8) : (S l).size = l.length := rfl
theorem S_data (l : List UInt8) : (S l).data.toList = l := by simp [S]
theorem S_append (a b : List UInt8) : S a ++ S b = S (a ++ b) := ByteArray.mk_append_mk a b

set_option maxHeartbeats 4000000 in
set_option maxRecDepth 100000 in
theorem append_any (B n x : Nat) (hx : x < 18446744073709551616) (sv : Value) (xs : List Value) (w : World) (hown : w.ownsRow B 5 1 sv n xs) (hBw : B ≤ w.heap.size) (hlim : n + 10 ≤ 140737488355328) :
    Calls Tryz.prog 137 #[sv, .int .u64 x] w fun e w' => ∃ v', e = .returned v' ∧ w'.ownsRow B 5 1 v' (n + (Lib.uvarint x).length) (xs ++ Lib.byteCells (Lib.uvarint x)) ∧ Below B w w' := by
  obtain ⟨i0, hi, hz0, hz1, hz2⟩ := info_parts info5
  have hlen := Lib.uvarint_length64 hx
  go_enter Tryz.func137, Tryz.ntmps137
  go_wp2
  go_loopw [0, 1] (fun vb vx wr => ∃ (y : Nat) (pre : List UInt8), vx = .int .u64 y ∧ y ≤ x ∧ Lib.uvarint x = pre ++ Lib.uvarint y ∧ wr.ownsRow B 5 1 vb (n + pre.length) (xs ++ Lib.byteCells pre) ∧ Below B w wr)
    (fun _ vx _ => (intOf vx).toNat)
  case atStart => exact ⟨x, [], rfl, Nat.le_refl _, rfl, by simpa [Lib.byteCells] using hown, Below.refl _ _⟩
  case round =>
    obtain ⟨y, pre, rfl, hy, hsplit, hown1, hnx⟩ := hrel
    have hpl : pre.length + (Lib.uvarint y).length ≤ 10 := by
      have h2 := congrArg List.length hsplit
      rw [List.length_append] at h2
      omega
    have hyp := Lib.uvarint_pos y
    have HS := Lib.hid hsplit
    clear hsplit
    by_cases h128 : 128 ≤ y
    · have hor : bits .or .u8 ((y : Int) % 256) 128 = ((y % 128 + 128 : Nat) : Int) := by
        rw [Lib.u8_or128_any _ (by omega) (by omega)]
        omega
      go_wp2_with (at_builtin; refine wpList_append_own _ rfl _ _ 135 rfl B 5 i0 (.int .u8 0) 1 1 Tryz.underlying135 hi hz0 hz1 hz2 rfl (by decide) _ _ _ rfl (hown1.alloc _) ⟨wr.heap.size, 0, none⟩ 1 1 [Value.int .u8 ((y % 128 + 128 : Nat) : Int)] rfl rfl ?c1 ?c2 ?c3 ?c4 ?c5 ?_)
      case c1 =>
        intro j u hj
        match j, hj with
        | 0, hj => simp at hj; subst hj; simp [Addr.add]
      case c2 => intro u hu; simp at hu; subst hu; rfl
      case c3 => unfold maxLen; omega
      case c4 => omega
      case c5 => have := hnx.size; simp; omega
      intro v' w1 hown' hgrow _
      have hnx1 : Below B w w1 := (hnx.alloc (by have := hnx.size; omega) _).grown hgrow (by have := hnx.size; simp; omega) (fun k hk => (hown1.lt k hk).1)
      go_wp2
      go_roundw
      case rel =>
        refine ⟨y / 128, pre ++ [(y % 128 + 128).toUInt8], by go_num, by omega, by rw [HS.out, Lib.uvarint_big h128]; simp, ?_, hnx1⟩
        have ec : ((y % 128 + 128 : Nat) : Int) = (y : Int) % 128 + 128 := by omega
        rw [Lib.byteCells_snoc pre (by omega), List.length_append, List.length_singleton, ← Nat.add_assoc, ec]
        simpa using hown'
      case measure => simp [intOf]; omega
    · have hsm : Lib.uvarint y = [y.toUInt8] := Lib.uvarint_small (by omega)
      go_wp2_with (at_builtin; refine wpList_append_own _ rfl _ _ 135 rfl B 5 i0 (.int .u8 0) 1 1 Tryz.underlying135 hi hz0 hz1 hz2 rfl (by decide) _ _ _ rfl (hown1.alloc _) ⟨wr.heap.size, 0, none⟩ 1 1 [Value.int .u8 (y : Int)] rfl rfl ?c1 ?c2 ?c3 ?c4 ?c5 ?_)
      case c1 =>
        intro j u hj
        match j, hj with
        | 0, hj => simp at hj; subst hj; simp [Addr.add]
      case c2 => intro u hu; simp at hu; subst hu; rfl
      case c3 => unfold maxLen; omega
      case c4 => omega
      case c5 => have := hnx.size; simp; omega
      intro v' w1 hown' hgrow _
      have hnx1 : Below B w w1 := (hnx.alloc (by have := hnx.size; omega) _).grown hgrow (by have := hnx.size; simp; omega) (fun k hk => (hown1.lt k hk).1)
      go_wp2
      go_ret
      refine ⟨v', rfl, ?_, hnx1⟩
      rw [HS.out, hsm, Lib.byteCells_snoc pre (by omega), List.length_append, List.length_singleton, ← Nat.add_assoc]
      simpa using hown'

set_option maxRecDepth 100000 in
/-- A row of bytes that the call owns, not empty, is turned into its string. -/
theorem conv_own (w : World) (B : Nat) (v : Value) (l : List UInt8) (hl : l ≠ []) (hown : w.ownsRow B 5 1 v l.length (Lib.byteCells l)) :
    (convert 135 9 v).run Tryz.prog w = .ok (.string (S l)) w := by
  obtain ⟨_, hcase⟩ := id hown
  rcases hcase with ⟨_, h0⟩ | ⟨g, cap, cur, rfl, hg, hh, hn, hcap, hsz, htake⟩
  · exact absurd (List.length_eq_zero_iff.1 h0) hl
  · have h := run_convert_bytes_arg (P := Tryz.prog) w 135 5 Tryz.underlying135 Tryz.underlying5 g 0 l.length cap (l.map fun b => (b.toNat : Int)) (by simp) (fun i hi => by
      rw [Nat.zero_add, hown.cellAt i (by omega)]
      simp [Lib.byteCells, List.getElem?_eq_getElem hi]) 9 Tryz.underlying9
    rw [h]
    congr 2
    apply ByteArray.ext
    apply Array.toList_inj.1
    rw [strOfNums_data, List.map_map, S_data]
    conv => rhs; rw [← List.map_id l]
    apply List.map_congr_left
    intro x _
    simp

set_option maxRecDepth 100000 in
theorem num_any (x : Nat) (hx : x < 18446744073709551616) (w : World) :
    Calls Tryz.prog 114 #[.int .u64 x] w fun e w' => e = .returned (.string (S (Lib.uvarint x))) ∧ Below w.heap.size w w' := by
  go_enter Tryz.func114, Tryz.ntmps114
  go_wp2_with fail
  refine (append_any w.heap.size 0 x hx _ [] w (World.ownsRow_nil _ _ _ _) (Nat.le_refl _) (by omega)).mono ?_
  rintro e w1 ⟨v', rfl, hown, hb⟩
  rw [Nat.zero_add, List.nil_append] at hown
  have hcv := conv_own w1 _ v' _ (fun h => by have := Lib.uvarint_pos x; rw [h] at this; simp at this) hown
  clear hown
  go_wp2
  go_ret
  exact ⟨rfl, hb⟩

set_option maxRecDepth 100000 in
theorem text_any (s : List UInt8) (hs : s.length ≤ 281474976710656) (w : World) :
    Calls Tryz.prog 159 #[.string (S s)] w fun e w' => e = .returned (.string (S (Lib.uvarint s.length ++ s))) ∧ Below w.heap.size w w' := by
  have hlen := Lib.uvarint_length64 (x := s.length) (by omega)
  have hS := S_size s
  have hS2 := S_size (Lib.uvarint s.length)
  go_enter Tryz.func159, Tryz.ntmps159
  go_wp2_with fail
  refine (num_any s.length (by omega) _).mono ?_
  rintro e w1 ⟨rfl, hb⟩
  go_wp2
  go_ret
  exact ⟨by rw [S_append]; rfl, hb⟩
end Go.Proofs.YteeeakbgofjinaaGreat.pk
/-! PackNumber -/
namespace Go.Proofs.YteeeakbgofjinaaGreat.pk
open Go.RowKit

theorem hid_of {p : Prop} (h : p) : Hid p := h

theorem tail_eq (s : ByteArray) (k : Nat) : (⟨((s.data.toList.drop k).take (s.size - k)).toArray⟩ : ByteArray) = S (s.data.toList.drop k) := by
  rw [List.take_of_length_le (by rw [List.length_drop, ← Lib.size_eq]; omega)]
  rfl

/-- What a number's read leaves: the fault; the piece; if there was no fault, its number and what is left. Nothing else was written. -/
def NumPost (b : Nat) (m : Int) (t : ByteArray) (D : Nat × Nat × List UInt8) (w : World) (e : Ending) (w' : World) : Prop :=
  ∃ lft n, e = .returned (.int .i64 D.1) ∧ PS w' b lft m n t ∧ (D.1 = 0 → n = D.2.1 ∧ lft = S D.2.2) ∧ Only b w w'

set_option maxHeartbeats 4000000 in
set_option maxRecDepth 100000 in
theorem number_any (b : Nat) (s : ByteArray) (m : Int) (t : ByteArray) (w : World) (hP : PS w b s m 0 t) (hs : s.size ≤ 9223372036854775807) :
    Calls Tryz.prog 154 #[.pointer (some ⟨b, 0, none⟩)] w (NumPost b m t (dec 0 0 s.data.toList) w) := by
  go_enter Tryz.func154, Tryz.ntmps154
  go_wp2
  go_loopw [3] (fun i wr => ∃ k acc : Nat, i = .int .i64 k ∧ k ≤ s.size ∧ k ≤ 9 ∧ acc < 2 ^ (7 * k) ∧ PS wr b s m acc t ∧ dec 0 0 s.data.toList = dec k acc (s.data.toList.drop k) ∧ Only b w wr)
    (fun i _ => s.size - (intOf i).toNat)
  case atStart => exact ⟨0, 0, rfl, by omega, by omega, by simp, hP, rfl, Only.refl _ _⟩
  case round =>
    obtain ⟨k, acc, rfl, hk, hk9, hacc, hP1, hd, ho⟩ := hrel
    have HD := Lib.hid hd
    clear hd
    have HA := Lib.hid hacc
    clear hacc
    obtain ⟨c0, c1, c2, c3, f0, f1, f2, f3⟩ := hP1.cells
    by_cases hlt : k < s.size
    · obtain ⟨c, hc⟩ : ∃ c, s[k] = c := ⟨_, rfl⟩
      have hdrop : Hid (s.data.toList.drop k = c :: s.data.toList.drop (k + 1)) := by
        rw [List.drop_eq_getElem_cons (by simpa using hlt)]
        congr 1
      have hc256 : c.toNat < 256 := c.toNat_lt
      by_cases k9 : k = 9
      · obtain rfl : k = 9 := k9
        clear hk9 hk
        by_cases hA : 1 < c.toNat
        · have hv : Hid (dec 0 0 s.data.toList = (4, 0, [])) := hid_of (by rw [HD.out, hdrop.out]; simp [dec, hA])
          go_wp2
          go_ret
          exact ⟨_, _, by rw [hv.out]; rfl, hP1, by rw [hv.out]; simp, ho⟩
        · by_cases hB : c.toNat = 0
          · have hv : Hid (dec 0 0 s.data.toList = (4, 0, [])) := hid_of (by rw [HD.out, hdrop.out]; simp [dec, hB])
            have hB1 := Lib.hid hB
            have hz : ((c.toNat : Int) == 0) = true := by simp; omega
            clear hB
            go_wp2
            go_ret
            exact ⟨_, _, by rw [hv.out]; rfl, hP1, by rw [hv.out]; simp, ho⟩
          · have hz : ((c.toNat : Int) == 0) = false := by simp; omega
            have hc1 : c.toNat ≤ 1 := by omega
            have h1c : 1 ≤ c.toNat := by omega
            have hv : Hid (dec 0 0 s.data.toList = (0, acc + c.toNat * 2 ^ (7 * 9), s.data.toList.drop (9 + 1))) := hid_of (by rw [HD.out, hdrop.out]; simp [dec, hA, hB]; omega)
            clear hA hB
            go_wp2
            go_region
            all_goals go_wp2
            all_goals go_ret
            all_goals exact ⟨_, _, by rw [hv.out]; rfl, ((hP1.set2 _).set0 _).drew, fun _ => ⟨by rw [hv.out]; exact word_nine acc c.toNat HA.out hc1, by rw [hv.out, Lib.extract_eq]; exact tail_eq s 10⟩, ((ho.setCell 2 _).setCell 0 _).drew⟩
      · have hk8 : k ≤ 8 := by omega
        by_cases hB : 0 < k ∧ c.toNat = 0
        · have hv : Hid (dec 0 0 s.data.toList = (4, 0, [])) := hid_of (by rw [HD.out, hdrop.out]; simp [dec, k9, hB])
          have hz : ((c.toNat : Int) == 0) = true := by simp; omega
          have hk1 : 1 ≤ k := by omega
          clear hB k9
          go_wp2
          go_ret
          exact ⟨_, _, by rw [hv.out]; rfl, hP1, by rw [hv.out]; simp, ho⟩
        · have hB1 := Lib.hid hB
          have hW := Lib.hid (word_far k acc c.toNat (by omega) HA.out hc256 (fun e => by omega))
          by_cases hC : c.toNat < 128
          · have hv : Hid (dec 0 0 s.data.toList = (0, acc + c.toNat * 2 ^ (7 * k), s.data.toList.drop (k + 1))) := hid_of (by rw [HD.out, hdrop.out]; simp [dec, k9, hB, hC])
            have hW2 := Lib.hid ((word_far k acc c.toNat (by omega) HA.out hc256 (fun e => by omega)).1.trans (by rw [Nat.mod_eq_of_lt hC]))
            clear hB k9
            by_cases h0 : 0 < k
            · have hz : ((c.toNat : Int) == 0) = false := by have := hB1.out; simp; omega
              go_wp2
              go_region
              all_goals go_wp2
              all_goals go_ret
              all_goals exact ⟨_, _, by rw [hv.out]; rfl, ((hP1.set2 _).set0 _).drew, fun _ => ⟨by rw [hv.out]; exact hW2.out, by rw [hv.out, Lib.extract_eq]; exact tail_eq s (k + 1)⟩, ((ho.setCell 2 _).setCell 0 _).drew⟩
            · obtain rfl : k = 0 := by omega
              go_wp2
              go_region
              all_goals go_wp2
              all_goals go_ret
              all_goals exact ⟨_, _, by rw [hv.out]; rfl, ((hP1.set2 _).set0 _).drew, fun _ => ⟨by rw [hv.out]; exact word_zero acc c.toNat HA.out hC, by rw [hv.out, Lib.extract_eq]; exact tail_eq s 1⟩, ((ho.setCell 2 _).setCell 0 _).drew⟩
          · have hv : Hid (dec 0 0 s.data.toList = dec (k + 1) (acc + c.toNat % 128 * 2 ^ (7 * k)) (s.data.toList.drop (k + 1))) := hid_of (by rw [HD.out, hdrop.out]; simp [dec, k9, hC]; omega)
            have hz : ((c.toNat : Int) == 0) = false := by simp; omega
            clear hB k9
            go_wp2
            all_goals go_region
            all_goals go_wp2
            all_goals go_roundw
            case rel => exact ⟨k + 1, acc + c.toNat % 128 * 2 ^ (7 * k), by go_num, by omega, by omega, hW.out.2, by rw [hW.out.1]; exact (hP1.set2 _).drew, hv.out, (ho.setCell 2 _).drew⟩
            case measure => simp [intOf]; omega
            case rel => exact ⟨k + 1, acc + c.toNat % 128 * 2 ^ (7 * k), by go_num, by omega, by omega, hW.out.2, by rw [hW.out.1]; exact (hP1.set2 _).drew, hv.out, (ho.setCell 2 _).drew⟩
            case measure => simp [intOf]; omega
    · have hv : Hid (dec 0 0 s.data.toList = (3, 0, [])) := by rw [HD.out, List.drop_eq_nil_of_le (by simp; omega)]; rfl
      go_wp2
      go_ret
      exact ⟨_, _, by rw [hv.out]; rfl, hP1, by rw [hv.out]; simp, ho⟩
end Go.Proofs.YteeeakbgofjinaaGreat.pk
/-! PackBound -/
namespace Go.Proofs.YteeeakbgofjinaaGreat.pk
open Go.RowKit

set_option maxHeartbeats 4000000 in
set_option maxRecDepth 100000 in
theorem bound_ok (b : Nat) (s : ByteArray) (m : Int) (n : Nat) (t : ByteArray) (w : World) (hP : PS w b s m n t) (hm1 : m ≤ 9223372036854775807) (hn : (n : Int) ≤ max m 0) :
    Calls Tryz.prog 155 #[.pointer (some ⟨b, 0, none⟩)] w fun e w' => e = .returned (.int .i64 0) ∧ w' = w.drew := by
  obtain ⟨c0, c1, c2, c3, f0, f1, f2, f3⟩ := hP.cells
  by_cases hm : 0 ≤ m
  · have hn1 : (n : Int) ≤ m := by omega
    clear hn
    go_enter Tryz.func155, Tryz.ntmps155
    go_wp2
    go_region
    all_goals go_wp2
    all_goals go_ret
    all_goals exact ⟨rfl, rfl⟩
  · have hm0 : m < 0 := by omega
    have hn1 : n ≤ 0 := by omega
    clear hn hm
    go_enter Tryz.func155, Tryz.ntmps155
    go_wp2
    go_region
    all_goals go_wp2
    all_goals go_ret
    all_goals exact ⟨rfl, rfl⟩

set_option maxHeartbeats 4000000 in
set_option maxRecDepth 100000 in
theorem bound_long (b : Nat) (s : ByteArray) (m : Int) (n : Nat) (t : ByteArray) (w : World) (hP : PS w b s m n t) (hm1 : m ≤ 9223372036854775807) (hn : max m 0 < (n : Int)) :
    Calls Tryz.prog 155 #[.pointer (some ⟨b, 0, none⟩)] w fun e w' => e = .returned (.int .i64 2) ∧ w' = w.drew := by
  obtain ⟨c0, c1, c2, c3, f0, f1, f2, f3⟩ := hP.cells
  by_cases hm : 0 ≤ m
  · have hn1 : m < (n : Int) := by omega
    clear hn
    go_enter Tryz.func155, Tryz.ntmps155
    go_wp2
    go_region
    all_goals go_wp2
    all_goals go_ret
    all_goals exact ⟨rfl, rfl⟩
  · have hm0 : m < 0 := by omega
    have hn1 : 0 < n := by omega
    clear hn hm
    go_enter Tryz.func155, Tryz.ntmps155
    go_wp2
    go_region
    all_goals go_wp2
    all_goals go_ret
    all_goals exact ⟨rfl, rfl⟩
end Go.Proofs.YteeeakbgofjinaaGreat.pk
/-! Shelf -/
namespace Go.Proofs
open Go.Shelf
def Tryz.lays170_ren : Go.Shelf.Ren := ⟨fun | 170 => 113 | n => n, fun | 70 => 134 | 3 => 3 | 0 => 0 | 72 => 137 | 37 => 135 | 5 => 5 | n => n, fun | n => n⟩
theorem Tryz.lays170 : Go.Proofs.Lays.n170 Tryz.prog Tryz.lays170_ren := {
  mixed := by kernel_rfl
  f170 := Tryz.func113.trans (congrArg some (by kernel_rfl))
  t0 := Tryz.underlying0
  a0 := Tryz.isAgg0
  z0 := Tryz.sizeOf0
  v0 := Tryz.zeroValue0
  t3 := Tryz.underlying3
  a3 := Tryz.isAgg3
  z3 := Tryz.sizeOf3
  v3 := Tryz.zeroValue3
  t37 := Tryz.underlying135
  a37 := Tryz.isAgg135
  z37 := Tryz.sizeOf135
  v37 := Tryz.zeroValue135
  t70 := Tryz.underlying134
  a70 := Tryz.isAgg134
  z70 := Tryz.sizeOf134
  v70 := Tryz.zeroValue134
  t72 := Tryz.underlying137
  a72 := Tryz.isAgg137
  z72 := Tryz.sizeOf137
  v72 := Tryz.zeroValue137 }
open Go.RowKit in
/-- (*strings.Builder).Len: "Len returns the number of accumulated bytes; b.Len() == len(b.String()).": the world is as it was. (LAID: no walk: one application.) -/
theorem Tryz.Builder_Len (B b : Nat) (bs : List Value) (w : World) (h : Lib.IsBuilder 137 5 B b bs w) :
    Calls Tryz.prog 113 #[.pointer (some ⟨b, 0, none⟩)] w fun e w' => e = .returned (.int .i64 bs.length) ∧ w' = w := Any.Builder_Len Tryz.lays170 B b bs w h
def Tryz.lays169_ren : Go.Shelf.Ren := ⟨fun | 169 => 83 | n => n, fun | 70 => 134 | 9 => 9 | 0 => 0 | 72 => 137 | 37 => 135 | 127 => 185 | 3 => 3 | 5 => 5 | n => n, fun | n => n⟩
theorem Tryz.lays169 : Go.Proofs.Lays.n169 Tryz.prog Tryz.lays169_ren := {
  mixed := by kernel_rfl
  f169 := Tryz.func83.trans (congrArg some (by kernel_rfl))
  t0 := Tryz.underlying0
  a0 := Tryz.isAgg0
  z0 := Tryz.sizeOf0
  v0 := Tryz.zeroValue0
  t3 := Tryz.underlying3
  a3 := Tryz.isAgg3
  z3 := Tryz.sizeOf3
  v3 := Tryz.zeroValue3
  t9 := Tryz.underlying9
  a9 := Tryz.isAgg9
  z9 := Tryz.sizeOf9
  v9 := Tryz.zeroValue9
  t37 := Tryz.underlying135
  a37 := Tryz.isAgg135
  z37 := Tryz.sizeOf135
  v37 := Tryz.zeroValue135
  t70 := Tryz.underlying134
  a70 := Tryz.isAgg134
  z70 := Tryz.sizeOf134
  v70 := Tryz.zeroValue134
  t72 := Tryz.underlying137
  a72 := Tryz.isAgg137
  z72 := Tryz.sizeOf137
  v72 := Tryz.zeroValue137
  t127 := Tryz.underlying185
  a127 := Tryz.isAgg185
  z127 := Tryz.sizeOf185
  v127 := Tryz.zeroValue185 }
theorem Tryz.Builder_Extra_169 : Builder.Extra Tryz.prog Tryz.lays169_ren := {
  sizeBuilder := by kernel_rfl
  liesBuilder := by kernel_rfl
  t5 := Tryz.underlying5
  a5 := Tryz.isAgg5
  z5 := Tryz.sizeOf5
  v5 := Tryz.zeroValue5
  infoByte := by kernel_rfl
  cellsByte := by kernel_rfl
  sizeByte := by kernel_rfl
  neB5 := by decide }
open Go.RowKit in
/-- (*strings.Builder).String: "String returns the accumulated string.": OF A BUILDER THAT HOLDS AT LEAST ONE BYTE. ✋ THE MODEL FREEZES THOSE BYTES IN THE BUFFER (unsafe.String): a later write INTO them ends the model's run without an answer; a later append BEHIND them goes on. The statement's order of evaluation is drawn: one draw. (LAID: no walk: one application.) -/
theorem Tryz.Builder_String (B b : Nat) (l : List UInt8) (w : World) (h : Lib.IsBuilder 137 5 B b (Lib.byteCells l) w) (h0 : l ≠ []) :
    Calls Tryz.prog 83 #[.pointer (some ⟨b, 0, none⟩)] w fun e w' => e = .returned (.string ⟨l.toArray⟩) ∧ Below B w w' := Any.Builder_String Tryz.lays169 Tryz.Builder_Extra_169 B b l w h h0
open Go.RowKit in
/-- (*strings.Builder).String OF A BUILDER THAT HOLDS NO BYTE: the empty string. (Its buffer is nil, or a row of which it has taken nothing yet; where that row has NO capacity the model lays one new block for unsafe.SliceData's 'some address'.) One draw. (LAID: no walk: one application.) -/
theorem Tryz.Builder_String_empty (B b : Nat) (w : World) (h : Lib.IsBuilder 137 5 B b [] w) (hBw : B ≤ w.heap.size) :
    Calls Tryz.prog 83 #[.pointer (some ⟨b, 0, none⟩)] w fun e w' => e = .returned (.string ⟨#[]⟩) ∧ Below B w w' := Any.Builder_String_empty Tryz.lays169 Tryz.Builder_Extra_169 B b w h hBw
open Go.RowKit in
/-- (*strings.Builder).String: "String returns the accumulated string.": WHATEVER THE BUILDER HOLDS. (LAID: no walk: one application.) -/
theorem Tryz.Builder_String_any (B b : Nat) (l : List UInt8) (w : World) (h : Lib.IsBuilder 137 5 B b (Lib.byteCells l) w) (hBw : B ≤ w.heap.size) :
    Calls Tryz.prog 83 #[.pointer (some ⟨b, 0, none⟩)] w fun e w' => e = .returned (.string ⟨l.toArray⟩) ∧ Below B w w' := Any.Builder_String_any Tryz.lays169 Tryz.Builder_Extra_169 B b l w h hBw
def Tryz.laysM316_ren : Go.Shelf.Ren := ⟨fun | 316 => 98 | n => n, fun | 9 => 9 | 3 => 3 | 4 => 4 | 37 => 135 | 0 => 0 | 127 => 185 | 5 => 5 | n => n, fun | n => n⟩
theorem Tryz.laysM316 : Go.Proofs.LaysM.n316 Tryz.prog Tryz.laysM316_ren := {
  mixed := by kernel_rfl
  f316 := Tryz.func98.trans (congrArg some (by kernel_rfl))
  t0 := Tryz.underlying0
  a0 := Tryz.isAgg0
  z0 := Tryz.sizeOf0
  v0 := Tryz.zeroValue0
  t3 := Tryz.underlying3
  a3 := Tryz.isAgg3
  z3 := Tryz.sizeOf3
  v3 := Tryz.zeroValue3
  t4 := Tryz.underlying4
  a4 := Tryz.isAgg4
  z4 := Tryz.sizeOf4
  v4 := Tryz.zeroValue4
  t9 := Tryz.underlying9
  a9 := Tryz.isAgg9
  z9 := Tryz.sizeOf9
  v9 := Tryz.zeroValue9
  t37 := Tryz.underlying135
  a37 := Tryz.isAgg135
  z37 := Tryz.sizeOf135
  v37 := Tryz.zeroValue135
  t127 := Tryz.underlying185
  a127 := Tryz.isAgg185
  z127 := Tryz.sizeOf185
  v127 := Tryz.zeroValue185
  t5 := Tryz.underlying5
  a5 := Tryz.isAgg5
  z5 := Tryz.sizeOf5
  v5 := Tryz.zeroValue5
  i0 := by kernel_rfl
  i3 := by kernel_rfl
  i4 := by kernel_rfl
  i5 := by kernel_rfl
  i9 := by kernel_rfl
  i37 := by kernel_rfl
  i127 := by kernel_rfl }
open Go.RowKit in
/-- internal/stringslite.Clone (what strings.Clone calls): "Clone returns a fresh copy of s.": THE SAME BYTES. Of what was there nothing has turned (a new row is laid, and frozen, where s is not empty). (LAID: no walk: one application.) -/
theorem Tryz.stringslite_Clone (s : ByteArray) (w : World) (hlim : s.size ≤ 281474976710656) :
    Calls Tryz.prog 98 #[.string s] w fun e w' => e = .returned (.string s) ∧ Below w.heap.size w w' := Any.stringslite_Clone Tryz.laysM316 s w hlim
def Tryz.laysNm215_ren : Go.Shelf.Ren := ⟨fun | 15 => 104 | n => n, fun | 22 => 42 | 3 => 3 | 4 => 4 | n => n, fun | n => n⟩
theorem Tryz.laysNm215 : Go.Proofs.Lays2.n15 Tryz.prog Tryz.laysNm215_ren := {
  mixed := by kernel_rfl
  f15 := Tryz.func104.trans (congrArg some (by kernel_rfl))
  t3 := Tryz.underlying3
  a3 := Tryz.isAgg3
  z3 := Tryz.sizeOf3
  v3 := Tryz.zeroValue3
  t4 := Tryz.underlying4
  a4 := Tryz.isAgg4
  z4 := Tryz.sizeOf4
  v4 := Tryz.zeroValue4
  t22 := Tryz.underlying42
  a22 := Tryz.isAgg42
  z22 := Tryz.sizeOf42
  v22 := Tryz.zeroValue42
  i3 := by kernel_rfl }
open Go.RowKit Go.Lib in
/-- slices.Clone at []int: "Clone returns a copy of the slice. The elements are copied using assignment, so this is a shallow clone. The result may have additional unused capacity. The result preserves the nilness of s.": OF A SLICE THAT IS NOT nil IT RETURNS A SLICE THAT IS NOT nil, OF THE SAME ELEMENTS, IN MEMORY OF THE CALL's OWN: in the how-to's words (6f): 'w'.ownsRow B e 1 v' n cells': v' begins at the head of a row among the blocks from B on (B: the heap's size at the call), not frozen, whose first cells are the elements · 'Below B w w'': below B all is as it was. The capacity is whatever the run-time gives. 'zs': what the cells behind the slice's address hold; 'zs.take n': its elements. (LAID: no walk: one application.) -/
theorem Tryz.slices_Clone_int (b off n c : Nat) (zs : List Int) (w : World) (hz : n ≤ zs.length) (hbig : n * 8 ≤ 140737488355328) (hc : ∀ j, j < zs.length → w.cell? ⟨b, off + j, none⟩ = some (.int .i64 (zs.getD j 0))) :
    Calls Tryz.prog 104 #[.slice (some ⟨b, off, none⟩) n c] w fun e w' => ∃ v', e = .returned v' ∧ w'.ownsRow w.heap.size 3 1 v' n ((zs.take n).map (Value.int .i64)) ∧ v' ≠ .slice none 0 0 ∧ Below w.heap.size w w' := Any.slices_Clone_int Tryz.laysNm215 b off n c zs w hz hbig hc
open Go.RowKit Go.Lib in
/-- The same at nil: nil comes back; the world is as it was. (LAID: no walk: one application.) -/
theorem Tryz.slices_Clone_int_nil (n c : Nat) (w : World) :
    Calls Tryz.prog 104 #[.slice none n c] w fun e w' => e = .returned (.slice none 0 0) ∧ w' = w := Any.slices_Clone_int_nil Tryz.laysNm215 n c w
open Go.RowKit Go.Lib in
/-- The same at a slice of length 0 that is not nil, WHATEVER ITS ADDRESS (no cell is asked for): a slice that is not nil and owns nothing comes back. (LAID: no walk: one application.) -/
theorem Tryz.slices_Clone_int_zero (a : Addr) (c : Nat) (w : World) :
    Calls Tryz.prog 104 #[.slice (some a) 0 c] w fun e w' => ∃ v', e = .returned v' ∧ w'.ownsRow w.heap.size 3 1 v' 0 [] ∧ v' ≠ .slice none 0 0 ∧ Below w.heap.size w w' := Any.slices_Clone_int_zero Tryz.laysNm215 a c w
end Go.Proofs
/-! PackClone -/
namespace Go.Proofs.YteeeakbgofjinaaGreat.pk
open Go.RowKit

set_option maxRecDepth 100000 in
theorem clone_any (s : ByteArray) (w : World) (hlim : s.size ≤ 281474976710656) :
    Calls Tryz.prog 60 #[.string s] w fun e w' => e = .returned (.string s) ∧ Below w.heap.size w w' := by
  go_enter Tryz.func60, Tryz.ntmps60
  go_wp2_with fail
  refine (Tryz.stringslite_Clone s w hlim).mono ?_
  rintro e w1 ⟨rfl, hb⟩
  go_wp2
  go_ret
  exact ⟨rfl, hb⟩
end Go.Proofs.YteeeakbgofjinaaGreat.pk
/-! PackBytes -/
namespace Go.Proofs.YteeeakbgofjinaaGreat.pk
open Go.RowKit

set_option maxHeartbeats 4000000 in
set_option maxRecDepth 100000 in
theorem bytes_short (b : Nat) (s : ByteArray) (m : Int) (n : Nat) (t : ByteArray) (w : World) (hP : PS w b s m n t) (hs : s.size ≤ 9223372036854775807) (hn : s.size < n) :
    Calls Tryz.prog 163 #[.pointer (some ⟨b, 0, none⟩)] w fun e w' => ∃ q, e = .returned (.int .i64 3) ∧ w' = w.drewN q := by
  obtain ⟨c0, c1, c2, c3, f0, f1, f2, f3⟩ := hP.cells
  go_enter Tryz.func163, Tryz.ntmps163
  go_wp2
  go_quiet (fail)
  go_wp2
  go_ret
  exact ⟨_, rfl, rfl⟩

set_option maxHeartbeats 4000000 in
set_option maxRecDepth 100000 in
theorem bytes_ok (b : Nat) (s : ByteArray) (m : Int) (n : Nat) (t : ByteArray) (w : World) (hP : PS w b s m n t) (hs : s.size ≤ 281474976710656) (hn : n ≤ s.size) :
    Calls Tryz.prog 163 #[.pointer (some ⟨b, 0, none⟩)] w fun e w' => e = .returned (.int .i64 0) ∧ PS w' b (s.extract n s.size) m n (s.extract 0 n) ∧ Touch b w w' := by
  obtain ⟨c0, c1, c2, c3, f0, f1, f2, f3⟩ := hP.cells
  have hx : (s.extract 0 n).size ≤ 281474976710656 := by simp; omega
  go_enter Tryz.func163, Tryz.ntmps163
  go_wp2
  go_quiet (fail)
  go_wp2
  have ho : Only b w (w.drewN nq) := (Only.refl b w).drewN nq
  have hP2 := hP.drewN nq
  generalize w.drewN nq = w2 at *
  clear c0 c1 c2 c3 f0 f1 f2 f3 hP
  obtain ⟨c0, c1, c2, c3, f0, f1, f2, f3⟩ := hP2.cells
  have hlt2 := hP2.lt
  go_region_held3 (fun w' => w'.cell? ⟨b, 0, none⟩ = some (.string s) ∧ w'.cell? ⟨b, 2, none⟩ = some (.int .u64 n))
    (first
      | go_keep
      | (refine ⟨?_, ?_⟩
         · (rw [World.cell?_setCell_other _ _ _ _ (by simp)]; rw [hb4.cell (by simpa using hlt2)]; simpa using c0)
         · (rw [World.cell?_setCell_other _ _ _ _ (by simp)]; rw [hb4.cell (by simpa using hlt2)]; simpa using c2))
      | (refine ⟨?_, ?_⟩
         · (rw [hb4.cell (by simpa using hlt2)]; simpa using c0)
         · (rw [hb4.cell (by simpa using hlt2)]; simpa using c2)))
    ((go_at_call 60; refine (clone_any _ _ hx).mono ?_; rintro e w4 ⟨rfl, hb4⟩; have d3 : w4.cell? ⟨b, 3, none⟩ = some (.string t) := (by rw [hb4.cell (by simpa using hlt2)]; simpa using c3); have e3 : w4.frozen? ⟨b, 3, none⟩ = false := (by rw [hb4.frozen (by simpa using hlt2)]; simpa using f3)))
  have hP4 : PS w4 b s m n t := hP2.drew.of_below hb4 (by simpa using hlt2)
  have hbl : Touch b w w4 := ho.drew.touch.trans (Touch.of_below hb4)
  clear d3 e3 hb4
  go_wp2_with fail
  have hP5 := hP4.set3 (s.extract 0 n)
  have hbl5 : Touch b w (w4.setCell ⟨b, 3, none⟩ (.string (s.extract 0 n))) := hbl.setCell 3 _
  generalize w4.setCell ⟨b, 3, none⟩ (.string (s.extract 0 n)) = w5 at *
  clear c0 c1 c2 c3 f0 f1 f2 f3 hP4 hbl
  obtain ⟨c0, c1, c2, c3, f0, f1, f2, f3⟩ := hP5.cells
  go_region
  all_goals go_wp2
  all_goals go_ret
  all_goals exact ⟨rfl, (hP5.set0 _).drew, (hbl5.setCell 0 _).drew⟩
end Go.Proofs.YteeeakbgofjinaaGreat.pk
/-! PackReadW -/
namespace Go.Proofs.YteeeakbgofjinaaGreat.pk
open Go.RowKit
set_option linter.unusedVariables false

set_option maxHeartbeats 4000000 in
set_option maxRecDepth 100000 in
theorem read_nil (pb : Nat) (v : Value) (w : World) :
    Calls Tryz.prog 153 #[.pointer none, .pointer (some ⟨pb, 0, none⟩), v] w fun e w' => e = .returned (.tuple #[]) ∧ w' = w := by
  go_enter Tryz.func153, Tryz.ntmps153
  go_wp2
  exact bodyPost_ret (results_none rfl _ _ _) rfl ⟨rfl, rfl⟩

set_option maxHeartbeats 4000000 in
set_option maxRecDepth 100000 in
theorem read_faulty (rb pb : Nat) (s : ByteArray) (a f : Int) (hf : (f == 0) = false) (v : Value) (w : World) (hR : RD w rb s a f) :
    Calls Tryz.prog 153 #[.pointer (some ⟨rb, 0, none⟩), .pointer (some ⟨pb, 0, none⟩), v] w fun e w' => e = .returned (.tuple #[]) ∧ w' = w := by
  obtain ⟨c0, c1, c2, f0, f1, f2⟩ := hR.cells
  have hf2 : (f != 0) = true := by simpa using hf
  go_enter Tryz.func153, Tryz.ntmps153
  go_wp2
  exact bodyPost_ret (results_none rfl _ _ _) rfl ⟨rfl, rfl⟩

/-- The reader's fault is laid, the piece made empty. -/
theorem spoilt {rb pb : Nat} (hrp : rb ≠ pb) {s lft t : ByteArray} {a f m n : Int} {w : World} (hR : RD w rb s a f) (hP : PS w pb lft m n t) (E : Int) :
    RD (((((w.setCell ⟨rb, 2, none⟩ (.int .i64 E)).setCell ⟨pb, 0, none⟩ (.string ⟨#[]⟩)).setCell ⟨pb, 1, none⟩ (.int .i64 0)).setCell ⟨pb, 2, none⟩ (.int .u64 0)).setCell ⟨pb, 3, none⟩ (.string ⟨#[]⟩)) rb s a E ∧
    PS (((((w.setCell ⟨rb, 2, none⟩ (.int .i64 E)).setCell ⟨pb, 0, none⟩ (.string ⟨#[]⟩)).setCell ⟨pb, 1, none⟩ (.int .i64 0)).setCell ⟨pb, 2, none⟩ (.int .u64 0)).setCell ⟨pb, 3, none⟩ (.string ⟨#[]⟩)) pb ⟨#[]⟩ 0 0 ⟨#[]⟩ ∧
    Touch2 rb pb w (((((w.setCell ⟨rb, 2, none⟩ (.int .i64 E)).setCell ⟨pb, 0, none⟩ (.string ⟨#[]⟩)).setCell ⟨pb, 1, none⟩ (.int .i64 0)).setCell ⟨pb, 2, none⟩ (.int .u64 0)).setCell ⟨pb, 3, none⟩ (.string ⟨#[]⟩)) := by
  have o1 : Only rb w (w.setCell ⟨rb, 2, none⟩ (.int .i64 E)) := (Only.refl rb w).setCell 2 _
  have h1 := hR.set2 E
  have hP1 := hP.of_only o1 (Ne.symm hrp)
  refine ⟨h1.of_only (((((Only.refl pb _).setCell 0 _).setCell 1 _).setCell 2 _).setCell 3 _) hrp, (((hP1.set0 _).set1 _).set2 _).set3 _, ?_⟩
  exact (((((Touch2.refl rb pb w).set_l 2 _).set_r 0 _).set_r 1 _).set_r 2 _).set_r 3 _

/-- The reader has moved on. -/
theorem advanced {rb pb : Nat} (hrp : rb ≠ pb) {s lft t : ByteArray} {a f m n : Int} {w : World} (hR : RD w rb s a f) (hP : PS w pb lft m n t) (x y : Int) (hxy : x = y) :
    RD (w.setCell ⟨rb, 1, none⟩ (.int .i64 x)).drew rb s y f ∧ PS (w.setCell ⟨rb, 1, none⟩ (.int .i64 x)).drew pb lft m n t ∧ Touch2 rb pb w (w.setCell ⟨rb, 1, none⟩ (.int .i64 x)).drew := by
  subst hxy
  exact ⟨(hR.set1 x).drew, (hP.of_only ((Only.refl rb w).setCell 1 _) (Ne.symm hrp)).drew, ((Touch2.refl rb pb w).set_l 1 _).drew⟩

set_option maxHeartbeats 4000000 in
set_option maxRecDepth 100000 in
theorem read_bad1 (rb pb sb n cap : Nat) (hn : 1 ≤ n) (hrp : rb ≠ pb) (hsp : sb ≠ pb) (hsr : sb ≠ rb) (s : ByteArray) (hs : s.size ≤ 281474976710656) (a : Nat) (ha : a ≤ s.size) (m : Int) (hm : m ≤ 9223372036854775807) (w : World)
    (hR : RD w rb s a 0) (hP : PS w pb ⟨#[]⟩ m 0 ⟨#[]⟩) (hsl : sb < w.heap.size) (hS0 : w.cell? ⟨sb, 0, none⟩ = some (.func (.func 154) #[.pointer (some ⟨pb, 0, none⟩)] #[]))
    (D : Nat × Nat × List UInt8) (hD : dec 0 0 (s.extract a s.size).data.toList = D) (hbad : D.1 ≠ 0) :
    Calls Tryz.prog 153 #[.pointer (some ⟨rb, 0, none⟩), .pointer (some ⟨pb, 0, none⟩), .slice (some ⟨sb, 0, none⟩) n cap] w fun e w' => e = .returned (.tuple #[]) ∧ RD w' rb s a D.1 ∧ PS w' pb ⟨#[]⟩ 0 0 ⟨#[]⟩ ∧ Touch2 rb pb w w' := by
  obtain ⟨c0, c1, c2, f0, f1, f2⟩ := hR.cells
  obtain ⟨d0, d1, d2, d3, e0, e1, e2, e3⟩ := hP.cells
  have hx : (s.extract a s.size).size ≤ 9223372036854775807 := by simp; omega
  go_enter Tryz.func153, Tryz.ntmps153
  go_wp2
  go_region
  all_goals go_wp2_with fail
  have o1 : Only pb w (w.setCell ⟨pb, 0, none⟩ (.string (s.extract a s.size))).drew := ((Only.refl pb w).setCell 0 _).drew
  have hP1 := (hP.set0 (s.extract a s.size)).drew
  have hR1 := hR.of_only o1 hrp
  have t1 : Touch2 rb pb w _ := o1.touch.two_r
  have k0 := (o1.cell (p := ⟨sb, 0, none⟩) hsp).trans hS0
  have hl1 : sb < (w.setCell ⟨pb, 0, none⟩ (.string (s.extract a s.size))).drew.heap.size := by have := o1.size; omega
  generalize (w.setCell ⟨pb, 0, none⟩ (.string (s.extract a s.size))).drew = w1 at *
  clear c0 c1 c2 f0 f1 f2 d0 d1 d2 d3 e0 e1 e2 e3 o1 hS0
  have hN := number_any pb _ m ⟨#[]⟩ w1 hP1 hx
  have hbz : (((D.1 : Nat) : Int) != 0) = true := by simp; omega
  rw [hD] at hN
  clear hD
  refine wp_loop_rounds 1 ?_
  rw [rounds_succ]
  go_wp2_with fail
  refine hN.mono ?_
  rintro e w2 ⟨lft, nn, rfl, hP2, _, o2⟩
  have hR2 := hR1.of_only o2 hrp
  have t2 := t1.trans o2.touch.two_r
  clear hP1 hR1 t1 o2 hN k0
  obtain ⟨c0, c1, c2, f0, f1, f2⟩ := hR2.cells
  obtain ⟨d0, d1, d2, d3, e0, e1, e2, e3⟩ := hP2.cells
  go_wp2
  obtain ⟨q1, q2, q3⟩ := spoilt hrp hR2 hP2 D.1
  exact bodyPost_ret (results_none rfl _ _ _) rfl ⟨rfl, q1, q2, t2.trans q3⟩

set_option maxHeartbeats 4000000 in
set_option maxRecDepth 100000 in
theorem read_ok1 (rb pb sb cap : Nat) (hrp : rb ≠ pb) (hsp : sb ≠ pb) (hsr : sb ≠ rb) (s : ByteArray) (hs : s.size ≤ 281474976710656) (a : Nat) (ha : a ≤ s.size) (m : Int) (hm : m ≤ 9223372036854775807) (w : World)
    (hR : RD w rb s a 0) (hP : PS w pb ⟨#[]⟩ m 0 ⟨#[]⟩) (hsl : sb < w.heap.size) (hS0 : w.cell? ⟨sb, 0, none⟩ = some (.func (.func 154) #[.pointer (some ⟨pb, 0, none⟩)] #[]))
    (v : Nat) (r : List UInt8) (hD : dec 0 0 (s.extract a s.size).data.toList = (0, v, r)) (hr : r.length ≤ s.size) :
    Calls Tryz.prog 153 #[.pointer (some ⟨rb, 0, none⟩), .pointer (some ⟨pb, 0, none⟩), .slice (some ⟨sb, 0, none⟩) 1 cap] w fun e w' => e = .returned (.tuple #[]) ∧ RD w' rb s (s.size - r.length : Nat) 0 ∧ PS w' pb (S r) m v ⟨#[]⟩ ∧ Touch2 rb pb w w' := by
  obtain ⟨c0, c1, c2, f0, f1, f2⟩ := hR.cells
  obtain ⟨d0, d1, d2, d3, e0, e1, e2, e3⟩ := hP.cells
  have hx : (s.extract a s.size).size ≤ 9223372036854775807 := by simp; omega
  go_enter Tryz.func153, Tryz.ntmps153
  go_wp2
  go_region
  all_goals go_wp2_with fail
  have o1 : Only pb w (w.setCell ⟨pb, 0, none⟩ (.string (s.extract a s.size))).drew := ((Only.refl pb w).setCell 0 _).drew
  have hP1 := (hP.set0 (s.extract a s.size)).drew
  have hR1 := hR.of_only o1 hrp
  have t1 : Touch2 rb pb w _ := o1.touch.two_r
  have k0 := (o1.cell (p := ⟨sb, 0, none⟩) hsp).trans hS0
  have hl1 : sb < (w.setCell ⟨pb, 0, none⟩ (.string (s.extract a s.size))).drew.heap.size := by have := o1.size; omega
  generalize (w.setCell ⟨pb, 0, none⟩ (.string (s.extract a s.size))).drew = w1 at *
  clear c0 c1 c2 f0 f1 f2 d0 d1 d2 d3 e0 e1 e2 e3 o1 hS0
  have hN := number_any pb _ m ⟨#[]⟩ w1 hP1 hx
  have hrs : (S r).size ≤ s.size := by rw [S_size]; exact hr
  have hend : ((s.size : Int) - ((S r).size : Int)) = ((s.size - r.length : Nat) : Int) := by rw [S_size]; omega
  have hend1 := Lib.hid hend
  clear hend
  rw [hD] at hN
  clear hD
  refine wp_loop_rounds 2 ?_
  rw [rounds_succ]
  go_wp2_with fail
  refine hN.mono ?_
  rintro e w2 ⟨lft, nn, rfl, hP2, hv, o2⟩
  obtain ⟨rfl, rfl⟩ := hv rfl
  have hR2 := hR1.of_only o2 hrp
  have t2 := t1.trans o2.touch.two_r
  have hl2 : sb < w2.heap.size := by have := o2.size; omega
  clear hP1 hR1 t1 o2 hN hv hl1 k0
  obtain ⟨c0, c1, c2, f0, f1, f2⟩ := hR2.cells
  obtain ⟨d0, d1, d2, d3, e0, e1, e2, e3⟩ := hP2.cells
  go_wp2_with fail
  rw [rounds_succ]
  go_wp2_with fail
  go_region
  all_goals go_wp2
  have hend := hend1.out
  obtain ⟨q1, q2, q3⟩ := advanced hrp hR2 hP2 _ _ hend
  exact bodyPost_end (results_none rfl _ _ _) rfl ⟨rfl, q1, q2, t2.trans q3⟩

set_option maxHeartbeats 4000000 in
set_option maxRecDepth 100000 in
theorem read_bad2 (rb pb sb n cap : Nat) (hn : 2 ≤ n) (hrp : rb ≠ pb) (hsp : sb ≠ pb) (hsr : sb ≠ rb) (s : ByteArray) (hs : s.size ≤ 281474976710656) (a : Nat) (ha : a ≤ s.size) (m : Int) (hm : m ≤ 9223372036854775807) (w : World)
    (hR : RD w rb s a 0) (hP : PS w pb ⟨#[]⟩ m 0 ⟨#[]⟩) (hsl : sb < w.heap.size) (hS0 : w.cell? ⟨sb, 0, none⟩ = some (.func (.func 154) #[.pointer (some ⟨pb, 0, none⟩)] #[])) (hS1 : w.cell? ⟨sb, 1, none⟩ = some (.func (.func 155) #[.pointer (some ⟨pb, 0, none⟩)] #[]))
    (v : Nat) (r : List UInt8) (hD : dec 0 0 (s.extract a s.size).data.toList = (0, v, r)) (hlong : max m 0 < (v : Int)) :
    Calls Tryz.prog 153 #[.pointer (some ⟨rb, 0, none⟩), .pointer (some ⟨pb, 0, none⟩), .slice (some ⟨sb, 0, none⟩) n cap] w fun e w' => e = .returned (.tuple #[]) ∧ RD w' rb s a 2 ∧ PS w' pb ⟨#[]⟩ 0 0 ⟨#[]⟩ ∧ Touch2 rb pb w w' := by
  obtain ⟨c0, c1, c2, f0, f1, f2⟩ := hR.cells
  obtain ⟨d0, d1, d2, d3, e0, e1, e2, e3⟩ := hP.cells
  have hx : (s.extract a s.size).size ≤ 9223372036854775807 := by simp; omega
  go_enter Tryz.func153, Tryz.ntmps153
  go_wp2
  go_region
  all_goals go_wp2_with fail
  have o1 : Only pb w (w.setCell ⟨pb, 0, none⟩ (.string (s.extract a s.size))).drew := ((Only.refl pb w).setCell 0 _).drew
  have hP1 := (hP.set0 (s.extract a s.size)).drew
  have hR1 := hR.of_only o1 hrp
  have t1 : Touch2 rb pb w _ := o1.touch.two_r
  have k0 := (o1.cell (p := ⟨sb, 0, none⟩) hsp).trans hS0
  have k1 := (o1.cell (p := ⟨sb, 1, none⟩) hsp).trans hS1
  have hl1 : sb < (w.setCell ⟨pb, 0, none⟩ (.string (s.extract a s.size))).drew.heap.size := by have := o1.size; omega
  generalize (w.setCell ⟨pb, 0, none⟩ (.string (s.extract a s.size))).drew = w1 at *
  clear c0 c1 c2 f0 f1 f2 d0 d1 d2 d3 e0 e1 e2 e3 o1 hS0 hS1
  have hN := number_any pb _ m ⟨#[]⟩ w1 hP1 hx
  rw [hD] at hN
  clear hD
  refine wp_loop_rounds 2 ?_
  rw [rounds_succ]
  go_wp2_with fail
  refine hN.mono ?_
  rintro e w2 ⟨lft, nn, rfl, hP2, hv, o2⟩
  obtain ⟨rfl, rfl⟩ := hv rfl
  have hR2 := hR1.of_only o2 hrp
  have t2 := t1.trans o2.touch.two_r
  have g1 := (o2.cell (p := ⟨sb, 1, none⟩) hsp).trans k1
  have hl2 : sb < w2.heap.size := by have := o2.size; omega
  clear hP1 hR1 t1 o2 hN hv hl1 k0 k1
  obtain ⟨c0, c1, c2, f0, f1, f2⟩ := hR2.cells
  obtain ⟨d0, d1, d2, d3, e0, e1, e2, e3⟩ := hP2.cells
  go_wp2_with fail
  rw [rounds_succ]
  go_wp2_with fail
  refine (bound_long pb _ m v ⟨#[]⟩ w2 hP2 hm hlong).mono ?_
  rintro e w3 ⟨rfl, rfl⟩
  have hR3 := hR2.drew
  have hP3 := hP2.drew
  have t3 := t2.drew
  go_wp2
  obtain ⟨q1, q2, q3⟩ := spoilt hrp hR3 hP3 2
  exact bodyPost_ret (results_none rfl _ _ _) rfl ⟨rfl, q1, q2, t3.trans q3⟩

set_option maxHeartbeats 4000000 in
set_option maxRecDepth 100000 in
theorem read_ok2 (rb pb sb cap : Nat) (hrp : rb ≠ pb) (hsp : sb ≠ pb) (hsr : sb ≠ rb) (s : ByteArray) (hs : s.size ≤ 281474976710656) (a : Nat) (ha : a ≤ s.size) (m : Int) (hm : m ≤ 9223372036854775807) (w : World)
    (hR : RD w rb s a 0) (hP : PS w pb ⟨#[]⟩ m 0 ⟨#[]⟩) (hsl : sb < w.heap.size) (hS0 : w.cell? ⟨sb, 0, none⟩ = some (.func (.func 154) #[.pointer (some ⟨pb, 0, none⟩)] #[])) (hS1 : w.cell? ⟨sb, 1, none⟩ = some (.func (.func 155) #[.pointer (some ⟨pb, 0, none⟩)] #[]))
    (v : Nat) (r : List UInt8) (hD : dec 0 0 (s.extract a s.size).data.toList = (0, v, r)) (hr : r.length ≤ s.size) (hfit : (v : Int) ≤ max m 0) :
    Calls Tryz.prog 153 #[.pointer (some ⟨rb, 0, none⟩), .pointer (some ⟨pb, 0, none⟩), .slice (some ⟨sb, 0, none⟩) 2 cap] w fun e w' => e = .returned (.tuple #[]) ∧ RD w' rb s (s.size - r.length : Nat) 0 ∧ PS w' pb (S r) m v ⟨#[]⟩ ∧ Touch2 rb pb w w' := by
  obtain ⟨c0, c1, c2, f0, f1, f2⟩ := hR.cells
  obtain ⟨d0, d1, d2, d3, e0, e1, e2, e3⟩ := hP.cells
  have hx : (s.extract a s.size).size ≤ 9223372036854775807 := by simp; omega
  go_enter Tryz.func153, Tryz.ntmps153
  go_wp2
  go_region
  all_goals go_wp2_with fail
  have o1 : Only pb w (w.setCell ⟨pb, 0, none⟩ (.string (s.extract a s.size))).drew := ((Only.refl pb w).setCell 0 _).drew
  have hP1 := (hP.set0 (s.extract a s.size)).drew
  have hR1 := hR.of_only o1 hrp
  have t1 : Touch2 rb pb w _ := o1.touch.two_r
  have k0 := (o1.cell (p := ⟨sb, 0, none⟩) hsp).trans hS0
  have k1 := (o1.cell (p := ⟨sb, 1, none⟩) hsp).trans hS1
  have hl1 : sb < (w.setCell ⟨pb, 0, none⟩ (.string (s.extract a s.size))).drew.heap.size := by have := o1.size; omega
  generalize (w.setCell ⟨pb, 0, none⟩ (.string (s.extract a s.size))).drew = w1 at *
  clear c0 c1 c2 f0 f1 f2 d0 d1 d2 d3 e0 e1 e2 e3 o1 hS0 hS1
  have hN := number_any pb _ m ⟨#[]⟩ w1 hP1 hx
  have hrs : (S r).size ≤ s.size := by rw [S_size]; exact hr
  have hend : ((s.size : Int) - ((S r).size : Int)) = ((s.size - r.length : Nat) : Int) := by rw [S_size]; omega
  have hend1 := Lib.hid hend
  clear hend
  rw [hD] at hN
  clear hD
  refine wp_loop_rounds 3 ?_
  rw [rounds_succ]
  go_wp2_with fail
  refine hN.mono ?_
  rintro e w2 ⟨lft, nn, rfl, hP2, hv, o2⟩
  obtain ⟨rfl, rfl⟩ := hv rfl
  have hR2 := hR1.of_only o2 hrp
  have t2 := t1.trans o2.touch.two_r
  have g1 := (o2.cell (p := ⟨sb, 1, none⟩) hsp).trans k1
  have hl2 : sb < w2.heap.size := by have := o2.size; omega
  clear hP1 hR1 t1 o2 hN hv hl1 k0 k1
  obtain ⟨c0, c1, c2, f0, f1, f2⟩ := hR2.cells
  obtain ⟨d0, d1, d2, d3, e0, e1, e2, e3⟩ := hP2.cells
  go_wp2_with fail
  rw [rounds_succ]
  go_wp2_with fail
  refine (bound_ok pb _ m v ⟨#[]⟩ w2 hP2 hm hfit).mono ?_
  rintro e w3 ⟨rfl, rfl⟩
  have hR3 := hR2.drew
  have hP3 := hP2.drew
  have t3 := t2.drew
  have hl3 : sb < w2.drew.heap.size := hl2
  generalize w2.drew = w3 at *
  clear hP2 hR2 t2 hl2 g1
  clear c0 c1 c2 f0 f1 f2 d0 d1 d2 d3 e0 e1 e2 e3
  obtain ⟨c0, c1, c2, f0, f1, f2⟩ := hR3.cells
  obtain ⟨d0, d1, d2, d3, e0, e1, e2, e3⟩ := hP3.cells
  go_wp2_with fail
  rw [rounds_succ]
  go_wp2_with fail
  go_region
  all_goals go_wp2
  have hend := hend1.out
  obtain ⟨q1, q2, q3⟩ := advanced hrp hR3 hP3 _ _ hend
  exact bodyPost_end (results_none rfl _ _ _) rfl ⟨rfl, q1, q2, t3.trans q3⟩

set_option maxHeartbeats 4000000 in
set_option maxRecDepth 100000 in
theorem read_bad3 (rb pb sb cap : Nat) (hrp : rb ≠ pb) (hsp : sb ≠ pb) (hsr : sb ≠ rb) (s : ByteArray) (hs : s.size ≤ 281474976710656) (a : Nat) (ha : a ≤ s.size) (m : Int) (hm : m ≤ 9223372036854775807) (w : World)
    (hR : RD w rb s a 0) (hP : PS w pb ⟨#[]⟩ m 0 ⟨#[]⟩) (hsl : sb < w.heap.size) (hS0 : w.cell? ⟨sb, 0, none⟩ = some (.func (.func 154) #[.pointer (some ⟨pb, 0, none⟩)] #[])) (hS1 : w.cell? ⟨sb, 1, none⟩ = some (.func (.func 155) #[.pointer (some ⟨pb, 0, none⟩)] #[])) (hS2 : w.cell? ⟨sb, 2, none⟩ = some (.func (.func 163) #[.pointer (some ⟨pb, 0, none⟩)] #[]))
    (v : Nat) (r : List UInt8) (hD : dec 0 0 (s.extract a s.size).data.toList = (0, v, r)) (hr : r.length ≤ s.size) (hfit : (v : Int) ≤ max m 0) (hshort : r.length < v) :
    Calls Tryz.prog 153 #[.pointer (some ⟨rb, 0, none⟩), .pointer (some ⟨pb, 0, none⟩), .slice (some ⟨sb, 0, none⟩) 3 cap] w fun e w' => e = .returned (.tuple #[]) ∧ RD w' rb s a 3 ∧ PS w' pb ⟨#[]⟩ 0 0 ⟨#[]⟩ ∧ Touch2 rb pb w w' := by
  obtain ⟨c0, c1, c2, f0, f1, f2⟩ := hR.cells
  obtain ⟨d0, d1, d2, d3, e0, e1, e2, e3⟩ := hP.cells
  have hx : (s.extract a s.size).size ≤ 9223372036854775807 := by simp; omega
  go_enter Tryz.func153, Tryz.ntmps153
  go_wp2
  go_region
  all_goals go_wp2_with fail
  have o1 : Only pb w (w.setCell ⟨pb, 0, none⟩ (.string (s.extract a s.size))).drew := ((Only.refl pb w).setCell 0 _).drew
  have hP1 := (hP.set0 (s.extract a s.size)).drew
  have hR1 := hR.of_only o1 hrp
  have t1 : Touch2 rb pb w _ := o1.touch.two_r
  have k0 := (o1.cell (p := ⟨sb, 0, none⟩) hsp).trans hS0
  have k1 := (o1.cell (p := ⟨sb, 1, none⟩) hsp).trans hS1
  have k2 := (o1.cell (p := ⟨sb, 2, none⟩) hsp).trans hS2
  have hl1 : sb < (w.setCell ⟨pb, 0, none⟩ (.string (s.extract a s.size))).drew.heap.size := by have := o1.size; omega
  generalize (w.setCell ⟨pb, 0, none⟩ (.string (s.extract a s.size))).drew = w1 at *
  clear c0 c1 c2 f0 f1 f2 d0 d1 d2 d3 e0 e1 e2 e3 o1 hS0 hS1 hS2
  have hN := number_any pb _ m ⟨#[]⟩ w1 hP1 hx
  rw [hD] at hN
  clear hD
  refine wp_loop_rounds 3 ?_
  rw [rounds_succ]
  go_wp2_with fail
  refine hN.mono ?_
  rintro e w2 ⟨lft, nn, rfl, hP2, hv, o2⟩
  obtain ⟨rfl, rfl⟩ := hv rfl
  have hR2 := hR1.of_only o2 hrp
  have t2 := t1.trans o2.touch.two_r
  have g1 := (o2.cell (p := ⟨sb, 1, none⟩) hsp).trans k1
  have g2 := (o2.cell (p := ⟨sb, 2, none⟩) hsp).trans k2
  have hl2 : sb < w2.heap.size := by have := o2.size; omega
  clear hP1 hR1 t1 o2 hN hv hl1 k0 k1 k2
  obtain ⟨c0, c1, c2, f0, f1, f2⟩ := hR2.cells
  obtain ⟨d0, d1, d2, d3, e0, e1, e2, e3⟩ := hP2.cells
  go_wp2_with fail
  rw [rounds_succ]
  go_wp2_with fail
  refine (bound_ok pb _ m v ⟨#[]⟩ w2 hP2 hm hfit).mono ?_
  rintro e w3 ⟨rfl, rfl⟩
  have hR3 := hR2.drew
  have hP3 := hP2.drew
  have t3 := t2.drew
  have hl3 : sb < w2.drew.heap.size := hl2
  have j2 : w2.drew.cell? ⟨sb, 2, none⟩ = _ := g2
  generalize w2.drew = w3 at *
  clear hP2 hR2 t2 hl2 g1 g2
  clear c0 c1 c2 f0 f1 f2 d0 d1 d2 d3 e0 e1 e2 e3
  obtain ⟨c0, c1, c2, f0, f1, f2⟩ := hR3.cells
  obtain ⟨d0, d1, d2, d3, e0, e1, e2, e3⟩ := hP3.cells
  go_wp2_with fail
  rw [rounds_succ]
  go_wp2_with fail
  refine (bytes_short pb _ m v ⟨#[]⟩ w3 hP3 (by rw [S_size]; omega) (by rw [S_size]; exact hshort)).mono ?_
  rintro e w4 ⟨q, rfl, rfl⟩
  have hR4 := hR3.drewN q
  have hP4 := hP3.drewN q
  have t4 := t3.drewN q
  go_wp2
  obtain ⟨q1, q2, q3⟩ := spoilt hrp hR4 hP4 3
  exact bodyPost_ret (results_none rfl _ _ _) rfl ⟨rfl, q1, q2, t4.trans q3⟩

set_option maxHeartbeats 4000000 in
set_option maxRecDepth 100000 in
theorem read_ok3 (rb pb sb cap : Nat) (hrp : rb ≠ pb) (hsp : sb ≠ pb) (hsr : sb ≠ rb) (s : ByteArray) (hs : s.size ≤ 281474976710656) (a : Nat) (ha : a ≤ s.size) (m : Int) (hm : m ≤ 9223372036854775807) (w : World)
    (hR : RD w rb s a 0) (hP : PS w pb ⟨#[]⟩ m 0 ⟨#[]⟩) (hsl : sb < w.heap.size) (hS0 : w.cell? ⟨sb, 0, none⟩ = some (.func (.func 154) #[.pointer (some ⟨pb, 0, none⟩)] #[])) (hS1 : w.cell? ⟨sb, 1, none⟩ = some (.func (.func 155) #[.pointer (some ⟨pb, 0, none⟩)] #[])) (hS2 : w.cell? ⟨sb, 2, none⟩ = some (.func (.func 163) #[.pointer (some ⟨pb, 0, none⟩)] #[]))
    (v : Nat) (r : List UInt8) (hD : dec 0 0 (s.extract a s.size).data.toList = (0, v, r)) (hr : r.length ≤ s.size) (hfit : (v : Int) ≤ max m 0) (hlong : v ≤ r.length) :
    Calls Tryz.prog 153 #[.pointer (some ⟨rb, 0, none⟩), .pointer (some ⟨pb, 0, none⟩), .slice (some ⟨sb, 0, none⟩) 3 cap] w fun e w' => e = .returned (.tuple #[]) ∧ RD w' rb s (s.size - (r.length - v) : Nat) 0 ∧ PS w' pb ((S r).extract v (S r).size) m v ((S r).extract 0 v) ∧ Touch2 rb pb w w' := by
  obtain ⟨c0, c1, c2, f0, f1, f2⟩ := hR.cells
  obtain ⟨d0, d1, d2, d3, e0, e1, e2, e3⟩ := hP.cells
  have hx : (s.extract a s.size).size ≤ 9223372036854775807 := by simp; omega
  go_enter Tryz.func153, Tryz.ntmps153
  go_wp2
  go_region
  all_goals go_wp2_with fail
  have o1 : Only pb w (w.setCell ⟨pb, 0, none⟩ (.string (s.extract a s.size))).drew := ((Only.refl pb w).setCell 0 _).drew
  have hP1 := (hP.set0 (s.extract a s.size)).drew
  have hR1 := hR.of_only o1 hrp
  have t1 : Touch2 rb pb w _ := o1.touch.two_r
  have k0 := (o1.cell (p := ⟨sb, 0, none⟩) hsp).trans hS0
  have k1 := (o1.cell (p := ⟨sb, 1, none⟩) hsp).trans hS1
  have k2 := (o1.cell (p := ⟨sb, 2, none⟩) hsp).trans hS2
  have hl1 : sb < (w.setCell ⟨pb, 0, none⟩ (.string (s.extract a s.size))).drew.heap.size := by have := o1.size; omega
  generalize (w.setCell ⟨pb, 0, none⟩ (.string (s.extract a s.size))).drew = w1 at *
  clear c0 c1 c2 f0 f1 f2 d0 d1 d2 d3 e0 e1 e2 e3 o1 hS0 hS1 hS2
  have hN := number_any pb _ m ⟨#[]⟩ w1 hP1 hx
  have hrs : (S r).size - v ≤ s.size := by simp [S_size]; omega
  have hend : ((s.size : Int) - (((S r).size - v : Nat) : Int)) = ((s.size - (r.length - v) : Nat) : Int) := by simp [S_size]; omega
  have hend1 := Lib.hid hend
  clear hend
  rw [hD] at hN
  clear hD
  refine wp_loop_rounds 4 ?_
  rw [rounds_succ]
  go_wp2_with fail
  refine hN.mono ?_
  rintro e w2 ⟨lft, nn, rfl, hP2, hv, o2⟩
  obtain ⟨rfl, rfl⟩ := hv rfl
  have hR2 := hR1.of_only o2 hrp
  have t2 := t1.trans o2.touch.two_r
  have g1 := (o2.cell (p := ⟨sb, 1, none⟩) hsp).trans k1
  have g2 := (o2.cell (p := ⟨sb, 2, none⟩) hsp).trans k2
  have hl2 : sb < w2.heap.size := by have := o2.size; omega
  clear hP1 hR1 t1 o2 hN hv hl1 k0 k1 k2
  obtain ⟨c0, c1, c2, f0, f1, f2⟩ := hR2.cells
  obtain ⟨d0, d1, d2, d3, e0, e1, e2, e3⟩ := hP2.cells
  go_wp2_with fail
  rw [rounds_succ]
  go_wp2_with fail
  refine (bound_ok pb _ m v ⟨#[]⟩ w2 hP2 hm hfit).mono ?_
  rintro e w3 ⟨rfl, rfl⟩
  have hR3 := hR2.drew
  have hP3 := hP2.drew
  have t3 := t2.drew
  have hl3 : sb < w2.drew.heap.size := hl2
  have j2 : w2.drew.cell? ⟨sb, 2, none⟩ = _ := g2
  generalize w2.drew = w3 at *
  clear hP2 hR2 t2 hl2 g1 g2
  clear c0 c1 c2 f0 f1 f2 d0 d1 d2 d3 e0 e1 e2 e3
  obtain ⟨c0, c1, c2, f0, f1, f2⟩ := hR3.cells
  obtain ⟨d0, d1, d2, d3, e0, e1, e2, e3⟩ := hP3.cells
  go_wp2_with fail
  rw [rounds_succ]
  go_wp2_with fail
  refine (bytes_ok pb _ m v ⟨#[]⟩ w3 hP3 (by rw [S_size]; omega) (by rw [S_size]; exact hlong)).mono ?_
  rintro e w4 ⟨rfl, hP4, tt⟩
  have hR4 := hR3.of_touch tt hrp
  have t4 := t3.trans tt.two_r
  clear c0 c1 c2 f0 f1 f2 d0 d1 d2 d3 e0 e1 e2 e3 hP3 hR3 t3 tt
  obtain ⟨c0, c1, c2, f0, f1, f2⟩ := hR4.cells
  obtain ⟨d0, d1, d2, d3, e0, e1, e2, e3⟩ := hP4.cells
  go_wp2_with fail
  rw [rounds_succ]
  go_wp2_with fail
  go_region
  all_goals go_wp2
  have hend := hend1.out
  obtain ⟨q1, q2, q3⟩ := advanced hrp hR4 hP4 _ _ hend
  exact bodyPost_end (results_none rfl _ _ _) rfl ⟨rfl, q1, q2, t4.trans q3⟩

end Go.Proofs.YteeeakbgofjinaaGreat.pk
