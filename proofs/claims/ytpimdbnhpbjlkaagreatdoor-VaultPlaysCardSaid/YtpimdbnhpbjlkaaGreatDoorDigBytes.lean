/-
  What the program's appendWord, ending, strings.Clone answer.
-/
import Derived.Test.YtpimdbnhpbjlkaaGreatDoorShelf
import Derived.Test.YtpimdbnhpbjlkaaGreatDoorDigPad
import Derived.Test.YtpimdbnhpbjlkaaGreatDoorDigHex
import Derived.Lib.VarintMem
import Derived.Lib.Varint
import Derived.Lib.BufferWrite
import Derived.Laws.BytesArg
namespace Go.Proofs.YtpimdbnhpbjlkaaGreatDoor.dg
open Go.RowKit

theorem infoU8 : (Tryz.prog.info? 5).map (fun i => (i.zero, i.size, i.bytes)) = some (some (.int .u8 0), 1, 1) := by kernel_rfl

set_option maxRecDepth 100000 in
theorem clone_any (s : ByteArray) (w : World) (hlim : s.size ≤ 281474976710656) :
    Calls Tryz.prog 57 #[.string s] w fun e w' => e = .returned (.string s) ∧ Below w.heap.size w w' := by
  go_enter Tryz.func57, Tryz.ntmps57
  go_wp2_with fail
  refine (Tryz.stringslite_Clone s w hlim).mono ?_
  rintro e w1 ⟨rfl, hb⟩
  go_wp2
  go_ret
  exact ⟨rfl, hb⟩

set_option maxRecDepth 100000 in
/-- A row of bytes that the call owns, not empty, is turned into its string. -/
theorem conv_own (w : World) (B : Nat) (v : Value) (l : List UInt8) (hl : l ≠ []) (hown : w.ownsRow B 5 1 v l.length (Lib.byteCells l)) :
    (convert 81 9 v).run Tryz.prog w = .ok (.string (S l)) w := by
  obtain ⟨_, hcase⟩ := id hown
  rcases hcase with ⟨_, h0⟩ | ⟨g, cap, cur, rfl, hg, hh, hn, hcap, hsz, htake⟩
  · exact absurd (List.length_eq_zero_iff.1 h0) hl
  · have h := run_convert_bytes_arg (P := Tryz.prog) w 81 5 Tryz.underlying81 Tryz.underlying5 g 0 l.length cap (l.map fun b => (b.toNat : Int)) (by simp) (fun i hi => by
      rw [Nat.zero_add, hown.cellAt i (by omega)]
      simp [Lib.byteCells, List.getElem?_eq_getElem hi]) 9 Tryz.underlying9
    rw [h]
    congr 2
    apply ByteArray.ext
    apply Array.toList_inj.1
    rw [strOfNums_data, List.map_map, S_data]
    conv => rhs; rw [← List.map_id l]
    apply List.map_congr_left
    intro x _
    simp

theorem cells_word {x : Nat} (hx : x < 4294967296) : Lib.byteCells (wbytes x) = [.int .u8 ((x : Int) / 16777216), .int .u8 ((x : Int) / 65536 % 256), .int .u8 ((x : Int) / 256 % 256), .int .u8 ((x : Int) % 256)] := by
  have h : x / 16777216 % 256 = x / 16777216 := by omega
  simp [Lib.byteCells, wbytes, UInt8.toNat_ofNat', h]

set_option maxHeartbeats 4000000 in
set_option maxRecDepth 100000 in
theorem word4_any (B x : Nat) (hx : x < 4294967296) (sv : Value) (l : List UInt8) (w : World) (hown : w.ownsRow B 5 1 sv l.length (Lib.byteCells l)) (hBw : B ≤ w.heap.size) (hlim : l.length + 4 ≤ 140737488355328) :
    Calls Tryz.prog 79 #[sv, .int .u32 x] w fun e w' => ∃ v', e = .returned v' ∧ w'.ownsRow B 5 1 v' (l ++ wbytes x).length (Lib.byteCells (l ++ wbytes x)) ∧ Below B w w' := by
  obtain ⟨i0, hi, hz0, hz1, hz2⟩ := info_parts infoU8
  go_enter Tryz.func79, Tryz.ntmps79
  go_wp2_with (at_builtin; refine wpList_append_own _ rfl _ _ 81 rfl B 5 i0 (.int .u8 0) 1 1 Tryz.underlying81 hi hz0 hz1 hz2 rfl (by decide) _ _ _ rfl (hown.alloc _) ⟨w.heap.size, 0, none⟩ 4 4 (Lib.byteCells (wbytes x)) rfl (by rw [cells_word hx]; rfl) ?c1 ?c2 ?c3 ?c4 ?c5 ?_)
  case c1 =>
    intro j u hj
    rw [cells_word hx] at hj
    match j, hj with
    | 0, hj => simp at hj; subst hj; simp [Addr.add]
    | 1, hj => simp at hj; subst hj; simp [Addr.add]
    | 2, hj => simp at hj; subst hj; simp [Addr.add]
    | 3, hj => simp at hj; subst hj; simp [Addr.add]
  case c2 =>
    intro u hu
    rw [cells_word hx] at hu
    simp at hu
    rcases hu with rfl | rfl | rfl | rfl <;> rfl
  case c3 => unfold maxLen; omega
  case c4 => omega
  case c5 => simp; omega
  intro v' w1 hown' hgrow _
  have hb : Below B w w1 := ((Below.refl _ w).alloc hBw _).grown hgrow (by simp; omega) (fun k hk => (hown.lt k hk).1)
  go_wp2
  go_ret
  refine ⟨v', rfl, ?_, hb⟩
  rw [List.length_append, Lib.byteCells_append]
  exact hown'

def lenV : Value → Nat | .slice _ n _ => n | _ => 0
theorem u8_eq {a b : Nat} (h : a % 256 = b % 256) : UInt8.ofNat a = UInt8.ofNat b := by
  apply UInt8.toNat_inj.1
  rw [UInt8.toNat_ofNat', UInt8.toNat_ofNat']
  exact h
theorem be_words {x : Nat} : wbytes (x / 4294967296) ++ wbytes (x % 4294967296) = bes x 8 := by
  show [_, _, _, _, _, _, _, _] = [be x 0, be x 1, be x 2, be x 3, be x 4, be x 5, be x 6, be x 7]
  have h0 : UInt8.ofNat (x / 4294967296 / 16777216) = be x 0 := u8_eq (by show _ = x / 2 ^ 56 % 256; omega)
  have h1 : UInt8.ofNat (x / 4294967296 / 65536) = be x 1 := u8_eq (by show _ = x / 2 ^ 48 % 256; omega)
  have h2 : UInt8.ofNat (x / 4294967296 / 256) = be x 2 := u8_eq (by show _ = x / 2 ^ 40 % 256; omega)
  have h3 : UInt8.ofNat (x / 4294967296) = be x 3 := u8_eq (by show _ = x / 2 ^ 32 % 256; omega)
  have h4 : UInt8.ofNat (x % 4294967296 / 16777216) = be x 4 := u8_eq (by show _ = x / 2 ^ 24 % 256; omega)
  have h5 : UInt8.ofNat (x % 4294967296 / 65536) = be x 5 := u8_eq (by show _ = x / 2 ^ 16 % 256; omega)
  have h6 : UInt8.ofNat (x % 4294967296 / 256) = be x 6 := u8_eq (by show _ = x / 2 ^ 8 % 256; omega)
  have h7 : UInt8.ofNat (x % 4294967296) = be x 7 := u8_eq (by show _ = x / 2 ^ 0 % 256; omega)
  rw [h0, h1, h2, h3, h4, h5, h6, h7]
/-- What stands behind n bytes. -/
def tailBytes (n : Nat) : List UInt8 := 128 :: List.replicate (zpad n) 0 ++ bes (8 * n) 8
theorem pad_tail (l : List UInt8) : pad l = l ++ tailBytes l.length := by
  unfold pad padz tailBytes
  rw [List.append_assoc]
theorem tail_length (n : Nat) : (tailBytes n).length = 9 + zpad n := by
  unfold tailBytes
  rw [List.length_append, bes_length, List.length_cons, List.length_replicate]
  omega

set_option maxHeartbeats 4000000 in
set_option maxRecDepth 100000 in
theorem ending_any (n : Nat) (hn : n ≤ 281474976710656) (w : World) :
    Calls Tryz.prog 78 #[.int .i64 n] w fun e w' => e = .returned (.string (S (tailBytes n))) ∧ Below w.heap.size w w' := by
  obtain ⟨i0, hi, hz0, hz1, hz2⟩ := info_parts infoU8
  go_enter Tryz.func78, Tryz.ntmps78
  go_wp2_with fail
  have hzl := zpad_lt n
  have hown0 : (w.alloc (.cells #[.int .u8 128] 5)).ownsRow w.heap.size 5 1 (.slice (some ⟨w.heap.size, 0, none⟩) 1 1) (128 :: List.replicate 0 0 : List UInt8).length (Lib.byteCells (128 :: List.replicate 0 0)) :=
    ⟨rfl, .inr ⟨w.heap.size, 1, _, rfl, Nat.le_refl _, heap_alloc_new w _, Nat.le_refl _, by decide, rfl, rfl⟩⟩
  have hb0 : Below w.heap.size w (w.alloc (.cells #[.int .u8 128] 5)) := (Below.refl _ w).alloc (Nat.le_refl _) _
  generalize w.alloc (.cells #[.int .u8 128] 5) = w0 at *
  have HOB := Lib.hid (And.intro hown0 hb0)
  clear hown0 hb0
  go_loopw [3] (fun v wr => ∃ k a c, k ≤ zpad n ∧ v = .slice a (1 + k) c ∧ Hid (wr.ownsRow w.heap.size 5 1 v (128 :: List.replicate k 0 : List UInt8).length (Lib.byteCells (128 :: List.replicate k 0)) ∧ Below w.heap.size w wr))
    (fun v _ => 64 - lenV v)
  case atStart => exact ⟨0, _, _, Nat.zero_le _, rfl, HOB⟩
  case round =>
    clear HOB
    obtain ⟨k, a, c, hk, rfl, HK⟩ := hrel
    by_cases hkz : k < zpad n
    · have hne := zpad_not hkz
      have hne' : (((n : Int) + (1 + (k : Int)) + 8) % 64 != 0) = true := by simp; omega
      have HO := Lib.hid HK.out.1
      have hB := HK.out.2
      have hBs := hB.size
      have hk64 : k < 64 := by omega
      clear HK hne
      go_wp2_with (at_builtin; refine wpList_append_own _ rfl _ _ 81 rfl w.heap.size 5 i0 (.int .u8 0) 1 1 Tryz.underlying81 hi hz0 hz1 hz2 rfl (by decide) _ _ _ rfl (HO.out.alloc _) ⟨wr.heap.size, 0, none⟩ 1 1 [.int .u8 0] rfl rfl ?c1 ?c2 ?c3 ?c4 ?c5 ?_)
      case c1 =>
        intro j u hj
        match j, hj with
        | 0, hj => simp at hj; subst hj; simp [Addr.add]
      case c2 => intro u hu; simp at hu; subst hu; rfl
      case c3 => unfold maxLen; simp; omega
      case c4 => simp; omega
      case c5 => simp; omega
      intro v' w1 hown' hgrow hnil
      have hb1 : Below w.heap.size w w1 := (hB.alloc hBs _).grown hgrow (by simp; omega) (fun k hk => (HO.out.lt k hk).1)
      have hown2 : w1.ownsRow w.heap.size 5 1 v' (128 :: List.replicate (k + 1) 0 : List UInt8).length (Lib.byteCells (128 :: List.replicate (k + 1) 0)) := by
        rw [List.replicate_succ', ← List.cons_append, List.length_append, Lib.byteCells_append]
        simp only [List.length_cons, List.length_replicate, List.length_nil]
        exact hown'
      have hsh : ∃ a2 c2, v' = .slice a2 (1 + (k + 1)) c2 := by
        obtain ⟨_, h | ⟨g, cap, cur, h, _⟩⟩ := hown2
        · exact absurd h.2 (by simp)
        · have e : (128 :: List.replicate (k + 1) 0 : List UInt8).length = 1 + (k + 1) := by simp only [List.length_cons, List.length_replicate]; omega
          rw [e] at h
          exact ⟨_, _, h⟩
      obtain ⟨a2, c2, rfl⟩ := hsh
      have HOB := Lib.hid (And.intro hown2 hb1)
      clear hown' hown2 hgrow hnil HO
      go_wp2
      go_roundw
      case rel => exact ⟨k + 1, _, _, hkz, rfl, HOB⟩
      case measure => simp [lenV]; omega
    · obtain rfl : k = zpad n := by omega
      have hze := zpad_end n
      have hne' : (((n : Int) + (1 + (zpad n : Int)) + 8) % 64 != 0) = false := by simp; omega
      have HO := Lib.hid HK.out.1
      have hB := HK.out.2
      have hBs := hB.size
      clear HK hze
      have hx : 8 * n < 18446744073709551616 := by omega
      obtain ⟨x, hxd⟩ : ∃ x, x = 8 * n := ⟨_, rfl⟩
      have hxm : (n : Int) * 8 = (x : Int) := by omega
      rw [← hxd] at hx
      have HX := Lib.hid hxd
      clear hxd
      have hx1 : x / 4294967296 < 4294967296 := by omega
      have hx2 : x % 4294967296 < 4294967296 := by omega
      have hlen : (128 :: List.replicate (zpad n) 0 : List UInt8).length ≤ 64 := by simp; omega
      have HL := Lib.hid hlen
      clear hlen
      go_wp2_with fail
      rw [show ((x : Int) / 4294967296) = ((x / 4294967296 : Nat) : Int) by omega]
      refine (word4_any w.heap.size (x / 4294967296) hx1 _ _ wr HO.out hBs (by have := HL.out; omega)).mono ?_
      rintro e w1 ⟨v1, rfl, hown1, hb1⟩
      have HB1 := hB.trans hb1
      have hs1 := HB1.size
      have hl1 : (128 :: List.replicate (zpad n) 0 ++ wbytes (x / 4294967296) : List UInt8).length ≤ 68 := by
        rw [List.length_append, show (wbytes (x / 4294967296)).length = 4 from rfl]
        have := HL.out
        omega
      have HL1 := Lib.hid hl1
      have HO1 := Lib.hid hown1
      clear hl1 hown1 hb1 HO
      go_wp2_with fail
      rw [show ((x : Int) % 4294967296) = ((x % 4294967296 : Nat) : Int) by omega]
      refine (word4_any w.heap.size (x % 4294967296) hx2 _ _ w1 HO1.out hs1 (by have := HL1.out; omega)).mono ?_
      rintro e w2 ⟨v2, rfl, hown2, hb2⟩
      have HB2 := HB1.trans hb2
      have hfin : (128 :: List.replicate (zpad n) 0 ++ wbytes (x / 4294967296) ++ wbytes (x % 4294967296) : List UInt8) = tailBytes n := by
        unfold tailBytes
        rw [List.append_assoc, be_words, HX.out]
      rw [hfin] at hown2
      have hcv := conv_own w2 _ v2 _ (fun h => by have := tail_length n; rw [h] at this; simp at this; omega) hown2
      clear hown2
      go_wp2
      go_ret
      exact ⟨rfl, HB2⟩
end Go.Proofs.YtpimdbnhpbjlkaaGreatDoor.dg
