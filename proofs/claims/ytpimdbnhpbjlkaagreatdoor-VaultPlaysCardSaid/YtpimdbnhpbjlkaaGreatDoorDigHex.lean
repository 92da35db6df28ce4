/-
  What the reference's Hex answers: two digits a byte.
-/
import Derived.Test.YtpimdbnhpbjlkaaGreatDoorDigBase
import Derived.Laws.BytesArg
import Derived.BigRegion
import Derived.Deep.QuietTactic
import Derived.BigQuiet
namespace Go.Proofs.YtpimdbnhpbjlkaaGreatDoor.dg
open Go.RowKit

def digits : List UInt8 := [48, 49, 50, 51, 52, 53, 54, 55, 56, 57, 97, 98, 99, 100, 101, 102]
def digit (n : Nat) : UInt8 := digits.getD n 0
def hex1 (b : UInt8) : List UInt8 := [digit (b.toNat / 16), digit (b.toNat % 16)]
def hex (l : List UInt8) : List UInt8 := l.flatMap hex1
theorem hex_length (l : List UInt8) : (hex l).length = 2 * l.length := by
  induction l with
  | nil => rfl
  | cons b l ih =>
    show (hex1 b ++ hex l).length = _
    rw [List.length_append, ih, List.length_cons]
    show 2 + 2 * l.length = _
    omega
theorem hex_take (l : List UInt8) (k : Nat) (h : k < l.length) : hex (l.take (k + 1)) = hex (l.take k) ++ hex1 l[k] := by
  unfold hex
  rw [List.take_succ_eq_append_getElem h, List.flatMap_append]
  simp

def isByte : Option Value → Bool
  | some (.int .u8 _) => true
  | _ => false
def byteOf : Option Value → UInt8
  | some (.int .u8 x) => UInt8.ofNat x.toNat
  | _ => 0
theorem isByte_u8 (x : Int) : isByte (some (.int .u8 x)) = true := rfl
theorem byteOf_u8 (x : Int) : byteOf (some (.int .u8 x)) = UInt8.ofNat x.toNat := rfl
theorem isByte_some {c : Option Value} (h : isByte c = true) : ∃ x, c = some (.int .u8 x) := by
  cases c with
  | none => cases h
  | some v =>
    cases v with
    | int k x => cases k <;> first | exact ⟨_, rfl⟩ | cases h
    | _ => cases h
/-- 'string(two bytes)', for the walk to take. -/
theorem conv2 (W : World) (b : Nat) (h0 : isByte (W.cell? ⟨b, 0, none⟩) = true) (h1 : isByte (W.cell? ⟨b, 1, none⟩) = true) :
    (convert 81 9 (.slice (some ⟨b, 0, none⟩) 2 2)).run Tryz.prog W = .ok (.string (S [byteOf (W.cell? ⟨b, 0, none⟩), byteOf (W.cell? ⟨b, 1, none⟩)])) W := by
  obtain ⟨x0, e0⟩ := isByte_some h0
  obtain ⟨x1, e1⟩ := isByte_some h1
  have hr := run_convert_bytes_arg (P := Tryz.prog) W 81 5 Tryz.underlying81 Tryz.underlying5 b 0 2 2 [x0, x1] rfl (fun i hi => by
    match i, hi with
    | 0, _ => simpa using e0
    | 1, _ => simpa using e1) 9 Tryz.underlying9
  rw [hr, e0, e1]
  rfl
/-- 'string(one byte)', for the walk to take. -/
theorem conv1 (W : World) (b : Nat) (h0 : isByte (W.cell? ⟨b, 0, none⟩) = true) :
    (convert 81 9 (.slice (some ⟨b, 0, none⟩) 1 1)).run Tryz.prog W = .ok (.string (S [byteOf (W.cell? ⟨b, 0, none⟩)])) W := by
  obtain ⟨x0, e0⟩ := isByte_some h0
  have hr := run_convert_bytes_arg (P := Tryz.prog) W 81 5 Tryz.underlying81 Tryz.underlying5 b 0 1 1 [x0] rfl (fun i hi => by
    match i, hi with
    | 0, _ => simpa using e0) 9 Tryz.underlying9
  rw [hr, e0]
  rfl

theorem const_digit (p : Nat) (h : p < 16) : ((⟨#[48, 49, 50, 51, 52, 53, 54, 55, 56, 57, 97, 98, 99, 100, 101, 102]⟩ : ByteArray)[p]'h).toNat = (digit p).toNat := by
  have : ∀ i : Fin 16, ((⟨#[48, 49, 50, 51, 52, 53, 54, 55, 56, 57, 97, 98, 99, 100, 101, 102]⟩ : ByteArray)[i.1]'i.2).toNat = (digit i.1).toNat := by decide
  exact this ⟨p, h⟩

set_option maxHeartbeats 2000000 in
set_option maxRecDepth 100000 in
theorem refhex_any (l : List UInt8) (hl : l.length ≤ 35184372088832) (w : World) :
    Calls Tryz.prog 70 #[.string (S l)] w fun e w' => e = .returned (.string (S (hex l))) ∧ Below w.heap.size w w' := by
  have hz := S_size l
  have hib := isByte_u8
  have hbo := byteOf_u8
  have hcv := conv2
  go_enter Tryz.func70, Tryz.ntmps70
  go_wp2
  go_loopw [3, 4] (fun o i wr => ∃ k : Nat, i = .int .i64 k ∧ k ≤ l.length ∧ o = .string (S (hex (l.take k))) ∧ Below w.heap.size w wr)
    (fun _ i _ => l.length - (intOf i).toNat)
  case atStart => exact ⟨0, rfl, Nat.zero_le _, rfl, Below.refl _ _⟩
  case round =>
    obtain ⟨k, rfl, hk, rfl, hB⟩ := hrel
    by_cases hlt : k < l.length
    · have hlt' : k < (S l).size := by rw [S_size]; exact hlt
      have hht := hex_take l k hlt
      have hhl := hex_length (l.take k)
      have hzo := S_size (hex (l.take k))
      rw [hhl, List.length_take] at hzo
      obtain ⟨x, hx2⟩ : ∃ x : Nat, (l[k]'hlt).toNat = x := ⟨_, rfl⟩
      have hx : ((S l)[k]'hlt').toNat = x := by rw [S_get l k hlt hlt']; exact hx2
      have hxl : x < 256 := hx2 ▸ UInt8.toNat_lt _
      obtain ⟨p, hp⟩ : ∃ p : Nat, x / 16 = p := ⟨_, rfl⟩
      obtain ⟨q, hq⟩ : ∃ q : Nat, x % 16 = q := ⟨_, rfl⟩
      have hpi : (x : Int) / 16 = (p : Int) := by omega
      have hqi : (x : Int) % 16 = (q : Int) := by omega
      have hp16 : p < 16 := by omega
      have hq16 : q < 16 := by omega
      have dp := const_digit p hp16
      have dq := const_digit q hq16
      have hz2 : ∀ a b : UInt8, (S [a, b]).size = 2 := fun _ _ => rfl
      have hht2 : hex (l.take (k + 1)) = hex (l.take k) ++ [digit p, digit q] := by rw [hht]; unfold hex1; rw [hx2, hp, hq]
      clear hp hq
      have hki : (k : Int) < (l.length : Int) := by omega
      have HT := Lib.hid hht2
      clear hht hht2 hhl hx2
      generalize hex (l.take k) = o at *
      go_wp2
      go_region
      all_goals go_wp2_with fail
      all_goals have hsz := hB.size
      all_goals go_roundw
      case rel => exact ⟨k + 1, by go_num, by omega, by rw [HT.out, S_append], (hB.alloc hsz _).drew⟩
      case measure => simp [intOf]; omega
    · obtain rfl : k = l.length := by omega
      rw [List.take_length] at *
      go_wp2
      go_ret
      exact ⟨rfl, hB⟩
end Go.Proofs.YtpimdbnhpbjlkaaGreatDoor.dg
