/-
  Bytes as a string; one byte as a string. No walk.
-/
import Derived.Test.YtmgmhnohocamfaaGreatProg
import Derived.WalkKit
import Derived.Lib.Hide
import Derived.Lib.Strings
import Derived.Laws.BytesArg
namespace Go.Proofs.YtmgmhnohocamfaaGreat.fl
open Go.RowKit

/-- Bytes as a string. -/
def S (l : List UInt8) : ByteArray := ⟨l.toArray⟩
theorem S_size (l : List UInt8) : (S l).size = l.length := rfl
theorem S_data (l : List UInt8) : (S l).data.toList = l := by simp [S]
theorem S_append (a b : List UInt8) : S a ++ S b = S (a ++ b) := ByteArray.mk_append_mk a b
theorem S_inj {a b : List UInt8} (h : S a = S b) : a = b := by rw [← S_data a, h, S_data]
theorem S_of (s : ByteArray) : S s.data.toList = s := by simp [S]
theorem S_get (l : List UInt8) (k : Nat) (h : k < l.length) (h' : k < (S l).size) : (S l)[k]'h' = l[k]'h := rfl
theorem str_size (s : ByteArray) : s.size = s.data.toList.length := by rw [Array.length_toList]; rfl
theorem str_beq (x y : ByteArray) : (x.toList == y.toList) = true ↔ x = y := by
  rw [beq_iff_eq, ByteArray.toList_eq, ByteArray.toList_eq]
  exact ⟨fun h => ByteArray.ext (Array.toList_inj.mp h), fun h => by rw [h]⟩
theorem str_eq {x y : ByteArray} (h : x = y) : (x.toList == y.toList) = true := (str_beq x y).2 h
theorem str_ne {x y : ByteArray} (h : x ≠ y) : (x.toList == y.toList) = false := by
  cases hb : x.toList == y.toList with
  | false => rfl
  | true => exact absurd ((str_beq x y).1 hb) h

def isByte : Option Value → Bool
  | some (.int .u8 _) => true
  | _ => false
def byteOf : Option Value → UInt8
  | some (.int .u8 x) => UInt8.ofNat x.toNat
  | _ => 0
theorem isByte_u8 (x : Int) : isByte (some (.int .u8 x)) = true := rfl
theorem byteOf_u8 (x : Int) : byteOf (some (.int .u8 x)) = UInt8.ofNat x.toNat := rfl
theorem isByte_some {c : Option Value} (h : isByte c = true) : ∃ x, c = some (.int .u8 x) := by
  cases c with
  | none => cases h
  | some v =>
    cases v with
    | int k x => cases k <;> first | exact ⟨_, rfl⟩ | cases h
    | _ => cases h
/-- 'string(one byte)', for the walk to take. -/
theorem conv1 (W : World) (b : Nat) (h0 : isByte (W.cell? ⟨b, 0, none⟩) = true) :
    (convert 114 9 (.slice (some ⟨b, 0, none⟩) 1 1)).run Tryz.prog W = .ok (.string (S [byteOf (W.cell? ⟨b, 0, none⟩)])) W := by
  obtain ⟨x0, e0⟩ := isByte_some h0
  have hr := run_convert_bytes_arg (P := Tryz.prog) W 114 5 Tryz.underlying114 Tryz.underlying5 b 0 1 1 [x0] rfl (fun i hi => by
    match i, hi with
    | 0, _ => simpa using e0) 9 Tryz.underlying9
  rw [hr, e0]
  rfl
end Go.Proofs.YtmgmhnohocamfaaGreat.fl
