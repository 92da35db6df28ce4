/-
  What seal.Frame and the reference's four and Frame answer: the length, the check sum, the body.
-/
import Derived.Test.YtpeogcjakojjhaaSealLay
import Derived.Test.YtpeogcjakojjhaaSealSum
import Derived.Test.YtpeogcjakojjhaaSealRefSum
import Derived.Laws.BytesArg
import Derived.Deep.QuietTactic
import Derived.BigQuiet
import Derived.BigRegion
namespace Go.Proofs.Ytpeogcjakojjhaa.sl
open Go.RowKit

/-- The frame of a body. -/
def frame (l : List UInt8) : List UInt8 := four l.length ++ (four (crc l) ++ l)
theorem frame_length (l : List UInt8) : (frame l).length = 8 + l.length := by unfold frame; rw [List.length_append, List.length_append, four_length, four_length]; omega

def isByte : Option Value → Bool
  | some (.int .u8 _) => true
  | _ => false
def byteOf : Option Value → UInt8
  | some (.int .u8 x) => UInt8.ofNat x.toNat
  | _ => 0
theorem isByte_u8 (x : Int) : isByte (some (.int .u8 x)) = true := rfl
theorem byteOf_u8 (x : Int) : byteOf (some (.int .u8 x)) = UInt8.ofNat x.toNat := rfl
theorem isByte_some {c : Option Value} (h : isByte c = true) : ∃ x, c = some (.int .u8 x) := by
  cases c with
  | none => cases h
  | some v =>
    cases v with
    | int k x => cases k <;> first | exact ⟨_, rfl⟩ | cases h
    | _ => cases h

theorem four_eq (n : Nat) : [UInt8.ofNat (n / 256 / 256 / 256), UInt8.ofNat (n / 256 / 256 % 256), UInt8.ofNat (n / 256 % 256), UInt8.ofNat (n % 256)] = four n := by
  unfold four
  rw [show n / 256 / 256 / 256 = n / 16777216 by omega, show n / 256 / 256 = n / 65536 by omega]

/-- 'string(four bytes)', for the walk to take. -/
theorem conv4 (W : World) (b : Nat) (h0 : isByte (W.cell? ⟨b, 0, none⟩) = true) (h1 : isByte (W.cell? ⟨b, 1, none⟩) = true) (h2 : isByte (W.cell? ⟨b, 2, none⟩) = true) (h3 : isByte (W.cell? ⟨b, 3, none⟩) = true) :
    (convert 51 9 (.slice (some ⟨b, 0, none⟩) 4 4)).run Try.prog W = .ok (.string (S [byteOf (W.cell? ⟨b, 0, none⟩), byteOf (W.cell? ⟨b, 1, none⟩), byteOf (W.cell? ⟨b, 2, none⟩), byteOf (W.cell? ⟨b, 3, none⟩)])) W := by
  obtain ⟨x0, e0⟩ := isByte_some h0
  obtain ⟨x1, e1⟩ := isByte_some h1
  obtain ⟨x2, e2⟩ := isByte_some h2
  obtain ⟨x3, e3⟩ := isByte_some h3
  have hr := run_convert_bytes_arg (P := Try.prog) W 51 5 Try.underlying51 Try.underlying5 b 0 4 4 [x0, x1, x2, x3] rfl (fun i hi => by
    match i, hi with
    | 0, _ => simpa using e0
    | 1, _ => simpa using e1
    | 2, _ => simpa using e2
    | 3, _ => simpa using e3) 9 Try.underlying9
  rw [hr, e0, e1, e2, e3]
  rfl

set_option maxHeartbeats 4000000 in
set_option maxRecDepth 100000 in
theorem four_any (n : Nat) (hn : n < 4294967296) (w : World) :
    Calls Try.prog 22 #[.int .u32 n] w fun e w' => e = .returned (.string (S (four n))) ∧ Below w.heap.size w w' := by
  have hib := isByte_u8
  have hbo := byteOf_u8
  have hcv := conv4
  go_enter Try.func22, Try.ntmps22
  go_wp2
  go_ret
  exact ⟨rfl, (Below.refl _ w).alloc (Nat.le_refl _) _⟩

set_option maxHeartbeats 4000000 in
set_option maxRecDepth 100000 in
theorem frame_any (l : List UInt8) (hl : l.length ≤ 65536) (w : World) :
    Calls Try.prog 9 #[.string (S l)] w fun e w' => e = .returned (.tuple #[.string (S (frame l)), .int .i64 0]) ∧ Below w.heap.size w w' := by
  have hib := isByte_u8
  have hbo := byteOf_u8
  have hcv := conv4
  have hz := S_size l
  have hcl := crc_lt l
  go_enter Try.func9, Try.ntmps9
  go_wp2_with fail
  refine (lay_any l.length (by omega) _).mono ?_
  rintro e w1 ⟨rfl, hb1⟩
  go_wp2_with fail
  refine (sum_any l (by omega) _).mono ?_
  rintro e w2 ⟨rfl, rfl⟩
  go_wp2_with fail
  refine (lay_any (crc l) hcl _).mono ?_
  rintro e w3 ⟨rfl, hb3⟩
  go_wp2
  have hz1 : ∀ a b c d : UInt8, (S [a, b, c, d]).size = 4 := fun _ _ _ _ => rfl
  go_region
  all_goals go_wp2
  all_goals simp only [four_eq]
  all_goals go_ret2
  all_goals refine ⟨by rw [S_append, S_append, List.append_assoc]; rfl, ?_⟩
  all_goals have hb := hb1.trans (hb3.mono hb1.size)
  all_goals have hs := hb.size
  all_goals exact ((hb.alloc hs _).alloc (by simp; omega) _).drew

set_option maxRecDepth 100000 in
theorem frame_long (l : List UInt8) (hl : 65536 < l.length) (hl2 : l.length ≤ 9223372036854775807) (w : World) :
    Calls Try.prog 9 #[.string (S l)] w fun e w' => e = .returned (.tuple #[.string (S []), .int .i64 2]) ∧ w' = w := by
  have hz := S_size l
  go_enter Try.func9, Try.ntmps9
  go_wp2
  go_ret2
  exact ⟨rfl, rfl⟩

set_option maxRecDepth 100000 in
theorem refframe_long (l : List UInt8) (hl : 65536 < l.length) (hl2 : l.length ≤ 9223372036854775807) (w : World) :
    Calls Try.prog 10 #[.string (S l)] w fun e w' => e = .returned (.tuple #[.string (S []), .int .i64 2]) ∧ w' = w := by
  have hz := S_size l
  go_enter Try.func10, Try.ntmps10
  go_wp2
  go_ret2
  exact ⟨rfl, rfl⟩

set_option maxHeartbeats 4000000 in
set_option maxRecDepth 100000 in
theorem refframe_any (l : List UInt8) (hl : l.length ≤ 65536) (w : World) :
    Calls Try.prog 10 #[.string (S l)] w fun e w' => e = .returned (.tuple #[.string (S (frame l)), .int .i64 0]) ∧ Below w.heap.size w w' := by
  have hz := S_size l
  have hcl := crc_lt l
  have z1 : (S (four l.length)).size = 4 := rfl
  have z2 : (S (four (crc l))).size = 4 := rfl
  go_enter Try.func10, Try.ntmps10
  go_wp2_with fail
  refine (four_any l.length (by omega) _).mono ?_
  rintro e w1 ⟨rfl, hb1⟩
  go_wp2_with fail
  refine (refsum_any l (by omega) _).mono ?_
  rintro e w2 ⟨rfl, rfl⟩
  go_wp2_with fail
  refine (four_any (crc l) hcl _).mono ?_
  rintro e w3 ⟨rfl, hb3⟩
  go_wp2
  go_ret2
  exact ⟨by rw [S_append, S_append]; rw [List.append_assoc]; rfl, hb1.trans (hb3.mono hb1.size)⟩
end Go.Proofs.Ytpeogcjakojjhaa.sl
