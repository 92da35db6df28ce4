/-
  What posthornref01.Num, Text and Nums answer: the same bytes as the program's.
-/
import Derived.Test.YtihjllfkejdoiaaPackBackWalk
import Derived.Deep.RegionHeld3
import Derived.Deep.RegionWith
namespace Go.Proofs.Ytihjllfkejdoiaa.pk
open Go.RowKit

theorem bcell {W w1 : World} (hb : Below W.heap.size W w1) : ∀ b o, b < W.heap.size → w1.cell? ⟨b, o, none⟩ = W.cell? ⟨b, o, none⟩ := fun b o h => hb.cell (p := ⟨b, o, none⟩) h

def isByte : Option Value → Bool
  | some (.int .u8 _) => true
  | _ => false
def strOf : Option Value → ByteArray
  | some (.int .u8 x) => S [UInt8.ofNat x.toNat]
  | _ => S []
theorem isByte_u8 (x : Int) : isByte (some (.int .u8 x)) = true := rfl
theorem strOf_u8 (x : Int) : strOf (some (.int .u8 x)) = S [UInt8.ofNat x.toNat] := rfl

/-- 'string([]byte(one byte))', for the walk to take. -/
theorem conv_one (W : World) (b : Nat) (h : isByte (W.cell? ⟨b, 0, none⟩) = true) :
    (convert 45 9 (.slice (some ⟨b, 0, none⟩) 1 1)).run Try.prog W = .ok (.string (strOf (W.cell? ⟨b, 0, none⟩))) W := by
  cases hv : W.cell? ⟨b, 0, none⟩ with
  | none => rw [hv] at h; cases h
  | some v =>
    rw [hv] at h
    cases v with
    | int k x =>
      cases k <;> first | (cases h; done) | skip
      have hr := run_convert_bytes_arg (P := Try.prog) W 45 5 Try.underlying45 Try.underlying5 b 0 1 1 [x] rfl (fun i hi => by
        obtain rfl : i = 0 := by omega
        simpa using hv) 9 Try.underlying9
      rw [hr]
      rfl
    | _ => cases h

set_option maxHeartbeats 4000000 in
set_option maxRecDepth 100000 in
theorem refnum_any : ∀ (n : Nat), n < 18446744073709551616 → ∀ (w : World),
    Calls Try.prog 10 #[.int .u64 n] w fun e w' => e = .returned (.string (S (Lib.uvarint n))) ∧ Below w.heap.size w w' := by
  intro n
  induction n using Nat.strongRecOn with
  | _ n ih =>
    intro hn w
    have hib := isByte_u8
    have hso := strOf_u8
    have hcv := conv_one
    by_cases h128 : n < 128
    · have hu := Lib.hid (Lib.uvarint_small h128)
      clear ih
      go_enter Try.func10, Try.ntmps10
      go_wp2
      go_ret
      exact ⟨by rw [hu.out]; rfl, (Below.refl _ w).alloc (Nat.le_refl _) _⟩
    · have h128' : 128 ≤ n := by omega
      obtain ⟨q, hq⟩ : ∃ q : Nat, q = n / 128 := ⟨_, rfl⟩
      obtain ⟨c, hc⟩ : ∃ c : Nat, c = n % 128 + 128 := ⟨_, rfl⟩
      have HI := Lib.hid (ih q (by omega) (by omega))
      have hx0 : IntKind.u64.wrap ((n : Int) / 128) = (q : Int) := by
        rw [IntWalk.u64_in _ ⟨by omega, by omega⟩]; omega
      have hx1 : IntKind.u64.wrap ((n : Int).tmod 128 + 128) = (c : Int) := by
        rw [Int.tmod_eq_emod_of_nonneg (by omega), IntWalk.u64_in _ ⟨by omega, by omega⟩]; omega
      have hx2 : IntKind.u8.wrap (c : Int) = (c : Int) := by
        rw [IntKind.wrap_u8]; omega
      have hu : Hid (Lib.uvarint n = c.toUInt8 :: Lib.uvarint q) := by rw [hc, hq]; exact Lib.uvarint_big h128'
      have hl := Lib.uvarint_length64 (x := q) (by omega)
      have hz := S_size (Lib.uvarint q)
      have hz1 : (S (Lib.uvarint q)).size ≤ 10 := by omega
      have hz2 : ∀ c : UInt8, (S [c]).size = 1 := fun c => rfl
      clear ih h128 hl hz hq hc
      go_enter Try.func10, Try.ntmps10
      go_wp2_with fail
      go_region_with (go_at_call 10; refine (HI.out _).mono ?_; rintro e w1 ⟨rfl, hb1⟩; have hc1 := bcell hb1)
      all_goals go_wp2
      all_goals go_ret
      all_goals refine ⟨by rw [hu.out, S_append]; rfl, ?_⟩
      all_goals first
        | exact ((Below.refl _ w).alloc (Nat.le_refl _) _).drew.trans (hb1.mono (by simp))
        | exact ((Below.refl _ w).drew.trans (hb1.mono (by simp))).alloc (by have := hb1.size; simpa using this) _

theorem reftext_any (s : List UInt8) (hs : s.length ≤ 281474976710656) (w : World) :
    Calls Try.prog 12 #[.string (S s)] w fun e w' => e = .returned (.string (S (Lib.uvarint s.length ++ s))) ∧ Below w.heap.size w w' := by
  have hlen := Lib.uvarint_length64 (x := s.length) (by omega)
  have hS := S_size s
  have hS2 := S_size (Lib.uvarint s.length)
  go_enter Try.func12, Try.ntmps12
  go_wp2_with fail
  refine (refnum_any s.length (by omega) _).mono ?_
  rintro e w1 ⟨rfl, hb⟩
  go_wp2
  go_ret
  exact ⟨by rw [S_append]; rfl, hb⟩

set_option maxHeartbeats 4000000 in
set_option maxRecDepth 100000 in
theorem refnums_row (a : Option Addr) (cap : Nat) (l : List Nat) (hl : ∀ x ∈ l, x < 18446744073709551616) (hlen : l.length ≤ 1048576) (w : World) (hrow : Row64 w a l) :
    Calls Try.prog 14 #[.slice a l.length cap] w fun e w' => e = .returned (.string (S (Lib.uvarint l.length ++ each l))) ∧ Below w.heap.size w w' := by
  have hl10 := Lib.uvarint_length64 (x := l.length) (by omega)
  obtain ⟨c, hc⟩ : ∃ c, c = l.length := ⟨_, rfl⟩
  have hcl : c ≤ 1048576 := by omega
  rw [← hc] at hl10 ⊢
  have HC := Lib.hid hc
  have HL := Lib.hid hl
  have HR := Lib.hid hrow
  clear hc hl hlen hrow
  go_enter Try.func14, Try.ntmps14
  go_wp2_with fail
  refine (refnum_any c (by omega) _).mono ?_
  rintro e w1 ⟨rfl, hb1⟩
  go_wp2_with fail
  go_loopw [3, 4] (fun v i wr => ∃ k : Nat, k ≤ c ∧ i = .int .i64 k ∧ v = .string (S (Lib.uvarint c ++ each (l.take k))) ∧ Below w.heap.size w wr)
    (fun _ i _ => c - (intOf i).toNat)
  case atStart => exact ⟨0, by omega, rfl, by simp [each], hb1⟩
  case round =>
    obtain ⟨k, hk, rfl, rfl, hb2⟩ := hrel
    by_cases hlt : k < c
    · have hkl : k < l.length := by have := HC.out; omega
      obtain ⟨v, hv⟩ : ∃ v, v = l[k] := ⟨_, rfl⟩
      have hv64 : v < 18446744073709551616 := by rw [hv]; exact HL.out _ (List.getElem_mem _)
      rcases HR.out with h0 | ⟨b, off, rfl, hbw, hcell⟩
      · rw [h0] at hkl; simp at hkl
      · have hcell0 : wr.cell? ⟨b, off + k, none⟩ = some (.int .u64 (v : Nat)) := by
          rw [hb2.cell (by exact hbw), hcell k hkl, hv]
        have hv10 := Lib.uvarint_length64 hv64
        have z1 : (S (Lib.uvarint c ++ each (l.take k))).size ≤ 20971520 := by
          rw [S_size, List.length_append]
          have h1 := each_len (l.take k) (fun y hy => HL.out y (List.mem_of_mem_take hy))
          have h2 : (l.take k).length ≤ k := List.length_take_le _ _
          omega
        have z2 : (S (Lib.uvarint v)).size ≤ 10 := by rw [S_size]; exact hv10
        have HV := Lib.hid hv
        clear hcell hv HR hv10
        go_wp2_with fail
        refine (refnum_any v hv64 _).mono ?_
        rintro e w2 ⟨rfl, hb3⟩
        have hb4 : Below w.heap.size w w2 := hb2.trans (hb3.mono hb2.size)
        clear hb2 hb3
        go_wp2
        go_roundw
        case rel => exact ⟨k + 1, by omega, by go_num, by rw [S_append, each_take_succ l k hkl, ← HV.out, List.append_assoc], hb4⟩
        case measure => simp [intOf]; omega
    · obtain rfl : k = c := by omega
      go_wp2
      go_ret
      exact ⟨by rw [List.take_of_length_le (by have := HC.out; omega)]; rfl, hb2⟩
end Go.Proofs.Ytihjllfkejdoiaa.pk
