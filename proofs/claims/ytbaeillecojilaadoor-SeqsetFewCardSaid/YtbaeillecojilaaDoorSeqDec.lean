/-
  What the reference's Digits, Literal, Number answer.
-/
import Derived.Test.YtbaeillecojilaaDoorSeqBase
namespace Go.Proofs.YtbaeillecojilaaDoor.sq
open Go.RowKit

/-- A number in digits. -/
def dec (n : Nat) : List UInt8 := if n < 10 then [48 + UInt8.ofNat n] else dec (n / 10) ++ [48 + UInt8.ofNat (n % 10)]
theorem dec_small {n : Nat} (h : n < 10) : dec n = [48 + UInt8.ofNat n] := by rw [dec, if_pos h]
theorem dec_big {n : Nat} (h : 10 ≤ n) : dec n = dec (n / 10) ++ [48 + UInt8.ofNat (n % 10)] := by rw [dec, if_neg (by omega)]
theorem dec_length : ∀ (k n : Nat), n < 10 ^ (k + 1) → (dec n).length ≤ k + 1
  | 0, n, h => by rw [dec_small (by simpa using h)]; simp
  | k + 1, n, h => by
    by_cases h10 : n < 10
    · rw [dec_small h10]; simp
    · have := dec_length k (n / 10) (by rw [Nat.pow_succ] at h; omega)
      rw [dec_big (by omega), List.length_append]
      simp only [List.length_cons, List.length_nil]
      omega
theorem dec_length64 {n : Nat} (h : n < 18446744073709551616) : (dec n).length ≤ 20 := dec_length 19 n (Nat.lt_of_lt_of_le h (by decide))
theorem dec_pos (n : Nat) : 0 < (dec n).length := by
  by_cases h : n < 10
  · rw [dec_small h]; simp
  · rw [dec_big (by omega)]; simp

set_option maxHeartbeats 1000000 in
set_option maxRecDepth 100000 in
theorem refdigits_any (n : Nat) (hn : n < 18446744073709551616) (w : World) :
    Calls Tryd.prog 46 #[.int .u64 n] w fun e w' => e = .returned (.string (S (dec n))) ∧ Below w.heap.size w w' := by
  have hib := isByte_u8
  have hbo := byteOf_u8
  have hcv := conv1
  have hz1 : ∀ a : UInt8, (S [a]).size = 1 := fun _ => rfl
  have hlen := dec_length64 hn
  have HL := Lib.hid hlen
  clear hlen
  go_enter Tryd.func46, Tryd.ntmps46
  go_wp2
  go_loopw [0, 3] (fun v s wr => ∃ (m : Nat) (t : List UInt8), v = .int .u64 m ∧ m ≤ n ∧ s = .string (S t) ∧ Hid (dec n = dec m ++ t) ∧ Below w.heap.size w wr)
    (fun v _ _ => (intOf v).toNat)
  case atStart => exact ⟨n, [], rfl, Nat.le_refl _, rfl, Lib.hid (by rw [List.append_nil]), Below.refl _ _⟩
  case round =>
    obtain ⟨m, t, rfl, hm, rfl, HD, hB⟩ := hrel
    have hsz := hB.size
    have hzt := S_size t
    have htl : t.length ≤ 20 := by have h1 := congrArg List.length HD.out; rw [List.length_append] at h1; have := HL.out; omega
    by_cases h9 : 10 ≤ m
    · have h9i : (9 : Int) < (m : Int) := by omega
      have hnext : Hid (dec n = dec (m / 10) ++ ((48 + UInt8.ofNat (m % 10)) :: t)) := by
        rw [HD.out, dec_big h9, List.append_assoc]; rfl
      have hap : ∀ a : UInt8, S [a] ++ S t = S (a :: t) := fun a => S_append [a] t
      clear HD
      go_wp2_with fail
      go_roundw
      case rel =>
        refine ⟨m / 10, (48 + UInt8.ofNat (m % 10)) :: t, by go_num, by omega, ?_, hnext, hB.alloc hsz _⟩
        rfl
      case measure => simp [intOf]; omega
    · have h9i : ¬ (9 : Int) < (m : Int) := by omega
      have hfin : Hid (dec n = (48 + UInt8.ofNat m) :: t) := by rw [HD.out, dec_small (by omega)]; rfl
      have hap : ∀ a : UInt8, S [a] ++ S t = S (a :: t) := fun a => S_append [a] t
      clear HD
      go_wp2_with fail
      go_ret
      refine ⟨?_, hB.alloc hsz _⟩
      rw [hfin.out]
      rfl
end Go.Proofs.YtbaeillecojilaaDoor.sq
