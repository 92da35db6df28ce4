/-
  A number in digits. No walk.
-/
import Derived.Test.YtnpikjobjmffgaaDoorLinBase
namespace Go.Proofs.YtnpikjobjmffgaaDoor.li
open Go.RowKit

/-- A number in digits. -/
def dec (n : Nat) : List UInt8 := if n < 10 then [48 + UInt8.ofNat n] else dec (n / 10) ++ [48 + UInt8.ofNat (n % 10)]
theorem dec_small {n : Nat} (h : n < 10) : dec n = [48 + UInt8.ofNat n] := by rw [dec, if_pos h]
theorem dec_big {n : Nat} (h : 10 ≤ n) : dec n = dec (n / 10) ++ [48 + UInt8.ofNat (n % 10)] := by rw [dec, if_neg (by omega)]
theorem dec_length : ∀ (k n : Nat), n < 10 ^ (k + 1) → (dec n).length ≤ k + 1
  | 0, n, h => by rw [dec_small (by simpa using h)]; simp
  | k + 1, n, h => by
    by_cases h10 : n < 10
    · rw [dec_small h10]; simp
    · have := dec_length k (n / 10) (by rw [Nat.pow_succ] at h; omega)
      rw [dec_big (by omega), List.length_append]
      simp only [List.length_cons, List.length_nil]
      omega
theorem dec_length64 {n : Nat} (h : n < 18446744073709551616) : (dec n).length ≤ 20 := dec_length 19 n (Nat.lt_of_lt_of_le h (by decide))
theorem dec_pos (n : Nat) : 0 < (dec n).length := by
  by_cases h : n < 10
  · rw [dec_small h]; simp
  · rw [dec_big (by omega)]; simp

end Go.Proofs.YtnpikjobjmffgaaDoor.li
