/-
  One form: what is read of a number's bytes, and of bytes that were cut off: plain mathematics, no walk.
-/
import Derived.Test.YtmgmhnohocamfaaGreatPackDec
namespace Go.Proofs.YtmgmhnohocamfaaGreat.pk

theorem pow_step (i : Nat) : 2 ^ (7 * (i + 1)) = 128 * 2 ^ (7 * i) := by
  rw [show 7 * (i + 1) = 7 + 7 * i by omega, Nat.pow_add]

theorem toUInt8_of (c : UInt8) : (c.toNat).toUInt8 = c := by simp

theorem nine_le {i c : Nat} (hi : i ≤ 9) (hc : c < 128) (h9 : i = 9 → c ≤ 1) (acc : Nat) (ha : acc < 2 ^ (7 * i)) : acc + c * 2 ^ (7 * i) < 18446744073709551616 := by
  have hs : i = 0 ∨ i = 1 ∨ i = 2 ∨ i = 3 ∨ i = 4 ∨ i = 5 ∨ i = 6 ∨ i = 7 ∨ i = 8 ∨ i = 9 := by omega
  rcases hs with rfl | rfl | rfl | rfl | rfl | rfl | rfl | rfl | rfl | rfl <;> simp at ha ⊢ <;> omega

/-- What was read is one form: the bytes of the number, then what is left. -/
theorem dec_one : ∀ (l : List UInt8) (i acc v : Nat) (r : List UInt8), i ≤ 9 → acc < 2 ^ (7 * i) → dec i acc l = (0, v, r) →
    ∃ y, v = acc + y * 2 ^ (7 * i) ∧ l = Lib.uvarint y ++ r ∧ (0 < i → 0 < y) ∧ v < 18446744073709551616
  | [], i, acc, v, r, _, _, h => by simp [dec] at h
  | c :: t, i, acc, v, r, hi, ha, h => by
    have hc := c.toNat_lt
    unfold dec at h
    by_cases h1 : i = 9 ∧ 1 < c.toNat
    · rw [if_pos h1] at h; simp at h
    · rw [if_neg h1] at h
      by_cases h2 : 0 < i ∧ c.toNat = 0
      · rw [if_pos h2] at h; simp at h
      · rw [if_neg h2] at h
        by_cases h3 : c.toNat < 128
        · rw [if_pos h3] at h
          simp only [Prod.mk.injEq, true_and] at h
          obtain ⟨rfl, rfl⟩ := h
          exact ⟨c.toNat, rfl, by rw [Lib.uvarint_small h3, toUInt8_of]; rfl, fun h0 => by omega, nine_le hi h3 (fun e => by omega) acc ha⟩
        · rw [if_neg h3] at h
          have ha2 : acc + c.toNat % 128 * 2 ^ (7 * i) < 2 ^ (7 * (i + 1)) := by
            rw [pow_step]
            have : c.toNat % 128 * 2 ^ (7 * i) ≤ 127 * 2 ^ (7 * i) := Nat.mul_le_mul_right _ (by omega)
            omega
          obtain ⟨y, hv, ht, hy, hlt⟩ := dec_one t (i + 1) _ v r (by omega) ha2 h
          have hy0 := hy (by omega)
          refine ⟨c.toNat % 128 + 128 * y, ?_, ?_, fun _ => by omega, hlt⟩
          · rw [hv, pow_step, Nat.add_mul]
            have : y * (128 * 2 ^ (7 * i)) = 128 * y * 2 ^ (7 * i) := by rw [← Nat.mul_assoc, Nat.mul_comm y 128]
            omega
          · rw [Lib.uvarint_big (by omega), show (c.toNat % 128 + 128 * y) / 128 = y by omega, show (c.toNat % 128 + 128 * y) % 128 + 128 = c.toNat by omega, toUInt8_of, List.cons_append, ← ht]

theorem dec_err : ∀ (l : List UInt8) (i acc : Nat), (dec i acc l).1 = 0 ∨ (dec i acc l).1 = 3 ∨ (dec i acc l).1 = 4
  | [], i, acc => by simp [dec]
  | c :: t, i, acc => by
    unfold dec
    split
    · simp
    · split
      · simp
      · split
        · simp
        · exact dec_err t _ _

theorem le_of_mul {y i acc : Nat} (h : acc + y * 2 ^ (7 * i) < 18446744073709551616) (hi : 9 ≤ i) : y ≤ 1 := by
  rcases Nat.lt_or_ge y 2 with h2 | h2
  · omega
  · exfalso
    have h3 : (2 : Nat) ^ 63 ≤ 2 ^ (7 * i) := Nat.pow_le_pow_right (by decide) (by omega)
    have h4 : 2 * 2 ^ 63 ≤ y * 2 ^ (7 * i) := Nat.mul_le_mul h2 h3
    have h5 : (2 : Nat) * 2 ^ 63 = 18446744073709551616 := by decide
    omega

theorem div_step (acc y i : Nat) : acc + y % 128 * 2 ^ (7 * i) + y / 128 * 2 ^ (7 * (i + 1)) = acc + y * 2 ^ (7 * i) := by
  rw [pow_step]
  have e : y * 2 ^ (7 * i) = (128 * (y / 128) + y % 128) * 2 ^ (7 * i) := by rw [Nat.div_add_mod]
  rw [e, Nat.add_mul]
  have : y / 128 * (128 * 2 ^ (7 * i)) = 128 * (y / 128) * 2 ^ (7 * i) := by rw [← Nat.mul_assoc, Nat.mul_comm (y / 128) 128]
  omega

/-- What was written is read. -/
theorem dec_back (r : List UInt8) : ∀ (y i acc : Nat), i ≤ 9 → (0 < i → 0 < y) → acc + y * 2 ^ (7 * i) < 18446744073709551616 →
    dec i acc (Lib.uvarint y ++ r) = (0, acc + y * 2 ^ (7 * i), r) := by
  intro y
  induction y using Nat.strongRecOn with
  | _ y ih =>
    intro i acc hi h0 hv
    by_cases hy : y < 128
    · rw [Lib.uvarint_small hy]
      have ht : (y.toUInt8).toNat = y := Lib.toUInt8_toNat (by omega)
      have h9 : ¬ (i = 9 ∧ 1 < y) := fun ⟨e, h1⟩ => by have := le_of_mul hv (by omega); omega
      simp only [List.cons_append, List.nil_append, dec, ht]
      rw [if_neg h9, if_neg (by omega), if_pos hy]
    · rw [Lib.uvarint_big (by omega)]
      have ht : ((y % 128 + 128).toUInt8).toNat = y % 128 + 128 := Lib.toUInt8_toNat (by omega)
      have h9 : i < 9 := by
        rcases Nat.lt_or_ge i 9 with h | h
        · exact h
        · have := le_of_mul hv h; omega
      simp only [List.cons_append, dec, ht]
      rw [if_neg (by omega), if_neg (by omega), if_neg (by omega), show (y % 128 + 128) % 128 = y % 128 by omega]
      rw [ih (y / 128) (by omega) (i + 1) _ (by omega) (fun _ => by omega) (by rw [div_step]; exact hv), div_step]

/-- Of what was written, cut off, the reader meets the end. -/
theorem dec_cut : ∀ (y i acc k : Nat), i ≤ 9 → (0 < i → 0 < y) → acc + y * 2 ^ (7 * i) < 18446744073709551616 → k < (Lib.uvarint y).length →
    dec i acc ((Lib.uvarint y).take k) = (3, 0, []) := by
  intro y
  induction y using Nat.strongRecOn with
  | _ y ih =>
    intro i acc k hi h0 hv hk
    by_cases hy : y < 128
    · rw [Lib.uvarint_small hy] at hk ⊢
      obtain rfl : k = 0 := by simpa using hk
      rfl
    · rw [Lib.uvarint_big (by omega)] at hk ⊢
      have ht : ((y % 128 + 128).toUInt8).toNat = y % 128 + 128 := Lib.toUInt8_toNat (by omega)
      have h9 : i < 9 := by
        rcases Nat.lt_or_ge i 9 with h | h
        · exact h
        · have := le_of_mul hv h; omega
      cases k with
      | zero => rfl
      | succ k =>
        simp only [List.take_succ_cons, dec, ht]
        rw [if_neg (by omega), if_neg (by omega), if_neg (by omega), show (y % 128 + 128) % 128 = y % 128 by omega]
        exact ih (y / 128) (by omega) (i + 1) _ k (by omega) (fun _ => by omega) (by rw [div_step]; exact hv) (by simpa using hk)
end Go.Proofs.YtmgmhnohocamfaaGreat.pk
