/-
  A number's bytes read: plain mathematics, no walk.
-/
import Derived.Lib.Varint
import Derived.Lib.VarintMem
namespace Go.Proofs.YtmgmhnohocamfaaGreat.pk

/-- i bytes are read, each with the bit 128; acc is what they spell. Answers the fault's number (0 none), the number, what is left. -/
def dec (i acc : Nat) : List UInt8 → Nat × Nat × List UInt8
  | [] => (3, 0, [])
  | c :: r =>
    if i = 9 ∧ 1 < c.toNat then (4, 0, [])
    else if 0 < i ∧ c.toNat = 0 then (4, 0, [])
    else if c.toNat < 128 then (0, acc + c.toNat * 2 ^ (7 * i), r)
    else dec (i + 1) (acc + c.toNat % 128 * 2 ^ (7 * i)) r

/-- The bits of a further byte are laid beside those that were there. -/
theorem or_far (k acc c : Nat) (hk : k ≤ 9) (ha : acc < 2 ^ (7 * k)) (hc : c < 128) (h9 : k = 9 → c ≤ 1) :
    bits .or .u64 (acc : Int) (IntKind.u64.wrap ((c : Int) * 2 ^ (7 * k))) = ((acc + c * 2 ^ (7 * k) : Nat) : Int) ∧ acc + c * 2 ^ (7 * k) < 2 ^ (7 * (k + 1)) ∧ acc + c * 2 ^ (7 * k) < 18446744073709551616 := by
  have hp : c * 2 ^ (7 * k) < 18446744073709551616 ∧ acc + c * 2 ^ (7 * k) < 2 ^ (7 * (k + 1)) ∧ acc + c * 2 ^ (7 * k) < 18446744073709551616 ∧ acc < 18446744073709551616 := by
    have hs : k = 0 ∨ k = 1 ∨ k = 2 ∨ k = 3 ∨ k = 4 ∨ k = 5 ∨ k = 6 ∨ k = 7 ∨ k = 8 ∨ k = 9 := by omega
    rcases hs with rfl | rfl | rfl | rfl | rfl | rfl | rfl | rfl | rfl | rfl <;> simp at ha ⊢ <;> omega
  have hw : IntKind.u64.wrap ((c : Int) * 2 ^ (7 * k)) = ((c * 2 ^ (7 * k) : Nat) : Int) := by
    have e : ((c : Int) * 2 ^ (7 * k)) = ((c * 2 ^ (7 * k) : Nat) : Int) := by simp
    rw [e]
    simp only [IntKind.wrap, IntKind.bits, IntKind.signed]
    have := hp.1
    simp
    omega
  rw [hw]
  refine ⟨?_, hp.2.1, hp.2.2.1⟩
  have hwr : ∀ n : Int, 0 ≤ n → n < 2 ^ 64 → IntKind.u64.wrap n = n := by
    intro n h0 h1
    simp only [IntKind.wrap, IntKind.bits, IntKind.signed]
    simp at h1 ⊢
    omega
  rw [(bits_nat .u64 64 (by decide) hwr acc (c * 2 ^ (7 * k)) (by have := hp.2.2.2; simpa using this) (by have := hp.1; simpa using this)).2]
  have h := Nat.two_pow_add_eq_or_of_lt ha c
  rw [Nat.or_comm] at h
  rw [Nat.mul_comm c]
  rw [← h]
  congr 1
  omega

theorem andNot_all : ∀ a : Fin 256, bits .andNot .u8 ((a.val : Nat) : Int) 128 = ((a.val % 128 : Nat) : Int) := by decide +kernel
theorem andNot128 (c : Nat) (h : c < 256) : bits .andNot .u8 (c : Int) 128 = ((c % 128 : Nat) : Int) := andNot_all ⟨c, h⟩
theorem wrap_small (n : Nat) (h : n < 18446744073709551616) : IntKind.u64.wrap (n : Int) = (n : Int) := by
  simp only [IntKind.wrap, IntKind.bits, IntKind.signed]
  simp
  omega

/-- The number with one byte more, as the program spells it. -/
theorem word_far (k acc c : Nat) (hk : k ≤ 9) (ha : acc < 2 ^ (7 * k)) (hc : c < 256) (h9 : k = 9 → c ≤ 1) :
    bits .or .u64 (acc : Int) (IntKind.u64.wrap (IntKind.u64.wrap (bits .andNot .u8 (c : Int) 128) * 2 ^ (7 * k))) = ((acc + c % 128 * 2 ^ (7 * k) : Nat) : Int) ∧ acc + c % 128 * 2 ^ (7 * k) < 2 ^ (7 * (k + 1)) := by
  have h := or_far k acc (c % 128) hk ha (by omega) (fun e => by have := h9 e; omega)
  rw [andNot128 c hc, wrap_small (c % 128) (by omega)]
  exact ⟨h.1, h.2.1⟩
theorem word_zero (acc c : Nat) (ha : acc < 2 ^ (7 * 0)) (hc : c < 128) :
    bits .or .u64 (acc : Int) (IntKind.u64.wrap (IntKind.u64.wrap (bits .andNot .u8 (c : Int) 128))) = ((acc + c * 2 ^ (7 * 0) : Nat) : Int) := by
  have h := (word_far 0 acc c (by omega) ha (by omega) (fun e => by omega)).1
  rw [Nat.mod_eq_of_lt hc] at h
  rw [← h]
  simp
theorem word_nine (acc c : Nat) (ha : acc < 2 ^ (7 * 9)) (hc : c ≤ 1) :
    bits .or .u64 (acc : Int) (IntKind.u64.wrap (IntKind.u64.wrap (bits .andNot .u8 (c : Int) 128) * 9223372036854775808)) = ((acc + c * 2 ^ (7 * 9) : Nat) : Int) := by
  have h := (word_far 9 acc c (by omega) ha (by omega) (fun _ => hc)).1
  rw [Nat.mod_eq_of_lt (by omega)] at h
  rw [← h]
  rfl
end Go.Proofs.YtmgmhnohocamfaaGreat.pk
