/-
  The check sum of layer 2 (seal), as a function on lists of bytes: two states that differ stay different, so one byte turned gives another sum. Plain mathematics, no walk.
-/
namespace Go.Proofs.Ytpeogcjakojjhaa.sl

/-- One bit of the check sum: the bits are moved down by one; where the lowest one was 1 the polynomial is laid over. -/
def crcBit (c : Nat) : Nat := if c % 2 = 1 then c / 2 ^^^ 3988292384 else c / 2
/-- n bits. -/
def crcBits : Nat → Nat → Nat
  | 0, c => c
  | n + 1, c => crcBits n (crcBit c)
/-- One byte: it is laid over the lowest eight, then eight bits. -/
def crcByte (c : Nat) (b : UInt8) : Nat := crcBits 8 (c ^^^ b.toNat)
def crcFrom (c : Nat) (l : List UInt8) : Nat := l.foldl crcByte c
/-- The check sum. -/
def crc (l : List UInt8) : Nat := 4294967295 - crcFrom 4294967295 l

theorem crcBit_lt {c : Nat} (h : c < 4294967296) : crcBit c < 4294967296 := by
  unfold crcBit
  split
  · exact Nat.xor_lt_two_pow (n := 32) (by omega) (by decide)
  · omega

theorem top_of_xor {c : Nat} (h : c < 4294967296) : 2147483648 ≤ (c / 2 ^^^ 3988292384) := by
  have h1 : (c / 2).testBit 31 = false := Nat.testBit_lt_two_pow (by omega)
  have h2 : (3988292384 : Nat).testBit 31 = true := by decide
  have h3 : (c / 2 ^^^ 3988292384).testBit 31 = true := by rw [Nat.testBit_xor, h1, h2]; rfl
  exact Nat.ge_two_pow_of_testBit h3

theorem xor_right_inj {a b p : Nat} (h : a ^^^ p = b ^^^ p) : a = b := by
  have := congrArg (· ^^^ p) h
  simpa [Nat.xor_assoc] using this

theorem crcBit_inj {c d : Nat} (hc : c < 4294967296) (hd : d < 4294967296) (h : crcBit c = crcBit d) : c = d := by
  unfold crcBit at h
  by_cases h1 : c % 2 = 1 <;> by_cases h2 : d % 2 = 1
  · rw [if_pos h1, if_pos h2] at h
    have := xor_right_inj h
    omega
  · rw [if_pos h1, if_neg h2] at h
    have := top_of_xor hc
    omega
  · rw [if_neg h1, if_pos h2] at h
    have := top_of_xor hd
    omega
  · rw [if_neg h1, if_neg h2] at h
    omega

theorem crcBits_lt : ∀ (n : Nat) {c : Nat}, c < 4294967296 → crcBits n c < 4294967296
  | 0, _, h => h
  | n + 1, _, h => crcBits_lt n (crcBit_lt h)
theorem crcBits_inj : ∀ (n : Nat) {c d : Nat}, c < 4294967296 → d < 4294967296 → crcBits n c = crcBits n d → c = d
  | 0, _, _, _, _, h => h
  | n + 1, _, _, hc, hd, h => crcBit_inj hc hd (crcBits_inj n (crcBit_lt hc) (crcBit_lt hd) h)

theorem xor_byte_lt {c : Nat} (h : c < 4294967296) (b : UInt8) : c ^^^ b.toNat < 4294967296 :=
  Nat.xor_lt_two_pow (n := 32) (by omega) (by have := b.toNat_lt; omega)
theorem crcByte_lt {c : Nat} (h : c < 4294967296) (b : UInt8) : crcByte c b < 4294967296 := crcBits_lt 8 (xor_byte_lt h b)
theorem crcByte_inj {c d : Nat} (hc : c < 4294967296) (hd : d < 4294967296) {b : UInt8} (h : crcByte c b = crcByte d b) : c = d :=
  xor_right_inj (crcBits_inj 8 (xor_byte_lt hc b) (xor_byte_lt hd b) h)
theorem crcByte_byte {c : Nat} (hc : c < 4294967296) {b b' : UInt8} (h : crcByte c b = crcByte c b') : b = b' := by
  have h1 := crcBits_inj 8 (xor_byte_lt hc b) (xor_byte_lt hc b') h
  rw [Nat.xor_comm c, Nat.xor_comm c] at h1
  exact UInt8.toNat_inj.1 (xor_right_inj h1)

theorem crcFrom_lt : ∀ (l : List UInt8) {c : Nat}, c < 4294967296 → crcFrom c l < 4294967296
  | [], _, h => h
  | b :: l, _, h => crcFrom_lt l (crcByte_lt h b)
theorem crcFrom_inj : ∀ (l : List UInt8) {c d : Nat}, c < 4294967296 → d < 4294967296 → crcFrom c l = crcFrom d l → c = d
  | [], _, _, _, _, h => h
  | b :: l, _, _, hc, hd, h => crcByte_inj hc hd (crcFrom_inj l (crcByte_lt hc b) (crcByte_lt hd b) h)

/-- One byte turned: another check sum. -/
theorem crc_turned (p : List UInt8) (b b' : UInt8) (r : List UInt8) (hne : b ≠ b') : crc (p ++ b :: r) ≠ crc (p ++ b' :: r) := by
  intro h
  have h0 : (4294967295 : Nat) < 4294967296 := by decide
  have hp := crcFrom_lt p h0
  have e : ∀ x : UInt8, crcFrom 4294967295 (p ++ x :: r) = crcFrom (crcByte (crcFrom 4294967295 p) x) r := by
    intro x
    unfold crcFrom
    rw [List.foldl_append, List.foldl_cons]
  unfold crc at h
  rw [e, e] at h
  have l1 := crcFrom_lt r (crcByte_lt hp b)
  have l2 := crcFrom_lt r (crcByte_lt hp b')
  exact hne (crcByte_byte hp (crcFrom_inj r (crcByte_lt hp b) (crcByte_lt hp b') (by omega)))
theorem crc_lt (l : List UInt8) : crc l < 4294967296 := by unfold crc; omega

/-- A number's four bytes, the highest first. -/
def four (n : Nat) : List UInt8 := [(n / 16777216).toUInt8, (n / 65536 % 256).toUInt8, (n / 256 % 256).toUInt8, (n % 256).toUInt8]
/-- Four bytes as a number. -/
def big : List UInt8 → Nat
  | [a, b, c, d] => ((a.toNat * 256 + b.toNat) * 256 + c.toNat) * 256 + d.toNat
  | _ => 0
theorem toU8 {a : Nat} (h : a < 256) : (a.toUInt8).toNat = a := by
  simp [Nat.toUInt8, UInt8.toNat_ofNat']
  omega
theorem big_four {n : Nat} (h : n < 4294967296) : big (four n) = n := by
  unfold big four
  simp only
  rw [toU8 (by omega), toU8 (by omega), toU8 (by omega), toU8 (by omega)]
  omega
theorem four_length (n : Nat) : (four n).length = 4 := rfl
end Go.Proofs.Ytpeogcjakojjhaa.sl
