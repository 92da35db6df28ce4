/-
  Digits read as bytes: what the reference does, pair by pair, and what the program does, are the same. No walk.
-/
import Derived.Test.YtpimdbnhpbjlkaaGreatDoorDigUnhex
import Derived.Test.YtpimdbnhpbjlkaaGreatDoorShelf
namespace Go.Proofs.YtpimdbnhpbjlkaaGreatDoor.dg

def place (a : UInt8) : Nat := (Lib.indexByte digits a).toNat
def dg (a : UInt8) : Bool := decide (0 ≤ Lib.indexByte digits a)
theorem dg_facts (a : UInt8) : (dg a = true → place a < 16 ∧ digit (place a) = a ∧ Lib.indexByte digits a = (place a : Nat)) ∧ (dg a = false → Lib.indexByte digits a = -1) := by
  have h : ∀ i : Fin 256, (dg (UInt8.ofNat i.1) = true → place (UInt8.ofNat i.1) < 16 ∧ digit (place (UInt8.ofNat i.1)) = UInt8.ofNat i.1 ∧ Lib.indexByte digits (UInt8.ofNat i.1) = (place (UInt8.ofNat i.1) : Nat)) ∧ (dg (UInt8.ofNat i.1) = false → Lib.indexByte digits (UInt8.ofNat i.1) = -1) := by decide +kernel
  have := h ⟨a.toNat, UInt8.toNat_lt a⟩
  simpa using this
theorem digit_dg {p : Nat} (hp : p < 16) : dg (digit p) = true ∧ place (digit p) = p := by
  have h : ∀ i : Fin 16, dg (digit i.1) = true ∧ place (digit i.1) = i.1 := by decide +kernel
  exact h ⟨p, hp⟩
theorem digit_inj {p q : Nat} (hp : p < 16) (hq : q < 16) (h : digit p = digit q) : p = q := by
  rw [← (digit_dg hp).2, h, (digit_dg hq).2]

/-- The byte of two digits. -/
def two8 (a b : UInt8) : UInt8 := UInt8.ofNat (16 * place a + place b)
/-- All are digits, in pairs. -/
def good : List UInt8 → Bool
  | a :: b :: r => dg a && dg b && good r
  | [] => true
  | [_] => false
def vals : List UInt8 → List UInt8
  | a :: b :: r => two8 a b :: vals r
  | _ => []

theorem range_filter (m : Nat) : ∀ n, (List.range n).filter (fun c => decide (c = m)) = if m < n then [m] else []
  | 0 => rfl
  | n + 1 => by
    rw [List.range_succ, List.filter_append, range_filter m n]
    by_cases h : n = m
    · subst h
      simp
    · have : (List.filter (fun c => decide (c = m)) [n]) = [] := by simp [h]
      rw [this, List.append_nil]
      by_cases h2 : m < n
      · rw [if_pos h2, if_pos (by omega)]
      · rw [if_neg h2, if_neg (by omega)]
theorem hex1_toNat {c : Nat} (hc : c < 256) : hex1 c.toUInt8 = [digit (c / 16), digit (c % 16)] := by
  have : c.toUInt8.toNat = c := by simp; omega
  unfold hex1
  rw [this]
theorem hits_good {a b : UInt8} (ha : dg a = true) (hb : dg b = true) : hits 256 a b = [two8 a b] := by
  obtain ⟨pa, da, _⟩ := (dg_facts a).1 ha
  obtain ⟨pb, db, _⟩ := (dg_facts b).1 hb
  have e : (List.range 256).filter (fun c => decide (hex1 c.toUInt8 = [a, b])) = (List.range 256).filter (fun c => decide (c = 16 * place a + place b)) := by
    apply List.filter_congr
    intro c hc
    have hc' : c < 256 := List.mem_range.1 hc
    rw [hex1_toNat hc']
    have : ([digit (c / 16), digit (c % 16)] = [a, b]) ↔ c = 16 * place a + place b := by
      constructor
      · intro h
        simp only [List.cons.injEq, and_true] at h
        have h1 := digit_inj (p := c / 16) (q := place a) (by omega) pa (by rw [h.1, da])
        have h2 := digit_inj (p := c % 16) (q := place b) (by omega) pb (by rw [h.2, db])
        omega
      · intro h
        have h1 : c / 16 = place a := by omega
        have h2 : c % 16 = place b := by omega
        rw [h1, h2, da, db]
    simp only [this]
  unfold hits
  rw [e, range_filter, if_pos (by omega)]
  rfl
theorem hits_bad {a b : UInt8} (h : ¬(dg a = true ∧ dg b = true)) : hits 256 a b = [] := by
  unfold hits
  rw [List.map_eq_nil_iff, List.filter_eq_nil_iff]
  intro c hc
  have hc' : c < 256 := List.mem_range.1 hc
  rw [hex1_toNat hc', decide_eq_true_iff]
  intro he
  simp only [List.cons.injEq, and_true] at he
  exact h ⟨by rw [← he.1]; exact (digit_dg (by omega)).1, by rw [← he.2]; exact (digit_dg (by omega)).1⟩
theorem vals_length : ∀ {l : List UInt8}, good l = true → 2 * (vals l).length = l.length
  | a :: b :: r, h => by
    simp only [good, Bool.and_eq_true] at h
    have := vals_length h.2
    simp only [vals, List.length_cons]
    omega
  | [], _ => rfl
  | [_], h => by simp [good] at h
theorem un_good : ∀ {l : List UInt8}, good l = true → un l = vals l
  | a :: b :: r, h => by
    simp only [good, Bool.and_eq_true] at h
    show hits 256 a b ++ un r = _
    rw [hits_good h.1.1 h.1.2, un_good h.2]
    rfl
  | [], _ => rfl
  | [_], h => by simp [good] at h
theorem hits_le (a b : UInt8) : (hits 256 a b).length ≤ 1 := by
  by_cases h : dg a = true ∧ dg b = true
  · rw [hits_good h.1 h.2]; exact Nat.le_refl _
  · rw [hits_bad h]; exact Nat.zero_le _
theorem un_le : ∀ l : List UInt8, 2 * (un l).length ≤ l.length
  | a :: b :: r => by
    show 2 * (hits 256 a b ++ un r).length ≤ _
    have h1 := hits_le a b
    have h2 := un_le r
    rw [List.length_append, List.length_cons, List.length_cons]
    omega
  | [] => by simp [un]
  | [_] => by simp [un]
theorem un_bad : ∀ {l : List UInt8}, good l = false → 2 * (un l).length < l.length
  | a :: b :: r, h => by
    show 2 * (hits 256 a b ++ un r).length < _
    have h1 := hits_le a b
    have h2 := un_le r
    rw [List.length_append, List.length_cons, List.length_cons]
    by_cases hab : dg a = true ∧ dg b = true
    · have hr : good r = false := by
        cases hg : good r with
        | false => rfl
        | true => simp [good, hab.1, hab.2, hg] at h
      have := un_bad hr
      omega
    · rw [hits_bad hab]
      simp
      omega
  | [], h => by simp [good] at h
  | [_], _ => by simp [un]
/-- What digits are read as. -/
def unhex (l : List UInt8) : List UInt8 := if good l = true then vals l else []
theorem ref_unhex (l : List UInt8) : (if 2 * (un l).length = l.length then un l else []) = unhex l ∧ decide (2 * (un l).length = l.length) = good l := by
  unfold unhex
  cases h : good l with
  | true =>
    have h1 := vals_length h
    have h2 := un_good h
    rw [h2]
    simp [h1]
  | false =>
    have := un_bad h
    have h3 : ¬ 2 * (un l).length = l.length := by omega
    simp [h3]
theorem good_hex : ∀ l : List UInt8, good (hex l) = true ∧ vals (hex l) = l
  | [] => ⟨rfl, rfl⟩
  | c :: l => by
    have ih := good_hex l
    have hlt := UInt8.toNat_lt c
    have e : hex (c :: l) = digit (c.toNat / 16) :: digit (c.toNat % 16) :: hex l := rfl
    have d1 := digit_dg (p := c.toNat / 16) (by omega)
    have d2 := digit_dg (p := c.toNat % 16) (by omega)
    rw [e]
    constructor
    · simp [good, d1.1, d2.1, ih.1]
    · simp only [vals, two8, d1.2, d2.2, ih.2]
      congr 1
      rw [show 16 * (c.toNat / 16) + c.toNat % 16 = c.toNat by omega]
      simp
theorem hex_vals : ∀ {l : List UInt8}, good l = true → hex (vals l) = l
  | a :: b :: r, h => by
    simp only [good, Bool.and_eq_true] at h
    obtain ⟨pa, da, _⟩ := (dg_facts a).1 h.1.1
    obtain ⟨pb, db, _⟩ := (dg_facts b).1 h.1.2
    have ih := hex_vals h.2
    show hex1 (two8 a b) ++ hex (vals r) = _
    have e : hex1 (two8 a b) = [a, b] := by
      have := hex1_toNat (c := 16 * place a + place b) (by omega)
      rw [show (16 * place a + place b) / 16 = place a by omega, show (16 * place a + place b) % 16 = place b by omega, da, db] at this
      exact this
    rw [e, ih]
    rfl
  | [], _ => rfl
  | [_], h => by simp [good] at h

theorem vals_take (l : List UInt8) (j : Nat) (h : 2 * j + 1 < l.length) : vals (l.take (2 * (j + 1))) = vals (l.take (2 * j)) ++ [two8 (l[2 * j]) (l[2 * j + 1])] := by
  have app : ∀ (j : Nat) (p r : List UInt8), p.length = 2 * j → vals (p ++ r) = vals p ++ vals r := by
    intro j
    induction j with
    | zero => intro p r hp; obtain rfl : p = [] := List.length_eq_zero_iff.1 (by omega); rfl
    | succ j ih =>
      intro p r hp
      match p, hp with
      | a :: b :: p, hp =>
        show two8 a b :: vals (p ++ r) = _
        rw [ih p r (by simp at hp; omega)]
        rfl
      | [a], hp => simp at hp; omega
      | [], hp => simp at hp
  have e : l.take (2 * (j + 1)) = l.take (2 * j) ++ [l[2 * j], l[2 * j + 1]] := by
    rw [show 2 * (j + 1) = 2 * j + 1 + 1 by omega, List.take_succ_eq_append_getElem h, List.take_succ_eq_append_getElem (by omega), List.append_assoc]
    rfl
  rw [e, app j _ _ (by rw [List.length_take]; omega)]
  rfl
theorem vals_take_length (l : List UInt8) (j : Nat) (h : 2 * j ≤ l.length) : (vals (l.take (2 * j))).length = j := by
  induction j with
  | zero => simp [vals]
  | succ j ih => rw [vals_take l j (by omega), List.length_append, ih (by omega)]; rfl
/-- Digits alone ahead of pair j, and all at the end: a list that is read. -/
theorem good_iff : ∀ l : List UInt8, good l = true ↔ l.length % 2 = 0 ∧ ∀ i (h : i < l.length), dg l[i] = true
  | a :: b :: r => by
    have ih := good_iff r
    simp only [good, Bool.and_eq_true, ih]
    constructor
    · rintro ⟨⟨ha, hb⟩, he, hr⟩
      refine ⟨by simp; omega, fun i h => ?_⟩
      match i, h with
      | 0, _ => exact ha
      | 1, _ => exact hb
      | i + 2, h => exact hr i (by simp at h; omega)
    · rintro ⟨he, hr⟩
      refine ⟨⟨hr 0 (by simp), hr 1 (by simp)⟩, by simp at he; omega, fun i h => ?_⟩
      exact hr (i + 2) (by simp; omega)
  | [] => by simp [good]
  | [a] => by simp [good]
theorem not_good {l : List UInt8} {i : Nat} (h : i < l.length) (hd : dg l[i] = false) : good l = false := by
  cases hg : good l with
  | false => rfl
  | true => have := ((good_iff l).1 hg).2 i h; rw [hd] at this; cases this
theorem odd_bad {l : List UInt8} (h : l.length % 2 = 1) : good l = false := by
  cases hg : good l with
  | false => rfl
  | true => have := ((good_iff l).1 hg).1; omega
end Go.Proofs.YtpimdbnhpbjlkaaGreatDoor.dg
