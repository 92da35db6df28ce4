/-
  Letters great and small; texts that stand in others; no walk.
-/
import Derived.Test.YtekbjapclajflaaDoorPtSmall
namespace Go.Proofs.YtekbjapclajflaaDoor.pt
open Go.RowKit Go.Shelf fl

/-- A byte in its small form. -/
def lo1 (c : UInt8) : UInt8 := if 65 ≤ c.toNat ∧ c.toNat ≤ 90 then UInt8.ofNat (c.toNat + 32) else c
def lower (l : List UInt8) : List UInt8 := l.map lo1
theorem lower_length (l : List UInt8) : (lower l).length = l.length := by simp [lower]
theorem lo_up (c : UInt8) : lo1 (up1 c) = lo1 c := by
  unfold lo1 up1
  have := c.toNat_lt
  by_cases h : 97 ≤ c.toNat ∧ c.toNat ≤ 122
  · rw [if_pos h, if_neg (show ¬ (65 ≤ c.toNat ∧ c.toNat ≤ 90) by omega)]
    have e : (UInt8.ofNat (c.toNat - 32)).toNat = c.toNat - 32 := by rw [UInt8.toNat_ofNat']; omega
    rw [if_pos (by omega), e]
    apply UInt8.toNat_inj.1
    rw [UInt8.toNat_ofNat']
    omega
  · rw [if_neg h]
theorem up_lo (c : UInt8) : up1 (lo1 c) = up1 c := by
  unfold lo1 up1
  have := c.toNat_lt
  by_cases h : 65 ≤ c.toNat ∧ c.toNat ≤ 90
  · rw [if_pos h, if_neg (show ¬ (97 ≤ c.toNat ∧ c.toNat ≤ 122) by omega)]
    have e : (UInt8.ofNat (c.toNat + 32)).toNat = c.toNat + 32 := by rw [UInt8.toNat_ofNat']; omega
    rw [if_pos (by omega), e]
    apply UInt8.toNat_inj.1
    rw [UInt8.toNat_ofNat']
    omega
  · rw [if_neg h]
theorem lo_iff (x y : UInt8) : lo1 x = lo1 y ↔ up1 x = up1 y :=
  ⟨fun h => by rw [← up_lo x, h, up_lo], fun h => by rw [← lo_up x, h, lo_up]⟩
theorem lower_iff : ∀ a b : List UInt8, lower a = lower b ↔ upper a = upper b
  | [], [] => by simp [lower, upper]
  | [], _ :: _ => by simp [lower, upper]
  | _ :: _, [] => by simp [lower, upper]
  | x :: a, y :: b => by
    have h := lower_iff a b
    simp only [lower, upper, List.map_cons, List.cons.injEq] at h ⊢
    rw [lo_iff, h]
theorem pre_lower : ∀ p a : List UInt8, (lower p).isPrefixOf (lower a) = (upper p).isPrefixOf (upper a)
  | [], _ => by simp [lower, upper]
  | _ :: _, [] => by simp [lower, upper]
  | x :: p, y :: a => by
    have h := pre_lower p a
    have e : (lo1 x == lo1 y) = (up1 x == up1 y) := by rw [Bool.eq_iff_iff, beq_iff_eq, beq_iff_eq, lo_iff]
    simp only [lower, upper, List.map_cons, List.isPrefixOf] at h ⊢
    rw [e, h]
theorem index_lower (p : List UInt8) : ∀ a : List UInt8, Lib.index (lower a) (lower p) = Lib.index (upper a) (upper p)
  | [] => by
    cases p <;> simp [lower, upper, Lib.index]
  | y :: a => by
    have h := index_lower p a
    have k := pre_lower p (y :: a)
    simp only [lower, upper, List.map_cons] at h k ⊢
    simp only [Lib.index]
    rw [k, h]
theorem contains_lower (a p : List UInt8) : Lib.contains (lower a) (lower p) = Lib.contains (upper a) (upper p) := by
  unfold Lib.contains
  rw [index_lower]

theorem occ_short {s w : List UInt8} {i : Nat} (h : s.length - i < w.length) : Lib.occAt s w i = false := by
  unfold Lib.occAt
  cases hb : w.isPrefixOf (s.drop i) with
  | false => rfl
  | true =>
    have := List.IsPrefix.length_le (List.isPrefixOf_iff_prefix.1 hb)
    rw [List.length_drop] at this
    omega
theorem occ_iff {s w : List UInt8} {i : Nat} : Lib.occAt s w i = true ↔ (s.drop i).take w.length = w := by
  unfold Lib.occAt
  rw [List.isPrefixOf_iff_prefix, List.prefix_iff_eq_take]
  exact ⟨fun h => h.symm, fun h => h.symm⟩
theorem occ_zero (m w : List UInt8) : Lib.occAt m w 0 = Lib.hasPrefix m w := rfl
theorem hsize_hit {m : List UInt8} {i : Nat} (h0 : Lib.hasPrefix m crlf = false) (hn : ∀ j, j < i → Lib.occAt m crlf2 j = false) (hi : i ≤ m.length) (ho : Lib.occAt m crlf2 i = true) : hsize m = i + 4 := by
  have h := Lib.index_first hi ho hn
  unfold hsize
  rw [h0, h, if_neg (by decide), if_pos (by omega)]
  rfl
theorem hsize_none {m : List UInt8} (h0 : Lib.hasPrefix m crlf = false) (hn : ∀ j, j < m.length → Lib.occAt m crlf2 j = false) : hsize m = m.length := by
  have h : Lib.index m crlf2 = -1 := Lib.index_none fun j hj => by
    by_cases h : j < m.length
    · exact hn j h
    · exact occ_short (by simp [crlf2]; omega)
  unfold hsize
  rw [h0, h, if_neg (by decide), if_neg (by decide)]
theorem hsize_two {m : List UInt8} (h0 : Lib.hasPrefix m crlf = true) : hsize m = 2 := by unfold hsize; rw [h0]; rfl

theorem cutL_snoc (l : List UInt8) (x : UInt8) (f c : Nat) : cutL (l ++ [x]) f c = if f ≤ l.length ∧ (cutL l f c).length < c then cutL l f c ++ [x] else cutL l f c := by
  unfold cutL
  by_cases h : f ≤ l.length
  · rw [List.drop_append_of_le_length h]
    by_cases h2 : ((l.drop f).take c).length < c
    · rw [if_pos ⟨h, h2⟩]
      rw [List.length_take] at h2
      rw [List.take_of_length_le (show (l.drop f).length ≤ c by omega), List.take_of_length_le (by rw [List.length_append]; simp; rw [List.length_drop] at h2; omega)]
    · rw [if_neg (fun h' => h2 h'.2)]
      rw [List.length_take] at h2
      exact List.take_append_of_le_length (by omega)
  · rw [if_neg (fun h' => h h'.1), List.drop_of_length_le (by rw [List.length_append]; simp; omega), List.drop_of_length_le (by omega)]
end Go.Proofs.YtekbjapclajflaaDoor.pt
