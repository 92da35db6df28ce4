/-
  The ranges of a list of numbers: what they are; there is one such list. No walk.
-/
import Derived.Test.YtbaeillecojilaaDoorSeqParse
namespace Go.Proofs.YtbaeillecojilaaDoor.sq
open Go.RowKit

/-- L are the ranges of what stands in a list above lo. -/
def NormFrom (of : List Nat) : Nat → List (Nat × Nat) → Prop
  | lo, [] => ∀ n, lo < n → n ∉ of
  | lo, r :: L => lo < r.1 ∧ r.1 ≤ r.2 ∧ r.2 < 18446744073709551616 ∧ (∀ n, lo < n → n < r.1 → n ∉ of) ∧ (∀ n, r.1 ≤ n → n ≤ r.2 → n ∈ of) ∧ r.2 + 1 ∉ of ∧ NormFrom of r.2 L
theorem NormFrom.nil {of : List Nat} {lo : Nat} : NormFrom of lo [] ↔ ∀ n, lo < n → n ∉ of := Iff.rfl
theorem NormFrom.cons {of : List Nat} {lo : Nat} {r : Nat × Nat} {L : List (Nat × Nat)} : NormFrom of lo (r :: L) ↔
    (lo < r.1 ∧ r.1 ≤ r.2 ∧ r.2 < 18446744073709551616 ∧ (∀ n, lo < n → n < r.1 → n ∉ of) ∧ (∀ n, r.1 ≤ n → n ≤ r.2 → n ∈ of) ∧ r.2 + 1 ∉ of ∧ NormFrom of r.2 L) := Iff.rfl
/-- There is one such list. -/
theorem norm_one {of : List Nat} : ∀ (L M : List (Nat × Nat)) (lo : Nat), NormFrom of lo L → NormFrom of lo M → L = M
  | [], [], _, _, _ => rfl
  | [], r :: M, lo, h, k => by
    obtain ⟨k1, k2, _, _, k5, _, _⟩ := NormFrom.cons.1 k
    exact absurd (k5 r.1 (Nat.le_refl _) k2) (h r.1 k1)
  | r :: L, [], lo, h, k => by
    obtain ⟨k1, k2, _, _, k5, _, _⟩ := NormFrom.cons.1 h
    exact absurd (k5 r.1 (Nat.le_refl _) k2) (k r.1 k1)
  | r :: L, s :: M, lo, h, k => by
    obtain ⟨h1, h2, _, h4, h5, h6, h7⟩ := NormFrom.cons.1 h
    obtain ⟨k1, k2, _, k4, k5, k6, k7⟩ := NormFrom.cons.1 k
    have e1 : r.1 = s.1 := by
      rcases Nat.lt_trichotomy r.1 s.1 with hl | he | hg
      · exact absurd (h5 r.1 (Nat.le_refl _) h2) (k4 r.1 h1 hl)
      · exact he
      · exact absurd (k5 s.1 (Nat.le_refl _) k2) (h4 s.1 k1 hg)
    have e2 : r.2 = s.2 := by
      rcases Nat.lt_trichotomy r.2 s.2 with hl | he | hg
      · exact absurd (k5 (r.2 + 1) (by omega) (by omega)) h6
      · exact he
      · exact absurd (h5 (s.2 + 1) (by omega) (by omega)) k6
    have e : r = s := Prod.ext e1 e2
    rw [e, norm_one L M s.2 (by rw [← e]; exact h7) k7]
def IsNorm (of : List Nat) (L : List (Nat × Nat)) : Prop := NormFrom of 0 L
theorem isNorm_one {of : List Nat} {L M : List (Nat × Nat)} (h : IsNorm of L) (k : IsNorm of M) : L = M := norm_one L M 0 h k

/-- What has been told so far: what follows behind last makes the whole. -/
def Pre (of : List Nat) (L : List (Nat × Nat)) (last : Nat) : Prop := ∀ M, NormFrom of last M → IsNorm of (L ++ M)
theorem Pre.start (of : List Nat) : Pre of [] 0 := fun _ h => h
theorem Pre.next {of : List Nat} {L : List (Nat × Nat)} {last p q : Nat} (h : Pre of L last) (h1 : last < p) (h2 : p ≤ q) (h3 : q < 18446744073709551616)
    (h4 : ∀ n, last < n → n < p → n ∉ of) (h5 : ∀ n, p ≤ n → n ≤ q → n ∈ of) (h6 : q + 1 ∉ of) : Pre of (L ++ [(p, q)]) q := fun M hM => by
  have := h ((p, q) :: M) (NormFrom.cons.2 ⟨h1, h2, h3, h4, h5, h6, hM⟩)
  rw [List.append_assoc]
  exact this
theorem Pre.done {of : List Nat} {L : List (Nat × Nat)} {last : Nat} (h : Pre of L last) (h0 : ∀ n, last < n → n ∉ of) : IsNorm of L := by
  have := h [] h0
  rwa [List.append_nil] at this

/-- Where a range may begin, as the document's answer asks it. -/
def cand (of : List Nat) (last x : Nat) : Prop := x ∈ of ∧ last < x ∧ (x - 1 ∉ of ∨ (x = 1 ∧ last = 0))
/-- last is 0 or the end of a range. -/
def Ends (of : List Nat) (last : Nat) : Prop := last = 0 ∨ (last ∈ of ∧ last + 1 ∉ of)
/-- The least number above last that stands there is a beginning. -/
theorem least_cand {of : List Nat} {last : Nat} (he : Ends of last) : ∀ (k n : Nat), n ≤ last + k → last < n → n ∈ of → ∃ m, m ≤ n ∧ cand of last m
  | 0, n, h, h1, _ => by omega
  | k + 1, n, h, h1, h2 => by
    by_cases hp : n - 1 ∈ of
    · by_cases hl : last < n - 1
      · obtain ⟨m, hm, hc⟩ := least_cand he k (n - 1) (by omega) hl hp
        exact ⟨m, by omega, hc⟩
      · have hn : n = last + 1 := by omega
        rcases he with he | ⟨_, he⟩
        · exact ⟨n, Nat.le_refl _, h2, h1, .inr ⟨by omega, he⟩⟩
        · rw [hn] at h2; exact absurd h2 he
    · exact ⟨n, Nat.le_refl _, h2, h1, .inl hp⟩
theorem none_above {of : List Nat} {last : Nat} (he : Ends of last) (h : ∀ x, ¬ cand of last x) : ∀ n, last < n → n ∉ of := fun n h1 h2 => by
  obtain ⟨m, _, hc⟩ := least_cand he (n - last) n (by omega) h1 h2
  exact h m hc
theorem none_between {of : List Nat} {last best : Nat} (he : Ends of last) (h : ∀ x, cand of last x → best ≤ x) : ∀ n, last < n → n < best → n ∉ of := fun n h1 h2 h3 => by
  obtain ⟨m, hm, hc⟩ := least_cand he (n - last) n (by omega) h1 h3
  have := h m hc
  omega

/-- How many are not above a number. -/
def upto (of : List Nat) (n : Nat) : Nat := (of.filter (fun x => decide (x ≤ n))).length
theorem upto_le (of : List Nat) (n : Nat) : upto of n ≤ of.length := List.length_filter_le _ _
theorem upto_mono : ∀ (of : List Nat) {m n : Nat}, m ≤ n → upto of m ≤ upto of n
  | [], _, _, _ => Nat.le_refl _
  | x :: of, m, n, h => by
    have ih := upto_mono of h
    unfold upto at *
    by_cases h1 : x ≤ m
    · rw [List.filter_cons_of_pos (by simpa using h1), List.filter_cons_of_pos (by simp; omega)]
      simp only [List.length_cons]; omega
    · rw [List.filter_cons_of_neg (by simpa using h1)]
      by_cases h2 : x ≤ n
      · rw [List.filter_cons_of_pos (by simpa using h2)]
        simp only [List.length_cons]; omega
      · rw [List.filter_cons_of_neg (by simpa using h2)]
        exact ih
theorem upto_more : ∀ (of : List Nat) {m n x : Nat}, x ∈ of → m < x → x ≤ n → upto of m + 1 ≤ upto of n
  | [], _, _, _, h, _, _ => by cases h
  | y :: of, m, n, x, h, h1, h2 => by
    rcases List.mem_cons.1 h with rfl | h
    · have := upto_mono of (show m ≤ n by omega)
      unfold upto at *
      rw [List.filter_cons_of_neg (by simp; omega), List.filter_cons_of_pos (by simpa using h2)]
      simp only [List.length_cons]; omega
    · have ih := upto_more of h h1 h2
      unfold upto at *
      by_cases hy1 : y ≤ m
      · rw [List.filter_cons_of_pos (by simpa using hy1), List.filter_cons_of_pos (by simp; omega)]
        simp only [List.length_cons]; omega
      · rw [List.filter_cons_of_neg (by simpa using hy1)]
        by_cases hy2 : y ≤ n
        · rw [List.filter_cons_of_pos (by simpa using hy2)]
          simp only [List.length_cons]; omega
        · rw [List.filter_cons_of_neg (by simpa using hy2)]
          exact ih

/-- The best beginning among the first ones. -/
structure Best (of : List Nat) (last k b : Nat) : Prop where
  none : b = 0 → ∀ j (h : j < of.length), j < k → ¬ cand of last of[j]
  some : b ≠ 0 → cand of last b ∧ ∀ j (h : j < of.length), j < k → cand of last of[j] → b ≤ of[j]
theorem Best.start (of : List Nat) (last : Nat) : Best of last 0 0 := ⟨fun _ _ _ h => absurd h (by omega), fun h => absurd rfl h⟩
def stepB (last b x : Nat) (c : Bool) : Nat :=
  if x = 1 ∧ last = 0 then 1 else if last < x ∧ c = false ∧ (b = 0 ∨ x < b) then x else b
theorem Best.step {of : List Nat} {last k b x : Nat} {c : Bool} (h : Best of last k b) (hk : k < of.length) (hx : of[k] = x) (hc : c = of.any (fun y => decide (y = x - 1))) : Best of last (k + 1) (stepB last b x c) := by
  have hmem : x ∈ of := by rw [← hx]; exact List.getElem_mem hk
  have hcf : c = false ↔ x - 1 ∉ of := by
    rw [hc, List.any_eq_false]
    constructor
    · intro hh hm; exact absurd (hh _ hm) (by simp)
    · intro hh y hy; simp; intro e; exact hh (by rw [← e]; exact hy)
  have ind : ∀ (q : Nat → Prop), (∀ j (h : j < of.length), j < k → q of[j]) → q x → ∀ j (h : j < of.length), j < k + 1 → q of[j] := fun q h1 h2 j hj hjk => by
    by_cases h3 : j < k
    · exact h1 j hj h3
    · obtain rfl : j = k := by omega
      rw [hx]; exact h2
  unfold stepB
  by_cases h1 : x = 1 ∧ last = 0
  · rw [if_pos h1]
    refine ⟨fun e => absurd e (by decide), fun _ => ⟨⟨by rw [← h1.1]; exact hmem, by omega, .inr ⟨rfl, h1.2⟩⟩, fun j hj _ hcj => by have := hcj.2.1; omega⟩⟩
  · rw [if_neg h1]
    by_cases h2 : last < x ∧ c = false ∧ (b = 0 ∨ x < b)
    · rw [if_pos h2]
      have hcx : cand of last x := ⟨hmem, h2.1, .inl (hcf.1 h2.2.1)⟩
      refine ⟨fun e => absurd h2.1 (by omega), fun _ => ⟨hcx, ?_⟩⟩
      refine ind (fun y => cand of last y → x ≤ y) (fun j hj hjk hcj => ?_) (fun _ => Nat.le_refl _)
      rcases h2.2.2 with hb | hb
      · exact absurd hcj (h.none hb j hj hjk)
      · have := (h.some (by omega)).2 j hj hjk hcj; omega
    · rw [if_neg h2]
      have hno : cand of last x → b ≠ 0 ∧ b ≤ x := fun hcx => by
        rcases hcx.2.2 with hq | hq
        · have h3 := hcf.2 hq
          have h4 : ¬ (b = 0 ∨ x < b) := fun h4 => h2 ⟨hcx.2.1, h3, h4⟩
          omega
        · exact absurd hq h1
      refine ⟨fun e => ind (fun y => ¬ cand of last y) (h.none e) (fun hcx => (hno hcx).1 e), fun e => ⟨(h.some e).1, ?_⟩⟩
      exact ind (fun y => cand of last y → b ≤ y) (h.some e).2 (fun hcx => (hno hcx).2)
theorem Best.zero {of : List Nat} {last : Nat} (h : Best of last of.length 0) (he : Ends of last) : ∀ n, last < n → n ∉ of :=
  none_above he (fun x hx => by
    obtain ⟨j, hj, e⟩ := List.getElem_of_mem hx.1
    exact h.none rfl j hj hj (by rw [e]; exact hx))
theorem Best.pos {of : List Nat} {last b : Nat} (h : Best of last of.length b) (hb : b ≠ 0) (he : Ends of last) : last < b ∧ b ∈ of ∧ ∀ n, last < n → n < b → n ∉ of :=
  ⟨(h.some hb).1.2.1, (h.some hb).1.1, none_between he (fun x hx => by
    obtain ⟨j, hj, e⟩ := List.getElem_of_mem hx.1
    have := (h.some hb).2 j hj hj (by rw [e]; exact hx)
    rw [e] at this; exact this)⟩
end Go.Proofs.YtbaeillecojilaaDoor.sq
