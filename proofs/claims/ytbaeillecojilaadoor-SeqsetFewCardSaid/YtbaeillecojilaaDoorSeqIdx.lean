/-
  Where a byte first stands in a text, and the text's pieces. No walk.
-/
import Derived.Test.YtbaeillecojilaaDoorSeqMath
import Derived.Lib.Bytealg
namespace Go.Proofs.YtbaeillecojilaaDoor.sq
open Go.RowKit

theorem splitA_idx (c : UInt8) : ∀ (l cur : List UInt8),
    (Lib.indexByte l c = -1 ∧ c ∉ l ∧ splitA c cur l = [cur ++ l]) ∨
      ∃ i : Nat, i < l.length ∧ Lib.indexByte l c = (i : Int) ∧ splitA c cur l = (cur ++ l.take i) :: splitA c [] (l.drop (i + 1)) ∧ l.count c = (l.drop (i + 1)).count c + 1
  | [], cur => .inl ⟨rfl, by simp, by simp [splitA]⟩
  | x :: r, cur => by
    by_cases hx : x = c
    · subst hx
      refine .inr ⟨0, by simp, by simp [Lib.indexByte], ?_, ?_⟩
      · rw [splitA_cons, if_pos rfl]; simp
      · simp
    · have hb : (x == c) = false := by rw [beq_eq_false_iff_ne]; exact hx
      rcases splitA_idx c r (cur ++ [x]) with ⟨h1, h2, h3⟩ | ⟨i, h1, h2, h3, h4⟩
      · refine .inl ⟨by simp [Lib.indexByte, hb, h1], by simp [h2]; exact fun e => hx e.symm, ?_⟩
        rw [splitA_cons, if_neg hx, h3]; simp
      · refine .inr ⟨i + 1, by simp; exact h1, ?_, ?_, ?_⟩
        · simp [Lib.indexByte, hb, h2]
        · rw [splitA_cons, if_neg hx, h3]; simp
        · rw [List.count_cons, hb, List.drop_succ_cons, h4]; simp
/-- The first place of a byte: none, or the piece ahead of it and the pieces behind. -/
theorem idx_cases (c : UInt8) (l : List UInt8) : (Lib.indexByte l c = -1 ∧ c ∉ l ∧ split c l = [l]) ∨
    ∃ i : Nat, i < l.length ∧ Lib.indexByte l c = (i : Int) ∧ split c l = l.take i :: split c (l.drop (i + 1)) ∧ l.count c = (l.drop (i + 1)).count c + 1 := splitA_idx c l []
theorem split_count (c : UInt8) : ∀ (n : Nat) (l : List UInt8), l.length ≤ n → (split c l).length = l.count c + 1
  | n, l, h => by
    rcases idx_cases c l with ⟨_, h2, h3⟩ | ⟨i, h1, _, h3, h4⟩
    · rw [h3, List.count_eq_zero.2 h2]; rfl
    · match n with
      | 0 => omega
      | n + 1 => rw [h3, h4, List.length_cons, split_count c n _ (by rw [List.length_drop]; omega)]

/-- A part of a set, by the first colon. -/
theorem part_none {p : List UInt8} (h : split 58 p = [p]) : rangeOk p = endOk p ∧ rangeOf p = (endOf p, endOf p) := by
  unfold rangeOk rangeOf
  rw [h]
  simp
theorem end_free {p : List UInt8} (h : endOk p = true) : split 58 p = [p] := by
  have hf : (58 : UInt8) ∉ p := by
    rw [← (end_told h).1]
    exact told_free (by decide) (by decide)
  rcases idx_cases 58 p with ⟨_, _, h3⟩ | ⟨i, h1, _, _, h4⟩
  · exact h3
  · exact absurd (List.count_pos_iff.1 (by omega)) hf
theorem part_two {p a b : List UInt8} (h : split 58 p = a :: split 58 b) : rangeOk p = (endOk a && endOk b) ∧ (rangeOk p = true → rangeOf p = (endOf a, endOf b)) := by
  by_cases hb : endOk b = true
  · have hs := end_free hb
    unfold rangeOk rangeOf
    rw [h, hs]
    simp
  · have hb' : endOk b = false := by simpa using hb
    have hr : rangeOk p = false := by
      unfold rangeOk
      rw [h]
      by_cases h2 : (split 58 b).length = 1
      · obtain ⟨x, hx⟩ := List.length_eq_one_iff.1 h2
        have : split 58 b = [b] := by
          rcases idx_cases 58 b with ⟨_, _, h3⟩ | ⟨i, _, _, h3, _⟩
          · exact h3
          · have hp := split_pos 58 (b.drop (i + 1))
            rw [h3, List.length_cons] at h2
            omega
        rw [this]
        simp [hb']
      · have hp := split_pos 58 b
        rw [decide_eq_false (by rw [List.length_cons]; omega)]
        rfl
    rw [hr, hb']
    simp
end Go.Proofs.YtbaeillecojilaaDoor.sq
