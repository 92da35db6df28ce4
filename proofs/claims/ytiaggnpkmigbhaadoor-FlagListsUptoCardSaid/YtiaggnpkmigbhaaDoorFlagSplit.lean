/-
  A text's pieces; a flag list's text. No walk.
-/
import Derived.Test.YtiaggnpkmigbhaaDoorFlagMem
import Derived.Lib.Bytealg
namespace Go.Proofs.YtiaggnpkmigbhaaDoor.fl
open Go.RowKit

theorem splitA_idx (c : UInt8) : ∀ (l cur : List UInt8),
    (Lib.indexByte l c = -1 ∧ c ∉ l ∧ splitA c cur l = [cur ++ l]) ∨
      ∃ i : Nat, i < l.length ∧ Lib.indexByte l c = (i : Int) ∧ splitA c cur l = (cur ++ l.take i) :: splitA c [] (l.drop (i + 1)) ∧ l.count c = (l.drop (i + 1)).count c + 1
  | [], cur => .inl ⟨rfl, by simp, by simp [splitA]⟩
  | x :: r, cur => by
    by_cases hx : x = c
    · subst hx
      refine .inr ⟨0, by simp, by simp [Lib.indexByte], ?_, ?_⟩
      · rw [splitA_cons, if_pos rfl]; simp
      · simp
    · have hb : (x == c) = false := by rw [beq_eq_false_iff_ne]; exact hx
      rcases splitA_idx c r (cur ++ [x]) with ⟨h1, h2, h3⟩ | ⟨i, h1, h2, h3, h4⟩
      · refine .inl ⟨by simp [Lib.indexByte, hb, h1], by simp [h2]; exact fun e => hx e.symm, ?_⟩
        rw [splitA_cons, if_neg hx, h3]; simp
      · refine .inr ⟨i + 1, by simp; exact h1, ?_, ?_, ?_⟩
        · simp [Lib.indexByte, hb, h2]
        · rw [splitA_cons, if_neg hx, h3]; simp
        · rw [List.count_cons, hb, List.drop_succ_cons, h4]; simp
/-- The first place of a byte: none, or the piece ahead of it and the pieces behind. -/
theorem idx_cases (c : UInt8) (l : List UInt8) : (Lib.indexByte l c = -1 ∧ c ∉ l ∧ split c l = [l]) ∨
    ∃ i : Nat, i < l.length ∧ Lib.indexByte l c = (i : Int) ∧ split c l = l.take i :: split c (l.drop (i + 1)) ∧ l.count c = (l.drop (i + 1)).count c + 1 := splitA_idx c l []
theorem split_count (c : UInt8) : ∀ (n : Nat) (l : List UInt8), l.length ≤ n → (split c l).length = l.count c + 1
  | n, l, h => by
    rcases idx_cases c l with ⟨_, h2, h3⟩ | ⟨i, h1, _, h3, h4⟩
    · rw [h3, List.count_eq_zero.2 h2]; rfl
    · match n with
      | 0 => omega
      | n + 1 => rw [h3, h4, List.length_cons, split_count c n _ (by rw [List.length_drop]; omega)]

/-- A text's pieces, put together. -/
def join (c : UInt8) : List (List UInt8) → List UInt8
  | [] => []
  | a :: L => a ++ L.flatMap (fun b => c :: b)
theorem splitA_free (c : UInt8) : ∀ (p cur : List UInt8), c ∉ p → splitA c cur p = [cur ++ p]
  | [], cur, _ => by simp [splitA]
  | x :: p, cur, h => by
    rw [List.mem_cons, not_or] at h
    rw [splitA_cons, if_neg (fun e => h.1 e.symm), splitA_free c p _ h.2]
    simp
theorem splitA_sep (c : UInt8) : ∀ (p cur rest : List UInt8), c ∉ p → splitA c cur (p ++ c :: rest) = (cur ++ p) :: splitA c [] rest
  | [], cur, rest, _ => by rw [List.nil_append, splitA_cons, if_pos rfl, List.append_nil]
  | x :: p, cur, rest, h => by
    rw [List.mem_cons, not_or] at h
    rw [List.cons_append, splitA_cons, if_neg (fun e => h.1 e.symm), splitA_sep c p _ rest h.2]
    simp
theorem split_join (c : UInt8) : ∀ (L : List (List UInt8)) (a : List UInt8), (∀ p ∈ a :: L, c ∉ p) → split c (join c (a :: L)) = a :: L
  | [], a, h => by
    show splitA c [] (a ++ [].flatMap _) = _
    rw [List.flatMap_nil, List.append_nil, splitA_free c a [] (h a (by simp))]; rfl
  | b :: L, a, h => by
    have ih := split_join c L b (fun p hp => h p (List.mem_cons_of_mem _ hp))
    show splitA c [] (a ++ (b :: L).flatMap (fun b => c :: b)) = _
    rw [List.flatMap_cons, List.cons_append, splitA_sep c a [] _ (h a (by simp))]
    rw [List.nil_append]
    congr 1
theorem join_splitA (c : UInt8) : ∀ (l cur : List UInt8), join c (splitA c cur l) = cur ++ l
  | [], cur => by simp [splitA, join]
  | x :: r, cur => by
    rw [splitA_cons]
    by_cases h : x = c
    · rw [if_pos h]
      have ih := join_splitA c r []
      have hp := splitA_pos c r []
      match hs : splitA c [] r, hp with
      | b :: L, _ =>
        rw [hs, List.nil_append] at ih
        show cur ++ (b :: L).flatMap (fun b => c :: b) = _
        rw [List.flatMap_cons, List.cons_append, show b ++ L.flatMap (fun b => c :: b) = r from ih, h]
    · rw [if_neg h, join_splitA c r]
      simp
theorem join_split (c : UInt8) (l : List UInt8) : join c (split c l) = l := by
  have := join_splitA c l []
  rwa [List.nil_append] at this

theorem S_take (l : List UInt8) (i : Nat) : (S l).extract 0 i = S (l.take i) := by rw [S_mid]; simp
theorem S_drop (l : List UInt8) (i : Nat) : (S l).extract i l.length = S (l.drop i) := by
  rw [S_mid, List.take_of_length_le (by rw [List.length_drop]; omega)]


/-! ### Flag lists -/
def print (l : List (List UInt8)) : List UInt8 := 40 :: join 32 l ++ [41]
/-- What stands ahead of the first closing bracket. -/
def inside : List UInt8 → List UInt8
  | [] => []
  | c :: r => if c = 41 then [] else c :: inside r
/-- The names of a list. -/
def names (t : List UInt8) : List (List UInt8) := if t = [] then [] else split 32 t
/-- The set, how many bytes, the error's number. -/
def parse (s : List UInt8) : List (List UInt8) × Nat × Nat := match s with
  | c :: r => if c = 40 ∧ (41 : UInt8) ∈ r then
      let m := make (names (inside r))
      if m.2 = 0 then (m.1, (inside r).length + 2, 0) else ([], 0, m.2)
    else ([], 0, 4)
  | [] => ([], 0, 4)
theorem parse_nil : parse [] = ([], 0, 4) := rfl
theorem parse_bad {c : UInt8} {r : List UInt8} (h : ¬ (c = 40 ∧ (41 : UInt8) ∈ r)) : parse (c :: r) = ([], 0, 4) := by
  unfold parse; exact if_neg h
theorem parse_good {r : List UInt8} (h : (41 : UInt8) ∈ r) : parse (40 :: r) = if (make (names (inside r))).2 = 0 then ((make (names (inside r))).1, (inside r).length + 2, 0) else ([], 0, (make (names (inside r))).2) := by
  unfold parse; exact if_pos ⟨rfl, h⟩
theorem inside_free : ∀ r : List UInt8, (41 : UInt8) ∉ inside r
  | [] => by simp [inside]
  | c :: r => by
    unfold inside
    split
    · simp
    · rename_i h
      rw [List.mem_cons, not_or]
      exact ⟨fun e => h e.symm, inside_free r⟩
theorem inside_app {b : List UInt8} : ∀ {a : List UInt8}, (41 : UInt8) ∉ a → inside (a ++ 41 :: b) = a
  | [], _ => by simp [inside]
  | c :: a, h => by
    rw [List.mem_cons, not_or] at h
    rw [List.cons_append, inside, if_neg (fun e => h.1 e.symm), inside_app h.2]
/-- The first closing bracket parts what is inside from what is behind. -/
theorem inside_split : ∀ {r : List UInt8}, (41 : UInt8) ∈ r → ∃ b, r = inside r ++ 41 :: b
  | [], h => by simp at h
  | c :: r, h => by
    by_cases hc : c = 41
    · exact ⟨r, by rw [inside, if_pos hc, hc]; rfl⟩
    · obtain ⟨b, hb⟩ := inside_split (r := r) (by
        rcases List.mem_cons.1 h with e | e
        · exact absurd e.symm hc
        · exact e)
      refine ⟨b, ?_⟩
      rw [inside, if_neg hc, List.cons_append, ← hb]
theorem names_join {l : List (List UInt8)} (h : ∀ x ∈ l, x ≠ [] ∧ (32 : UInt8) ∉ x) : names (join 32 l) = l := by
  cases l with
  | nil => rfl
  | cons a L =>
    have h1 : join 32 (a :: L) ≠ [] := fun e => by
      have h2 := (h a (by simp)).1
      simp only [join, List.append_eq_nil_iff] at e
      exact h2 e.1
    unfold names
    rw [if_neg h1]
    exact split_join 32 L a fun p hp => (h p hp).2
theorem join_free {c d : UInt8} (hcd : d ≠ c) {l : List (List UInt8)} (h : ∀ x ∈ l, d ∉ x) : d ∉ join c l := by
  cases l with
  | nil => simp [join]
  | cons a L =>
    simp only [join, List.mem_append, List.mem_flatMap, not_or]
    refine ⟨h a (by simp), ?_⟩
    rintro ⟨x, hx, hd⟩
    rcases List.mem_cons.1 hd with e | e
    · exact hcd e
    · exact h x (by simp [hx]) e
/-- What a set is written as is read as the set, whatever stands behind. -/
theorem parse_print {l : List (List UInt8)} (h : IsRight l) (behind : List UInt8) : parse (print l ++ behind) = (l, (print l).length, 0) := by
  have h41 : (41 : UInt8) ∉ join 32 l := join_free (by decide) fun x hx => (canon_form (h.c x hx)).2.2.2
  have e : print l ++ behind = 40 :: (join 32 l ++ 41 :: behind) := by unfold print; simp
  rw [e, parse_good (by simp), inside_app h41, names_join (fun x hx => ⟨(canon_form (h.c x hx)).2.1, (canon_form (h.c x hx)).2.2.1⟩), right_make h]
  unfold print
  simp
end Go.Proofs.YtiaggnpkmigbhaaDoor.fl
