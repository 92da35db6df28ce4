/-
  Lines, fields, what they are made of; no walk.
-/
import Derived.Test.YtekbjapclajflaaDoorPtLow
namespace Go.Proofs.YtekbjapclajflaaDoor.pt
open Go.RowKit Go.Shelf fl

/-- What stands between line ends. -/
def splitL : Nat → List UInt8 → List (List UInt8)
  | 0, l => [l]
  | n + 1, l => if 0 ≤ Lib.index l crlf then l.take (Lib.index l crlf).toNat :: splitL n (l.drop ((Lib.index l crlf).toNat + 2)) else [l]
theorem splitL_any : ∀ (n m : Nat) (l : List UInt8), l.length ≤ n → l.length ≤ m → splitL n l = splitL m l
  | 0, 0, _, _, _ => rfl
  | 0, m + 1, l, h, _ => by
    have : l = [] := List.length_eq_zero_iff.1 (by omega)
    subst this
    rfl
  | n + 1, 0, l, _, h => by
    have : l = [] := List.length_eq_zero_iff.1 (by omega)
    subst this
    rfl
  | n + 1, m + 1, l, h1, h2 => by
    unfold splitL
    by_cases hi : 0 ≤ Lib.index l crlf
    · have hr := Lib.index_room l crlf hi
      have h2 : crlf.length = 2 := rfl
      rw [if_pos hi, if_pos hi, splitL_any n m _ (by rw [List.length_drop]; omega) (by rw [List.length_drop]; omega)]
    · rw [if_neg hi, if_neg hi]
def lines (l : List UInt8) : List (List UInt8) := splitL l.length l
theorem lines_one {l : List UInt8} (h : Lib.index l crlf = -1) : lines l = [l] := by
  unfold lines
  cases hl : l.length with
  | zero => rfl
  | succ n => unfold splitL; rw [h, if_neg (by decide)]
theorem lines_cut {l : List UInt8} {i : Nat} (h : Lib.index l crlf = i) : lines l = l.take i :: lines (l.drop (i + 2)) := by
  have hr := Lib.index_room l crlf (by omega)
  have h2 : crlf.length = 2 := rfl
  unfold lines
  rw [splitL_any l.length (l.length + 1) l (Nat.le_refl _) (by omega)]
  conv => lhs; unfold splitL
  rw [h, if_pos (by omega), Int.toNat_natCast]
  rw [splitL_any l.length (l.drop (i + 2)).length _ (by rw [List.length_drop]; omega) (Nat.le_refl _)]
theorem idx2_cases (l : List UInt8) : Lib.index l crlf = -1 ∨ ∃ i : Nat, Lib.index l crlf = i ∧ i + 2 ≤ l.length := by
  by_cases h : 0 ≤ Lib.index l crlf
  · have hr := Lib.index_room l crlf h
    have h2 : crlf.length = 2 := rfl
    exact .inr ⟨(Lib.index l crlf).toNat, by omega, by omega⟩
  · have := Lib.index_ge l crlf
    exact .inl (by omega)
theorem splitL_size : ∀ (n : Nat) (l : List UInt8), (splitL n l).flatten.length ≤ l.length ∧ (splitL n l).length ≤ n + 1
  | 0, l => by simp [splitL]
  | n + 1, l => by
    unfold splitL
    by_cases hi : 0 ≤ Lib.index l crlf
    · have hr := Lib.index_room l crlf hi
      have h2 : crlf.length = 2 := rfl
      have ih := splitL_size n (l.drop ((Lib.index l crlf).toNat + 2))
      rw [if_pos hi]
      rw [List.length_drop] at ih
      simp only [List.flatten_cons, List.length_append, List.length_cons, List.length_take]
      omega
    · rw [if_neg hi]
      simp
theorem lines_size (l : List UInt8) : (lines l).flatten.length ≤ l.length := (splitL_size _ l).1
theorem lines_count (l : List UInt8) : (lines l).length ≤ l.length + 1 := (splitL_size _ l).2

/-! ### Lines that go on -/
/-- A line more: what is done, the lines under way. -/
def stepP (a : List (List UInt8) × List (List UInt8)) (l : List UInt8) : List (List UInt8) × List (List UInt8) :=
  if a.2 ≠ [] ∧ goesOn l = false then (a.1 ++ [a.2.flatten], [l]) else (a.1, a.2 ++ [l])
def runP (ls : List (List UInt8)) : List (List UInt8) × List (List UInt8) := ls.foldl stepP ([], [])
theorem runP_snoc (ls : List (List UInt8)) (l : List UInt8) : runP (ls ++ [l]) = stepP (runP ls) l := by simp [runP]
theorem runP_out {ls : List (List UInt8)} {l : List UInt8} (h : (runP ls).2 ≠ []) (hg : goesOn l = false) : runP (ls ++ [l]) = ((runP ls).1 ++ [(runP ls).2.flatten], [l]) := by
  rw [runP_snoc]; unfold stepP; rw [if_pos ⟨h, hg⟩]
theorem runP_in {ls : List (List UInt8)} {l : List UInt8} (h : (runP ls).2 = [] ∨ goesOn l = true) : runP (ls ++ [l]) = ((runP ls).1, (runP ls).2 ++ [l]) := by
  rw [runP_snoc]; unfold stepP; rw [if_neg]
  rintro ⟨h1, h2⟩
  rcases h with h | h
  · exact h1 h
  · rw [h] at h2; cases h2
theorem step_pre (a : List (List UInt8) × List (List UInt8)) (l : List UInt8) : a.1 <+: (stepP a l).1 := by
  unfold stepP
  split
  · exact ⟨_, rfl⟩
  · exact List.prefix_refl _
theorem fold_pre : ∀ (ls : List (List UInt8)) (a : List (List UInt8) × List (List UInt8)), a.1 <+: (ls.foldl stepP a).1
  | [], _ => List.prefix_refl _
  | l :: r, a => (step_pre a l).trans (fold_pre r (stepP a l))
theorem runP_pre (ls r : List (List UInt8)) : (runP ls).1 <+: (runP (ls ++ r)).1 := by
  unfold runP; rw [List.foldl_append]; exact fold_pre r _
theorem step_size (a : List (List UInt8) × List (List UInt8)) (l : List UInt8) : (stepP a l).1.flatten.length + (stepP a l).2.flatten.length = a.1.flatten.length + a.2.flatten.length + l.length := by
  unfold stepP
  split
  · simp
  · simp; omega
theorem fold_size : ∀ (ls : List (List UInt8)) (a : List (List UInt8) × List (List UInt8)), (ls.foldl stepP a).1.flatten.length + (ls.foldl stepP a).2.flatten.length = a.1.flatten.length + a.2.flatten.length + ls.flatten.length
  | [], _ => by simp
  | l :: r, a => by
    have h1 := step_size a l
    have h2 := fold_size r (stepP a l)
    simp only [List.foldl_cons, List.flatten_cons, List.length_append]
    omega
theorem runP_size (ls : List (List UInt8)) : (runP ls).1.flatten.length + (runP ls).2.flatten.length = ls.flatten.length := by
  have := fold_size ls ([], [])
  simpa [runP] using this
theorem step_count (a : List (List UInt8) × List (List UInt8)) (l : List UInt8) : (stepP a l).2.length ≤ a.2.length + 1 := by
  unfold stepP
  split <;> simp
theorem fold_count : ∀ (ls : List (List UInt8)) (a : List (List UInt8) × List (List UInt8)), (ls.foldl stepP a).2.length ≤ a.2.length + ls.length
  | [], _ => by simp
  | l :: r, a => by
    have h1 := step_count a l
    have h2 := fold_count r (stepP a l)
    simp only [List.foldl_cons, List.length_cons]
    omega
theorem runP_count (ls : List (List UInt8)) : (runP ls).2.length ≤ ls.length := by
  have := fold_count ls ([], [])
  simpa [runP] using this
theorem runP_nil {ls : List (List UInt8)} (h : (runP ls).2 = []) : ls = [] := by
  rcases List.eq_nil_or_concat ls with e | ⟨r, l, e⟩
  · exact e
  · rw [e, List.concat_eq_append, runP_snoc] at h
    unfold stepP at h
    split at h <;> simp at h
/-- The header's lines, each with those that go on with it. -/
def unf (ls : List (List UInt8)) : List (List UInt8) := (runP ls).1 ++ [(runP ls).2.flatten]
theorem unf_part {ls pre post : List (List UInt8)} {l : List UInt8} (he : ls = pre ++ l :: post) (h : (runP pre).2 ≠ []) (hg : goesOn l = false) :
    ∃ t, unf ls = (runP pre).1 ++ (runP pre).2.flatten :: t := by
  have h1 := runP_pre (pre ++ [l]) post
  rw [runP_out h hg] at h1
  obtain ⟨t, ht⟩ := h1
  have e : pre ++ [l] ++ post = ls := by rw [he]; simp
  rw [e] at ht
  refine ⟨t ++ [(runP ls).2.flatten], ?_⟩
  unfold unf
  rw [← ht]
  simp
/-- The reference's way: a line is put behind the last one, or is one more. -/
def addR (acc : List (List UInt8)) (l : List UInt8) : List (List UInt8) := if acc ≠ [] ∧ goesOn l = true then acc.dropLast ++ [acc.getLast?.getD [] ++ l] else acc ++ [l]
theorem addR_unf (ls : List (List UInt8)) (l : List UInt8) (h : ls ≠ []) : addR (unf ls) l = unf (ls ++ [l]) := by
  have hne : (runP ls).2 ≠ [] := fun e => h (runP_nil e)
  unfold addR
  cases hg : goesOn l with
  | true =>
    rw [if_pos ⟨by simp [unf], rfl⟩]
    have e := runP_in (ls := ls) (l := l) (.inr hg)
    unfold unf
    rw [e]
    simp
  | false =>
    rw [if_neg (by simp)]
    have e := runP_out hne hg
    unfold unf
    rw [e]
    simp
theorem addR_nil (l : List UInt8) : addR [] l = unf [l] := by simp [addR, unf, runP, stepP]

/-! ### Fields -/
/-- A field: its name and its value. -/
def fieldOf (s : List UInt8) : Option (List UInt8 × List UInt8) :=
  if Lib.indexByte s 58 ≤ 0 then none else some (s.take (Lib.indexByte s 58).toNat, Lib.trimS (s.drop ((Lib.indexByte s 58).toNat + 1)) [32, 9])
def fieldsU (us : List (List UInt8)) : List (List UInt8 × List UInt8) := us.filterMap fieldOf
theorem fieldsU_snoc (us : List (List UInt8)) (s : List UInt8) : fieldsU (us ++ [s]) = fieldsU us ++ (fieldOf s).toList := by
  unfold fieldsU
  rw [List.filterMap_append]
  cases h : fieldOf s <;> simp [h]
/-- The fields of a message. -/
def fields (m : List UInt8) : List (List UInt8 × List UInt8) := fieldsU (unf (lines (head m)))

/-! ### What is cut off at both ends -/
def rt (p : UInt8 → Bool) : List UInt8 → List UInt8
  | [] => []
  | c :: l => if rt p l = [] ∧ p c = true then [] else c :: rt p l
theorem rt_snoc (p : UInt8 → Bool) : ∀ (l : List UInt8) (c : UInt8), rt p (l ++ [c]) = if p c = true then rt p l else l ++ [c]
  | [], c => by simp [rt]
  | d :: l, c => by
    have ih := rt_snoc p l c
    simp only [List.cons_append, rt, ih]
    by_cases h : p c = true
    · simp [h]
    · simp [h]
theorem rt_eq (p : UInt8 → Bool) (l : List UInt8) : rt p l = (l.reverse.dropWhile p).reverse := by
  induction h : l.length generalizing l with
  | zero => rw [List.length_eq_zero_iff.1 h]; rfl
  | succ n ih =>
    rcases List.eq_nil_or_concat l with e | ⟨r, c, e⟩
    · rw [e] at h; cases h
    · rw [e, List.concat_eq_append] at h ⊢
      rw [rt_snoc, ih r (by simpa using h)]
      by_cases hp : p c = true
      · rw [if_pos hp]; simp [hp]
      · rw [if_neg hp]; simp [hp]
theorem trim_turn (p : UInt8 → Bool) : ∀ l : List UInt8, (rt p l).dropWhile p = rt p (l.dropWhile p)
  | [] => rfl
  | c :: l => by
    have ih := trim_turn p l
    by_cases hp : p c = true
    · rw [List.dropWhile_cons, if_pos hp, ← ih]
      by_cases h : rt p l = []
      · rw [rt, if_pos ⟨h, hp⟩, h]
      · rw [rt, if_neg (fun h' => h h'.1), List.dropWhile_cons, if_pos hp]
    · rw [List.dropWhile_cons, if_neg hp]
      have e : rt p (c :: l) = c :: rt p l := by rw [rt, if_neg (fun h' => hp h'.2)]
      rw [e, List.dropWhile_cons, if_neg hp]
theorem trimS_eq (l : List UInt8) : Lib.trimS l [32, 9] = rt (fun c => [32, 9].contains c) (l.dropWhile (fun c => [32, 9].contains c)) := by
  unfold Lib.trimS Lib.trimLeftS Lib.trimRightS
  rw [← rt_eq, trim_turn]
theorem blank_set (c : UInt8) : [32, 9].contains c = (c == 32 || c == 9) := by simp [Bool.beq_eq_decide_eq]
end Go.Proofs.YtekbjapclajflaaDoor.pt
