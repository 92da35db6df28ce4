/-
  The reference's way to the fields: where it stands in a header; no walk.
-/
import Derived.Test.YtecemfebbonkpaaDoorPtFold
namespace Go.Proofs.YtecemfebbonkpaaDoor.pt
open Go.RowKit Go.Shelf fl

def accR (ls : List (List UInt8)) : List (List UInt8) := ls.foldl addR []
theorem accR_snoc (ls : List (List UInt8)) (l : List UInt8) : accR (ls ++ [l]) = addR (accR ls) l := by simp [accR]
theorem accR_unf : ∀ (n : Nat) (ls : List (List UInt8)), ls.length = n + 1 → accR ls = unf ls
  | 0, ls, h => by
    obtain ⟨l, rfl⟩ := List.length_eq_one_iff.1 h
    exact addR_nil l
  | n + 1, ls, h => by
    rcases List.eq_nil_or_concat ls with e | ⟨r, l, e⟩
    · rw [e] at h; cases h
    · rw [e, List.concat_eq_append] at h ⊢
      have hr : r.length = n + 1 := by simpa using h
      rw [accR_snoc, accR_unf n r hr, addR_unf r l (fun e => by rw [e] at hr; cases hr)]
theorem lines_ne (l : List UInt8) : lines l ≠ [] := by
  unfold lines
  cases l.length with
  | zero => simp [splitL]
  | succ n =>
    unfold splitL
    split <;> simp
theorem accR_lines (l : List UInt8) : accR (lines l) = unf (lines l) := by
  have h := lines_ne l
  cases hn : (lines l).length with
  | zero => exact absurd (List.length_eq_zero_iff.1 hn) h
  | succ n => exact accR_unf n _ hn

theorem occ_drop (h w : List UInt8) (f j : Nat) : Lib.occAt (h.drop f) w j = Lib.occAt h w (f + j) := by
  unfold Lib.occAt
  rw [List.drop_drop]
theorem occ_head {h : List UInt8} {k : Nat} (ho : Lib.occAt h crlf k = true) : k + 2 ≤ h.length ∧ Lib.occAt h crlf (k + 1) = false := by
  have h1 := Lib.occAt_room ho
  have h2 : crlf.length = 2 := rfl
  refine ⟨(by rcases h1 with h1 | h1 <;> first | omega | (cases h1)), ?_⟩
  have h3 := Lib.occAt_second (c0 := 13) (c1 := 10) (t := []) rfl ho
  cases hb : Lib.occAt h crlf (k + 1) with
  | false => rfl
  | true =>
    have h4 := Lib.occAt_head (c := 13) (t := [10]) rfl hb
    rw [h3] at h4
    cases h4

/-- Where the reference stands: behind k bytes, the next line from f on, so many lines told. -/
structure At (h : List UInt8) (k f : Nat) (R : List (List UInt8)) : Prop where
  ls : ∃ ls, lines h = ls ++ lines (h.drop f) ∧ R = accR ls
  le : f ≤ h.length
  no : ∀ j, f ≤ j → j < k → Lib.occAt h crlf j = false
  at' : f ≤ k ∨ (k + 1 = f ∧ Lib.occAt h crlf k = false)
theorem at_start (h : List UInt8) : At h 0 0 [] := ⟨⟨[], rfl, rfl⟩, Nat.zero_le _, fun j _ hj => by omega, .inl (Nat.le_refl _)⟩
theorem At.next {h : List UInt8} {k f : Nat} {R : List (List UInt8)} (a : At h k f R) (ho : Lib.occAt h crlf k = false) : At h (k + 1) f R :=
  ⟨a.ls, a.le, fun j h1 h2 => by
    by_cases hj : j < k
    · exact a.no j h1 hj
    · obtain rfl : j = k := by omega
      exact ho, .inl (by rcases a.at' with h | h <;> omega)⟩
theorem At.from_le {h : List UInt8} {k f : Nat} {R : List (List UInt8)} (a : At h k f R) (ho : Lib.occAt h crlf k = true) : f ≤ k := by
  rcases a.at' with h' | h'
  · exact h'
  · rw [h'.2] at ho; cases ho
theorem At.hit {h : List UInt8} {k f : Nat} {R : List (List UInt8)} (a : At h k f R) (ho : Lib.occAt h crlf k = true) : At h (k + 1) (k + 2) (addR R ((h.drop f).take (k - f))) := by
  have hf := a.from_le ho
  obtain ⟨hk, ho2⟩ := occ_head ho
  obtain ⟨ls, e1, e2⟩ := a.ls
  have hi : Lib.index (h.drop f) crlf = ((k - f : Nat) : Int) := Lib.index_first (by rw [List.length_drop]; omega) (by rw [occ_drop, show f + (k - f) = k by omega]; exact ho)
    (fun j hj => by rw [occ_drop]; exact a.no _ (by omega) (by omega))
  have hl := lines_cut hi
  rw [List.drop_drop, show f + (k - f + 2) = k + 2 by omega] at hl
  refine ⟨⟨ls ++ [(h.drop f).take (k - f)], by rw [e1, hl]; simp, by rw [accR_snoc, e2]⟩, hk, fun j h1 h2 => by omega, .inr ⟨by omega, ho2⟩⟩
theorem At.end_le {h : List UInt8} {f : Nat} {R : List (List UInt8)} (a : At h h.length f R) : f ≤ h.length := a.le
theorem At.last {h : List UInt8} {f : Nat} {R : List (List UInt8)} (a : At h h.length f R) : addR R ((h.drop f).take (h.length - f)) = unf (lines h) := by
  obtain ⟨ls, e1, e2⟩ := a.ls
  have hn : Lib.index (h.drop f) crlf = -1 := Lib.index_none fun j hj => by
    rw [List.length_drop] at hj
    by_cases h' : f + j < h.length
    · rw [occ_drop]; exact a.no _ (by omega) h'
    · exact occ_short (by rw [List.length_drop]; simp [crlf]; omega)
  rw [lines_one hn] at e1
  rw [List.take_of_length_le (by rw [List.length_drop]; omega), e2, ← accR_snoc, ← e1, accR_lines]
theorem addR_size (R : List (List UInt8)) (l : List UInt8) : (addR R l).flatten.length = R.flatten.length + l.length := by
  unfold addR
  split
  · next h =>
    rcases List.eq_nil_or_concat R with e | ⟨r, x, e⟩
    · exact absurd e h.1
    · rw [e, List.concat_eq_append]
      simp
      omega
  · simp
theorem addR_count (R : List (List UInt8)) (l : List UInt8) : (addR R l).length ≤ R.length + 1 := by
  unfold addR
  split
  · simp
  · simp
theorem accR_size : ∀ (n : Nat) (ls : List (List UInt8)), ls.length = n → (accR ls).flatten.length = ls.flatten.length ∧ (accR ls).length ≤ n
  | 0, ls, h => by
    rw [List.length_eq_zero_iff.1 h]
    exact ⟨rfl, Nat.le_refl _⟩
  | n + 1, ls, h => by
    rcases List.eq_nil_or_concat ls with e | ⟨r, x, e⟩
    · rw [e] at h; cases h
    · rw [e, List.concat_eq_append] at h ⊢
      have ih := accR_size n r (by simpa using h)
      rw [accR_snoc, addR_size, ih.1]
      refine ⟨by simp, Nat.le_trans (addR_count _ _) (by omega)⟩
theorem At.size {h : List UInt8} {k f : Nat} {R : List (List UInt8)} (a : At h k f R) : R.flatten.length ≤ h.length ∧ R.length ≤ h.length + 1 := by
  obtain ⟨ls, e1, e2⟩ := a.ls
  have h1 := accR_size ls.length ls rfl
  have h2 := lines_size h
  have h3 := lines_count h
  rw [e1] at h2 h3
  simp only [List.flatten_append, List.length_append] at h2 h3
  rw [e2]
  omega
/-- The reference's three ways to take a line. -/
theorem addR_more {R : List (List UInt8)} {l : List UInt8} (h : R = [] ∨ goesOn l = false) : addR R l = R ++ [l] := by
  unfold addR
  rw [if_neg]
  rintro ⟨h1, h2⟩
  rcases h with h | h
  · exact h1 h
  · rw [h2] at h; cases h
theorem addR_on {R : List (List UInt8)} {x l : List UInt8} (h : goesOn l = true) : addR (R ++ [x]) l = R ++ [x ++ l] := by
  unfold addR
  rw [if_pos ⟨by simp, h⟩]
  simp

/-! ### A field of a line -/
theorem fieldOf_none {u : List UInt8} {k : Nat} (hn : ∀ j, j < k → u[j]? ≠ some 58) (h : k = 0 ∧ (u[0]? = some 58) ∨ k = u.length) : fieldOf u = none := by
  unfold fieldOf
  rw [if_pos]
  by_cases hi : Lib.indexByte u 58 ≤ 0
  · exact hi
  · exfalso
    have hs := Lib.indexByte_some (o := (Lib.indexByte u 58).toNat) (l := u) (c := 58) (by omega)
    rcases h with ⟨rfl, h0⟩ | rfl
    · exact hs.2 0 (by omega) h0
    · have hlt : (Lib.indexByte u 58).toNat < u.length := by
        have h1 := hs.1
        rcases Nat.lt_or_ge (Lib.indexByte u 58).toNat u.length with h' | h'
        · exact h'
        · rw [List.getElem?_eq_none h'] at h1; cases h1
      exact hn _ hlt hs.1
theorem fieldOf_some {u : List UInt8} {k : Nat} (hn : ∀ j, j < k → u[j]? ≠ some 58) (h0 : 0 < k) (hk : u[k]? = some 58) : fieldOf u = some (u.take k, Lib.trimS (u.drop (k + 1)) [32, 9]) := by
  have hi : Lib.indexByte u 58 = (k : Int) := by
    have hge := Lib.indexByte_ge u 58
    by_cases h : Lib.indexByte u 58 = -1
    · exact absurd hk (Lib.indexByte_none h k)
    · have hs := Lib.indexByte_some (o := (Lib.indexByte u 58).toNat) (l := u) (c := 58) (by omega)
      rcases Nat.lt_trichotomy (Lib.indexByte u 58).toNat k with h' | h' | h'
      · exact absurd hs.1 (hn _ h')
      · omega
      · exact absurd hk (hs.2 k h')
  unfold fieldOf
  rw [hi, if_neg (by omega), Int.toNat_natCast]
def isB (c : UInt8) : Bool := c == 32 || c == 9
theorem trim_two (l : List UInt8) : Lib.trimS l [32, 9] = rt isB (l.dropWhile isB) := by
  rw [trimS_eq, show (fun c : UInt8 => [32, 9].contains c) = isB from funext blank_set]
theorem rt_end {l : List UInt8} {c : UInt8} (h : isB c = false) : rt isB (l ++ [c]) = l ++ [c] := by rw [rt_snoc, h, if_neg (by decide)]
theorem rt_go {l : List UInt8} {c : UInt8} (h : isB c = true) : rt isB (l ++ [c]) = rt isB l := by rw [rt_snoc, h, if_pos rfl]
/-! ### The rows of fields -/
def cellsF (l : List (List UInt8 × List UInt8)) : List Value := l.flatMap fun p => [.string (S p.1), .string (S p.2)]
theorem cellsF_snoc (l : List (List UInt8 × List UInt8)) (p : List UInt8 × List UInt8) : cellsF (l ++ [p]) = cellsF l ++ [.string (S p.1), .string (S p.2)] := by simp [cellsF]
theorem cellsF_length (l : List (List UInt8 × List UInt8)) : (cellsF l).length = l.length * 2 := by
  induction l with
  | nil => rfl
  | cons p l ih =>
    have e : cellsF (p :: l) = [.string (S p.1), .string (S p.2)] ++ cellsF l := rfl
    rw [e, List.length_append, ih]
    simp
    omega
theorem cellsF_get : ∀ (l : List (List UInt8 × List UInt8)) (j : Nat) (h : j < l.length), (cellsF l)[j * 2]? = some (.string (S l[j].1)) ∧ (cellsF l)[j * 2 + 1]? = some (.string (S l[j].2))
  | p :: l, 0, _ => ⟨rfl, rfl⟩
  | p :: l, j + 1, h => by
    have ih := cellsF_get l j (by simpa using h)
    have e : cellsF (p :: l) = .string (S p.1) :: .string (S p.2) :: cellsF l := rfl
    rw [e, show (j + 1) * 2 = j * 2 + 1 + 1 by omega]
    simpa using ih
theorem count_fields (us : List (List UInt8)) : (fieldsU us).length ≤ us.length := by
  unfold fieldsU; exact List.length_filterMap_le _ _
end Go.Proofs.YtecemfebbonkpaaDoor.pt
