/-
  What is read is written to be read alike, and no longer; what is in ranges; ranges turned round. No walk.
-/
import Derived.Test.YtbaeillecojilaaDoorSeqMath
namespace Go.Proofs.YtbaeillecojilaaDoor.sq

def total : List (List UInt8) → Nat
  | [] => 0
  | a :: L => a.length + 1 + total L
theorem flat_total (c : UInt8) : ∀ (L : List (List UInt8)), (L.flatMap (fun b => c :: b)).length = total L
  | [] => rfl
  | a :: L => by
    rw [List.flatMap_cons, List.length_append, List.length_cons, flat_total c L]; rfl
theorem join_total (c : UInt8) {L : List (List UInt8)} (h : L ≠ []) : (join c L).length + 1 = total L := by
  match L, h with
  | a :: L, _ =>
    show (a ++ L.flatMap (fun b => c :: b)).length + 1 = _
    rw [List.length_append, flat_total c L]
    show _ = a.length + 1 + total L
    omega
theorem total_le (f : List UInt8 → List UInt8) : ∀ (L : List (List UInt8)), (∀ p ∈ L, (f p).length ≤ p.length) → total (L.map f) ≤ total L
  | [], _ => Nat.le_refl _
  | a :: L, h => by
    have h1 := h a (by simp)
    have h2 := total_le f L (fun p hp => h p (List.mem_cons_of_mem _ hp))
    show (f a).length + 1 + total (L.map f) ≤ a.length + 1 + total L
    omega
theorem part_back {p : List UInt8} (h : rangeOk p = true) : (one (rangeOf p)).length ≤ p.length ∧ fitR (rangeOf p) = true := by
  have hj := join_split 58 p
  have hp := split_pos 58 p
  unfold rangeOk at h
  unfold rangeOf
  match hs : split 58 p, hp with
  | [a], _ =>
    rw [hs] at h hj
    have hja : a = p := by simpa [join] using hj
    have e1 : ([a] : List (List UInt8)).getD 0 [] = a := rfl
    have e2 : ([a] : List (List UInt8)).getD (([a] : List (List UInt8)).length - 1) [] = a := rfl
    rw [e1, e2] at h ⊢
    rw [Bool.and_eq_true] at h
    obtain ⟨t1, t2⟩ := end_told h.2
    refine ⟨?_, by simp [fitR, t2]⟩
    unfold one
    rw [if_pos rfl, List.append_nil]
    show (told (endOf a)).length ≤ _
    rw [t1, hja]; exact Nat.le_refl _
  | [a, b], _ =>
    rw [hs] at h hj
    have hja : a ++ 58 :: b = p := by simpa [join] using hj
    have e1 : ([a, b] : List (List UInt8)).getD 0 [] = a := rfl
    have e2 : ([a, b] : List (List UInt8)).getD (([a, b] : List (List UInt8)).length - 1) [] = b := rfl
    rw [e1, e2] at h ⊢
    rw [Bool.and_eq_true, Bool.and_eq_true] at h
    obtain ⟨t1, t2⟩ := end_told h.1.2
    obtain ⟨u1, u2⟩ := end_told h.2
    refine ⟨?_, by simp [fitR, t2, u2]⟩
    unfold one
    show (told (endOf a) ++ (if endOf a = endOf b then [] else 58 :: told (endOf b))).length ≤ _
    rw [t1, u1, ← hja, List.length_append, List.length_append]
    split <;> simp
  | a :: b :: c :: r, _ =>
    rw [hs] at h
    have : decide ((a :: b :: c :: r).length ≤ 2) = false := decide_eq_false (by simp)
    rw [this] at h
    cases h
/-- What is read is a set, is written in no more bytes, and read so again. -/
theorem print_parse {s : List UInt8} (h : parseOk s = true) : printOk (parseOf s) = true ∧ (text (parseOf s)).length ≤ s.length := by
  have hof : parseOf s = (split 44 s).map rangeOf := by unfold parseOf; rw [if_pos h]
  have hp := split_pos 44 s
  simp only [parseOk, Bool.and_eq_true, decide_eq_true_eq] at h
  obtain ⟨h1, h2⟩ := h
  rw [List.all_eq_true] at h2
  rw [hof]
  refine ⟨?_, ?_⟩
  · unfold printOk
    rw [List.length_map, decide_eq_true (show 1 ≤ (split 44 s).length from hp), decide_eq_true h1, Bool.true_and, Bool.true_and, List.all_map, List.all_eq_true]
    intro p hpp
    exact (part_back (h2 p hpp)).2
  · have hne : split 44 s ≠ [] := fun e => by rw [e] at hp; simp at hp
    have j1 := join_total 44 hne
    rw [join_split] at j1
    have j2 := join_total 44 (L := ((split 44 s).map rangeOf).map one) (by simpa using hne)
    rw [← text_join, List.map_map] at j2
    have j3 := total_le (one ∘ rangeOf) (split 44 s) (fun p hpp => (part_back (h2 p hpp)).1)
    omega
theorem parse_bad_nil {s : List UInt8} (h : parseOk s = false) : parseOf s = [] := by unfold parseOf; rw [h]; rfl
theorem print_bad_nil {l : List (Nat × Nat)} (h : printOk l = false) : printOf l = [] := by unfold printOf; rw [h]; rfl

theorem norm_above {of : List Nat} : ∀ (L : List (Nat × Nat)) (lo : Nat), NormFrom of lo L → ∀ r ∈ L, lo < r.1 ∧ r.1 ≤ r.2
  | [], _, _, r, hr => by cases hr
  | s :: L, lo, h, r, hr => by
    obtain ⟨h1, h2, h3, h4, h5, h6, h7⟩ := NormFrom.cons.1 h
    rcases List.mem_cons.1 hr with rfl | hr
    · exact ⟨h1, h2⟩
    · have := norm_above L s.2 h7 r hr
      omega
/-- What is in the ranges of a list. -/
theorem norm_has {of : List Nat} : ∀ (L : List (Nat × Nat)) (lo : Nat), NormFrom of lo L → ∀ x, lo < x → (x ∈ of ↔ ∃ r ∈ L, r.1 ≤ x ∧ x ≤ r.2)
  | [], lo, h, x, hx => ⟨fun hm => absurd hm (h x hx), fun ⟨r, hr, _⟩ => by cases hr⟩
  | r :: L, lo, h, x, hx => by
    obtain ⟨h1, h2, h3, h4, h5, h6, h7⟩ := NormFrom.cons.1 h
    by_cases hlt : x < r.1
    · refine ⟨fun hm => absurd hm (h4 x hx hlt), fun ⟨s, hs, hs1, hs2⟩ => ?_⟩
      rcases List.mem_cons.1 hs with rfl | hs
      · omega
      · have := norm_above L r.2 h7 s hs
        omega
    · by_cases hle : x ≤ r.2
      · exact ⟨fun _ => ⟨r, by simp, by omega, hle⟩, fun _ => h5 x (by omega) hle⟩
      · rw [norm_has L r.2 h7 x (by omega)]
        constructor
        · rintro ⟨s, hs, hh⟩; exact ⟨s, List.mem_cons_of_mem _ hs, hh⟩
        · rintro ⟨s, hs, hh⟩
          rcases List.mem_cons.1 hs with rfl | hs
          · omega
          · exact ⟨s, hs, hh⟩
/-- How the ranges of a list lie. -/
theorem norm_apart {of : List Nat} : ∀ (L : List (Nat × Nat)) (lo : Nat), NormFrom of lo L → ∀ i (h : i < L.length), 1 ≤ L[i].1 ∧ L[i].1 ≤ L[i].2 ∧ L[i].2 < 18446744073709551616 ∧ (∀ (h0 : 0 < i), L[i-1].2 + 2 ≤ L[i].1)
  | [], _, _, i, h => by simp at h
  | r :: L, lo, h, 0, _ => by
    obtain ⟨h1, h2, h3, _⟩ := NormFrom.cons.1 h
    exact ⟨by show 1 ≤ r.1; omega, h2, h3, fun h0 => absurd h0 (by omega)⟩
  | r :: L, lo, h, i + 1, hi => by
    obtain ⟨h1, h2, h3, h4, h5, h6, h7⟩ := NormFrom.cons.1 h
    have hi' : i < L.length := by simpa using hi
    have ih := norm_apart L r.2 h7 i hi'
    refine ⟨ih.1, ih.2.1, ih.2.2.1, fun _ => ?_⟩
    cases i with
    | zero =>
      match L, h7, hi' with
      | s :: L, h7, _ =>
        obtain ⟨k1, k2, _, _, k5, _, _⟩ := NormFrom.cons.1 h7
        show r.2 + 2 ≤ s.1
        have : s.1 ≠ r.2 + 1 := fun e => h6 (by rw [← e]; exact k5 s.1 (Nat.le_refl _) k2)
        omega
    | succ j => exact ih.2.2.2 (by omega)
theorem norm_in {of : List Nat} {L : List (Nat × Nat)} (h : IsNorm of L) (x : Nat) : has L 0 x = decide (0 < x ∧ x ∈ of) := by
  have ha := norm_above L 0 h
  have hpos : ∀ r ∈ L, inR 0 x r = (decide (r.1 ≤ x) && decide (x ≤ r.2)) := fun r hr => by
    obtain ⟨h1, h2⟩ := ha r hr
    unfold inR
    rw [if_neg (by omega), if_neg (by omega)]
    rw [Bool.eq_iff_iff]
    simp
    omega
  rw [Bool.eq_iff_iff, decide_eq_true_eq]
  unfold has
  rw [List.any_eq_true]
  constructor
  · rintro ⟨r, hr, hi⟩
    rw [hpos r hr, Bool.and_eq_true, decide_eq_true_eq, decide_eq_true_eq] at hi
    have h0 : 0 < x := by have := ha r hr; omega
    exact ⟨h0, (norm_has L 0 h x h0).2 ⟨r, hr, hi⟩⟩
  · rintro ⟨h0, hm⟩
    obtain ⟨r, hr, hi⟩ := (norm_has L 0 h x h0).1 hm
    exact ⟨r, hr, by rw [hpos r hr, decide_eq_true hi.1, decide_eq_true hi.2]; rfl⟩

/-- Ranges turned round, and in the opposite order. -/
theorem inR_turned (most n : Nat) (r : Nat × Nat) : inR most n (r.2, r.1) = inR most n r := by
  unfold inR
  exact Bool.or_comm _ _
theorem has_turned (l : List (Nat × Nat)) (most n : Nat) : has (l.reverse.map (fun r => (r.2, r.1))) most n = has l most n := by
  unfold has
  rw [List.any_map]
  have : (inR most n ∘ fun r : Nat × Nat => (r.2, r.1)) = inR most n := funext (inR_turned most n)
  rw [this, List.any_reverse]
end Go.Proofs.YtbaeillecojilaaDoor.sq
