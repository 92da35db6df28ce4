/-
  A request that is sent is heard as its text: plain mathematics. No walk.
-/
import Derived.Test.YtnpikjobjmffgaaDoorLinMath
namespace Go.Proofs.YtnpikjobjmffgaaDoor.li
open Go.RowKit

theorem numv_snoc (a : List UInt8) (d : UInt8) : numv (a ++ [d]) = 10 * numv a + (d.toNat - 48) := by unfold numv; rw [List.foldl_append]; rfl
theorem dg_toNat {n : Nat} (h : n < 10) : (48 + UInt8.ofNat n).toNat = 48 + n := by
  rw [UInt8.toNat_add, UInt8.toNat_ofNat']
  show (48 + n % 256) % 256 = _
  omega
theorem dec_facts (n : Nat) : numv (dec n) = n ∧ (dec n).all isDig = true ∧ (1 ≤ n → (dec n).getD 0 0 ≠ 48) := by
  induction n using Nat.strongRecOn with
  | ind n ih =>
    by_cases h : n < 10
    · rw [dec_small h]
      have e := dg_toNat h
      refine ⟨?_, ?_, fun h1 hc => ?_⟩
      · show 10 * 0 + ((48 + UInt8.ofNat n).toNat - 48) = n
        rw [e]; omega
      · simp only [List.all_cons, List.all_nil, Bool.and_true, isDig, e]
        simp; omega
      · have : (48 + UInt8.ofNat n).toNat = 48 := by
          have h2 : 48 + UInt8.ofNat n = 48 := hc
          rw [h2]; rfl
        omega
    · obtain ⟨i1, i2, i3⟩ := ih (n / 10) (by omega)
      have e := dg_toNat (n := n % 10) (by omega)
      rw [dec_big (by omega)]
      refine ⟨?_, ?_, fun _ => ?_⟩
      · rw [numv_snoc, i1, e]; omega
      · rw [List.all_append, i2]
        simp only [List.all_cons, List.all_nil, Bool.and_true, Bool.true_and, isDig, e]
        simp; omega
      · have hp := dec_pos (n / 10)
        rw [List.getD_eq_getElem?_getD, List.getElem?_append_left hp, ← List.getD_eq_getElem?_getD]
        exact i3 (by omega)
theorem num_dec (n : Nat) (hn : n < 18446744073709551616) : numOk (dec n) = decide (n < 9223372036854775808) := by
  obtain ⟨h1, h2, h3⟩ := dec_facts n
  have hp := dec_pos n
  by_cases hb : n < 9223372036854775808
  · have hl : (dec n).length ≤ 19 := dec_length 18 n (Nat.lt_of_lt_of_le hb (by decide))
    have hno : (decide ((dec n).getD 0 0 = 48) && decide (1 < (dec n).length)) = false := by
      by_cases h0 : n = 0
      · subst h0; rw [dec_small (show 0 < 10 by decide)]; decide
      · rw [decide_eq_false (h3 (by omega)), Bool.false_and]
    unfold numOk
    rw [hno, h2, h1, decide_eq_true (show 1 ≤ (dec n).length by omega), decide_eq_true hl, decide_eq_true hb, decide_eq_true (show n ≤ 9223372036854775807 by omega)]
    rfl
  · unfold numOk
    rw [h1, decide_eq_false (show ¬ n ≤ 9223372036854775807 by omega), Bool.and_false, decide_eq_false hb]
theorem num_of_dec (n : Nat) (hn : n < 9223372036854775808) : numOf (dec n) = n := by
  unfold numOf
  rw [num_dec n (by omega), decide_eq_true hn, if_pos rfl, (dec_facts n).1]

/-- No line ends, no brackets. -/
def isPlain (c : UInt8) : Bool := decide (c ≠ 13) && (decide (c ≠ 10) && (decide (c ≠ 123) && decide (c ≠ 125)))
def plain (l : List UInt8) : List UInt8 := l.filter isPlain
theorem plain_le (l : List UInt8) : (plain l).length ≤ l.length := List.length_filter_le _ _
theorem plain_mem {l : List UInt8} {c : UInt8} (h : c ∈ plain l) : c ≠ 13 ∧ c ≠ 10 ∧ c ≠ 123 ∧ c ≠ 125 := by
  have := (List.mem_filter.1 h).2
  simpa [isPlain] using this
/-- A part that has a literal, with its literal. -/
def seg (x : List UInt8 × List UInt8) : List UInt8 := plain x.1 ++ (123 :: (dec x.2.length ++ ([125, 13, 10] ++ x.2)))
/-- What a request's text is behind its first k parts. -/
def textAt (L : List (List UInt8 × List UInt8)) (k : Nat) : List UInt8 := if k < L.length ∨ k = 0 then (L.take k).flatMap seg else (L.take (k - 1)).flatMap seg ++ plain (L.getD (k - 1) ([], [])).1
theorem textAt_zero (L : List (List UInt8 × List UInt8)) : textAt L 0 = [] := by unfold textAt; rw [if_pos (.inr rfl)]; simp
theorem textAt_mid (L : List (List UInt8 × List UInt8)) {k : Nat} (h : k + 1 < L.length) : textAt L (k + 1) = textAt L k ++ seg (L[k]'(by omega)) := by
  unfold textAt
  rw [if_pos (.inl h), if_pos (.inl (by omega)), List.take_succ_eq_append_getElem (by omega), List.flatMap_append]
  simp
theorem textAt_last (L : List (List UInt8 × List UInt8)) {k : Nat} (h : k + 1 = L.length) : textAt L (k + 1) = textAt L k ++ plain (L[k]'(by omega)).1 := by
  have h1 : textAt L (k + 1) = (L.take k).flatMap seg ++ plain (L.getD k ([], [])).1 := by
    unfold textAt
    rw [if_neg (by omega)]
    rfl
  have h2 : textAt L k = (L.take k).flatMap seg := by
    unfold textAt
    rw [if_pos (by omega)]
  rw [h1, h2, List.getD_eq_getElem?_getD, List.getElem?_eq_getElem (by omega)]
  rfl

theorem dec_mem {n : Nat} {c : UInt8} (h : c ∈ dec n) : 48 ≤ c.toNat ∧ c.toNat ≤ 57 := by
  have := List.all_eq_true.1 (dec_facts n).2.1 c h
  simpa [isDig] using this
theorem dec_not {n : Nat} {c : UInt8} (h : c ∈ dec n) : c ≠ 13 ∧ c ≠ 10 ∧ c ≠ 123 ∧ c ≠ 125 := by
  have := dec_mem h
  refine ⟨?_, ?_, ?_, ?_⟩ <;> (intro e; subst e; revert this; decide)
theorem dec_short {n : Nat} (h : n ≤ 4096) : (dec n).length ≤ 4 := dec_length 3 n (by omega)

/- The last bracket. -/
theorem lastIn_none {c : UInt8} {l : List UInt8} (h : c ∉ l) : ∀ k, k ≤ l.length → lastIn c l k = none
  | 0, _ => rfl
  | k + 1, hk => by
    rw [lastIn_no, lastIn_none h k (by omega)]
    intro e
    apply h
    rw [← e, List.getD_eq_getElem?_getD, List.getElem?_eq_getElem (by omega)]
    exact List.getElem_mem _
theorem lastIn_at {c : UInt8} {a b : List UInt8} (h : c ∉ b) : ∀ k, k ≤ b.length → lastIn c (a ++ c :: b) (a.length + 1 + k) = some a.length
  | 0, _ => by
    rw [Nat.add_zero, lastIn_yes]
    rw [List.getD_eq_getElem?_getD, List.getElem?_append_right (Nat.le_refl _)]
    simp
  | k + 1, hk => by
    rw [show a.length + 1 + (k + 1) = (a.length + 1 + k) + 1 by omega, lastIn_no, lastIn_at h k (by omega)]
    intro e
    apply h
    rw [← e, List.getD_eq_getElem?_getD, List.getElem?_append_right (by omega), show a.length + 1 + k - a.length = k + 1 by omega, List.getElem?_cons_succ, List.getElem?_eq_getElem (by omega)]
    exact List.getElem_mem _
theorem lit_seg {p : List UInt8} {n : Nat} (hn : n < 9223372036854775808) : litB (p ++ 123 :: (dec n ++ [125])) = true ∧ litN (p ++ 123 :: (dec n ++ [125])) = n := by
  have hb : (123 : UInt8) ∉ dec n ++ [125] := by
    intro h
    rcases List.mem_append.1 h with h | h
    · exact (dec_not h).2.2.1 rfl
    · simp at h
  have hl : (p ++ 123 :: (dec n ++ [125])).length = p.length + 1 + (dec n ++ [125]).length := by simp; omega
  have hli := lastIn_at (a := p) hb _ (Nat.le_refl _)
  rw [← hl] at hli
  have hlast : (p ++ 123 :: (dec n ++ [125])).getD ((p ++ 123 :: (dec n ++ [125])).length - 1) 0 = 125 := by
    rw [List.getD_eq_getElem?_getD, List.getElem?_append_right (by simp)]
    simp
  have hm := litM_some hlast hli
  have hmid : mid (p ++ 123 :: (dec n ++ [125])) p.length = dec n := by
    unfold mid
    rw [hl]
    have e1 : (p ++ 123 :: (dec n ++ [125])).drop (p.length + 1) = dec n ++ [125] := by
      rw [show p ++ 123 :: (dec n ++ [125]) = (p ++ [123]) ++ (dec n ++ [125]) by simp, List.drop_left' (by simp)]
    rw [e1, List.length_append, List.length_singleton, show p.length + 1 + ((dec n).length + 1) - 1 - (p.length + 1) = (dec n).length by omega, List.take_left]
  rw [hmid] at hm
  have h2 := lit_of_some hm
  rw [num_dec n (by omega), num_of_dec n hn, decide_eq_true hn] at h2
  exact h2
theorem lit_plain {p : List UInt8} (h : ∀ c ∈ p, c ≠ 123) : litB p = false := (lit_of_none (litM_none (lastIn_none (fun hm => h _ hm rfl) _ (Nat.le_refl _)))).1

/-- Bytes that end nothing. -/
theorem run_within : ∀ (u t : List UInt8) (q : Nat), q ≤ t.length → (t.length - q) + u.length < 1000 → t.length + u.length < 8192 → (∀ c ∈ u, c ≠ 10) → run ⟨t, q, false⟩ u = ([], ⟨t ++ u, q, false⟩)
  | [], t, q, _, _, _, _ => by rw [run_nil, List.append_nil]
  | c :: r, t, q, hq, h1, h2, hc => by
    rw [List.length_cons] at h1 h2
    have hl := snoc_len t c
    have hdl : ((t ++ [c]).drop q).length = t.length + 1 - q := by rw [List.length_drop, hl]
    have he : ends ((t ++ [c]).drop q) = false := by
      unfold ends
      rw [hdl]
      have hg : ((t ++ [c]).drop q).getD (t.length + 1 - q - 1) 0 = c := by
        rw [List.getD_eq_getElem?_getD, List.getElem?_drop, show q + (t.length + 1 - q - 1) = t.length by omega, List.getElem?_append_right (Nat.le_refl _)]
        simp
      rw [hg, decide_eq_false (hc c List.mem_cons_self), Bool.and_false, Bool.and_false]
    have hk : kindOf (t ++ [c]) q = 0 := by
      unfold kindOf
      rw [if_neg (by omega), he, if_neg (by decide), if_neg (by omega)]
    have hs := step_zero (st := ⟨t, q, false⟩) (c := c) rfl hk
    have ih := run_within r (t ++ [c]) q (by omega) (by omega) (by omega) (fun x hx => hc x (List.mem_cons_of_mem _ hx))
    rw [run_cons, hs]
    show ([] ++ (run ⟨t ++ [c], q, false⟩ r).1, (run ⟨t ++ [c], q, false⟩ r).2) = _
    rw [ih, List.nil_append, List.append_assoc]
    rfl
/-- A literal's bytes. -/
theorem run_literal : ∀ (l t : List UInt8) (q : Nat), t.length + l.length = q → run ⟨t, q, false⟩ l = ([], ⟨t ++ l, q, false⟩)
  | [], t, q, _ => by rw [run_nil, List.append_nil]
  | c :: r, t, q, h => by
    rw [List.length_cons] at h
    have hl := snoc_len t c
    have hk : kindOf (t ++ [c]) q = 0 := by
      unfold kindOf
      rw [if_pos (by rw [List.length_drop, hl]; omega)]
    have hs := step_zero (st := ⟨t, q, false⟩) (c := c) rfl hk
    have ih := run_literal r (t ++ [c]) q (by omega)
    rw [run_cons, hs]
    show ([] ++ (run ⟨t ++ [c], q, false⟩ r).1, (run ⟨t ++ [c], q, false⟩ r).2) = _
    rw [ih, List.nil_append, List.append_assoc]
    rfl
/-- The last byte of a part. -/
theorem step_lf {t u : List UInt8} : step ⟨t ++ (u ++ [13]), t.length, false⟩ 10 = ([endH (t ++ (u ++ [13, 10])) t.length], endS (t ++ (u ++ [13, 10])) t.length) := by
  have e : t ++ (u ++ [13]) ++ [10] = t ++ (u ++ [13, 10]) := by simp
  have hd : (t ++ (u ++ [13, 10])).drop t.length = u ++ [13, 10] := List.drop_left
  have he : ends (u ++ [13, 10]) = true := by
    unfold ends
    have hl : (u ++ [13, 10]).length = u.length + 2 := by simp
    rw [hl]
    have g1 : (u ++ [13, 10]).getD (u.length + 2 - 2) 0 = 13 := by
      rw [List.getD_eq_getElem?_getD, List.getElem?_append_right (by omega), show u.length + 2 - 2 - u.length = 0 by omega]; rfl
    have g2 : (u ++ [13, 10]).getD (u.length + 2 - 1) 0 = 10 := by
      rw [List.getD_eq_getElem?_getD, List.getElem?_append_right (by omega), show u.length + 2 - 1 - u.length = 1 by omega]; rfl
    rw [g1, g2, decide_eq_true (by omega)]
    decide
  have hk : kindOf ((St.mk (t ++ (u ++ [13])) t.length false).text ++ [10]) (St.mk (t ++ (u ++ [13])) t.length false).part = 1 := by
    show kindOf (t ++ (u ++ [13]) ++ [10]) t.length = 1
    rw [e]
    unfold kindOf
    rw [hd, if_neg (by simp), he, if_pos rfl]
  have hs := step_end (st := ⟨t ++ (u ++ [13]), t.length, false⟩) (c := 10) rfl hk
  rw [hs]
  show ([endH (t ++ (u ++ [13]) ++ [10]) t.length], endS (t ++ (u ++ [13]) ++ [10]) t.length) = _
  rw [e]
theorem part_text {t u : List UInt8} : ((t ++ (u ++ [13, 10])).take ((t ++ (u ++ [13, 10])).length - 2)) = t ++ u ∧ ((t ++ (u ++ [13, 10])).take ((t ++ (u ++ [13, 10])).length - 2)).drop t.length = u := by
  have h : (t ++ (u ++ [13, 10])).take ((t ++ (u ++ [13, 10])).length - 2) = t ++ u := by
    rw [show t ++ (u ++ [13, 10]) = (t ++ u) ++ [13, 10] by simp, List.length_append, show (t ++ u).length + [(13 : UInt8), 10].length - 2 = (t ++ u).length by simp, List.take_left]
  rw [h]
  exact ⟨rfl, List.drop_left⟩
theorem run_part {t u : List UInt8} (h1 : u.length + 1 < 1000) (h2 : t.length + u.length + 1 < 8192) (hu : ∀ c ∈ u, c ≠ 10) :
    run ⟨t, t.length, false⟩ (u ++ [13, 10]) = ([endH (t ++ (u ++ [13, 10])) t.length], endS (t ++ (u ++ [13, 10])) t.length) := by
  have hw := run_within (u ++ [13]) t t.length (Nat.le_refl _) (by simp; omega) (by simp; omega) (fun c hc => by
    rcases List.mem_append.1 hc with h | h
    · exact hu c h
    · simp at h; subst h; decide)
  rw [show u ++ [(13 : UInt8), 10] = (u ++ [13]) ++ [10] by simp, run_append, hw]
  show ([] ++ (run ⟨t ++ (u ++ [13]), t.length, false⟩ [10]).1, (run ⟨t ++ (u ++ [13]), t.length, false⟩ [10]).2) = _
  rw [run_one, step_lf]
  simp
/-- A part with its literal. -/
theorem run_seg {t : List UInt8} {x : List UInt8 × List UInt8} (hp : (plain x.1).length ≤ 900) (hl : x.2.length ≤ 4096) (ht : (t ++ seg x).length ≤ 8000) :
    run ⟨t, t.length, false⟩ (seg x) = ([⟨2, []⟩], ⟨t ++ seg x, (t ++ seg x).length, false⟩) := by
  have hd := dec_short hl
  obtain ⟨u, hu⟩ : ∃ u, u = plain x.1 ++ 123 :: (dec x.2.length ++ [125]) := ⟨_, rfl⟩
  have hseg : seg x = (u ++ [13, 10]) ++ x.2 := by rw [hu]; unfold seg; simp
  have hul : u.length = (plain x.1).length + (dec x.2.length).length + 2 := by rw [hu]; simp; omega
  have hlen : (t ++ seg x).length = t.length + (u.length + 2) + x.2.length := by rw [hseg]; simp; omega
  have hun : ∀ c ∈ u, c ≠ 10 := by
    intro c hc
    rw [hu] at hc
    rcases List.mem_append.1 hc with h | h
    · exact (plain_mem h).2.1
    · rcases List.mem_cons.1 h with rfl | h
      · decide
      · rcases List.mem_append.1 h with h | h
        · exact (dec_not h).2.1
        · simp at h; subst h; decide
  have hr := run_part (t := t) (u := u) (by omega) (by omega) hun
  have hpt := part_text (t := t) (u := u)
  have hlit := lit_seg (p := plain x.1) (n := x.2.length) (by omega)
  rw [← hu] at hlit
  have htl : (t ++ (u ++ [13, 10])).length = t.length + (u.length + 2) := by simp
  rcases end_cases (t ++ (u ++ [13, 10])) t.length with ⟨h1, h2, h3, h4, h5⟩ | ⟨h1, h2, _⟩ | ⟨h1, _⟩
  · rw [hpt.2, hlit.2] at h5
    rw [hseg, run_append, hr, h4, h5]
    show ([⟨2, []⟩] ++ (run ⟨t ++ (u ++ [13, 10]), (t ++ (u ++ [13, 10])).length + x.2.length, false⟩ x.2).1, (run ⟨t ++ (u ++ [13, 10]), (t ++ (u ++ [13, 10])).length + x.2.length, false⟩ x.2).2) = _
    rw [run_literal x.2 _ _ rfl]
    simp [Nat.add_assoc]
    omega
  · rw [hpt.2, hlit.2] at h2
    exact absurd ⟨hl, by omega⟩ h2
  · rw [hpt.2, hlit.1] at h1; cases h1
/-- The last part. -/
theorem run_last {t p : List UInt8} (hp : (plain p).length ≤ 900) (ht : (t ++ plain p).length ≤ 8000) :
    run ⟨t, t.length, false⟩ (plain p ++ [13, 10]) = ([⟨1, t ++ plain p⟩], st0) := by
  rw [List.length_append] at ht
  have hr := run_part (t := t) (u := plain p) (by omega) (by omega) (fun c hc => (plain_mem hc).2.1)
  have hpt := part_text (t := t) (u := plain p)
  have hlit := lit_plain (p := plain p) (fun c hc => (plain_mem hc).2.2.1)
  rw [hr]
  rcases end_cases (t ++ (plain p ++ [13, 10])) t.length with ⟨h1, _⟩ | ⟨h1, _⟩ | ⟨_, h2, h3⟩
  · rw [hpt.2, hlit] at h1; cases h1
  · rw [hpt.2, hlit] at h1; cases h1
  · rw [h2, h3, hpt.1]
theorem run_segs : ∀ (M : List (List UInt8 × List UInt8)) (t p : List UInt8), (∀ x ∈ M, (plain x.1).length ≤ 900 ∧ x.2.length ≤ 4096) → (plain p).length ≤ 900 → (t ++ (M.flatMap seg ++ plain p)).length ≤ 8000 →
    run ⟨t, t.length, false⟩ (M.flatMap seg ++ plain p ++ [13, 10]) = (List.replicate M.length ⟨2, []⟩ ++ [⟨1, t ++ (M.flatMap seg ++ plain p)⟩], st0)
  | [], t, p, _, hp, ht => by
    simp only [List.flatMap_nil, List.nil_append] at ht ⊢
    rw [run_last hp ht]
    rfl
  | x :: M, t, p, hM, hp, ht => by
    have hx := hM x List.mem_cons_self
    rw [List.flatMap_cons] at ht ⊢
    have e : t ++ (seg x ++ M.flatMap seg ++ plain p) = (t ++ seg x) ++ (M.flatMap seg ++ plain p) := by simp
    rw [e] at ht ⊢
    have hs := run_seg (t := t) hx.1 hx.2 (by rw [List.length_append] at ht; omega)
    have ih := run_segs M (t ++ seg x) p (fun y hy => hM y (List.mem_cons_of_mem _ hy)) hp ht
    rw [show seg x ++ M.flatMap seg ++ plain p ++ [13, 10] = seg x ++ (M.flatMap seg ++ plain p ++ [13, 10]) by simp, run_append, hs]
    show ([⟨2, []⟩] ++ (run ⟨t ++ seg x, (t ++ seg x).length, false⟩ (M.flatMap seg ++ plain p ++ [13, 10])).1, (run ⟨t ++ seg x, (t ++ seg x).length, false⟩ (M.flatMap seg ++ plain p ++ [13, 10])).2) = _
    rw [ih]
    simp [List.replicate_succ]
/-- A request that is sent is heard. -/
theorem run_request (L : List (List UInt8 × List UInt8)) (hL : ∀ x ∈ L, (plain x.1).length ≤ 900 ∧ x.2.length ≤ 4096) (ht : (textAt L L.length).length ≤ 8000) :
    run st0 (textAt L L.length ++ [13, 10]) = (List.replicate (L.length - 1) ⟨2, []⟩ ++ [⟨1, textAt L L.length⟩], st0) := by
  by_cases h0 : L.length = 0
  · have : L = [] := List.eq_nil_of_length_eq_zero h0
    subst this
    have h := run_segs [] [] [] (fun _ h => by cases h) (by simp [plain]) (by simp [plain])
    simpa [textAt, plain, st0] using h
  · have e : textAt L L.length = (L.take (L.length - 1)).flatMap seg ++ plain (L.getD (L.length - 1) ([], [])).1 := by unfold textAt; rw [if_neg (by omega)]
    have hlast : (plain (L.getD (L.length - 1) ([], [])).1).length ≤ 900 := by
      rw [List.getD_eq_getElem?_getD, List.getElem?_eq_getElem (by omega)]
      exact (hL _ (List.getElem_mem _)).1
    rw [e] at ht ⊢
    have h := run_segs (L.take (L.length - 1)) [] (L.getD (L.length - 1) ([], [])).1 (fun x hx => hL x (List.mem_of_mem_take hx)) hlast (by simpa using ht)
    rw [List.length_take, Nat.min_eq_left (by omega)] at h
    simpa [st0] using h
end Go.Proofs.YtnpikjobjmffgaaDoor.li
