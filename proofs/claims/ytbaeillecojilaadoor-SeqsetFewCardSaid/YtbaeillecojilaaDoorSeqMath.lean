/-
  There and back: sets of numbers. No walk.
-/
import Derived.Test.YtbaeillecojilaaDoorSeqNorm
namespace Go.Proofs.YtbaeillecojilaaDoor.sq

theorem numv_snoc (a : List UInt8) (d : UInt8) : numv (a ++ [d]) = 10 * numv a + (d.toNat - 48) := by unfold numv; rw [List.foldl_append]; rfl
theorem dg_toNat {n : Nat} (h : n < 10) : (48 + UInt8.ofNat n).toNat = 48 + n := by
  rw [UInt8.toNat_add, UInt8.toNat_ofNat']
  show (48 + n % 256) % 256 = _
  omega
theorem dec_facts (n : Nat) : numv (dec n) = n ∧ (dec n).all isDig = true ∧ (1 ≤ n → (dec n).getD 0 0 ≠ 48) := by
  induction n using Nat.strongRecOn with
  | ind n ih =>
    by_cases h : n < 10
    · rw [dec_small h]
      have e := dg_toNat h
      refine ⟨?_, ?_, fun h1 hc => ?_⟩
      · show 10 * 0 + ((48 + UInt8.ofNat n).toNat - 48) = n
        rw [e]; omega
      · simp only [List.all_cons, List.all_nil, Bool.and_true, isDig, e]
        simp; omega
      · have : (48 + UInt8.ofNat n).toNat = 48 := by
          have h2 : 48 + UInt8.ofNat n = 48 := hc
          rw [h2]; rfl
        omega
    · obtain ⟨i1, i2, i3⟩ := ih (n / 10) (by omega)
      have e := dg_toNat (n := n % 10) (by omega)
      rw [dec_big (by omega)]
      refine ⟨?_, ?_, fun _ => ?_⟩
      · rw [numv_snoc, i1, e]; omega
      · rw [List.all_append, i2]
        simp only [List.all_cons, List.all_nil, Bool.and_true, Bool.true_and, isDig, e]
        simp; omega
      · have hp := dec_pos (n / 10)
        rw [List.getD_eq_getElem?_getD, List.getElem?_append_left hp, ← List.getD_eq_getElem?_getD]
        exact i3 (by omega)
theorem num_dec (n : Nat) (hn : n < 18446744073709551616) : numOk (dec n) = decide (n < 9223372036854775808) := by
  obtain ⟨h1, h2, h3⟩ := dec_facts n
  have hp := dec_pos n
  by_cases hb : n < 9223372036854775808
  · have hl : (dec n).length ≤ 19 := dec_length 18 n (Nat.lt_of_lt_of_le hb (by decide))
    have hno : (decide ((dec n).getD 0 0 = 48) && decide (1 < (dec n).length)) = false := by
      by_cases h0 : n = 0
      · subst h0; rw [dec_small (show 0 < 10 by decide)]; decide
      · rw [decide_eq_false (h3 (by omega)), Bool.false_and]
    unfold numOk
    rw [hno, h2, h1, decide_eq_true (show 1 ≤ (dec n).length by omega), decide_eq_true hl, decide_eq_true hb, decide_eq_true (show n ≤ 9223372036854775807 by omega)]
    rfl
  · unfold numOk
    rw [h1, decide_eq_false (show ¬ n ≤ 9223372036854775807 by omega), Bool.and_false, decide_eq_false hb]
theorem num_of_dec (n : Nat) (hn : n < 9223372036854775808) : numOf (dec n) = n := by
  unfold numOf
  rw [num_dec n (by omega), decide_eq_true hn, if_pos rfl, (dec_facts n).1]
theorem dec_numv (l : List UInt8) (hd : ∀ j (h : j < l.length), isDig l[j] = true) (h0 : l.getD 0 0 = 48 → l.length ≤ 1) : ∀ k, 1 ≤ k → k ≤ l.length → dec (numv (l.take k)) = l.take k ∧ (2 ≤ l.length → 1 ≤ numv (l.take k))
  | 0, h, _ => by omega
  | k + 1, _, hk => by
    have hdk := hd k (by omega)
    simp only [isDig, Bool.and_eq_true, decide_eq_true_eq] at hdk
    have hlt := UInt8.toNat_lt (l[k]'(by omega))
    have hb : (48 : UInt8) + UInt8.ofNat ((l[k]'(by omega)).toNat - 48) = l[k]'(by omega) := by
      apply UInt8.toNat_inj.1
      rw [dg_toNat (by omega)]
      omega
    by_cases hk0 : k = 0
    · subst hk0
      have e : l.take (0 + 1) = [l[0]'(by omega)] := by rw [List.take_succ_eq_append_getElem (by omega)]; rfl
      have hv : numv (l.take (0 + 1)) = (l[0]'(by omega)).toNat - 48 := by rw [numv_take l 0 (by omega)]; simp [numv]
      rw [hv]
      refine ⟨?_, fun h2 => ?_⟩
      · rw [dec_small (by omega), hb, e]
      · have hne : (l[0]'(by omega)).toNat ≠ 48 := fun h => by
          have h3 : l[0]'(by omega) = 48 := UInt8.toNat_inj.1 h
          have := h0 (by rw [List.getD_eq_getElem?_getD, List.getElem?_eq_getElem (show 0 < l.length by omega), h3]; rfl)
          omega
        omega
    · obtain ⟨i1, i2⟩ := dec_numv l hd h0 k (by omega) (by omega)
      have hpos := i2 (by omega)
      have hv := numv_take l k (by omega)
      refine ⟨?_, fun _ => by omega⟩
      rw [dec_big (by omega), hv, show (10 * numv (l.take k) + ((l[k]'(by omega)).toNat - 48)) / 10 = numv (l.take k) by omega, show (10 * numv (l.take k) + ((l[k]'(by omega)).toNat - 48)) % 10 = (l[k]'(by omega)).toNat - 48 by omega, i1, hb, List.take_succ_eq_append_getElem (by omega)]
/-- A number's digits are just what is read as it. -/
theorem dec_num {l : List UInt8} (h : numOk l = true) : dec (numOf l) = l := by
  have hof : numOf l = numv l := by unfold numOf; rw [if_pos h]
  simp only [numOk, Bool.and_eq_true, decide_eq_true_eq, Bool.not_eq_true', Bool.and_eq_false_iff, decide_eq_false_iff_not] at h
  obtain ⟨⟨⟨⟨h1, h2⟩, h3⟩, h4⟩, h5⟩ := h
  rw [List.all_eq_true] at h4
  have := (dec_numv l (fun j hj => h4 _ (List.getElem_mem hj)) (fun e => by rcases h3 with h | h; exact absurd e h; omega) l.length h1 (Nat.le_refl _)).1
  rw [List.take_length] at this
  rw [hof, this]


/-- A text's pieces, put together. -/
def join (c : UInt8) : List (List UInt8) → List UInt8
  | [] => []
  | a :: L => a ++ L.flatMap (fun b => c :: b)
theorem splitA_free (c : UInt8) : ∀ (p cur : List UInt8), c ∉ p → splitA c cur p = [cur ++ p]
  | [], cur, _ => by simp [splitA]
  | x :: p, cur, h => by
    rw [List.mem_cons, not_or] at h
    rw [splitA_cons, if_neg (fun e => h.1 e.symm), splitA_free c p _ h.2]
    simp
theorem splitA_sep (c : UInt8) : ∀ (p cur rest : List UInt8), c ∉ p → splitA c cur (p ++ c :: rest) = (cur ++ p) :: splitA c [] rest
  | [], cur, rest, _ => by rw [List.nil_append, splitA_cons, if_pos rfl, List.append_nil]
  | x :: p, cur, rest, h => by
    rw [List.mem_cons, not_or] at h
    rw [List.cons_append, splitA_cons, if_neg (fun e => h.1 e.symm), splitA_sep c p _ rest h.2]
    simp
theorem split_join (c : UInt8) : ∀ (L : List (List UInt8)) (a : List UInt8), (∀ p ∈ a :: L, c ∉ p) → split c (join c (a :: L)) = a :: L
  | [], a, h => by
    show splitA c [] (a ++ [].flatMap _) = _
    rw [List.flatMap_nil, List.append_nil, splitA_free c a [] (h a (by simp))]; rfl
  | b :: L, a, h => by
    have ih := split_join c L b (fun p hp => h p (List.mem_cons_of_mem _ hp))
    show splitA c [] (a ++ (b :: L).flatMap (fun b => c :: b)) = _
    rw [List.flatMap_cons, List.cons_append, splitA_sep c a [] _ (h a (by simp))]
    rw [List.nil_append]
    congr 1
theorem join_splitA (c : UInt8) : ∀ (l cur : List UInt8), join c (splitA c cur l) = cur ++ l
  | [], cur => by simp [splitA, join]
  | x :: r, cur => by
    rw [splitA_cons]
    by_cases h : x = c
    · rw [if_pos h]
      have ih := join_splitA c r []
      have hp := splitA_pos c r []
      match hs : splitA c [] r, hp with
      | b :: L, _ =>
        rw [hs, List.nil_append] at ih
        show cur ++ (b :: L).flatMap (fun b => c :: b) = _
        rw [List.flatMap_cons, List.cons_append, show b ++ L.flatMap (fun b => c :: b) = r from ih, h]
    · rw [if_neg h, join_splitA c r]
      simp
theorem join_split (c : UInt8) (l : List UInt8) : join c (split c l) = l := by
  have := join_splitA c l []
  rwa [List.nil_append] at this

theorem told_free {n : Nat} {c : UInt8} (h1 : c ≠ 42) (h2 : isDig c = false) : c ∉ told n := by
  unfold told
  split
  · simp [h1]
  · intro h
    have := (dec_facts n).2.1
    rw [List.all_eq_true] at this
    rw [this c h] at h2; cases h2
theorem told_end {n : Nat} (h : n ≤ 4294967295) : endOk (told n) = true ∧ endOf (told n) = n := by
  unfold told
  by_cases h0 : n = 0
  · rw [if_pos h0]
    exact ⟨by unfold endOk; rfl, by unfold endOf; rw [if_pos rfl, h0]⟩
  · rw [if_neg h0]
    have hne : dec n ≠ [42] := fun e => by
      have := (dec_facts n).2.1
      rw [e] at this
      simp [isDig] at this
    have hok : endOk (dec n) = true := by
      unfold endOk
      rw [num_dec n (by omega), num_of_dec n (by omega), decide_eq_true (show n < 9223372036854775808 by omega), decide_eq_true h0, decide_eq_true h]
      simp
    exact ⟨hok, by unfold endOf; rw [if_neg hne, if_pos hok, num_of_dec n (by omega)]⟩
/-- A range's end is told as it was read. -/
theorem end_told {e : List UInt8} (h : endOk e = true) : told (endOf e) = e ∧ endOf e ≤ 4294967295 := by
  by_cases h0 : e = [42]
  · have : endOf e = 0 := by unfold endOf; rw [if_pos h0]
    rw [this]
    exact ⟨by unfold told; rw [if_pos rfl, h0], by omega⟩
  · have hv : endOf e = numOf e := by unfold endOf; rw [if_neg h0, if_pos h]
    unfold endOk at h
    rw [decide_eq_false h0, Bool.false_or, Bool.and_eq_true, Bool.and_eq_true, decide_eq_true_eq, decide_eq_true_eq] at h
    rw [hv]
    exact ⟨by unfold told; rw [if_neg h.1.2, dec_num h.1.1], h.2⟩
theorem one_split {r : Nat × Nat} : split 58 (one r) = if r.1 = r.2 then [told r.1] else [told r.1, told r.2] := by
  have f : ∀ n, (58 : UInt8) ∉ told n := fun n => told_free (by decide) (by decide)
  unfold one
  by_cases h : r.1 = r.2
  · rw [if_pos h, if_pos h, List.append_nil]
    have := split_join 58 [] (told r.1) (fun p hp => by simp at hp; rw [hp]; exact f _)
    simpa [join] using this
  · rw [if_neg h, if_neg h]
    have := split_join 58 [told r.2] (told r.1) (fun p hp => by simp at hp; rcases hp with rfl | rfl <;> exact f _)
    simpa [join] using this
theorem one_range {r : Nat × Nat} (h : fitR r = true) : rangeOk (one r) = true ∧ rangeOf (one r) = r := by
  simp only [fitR, Bool.and_eq_true, decide_eq_true_eq] at h
  obtain ⟨a1, a2⟩ := told_end h.1
  obtain ⟨b1, b2⟩ := told_end h.2
  unfold rangeOk rangeOf
  rw [one_split]
  by_cases he : r.1 = r.2
  · rw [if_pos he]
    have e1 : ([told r.1] : List (List UInt8)).getD 0 [] = told r.1 := rfl
    have e2 : ([told r.1] : List (List UInt8)).getD (([told r.1] : List (List UInt8)).length - 1) [] = told r.1 := rfl
    rw [e1, e2, a1, a2]
    exact ⟨rfl, by rw [Prod.ext_iff]; exact ⟨rfl, he⟩⟩
  · rw [if_neg he]
    have e1 : ([told r.1, told r.2] : List (List UInt8)).getD 0 [] = told r.1 := rfl
    have e2 : ([told r.1, told r.2] : List (List UInt8)).getD (([told r.1, told r.2] : List (List UInt8)).length - 1) [] = told r.2 := rfl
    rw [e1, e2, a1, a2, b1, b2]
    exact ⟨rfl, rfl⟩
theorem text_join : ∀ (l : List (Nat × Nat)), text l = join 44 (l.map one)
  | [] => rfl
  | r :: l => by
    show one r ++ l.flatMap (fun r => 44 :: one r) = one r ++ (l.map one).flatMap (fun b => 44 :: b)
    rw [List.flatMap_map]
theorem one_free (r : Nat × Nat) : (44 : UInt8) ∉ one r := by
  have f : ∀ n, (44 : UInt8) ∉ told n := fun n => told_free (by decide) (by decide)
  unfold one
  rw [List.mem_append, not_or]
  refine ⟨f _, ?_⟩
  split
  · simp
  · rw [List.mem_cons, not_or]; exact ⟨by decide, f _⟩
theorem text_split {l : List (Nat × Nat)} (h : 1 ≤ l.length) : split 44 (text l) = l.map one := by
  match l, h with
  | r :: l, _ =>
    rw [text_join, List.map_cons]
    refine split_join 44 _ _ (fun p hp => ?_)
    rcases List.mem_cons.1 hp with rfl | hp
    · exact one_free r
    · obtain ⟨s, _, rfl⟩ := List.mem_map.1 hp
      exact one_free s
/-- What is written is read as it was. -/
theorem parse_print {l : List (Nat × Nat)} (h : printOk l = true) : parseOk (text l) = true ∧ parseOf (text l) = l := by
  simp only [printOk, Bool.and_eq_true, decide_eq_true_eq] at h
  obtain ⟨⟨h1, h2⟩, h3⟩ := h
  rw [List.all_eq_true] at h3
  have hok : parseOk (text l) = true := by
    unfold parseOk
    rw [text_split h1, List.length_map, decide_eq_true h2, Bool.true_and, List.all_map, List.all_eq_true]
    intro r hr
    exact (one_range (h3 r hr)).1
  refine ⟨hok, ?_⟩
  unfold parseOf
  rw [if_pos hok, text_split h1, List.map_map]
  conv => rhs; rw [← List.map_id l]
  apply List.map_congr_left
  intro r hr
  exact (one_range (h3 r hr)).2
theorem parse_nothing : parseOk [] = false := by decide +kernel
end Go.Proofs.YtbaeillecojilaaDoor.sq
