/-
  There and back: what is quoted is read as it was; digits and numbers; the names of mailboxes. No walk.
-/
import Derived.Test.YtgmopbgcimekhaaDoorWordUnquote
namespace Go.Proofs.YtgmopbgcimekhaaDoor.wo

theorem quote_back : ∀ (l : List UInt8) (out rest : List UInt8) (n : Nat), l.all quotable = true → out.length + l.length ≤ 512 → unq out (l.flatMap esc ++ 34 :: rest) n = some (out ++ l, n + (l.flatMap esc).length + 1)
  | [], out, rest, n, _, h => by
    rw [List.flatMap_nil, List.nil_append, unq_end _ _ (by simp at h; omega), List.append_nil]
    rfl
  | c :: l, out, rest, n, hq, h => by
    rw [List.all_cons, Bool.and_eq_true] at hq
    rw [List.length_cons] at h
    have ih := quote_back l (out ++ [c]) rest
    rw [List.flatMap_cons, List.append_assoc]
    by_cases hc : c = 34 ∨ c = 92
    · have he : esc c = [92, c] := by unfold esc; rw [if_pos hc]
      rw [he]
      show unq out (92 :: c :: (l.flatMap esc ++ 34 :: rest)) n = _
      rw [unq_esc _ _ hc (by omega), ih (n + 2) hq.2 (by rw [List.length_append, List.length_singleton]; omega), List.append_assoc, List.length_append]
      simp only [List.length_cons, List.length_nil, List.cons_append, List.nil_append]
      congr 2
      omega
    · have he : esc c = [c] := by unfold esc; rw [if_neg hc]
      rw [he]
      show unq out (c :: (l.flatMap esc ++ 34 :: rest)) n = _
      rw [unq_plain _ _ (fun e => hc (.inl e)) (fun e => hc (.inr e)) hq.1 (by omega), ih (n + 1) hq.2 (by rw [List.length_append, List.length_singleton]; omega), List.append_assoc, List.length_append]
      simp only [List.length_cons, List.length_nil, List.cons_append, List.nil_append]
      congr 2
      omega
theorem quote_length (l : List UInt8) : (quote l).length = (l.flatMap esc).length + 2 := by unfold quote; rw [List.length_append, List.length_cons]; rfl
theorem unquote_quote {l : List UInt8} (h : quoteOk l = true) (rest : List UInt8) : unquote (quote l ++ rest) = some (l, (quote l).length) := by
  simp only [quoteOk, Bool.and_eq_true, decide_eq_true_eq] at h
  have e : quote l ++ rest = 34 :: (l.flatMap esc ++ 34 :: rest) := by unfold quote; simp
  rw [e, unquote_cons, if_pos rfl, quote_back l [] rest 1 h.2 (by simp; exact h.1), quote_length, List.nil_append]
  congr 2
  omega

theorem unq_inv : ∀ (k : Nat) (l : List UInt8), l.length ≤ k → ∀ (out t : List UInt8) (n m : Nat), unq out l n = some (t, m) →
    ∃ s rest, t = out ++ s ∧ s.all quotable = true ∧ t.length ≤ 512 ∧ m = n + (s.flatMap esc).length + 1 ∧ l = s.flatMap esc ++ 34 :: rest
  | _, [], _, out, t, n, m, h => by rw [unq_nil] at h; cases h
  | 0, c :: r, hk, _, _, _, _, _ => by simp at hk
  | k + 1, c :: r, hk, out, t, n, m, h => by
    rw [List.length_cons] at hk
    by_cases h34 : c = 34
    · subst h34
      by_cases hl : 512 < out.length
      · rw [unq_long _ _ hl] at h; cases h
      · rw [unq_end _ _ hl] at h
        simp only [Option.some.injEq, Prod.mk.injEq] at h
        obtain ⟨rfl, rfl⟩ := h
        exact ⟨[], r, by simp, rfl, by omega, by simp, by simp⟩
    · by_cases h92 : c = 92
      · subst h92
        match r, hk, h with
        | [], _, h => rw [unq_escend] at h; cases h
        | d :: r', hk, h =>
          rw [List.length_cons] at hk
          by_cases hd : d = 34 ∨ d = 92
          · by_cases hl : 512 < out.length
            · rw [unq_esclong _ _ hd hl] at h; cases h
            · rw [unq_esc _ _ hd hl] at h
              obtain ⟨s, rest, h1, h2, h3, h4, h5⟩ := unq_inv k r' (by omega) _ _ _ _ h
              have he : esc d = [92, d] := by unfold esc; rw [if_pos hd]
              refine ⟨d :: s, rest, by rw [h1]; simp, ?_, h3, ?_, ?_⟩
              · rw [List.all_cons, h2, Bool.and_true]
                rcases hd with rfl | rfl <;> decide
              · rw [h4, List.flatMap_cons, he, List.length_append]
                simp only [List.length_cons, List.length_nil]
                omega
              · rw [h5, List.flatMap_cons, he]
                rfl
          · rw [unq_escbad _ _ hd] at h; cases h
      · by_cases hq : quotable c = true ∧ ¬ 512 < out.length
        · rw [unq_plain _ _ h34 h92 hq.1 hq.2] at h
          obtain ⟨s, rest, h1, h2, h3, h4, h5⟩ := unq_inv k r (by omega) _ _ _ _ h
          have he : esc c = [c] := by unfold esc; rw [if_neg (fun e => e.elim h34 h92)]
          refine ⟨c :: s, rest, by rw [h1]; simp, ?_, h3, ?_, ?_⟩
          · rw [List.all_cons, h2, hq.1]; rfl
          · rw [h4, List.flatMap_cons, he, List.length_append]
            simp only [List.length_cons, List.length_nil]
            omega
          · rw [h5, List.flatMap_cons, he]
            rfl
        · rw [unq_bad _ _ h34 h92 hq] at h; cases h
/-- What is read is quoted so. -/
theorem quote_unquote {l t : List UInt8} {n : Nat} (h : unquote l = some (t, n)) : quoteOk t = true ∧ n ≤ l.length ∧ quote t = l.take n := by
  match l, h with
  | [], h => cases h
  | c :: r, h =>
    rw [unquote_cons] at h
    by_cases hc : c = 34
    · rw [if_pos hc] at h
      obtain ⟨s, rest, h1, h2, h3, h4, h5⟩ := unq_inv r.length r (Nat.le_refl _) _ _ _ _ h
      rw [List.nil_append] at h1
      subst h1 hc
      have hn : n = (quote t).length := by rw [quote_length, h4]; omega
      have hl : (34 :: r : List UInt8) = quote t ++ rest := by rw [h5]; unfold quote; simp
      refine ⟨by unfold quoteOk; rw [decide_eq_true h3, h2]; rfl, ?_, ?_⟩
      · rw [hl, List.length_append]; omega
      · rw [hl, hn, List.take_left]
    · rw [if_neg hc] at h; cases h

theorem numv_snoc (a : List UInt8) (d : UInt8) : numv (a ++ [d]) = 10 * numv a + (d.toNat - 48) := by unfold numv; rw [List.foldl_append]; rfl
theorem dg_toNat {n : Nat} (h : n < 10) : (48 + UInt8.ofNat n).toNat = 48 + n := by
  rw [UInt8.toNat_add, UInt8.toNat_ofNat']
  show (48 + n % 256) % 256 = _
  omega
theorem dec_facts (n : Nat) : numv (dec n) = n ∧ (dec n).all isDig = true ∧ (1 ≤ n → (dec n).getD 0 0 ≠ 48) := by
  induction n using Nat.strongRecOn with
  | ind n ih =>
    by_cases h : n < 10
    · rw [dec_small h]
      have e := dg_toNat h
      refine ⟨?_, ?_, fun h1 hc => ?_⟩
      · show 10 * 0 + ((48 + UInt8.ofNat n).toNat - 48) = n
        rw [e]; omega
      · simp only [List.all_cons, List.all_nil, Bool.and_true, isDig, e]
        simp; omega
      · have : (48 + UInt8.ofNat n).toNat = 48 := by
          have h2 : 48 + UInt8.ofNat n = 48 := hc
          rw [h2]; rfl
        omega
    · obtain ⟨i1, i2, i3⟩ := ih (n / 10) (by omega)
      have e := dg_toNat (n := n % 10) (by omega)
      rw [dec_big (by omega)]
      refine ⟨?_, ?_, fun _ => ?_⟩
      · rw [numv_snoc, i1, e]; omega
      · rw [List.all_append, i2]
        simp only [List.all_cons, List.all_nil, Bool.and_true, Bool.true_and, isDig, e]
        simp; omega
      · have hp := dec_pos (n / 10)
        rw [List.getD_eq_getElem?_getD, List.getElem?_append_left hp, ← List.getD_eq_getElem?_getD]
        exact i3 (by omega)
theorem num_dec (n : Nat) (hn : n < 18446744073709551616) : numOk (dec n) = decide (n < 9223372036854775808) := by
  obtain ⟨h1, h2, h3⟩ := dec_facts n
  have hp := dec_pos n
  by_cases hb : n < 9223372036854775808
  · have hl : (dec n).length ≤ 19 := dec_length 18 n (Nat.lt_of_lt_of_le hb (by decide))
    have hno : (decide ((dec n).getD 0 0 = 48) && decide (1 < (dec n).length)) = false := by
      by_cases h0 : n = 0
      · subst h0; rw [dec_small (show 0 < 10 by decide)]; decide
      · rw [decide_eq_false (h3 (by omega)), Bool.false_and]
    unfold numOk
    rw [hno, h2, h1, decide_eq_true (show 1 ≤ (dec n).length by omega), decide_eq_true hl, decide_eq_true hb, decide_eq_true (show n ≤ 9223372036854775807 by omega)]
    rfl
  · unfold numOk
    rw [h1, decide_eq_false (show ¬ n ≤ 9223372036854775807 by omega), Bool.and_false, decide_eq_false hb]
theorem num_of_dec (n : Nat) (hn : n < 9223372036854775808) : numOf (dec n) = n := by
  unfold numOf
  rw [num_dec n (by omega), decide_eq_true hn, if_pos rfl, (dec_facts n).1]
theorem dec_numv (l : List UInt8) (hd : ∀ j (h : j < l.length), isDig l[j] = true) (h0 : l.getD 0 0 = 48 → l.length ≤ 1) : ∀ k, 1 ≤ k → k ≤ l.length → dec (numv (l.take k)) = l.take k ∧ (2 ≤ l.length → 1 ≤ numv (l.take k))
  | 0, h, _ => by omega
  | k + 1, _, hk => by
    have hdk := hd k (by omega)
    simp only [isDig, Bool.and_eq_true, decide_eq_true_eq] at hdk
    have hlt := UInt8.toNat_lt (l[k]'(by omega))
    have hb : (48 : UInt8) + UInt8.ofNat ((l[k]'(by omega)).toNat - 48) = l[k]'(by omega) := by
      apply UInt8.toNat_inj.1
      rw [dg_toNat (by omega)]
      omega
    by_cases hk0 : k = 0
    · subst hk0
      have e : l.take (0 + 1) = [l[0]'(by omega)] := by rw [List.take_succ_eq_append_getElem (by omega)]; rfl
      have hv : numv (l.take (0 + 1)) = (l[0]'(by omega)).toNat - 48 := by rw [numv_take l 0 (by omega)]; simp [numv]
      rw [hv]
      refine ⟨?_, fun h2 => ?_⟩
      · rw [dec_small (by omega), hb, e]
      · have hne : (l[0]'(by omega)).toNat ≠ 48 := fun h => by
          have h3 : l[0]'(by omega) = 48 := UInt8.toNat_inj.1 h
          have := h0 (by rw [List.getD_eq_getElem?_getD, List.getElem?_eq_getElem (show 0 < l.length by omega), h3]; rfl)
          omega
        omega
    · obtain ⟨i1, i2⟩ := dec_numv l hd h0 k (by omega) (by omega)
      have hpos := i2 (by omega)
      have hv := numv_take l k (by omega)
      refine ⟨?_, fun _ => by omega⟩
      rw [dec_big (by omega), hv, show (10 * numv (l.take k) + ((l[k]'(by omega)).toNat - 48)) / 10 = numv (l.take k) by omega, show (10 * numv (l.take k) + ((l[k]'(by omega)).toNat - 48)) % 10 = (l[k]'(by omega)).toNat - 48 by omega, i1, hb, List.take_succ_eq_append_getElem (by omega)]
/-- A number's digits are just what is read as it. -/
theorem dec_num {l : List UInt8} (h : numOk l = true) : dec (numOf l) = l := by
  have hof : numOf l = numv l := by unfold numOf; rw [if_pos h]
  simp only [numOk, Bool.and_eq_true, decide_eq_true_eq, Bool.not_eq_true', Bool.and_eq_false_iff, decide_eq_false_iff_not] at h
  obtain ⟨⟨⟨⟨h1, h2⟩, h3⟩, h4⟩, h5⟩ := h
  rw [List.all_eq_true] at h4
  have := (dec_numv l (fun j hj => h4 _ (List.getElem_mem hj)) (fun e => by rcases h3 with h | h; exact absurd e h; omega) l.length h1 (Nat.le_refl _)).1
  rw [List.take_length] at this
  rw [hof, this]

theorem up_idem (c : UInt8) : up1 (up1 c) = up1 c := by
  have : ∀ i : Fin 256, up1 (up1 (UInt8.ofNat i.1)) = up1 (UInt8.ofNat i.1) := by decide +kernel
  have h := this ⟨c.toNat, UInt8.toNat_lt c⟩
  simpa using h
theorem box_again {l : List UInt8} (h : boxOk l = true) : boxOk (boxOf l) = true ∧ boxOf (boxOf l) = boxOf l ∧ (boxOf l).length = l.length ∧ upper (boxOf l) = upper l := by
  by_cases hu : upper l = inbox
  · have e : boxOf l = inbox := by unfold boxOf; rw [if_pos h, if_pos hu]
    have hl : l.length = 5 := by rw [← upper_length l, hu]; rfl
    rw [e, hl, hu]
    decide +kernel
  · have e : boxOf l = l := by unfold boxOf; rw [if_pos h, if_neg hu]
    rw [e]
    exact ⟨h, e, rfl, rfl⟩
/-- INBOX in any letters. -/
def inb (a b c d e : Bool) : List UInt8 := [if a then 105 else 73, if b then 110 else 78, if c then 98 else 66, if d then 111 else 79, if e then 120 else 88]
theorem inb_box : ∀ a b c d e : Bool, boxOk (inb a b c d e) = true ∧ boxOf (inb a b c d e) = inbox := by decide +kernel
end Go.Proofs.YtgmopbgcimekhaaDoor.wo
