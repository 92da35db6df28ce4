/-
  What a feeder does, byte by byte: plain mathematics. No walk.
-/
import Derived.Test.YtnpikjobjmffgaaDoorLinNum
namespace Go.Proofs.YtnpikjobjmffgaaDoor.li
open Go.RowKit

/-- The last place below k at which a byte stands. -/
def lastIn (c : UInt8) (l : List UInt8) : Nat → Option Nat
  | 0 => none
  | k + 1 => if l.getD k 0 = c then some k else lastIn c l k
theorem lastIn_zero (c : UInt8) (l : List UInt8) : lastIn c l 0 = none := rfl
theorem lastIn_yes {c : UInt8} {l : List UInt8} {k : Nat} (h : l.getD k 0 = c) : lastIn c l (k + 1) = some k := by rw [lastIn, if_pos h]
theorem lastIn_no {c : UInt8} {l : List UInt8} {k : Nat} (h : l.getD k 0 ≠ c) : lastIn c l (k + 1) = lastIn c l k := by rw [lastIn, if_neg h]
theorem lastIn_some {c : UInt8} {l : List UInt8} : ∀ {k i : Nat}, lastIn c l k = some i → i < k ∧ l.getD i 0 = c
  | 0, i, h => by cases h
  | k + 1, i, h => by
    by_cases hc : l.getD k 0 = c
    · rw [lastIn_yes hc] at h
      cases h
      exact ⟨by omega, hc⟩
    · rw [lastIn_no hc] at h
      have := lastIn_some h
      exact ⟨by omega, this.2⟩
/-- What stands between a bracket and the last byte. -/
def mid (p : List UInt8) (i : Nat) : List UInt8 := (p.drop (i + 1)).take (p.length - 1 - (i + 1))
def litM (p : List UInt8) : Option (List UInt8) :=
  if p.getD (p.length - 1) 0 = 125 then (lastIn 123 p p.length).map (mid p) else none
/-- Does a part end with a literal's number? -/
def litB (p : List UInt8) : Bool := match litM p with | none => false | some m => numOk m
/-- Which one? -/
def litN (p : List UInt8) : Nat := match litM p with | none => 0 | some m => numOf m
theorem numOf_le (l : List UInt8) : numOf l ≤ 9223372036854775807 := by
  unfold numOf
  split
  · rename_i h
    unfold numOk at h
    simp only [Bool.and_eq_true, decide_eq_true_eq] at h
    exact h.2
  · omega
theorem litN_le (p : List UInt8) : litN p ≤ 9223372036854775807 := by
  unfold litN
  split
  · omega
  · exact numOf_le _
theorem litM_not_end {p : List UInt8} (h : p.getD (p.length - 1) 0 ≠ 125) : litM p = none := by unfold litM; rw [if_neg h]
theorem litM_none {p : List UInt8} (h : lastIn 123 p p.length = none) : litM p = none := by unfold litM; rw [h]; split <;> rfl
theorem litM_some {p : List UInt8} {i : Nat} (h : p.getD (p.length - 1) 0 = 125) (hi : lastIn 123 p p.length = some i) : litM p = some (mid p i) := by unfold litM; rw [if_pos h, hi]; rfl
theorem lit_of_none {p : List UInt8} (h : litM p = none) : litB p = false ∧ litN p = 0 := by unfold litB litN; rw [h]; exact ⟨rfl, rfl⟩
theorem lit_of_some {p m : List UInt8} (h : litM p = some m) : litB p = numOk m ∧ litN p = numOf m := by unfold litB litN; rw [h]; exact ⟨rfl, rfl⟩
theorem lit_short {p : List UInt8} (h : p.length < 3) : litB p = false ∧ litN p = 0 := by
  by_cases he : p.getD (p.length - 1) 0 = 125
  · cases hl : lastIn 123 p p.length with
    | none => exact lit_of_none (litM_none hl)
    | some i =>
      have h1 := lastIn_some hl
      have hne : i ≠ p.length - 1 := fun e => by rw [e, he] at h1; exact absurd h1.2 (by decide)
      have hm : mid p i = [] := by
        unfold mid
        rw [show p.length - 1 - (i + 1) = 0 by omega, List.take_zero]
      have h2 := lit_of_some (litM_some he hl)
      rw [hm] at h2
      exact h2
  · exact lit_of_none (litM_not_end he)

/-- What is heard. -/
structure Hd where
  kind : Nat
  text : List UInt8
/-- How a feeder stands. -/
structure St where
  text : List UInt8
  part : Nat
  deaf : Bool
def st0 : St := ⟨[], 0, false⟩
def stD : St := ⟨[], 0, true⟩
/-- Does a part end with 0D 0A? -/
def ends (p : List UInt8) : Bool := decide (2 ≤ p.length) && (decide (p.getD (p.length - 2) 0 = 13) && decide (p.getD (p.length - 1) 0 = 10))
def endK (t : List UInt8) (part : Nat) : Nat :=
  if litB ((t.take (t.length - 2)).drop part) = true then (if litN ((t.take (t.length - 2)).drop part) ≤ 4096 ∧ t.length + litN ((t.take (t.length - 2)).drop part) ≤ 8192 then 2 else 3) else 1
def endH (t : List UInt8) (part : Nat) : Hd := if endK t part = 2 then ⟨2, []⟩ else ⟨endK t part, t.take (t.length - 2)⟩
def endS (t : List UInt8) (part : Nat) : St := if endK t part = 2 then ⟨t, t.length + litN ((t.take (t.length - 2)).drop part), false⟩ else st0
/-- The kinds of a byte. -/
def kindOf (t : List UInt8) (part : Nat) : Nat :=
  if (t.drop part).length = 0 then 0 else if ends (t.drop part) = true then 1 else if 1000 ≤ (t.drop part).length ∨ 8192 ≤ t.length then 2 else 0
def step (st : St) (c : UInt8) : List Hd × St :=
  if st.deaf = true then ([], st) else
  match kindOf (st.text ++ [c]) st.part with
  | 0 => ([], ⟨st.text ++ [c], st.part, false⟩)
  | 1 => ([endH (st.text ++ [c]) st.part], endS (st.text ++ [c]) st.part)
  | _ => ([⟨4, []⟩], stD)
def run (st : St) : List UInt8 → List Hd × St
  | [] => ([], st)
  | c :: r => ((step st c).1 ++ (run (step st c).2 r).1, (run (step st c).2 r).2)
theorem run_nil (st : St) : run st [] = ([], st) := rfl
theorem run_cons (st : St) (c : UInt8) (r : List UInt8) : run st (c :: r) = ((step st c).1 ++ (run (step st c).2 r).1, (run (step st c).2 r).2) := rfl
theorem run_append (a b : List UInt8) (st : St) : run st (a ++ b) = ((run st a).1 ++ (run (run st a).2 b).1, (run (run st a).2 b).2) := by
  induction a generalizing st with
  | nil => simp [run_nil]
  | cons c r ih => rw [List.cons_append, run_cons, run_cons, ih]; simp
theorem step_deaf {st : St} (h : st.deaf = true) (c : UInt8) : step st c = ([], st) := by unfold step; rw [if_pos h]
theorem run_deaf {st : St} (h : st.deaf = true) (l : List UInt8) : run st l = ([], st) := by
  induction l with
  | nil => rfl
  | cons c r ih => rw [run_cons, step_deaf h, ih]; rfl
theorem run_one (st : St) (c : UInt8) : run st [c] = step st c := by rw [run_cons, run_nil]; simp
theorem run_take (st : St) (l : List UInt8) (k : Nat) (h : k < l.length) : run st (l.take (k + 1)) = ((run st (l.take k)).1 ++ (step (run st (l.take k)).2 l[k]).1, (step (run st (l.take k)).2 l[k]).2) := by
  rw [List.take_succ_eq_append_getElem h, run_append, run_one]
theorem step_zero {st : St} {c : UInt8} (h : st.deaf = false) (hk : kindOf (st.text ++ [c]) st.part = 0) : step st c = ([], ⟨st.text ++ [c], st.part, false⟩) := by
  unfold step; rw [if_neg (by rw [h]; decide), hk]; rfl
theorem step_end {st : St} {c : UInt8} (h : st.deaf = false) (hk : kindOf (st.text ++ [c]) st.part = 1) : step st c = ([endH (st.text ++ [c]) st.part], endS (st.text ++ [c]) st.part) := by
  unfold step; rw [if_neg (by rw [h]; decide), hk]; rfl
theorem step_long {st : St} {c : UInt8} (h : st.deaf = false) (hk : kindOf (st.text ++ [c]) st.part = 2) : step st c = ([⟨4, []⟩], stD) := by
  unfold step; rw [if_neg (by rw [h]; decide), hk]; rfl
theorem kind_cases (t : List UInt8) (part : Nat) :
    ((t.drop part).length = 0 ∧ kindOf t part = 0) ∨ (0 < (t.drop part).length ∧ ends (t.drop part) = true ∧ kindOf t part = 1) ∨
    (0 < (t.drop part).length ∧ ends (t.drop part) = false ∧ (1000 ≤ (t.drop part).length ∨ 8192 ≤ t.length) ∧ kindOf t part = 2) ∨
    (0 < (t.drop part).length ∧ ends (t.drop part) = false ∧ (t.drop part).length < 1000 ∧ t.length < 8192 ∧ kindOf t part = 0) := by
  unfold kindOf
  by_cases h0 : (t.drop part).length = 0
  · exact .inl ⟨h0, by rw [if_pos h0]⟩
  · rw [if_neg h0]
    cases he : ends (t.drop part) with
    | true => exact .inr (.inl ⟨by omega, rfl, by rw [if_pos rfl]⟩)
    | false =>
      rw [if_neg (by decide)]
      by_cases h2 : 1000 ≤ (t.drop part).length ∨ 8192 ≤ t.length
      · exact .inr (.inr (.inl ⟨by omega, rfl, h2, by rw [if_pos h2]⟩))
      · exact .inr (.inr (.inr ⟨by omega, rfl, by omega, by omega, by rw [if_neg h2]⟩))
theorem ends_two {p : List UInt8} (h : ends p = true) : 2 ≤ p.length := by
  unfold ends at h
  simp only [Bool.and_eq_true, decide_eq_true_eq] at h
  exact h.1
theorem end_cases (t : List UInt8) (part : Nat) :
    (litB ((t.take (t.length - 2)).drop part) = true ∧ litN ((t.take (t.length - 2)).drop part) ≤ 4096 ∧ t.length + litN ((t.take (t.length - 2)).drop part) ≤ 8192 ∧ endH t part = ⟨2, []⟩ ∧ endS t part = ⟨t, t.length + litN ((t.take (t.length - 2)).drop part), false⟩) ∨
    (litB ((t.take (t.length - 2)).drop part) = true ∧ ¬ (litN ((t.take (t.length - 2)).drop part) ≤ 4096 ∧ t.length + litN ((t.take (t.length - 2)).drop part) ≤ 8192) ∧ endH t part = ⟨3, t.take (t.length - 2)⟩ ∧ endS t part = st0) ∨
    (litB ((t.take (t.length - 2)).drop part) = false ∧ endH t part = ⟨1, t.take (t.length - 2)⟩ ∧ endS t part = st0) := by
  unfold endH endS endK
  cases hb : litB ((t.take (t.length - 2)).drop part) with
  | true =>
    by_cases h : litN ((t.take (t.length - 2)).drop part) ≤ 4096 ∧ t.length + litN ((t.take (t.length - 2)).drop part) ≤ 8192
    · left; simp [h]
    · right; left; simp [h]
  | false => right; right; simp

/-- What always holds. -/
structure St.ok (st : St) : Prop where
  d : st.deaf = true → st.text = [] ∧ st.part = 0
  t : st.text.length ≤ 8192
  p : st.part ≤ 8192
  a : st.part ≤ st.text.length + 4096
theorem st0_ok : st0.ok := ⟨(by intro h; cases h), by decide, by decide, (by decide)⟩
theorem stD_ok : stD.ok := ⟨fun _ => ⟨rfl, rfl⟩, by decide, by decide, (by decide)⟩
theorem endS_ok (t : List UInt8) (part : Nat) : (endS t part).ok := by
  rcases end_cases t part with ⟨_, h1, h2, _, h⟩ | ⟨_, _, _, h⟩ | ⟨_, _, h⟩
  · rw [h]; exact ⟨fun h => (by cases h), (by show t.length ≤ 8192; omega), h2, (by show t.length + litN ((t.take (t.length - 2)).drop part) ≤ t.length + 4096; omega)⟩
  · rw [h]; exact st0_ok
  · rw [h]; exact st0_ok
theorem snoc_len (l : List UInt8) (c : UInt8) : (l ++ [c]).length = l.length + 1 := by simp
theorem step_ok {st : St} (h : st.ok) (c : UInt8) : (step st c).2.ok := by
  cases hd : st.deaf with
  | true => rw [step_deaf hd]; exact h
  | false =>
    have hl := snoc_len st.text c
    rcases kind_cases (st.text ++ [c]) st.part with ⟨h0, hk⟩ | ⟨_, _, hk⟩ | ⟨_, _, _, hk⟩ | ⟨_, _, _, h3, hk⟩
    · rw [step_zero hd hk]
      rw [List.length_drop] at h0
      have := h.p; have := h.a
      exact ⟨fun h => (by cases h), by show (st.text ++ [c]).length ≤ 8192; omega, h.p, by show st.part ≤ (st.text ++ [c]).length + 4096; omega⟩
    · rw [step_end hd hk]; exact endS_ok _ _
    · rw [step_long hd hk]; exact stD_ok
    · rw [step_zero hd hk]
      have := h.p; have := h.a
      exact ⟨fun h => (by cases h), by show (st.text ++ [c]).length ≤ 8192; omega, h.p, by show st.part ≤ (st.text ++ [c]).length + 4096; omega⟩
theorem run_ok {st : St} (h : st.ok) (l : List UInt8) : (run st l).2.ok := by
  induction l generalizing st with
  | nil => exact h
  | cons c r ih => rw [run_cons]; exact ih (step_ok h c)

/-- What is heard keeps the bound. -/
structure Hd.ok (h : Hd) : Prop where
  t : h.text.length ≤ 8192
  k : h.kind = 1 ∨ h.kind = 3 ∨ h.text = []
  l : h.kind ≤ 4
theorem endH_ok {t : List UInt8} (part : Nat) (ht : t.length ≤ 8194) : (endH t part).ok ∧ (endH t part).kind ≠ 4 := by
  have hx : (t.take (t.length - 2)).length ≤ 8192 := by rw [List.length_take]; omega
  rcases end_cases t part with ⟨_, _, _, h, _⟩ | ⟨_, _, h, _⟩ | ⟨_, h, _⟩ <;> rw [h]
  · exact ⟨⟨by simp, .inr (.inr rfl), (by decide)⟩, by simp⟩
  · exact ⟨⟨hx, .inr (.inl rfl), (show 3 ≤ 4 by decide)⟩, by simp⟩
  · exact ⟨⟨hx, .inl rfl, (show 1 ≤ 4 by decide)⟩, by simp⟩
/-- Of a feeder that isn't deaf: what a text makes of it. -/
structure Ends (st : St) (r : List Hd × St) : Prop where
  h : ∀ x ∈ r.1, x.ok
  n : r.2.deaf = false → ∀ x ∈ r.1, x.kind ≠ 4
  y : r.2.deaf = true → (st.deaf = true ∧ r.1 = []) ∨ (st.deaf = false ∧ ∃ pre, r.1 = pre ++ [⟨4, []⟩] ∧ ∀ x ∈ pre, x.kind ≠ 4)
  b : st.deaf = true → r.2.deaf = true
theorem long_ok : Hd.ok ⟨4, []⟩ := ⟨by simp, .inr (.inr rfl), (by decide)⟩
theorem endS_hears (t : List UInt8) (part : Nat) : (endS t part).deaf = false := by
  rcases end_cases t part with ⟨_, _, _, _, h⟩ | ⟨_, _, _, h⟩ | ⟨_, _, h⟩ <;> rw [h] <;> rfl
theorem step_ends {st : St} (h : st.ok) (c : UInt8) : Ends st (step st c) := by
  cases hd : st.deaf with
  | true =>
    rw [step_deaf hd]
    exact ⟨fun _ hx => (by cases hx), fun _ _ hx => (by cases hx), fun _ => .inl ⟨hd, rfl⟩, fun h => h⟩
  | false =>
    have hl := snoc_len st.text c
    have := h.t
    have nb : st.deaf = true → False := fun h => by rw [hd] at h; cases h
    rcases kind_cases (st.text ++ [c]) st.part with ⟨h0, hk⟩ | ⟨_, _, hk⟩ | ⟨_, _, _, hk⟩ | ⟨_, _, _, h3, hk⟩
    · rw [step_zero hd hk]
      exact ⟨fun _ hx => (by cases hx), fun _ _ hx => (by cases hx), fun h => (by cases h), fun h => (nb h).elim⟩
    · rw [step_end hd hk]
      have he := endH_ok st.part (t := st.text ++ [c]) (by omega)
      refine ⟨fun x hx => ?_, fun _ x hx => ?_, fun h => ?_, fun h => (nb h).elim⟩
      · rw [List.mem_singleton] at hx; rw [hx]; exact he.1
      · rw [List.mem_singleton] at hx; rw [hx]; exact he.2
      · have e := endS_hears (st.text ++ [c]) st.part
        rw [show ([endH (st.text ++ [c]) st.part], endS (st.text ++ [c]) st.part).2 = endS (st.text ++ [c]) st.part from rfl, e] at h
        cases h
    · rw [step_long hd hk]
      refine ⟨fun x hx => ?_, fun h => (by cases h), fun _ => .inr ⟨hd, [], rfl, fun _ hx => by cases hx⟩, fun h => (nb h).elim⟩
      rw [List.mem_singleton] at hx; rw [hx]; exact long_ok
    · rw [step_zero hd hk]
      exact ⟨fun _ hx => (by cases hx), fun _ _ hx => (by cases hx), fun h => (by cases h), fun h => (nb h).elim⟩
theorem run_ends {st : St} (h : st.ok) (l : List UInt8) : Ends st (run st l) := by
  induction l generalizing st with
  | nil => exact ⟨fun _ hx => (by cases hx), fun _ _ hx => (by cases hx), fun h => .inl ⟨h, rfl⟩, fun h => h⟩
  | cons c r ih =>
    have h1 := step_ends h c
    have h2 := ih (step_ok h c)
    rw [run_cons]
    generalize step st c = a at *
    generalize run a.2 r = b at *
    refine ⟨fun x hx => ?_, fun hn x hx => ?_, fun hy => ?_, fun hb => h2.b (h1.b hb)⟩
    · rcases List.mem_append.1 hx with hx | hx
      · exact h1.h x hx
      · exact h2.h x hx
    · have hn' : b.2.deaf = false := hn
      have ha : a.2.deaf = false := by
        cases e : a.2.deaf with
        | false => rfl
        | true => rw [h2.b e] at hn'; cases hn'
      rcases List.mem_append.1 hx with hx | hx
      · exact h1.n ha x hx
      · exact h2.n hn' x hx
    · cases e : a.2.deaf with
      | true =>
        rcases h2.y hy with ⟨_, e2⟩ | ⟨e2, _⟩
        · rcases h1.y e with ⟨e3, e4⟩ | ⟨e3, pre, e4, e5⟩
          · left; exact ⟨e3, by show a.1 ++ b.1 = []; rw [e2, e4]; rfl⟩
          · right; exact ⟨e3, pre, by show a.1 ++ b.1 = _; rw [e2, e4, List.append_nil], e5⟩
        · rw [e] at e2; cases e2
      | false =>
        have e0 : st.deaf = false := by
          cases e3 : st.deaf with
          | false => rfl
          | true => rw [h1.b e3] at e; cases e
        rcases h2.y hy with ⟨e2, _⟩ | ⟨_, pre, e4, e5⟩
        · rw [e] at e2; cases e2
        · right
          refine ⟨e0, a.1 ++ pre, by show a.1 ++ b.1 = _; rw [e4, List.append_assoc], fun x hx => ?_⟩
          rcases List.mem_append.1 hx with hx | hx
          · exact h1.n e x hx
          · exact e5 x hx
theorem step_few (st : St) (c : UInt8) : (step st c).1.length ≤ 1 := by
  unfold step
  split
  · simp
  · split <;> simp
theorem run_few (st : St) (l : List UInt8) : (run st l).1.length ≤ l.length := by
  induction l generalizing st with
  | nil => simp [run_nil]
  | cons c r ih =>
    rw [run_cons, List.length_append, List.length_cons]
    have := step_few st c
    have := ih (step st c).2
    omega
end Go.Proofs.YtnpikjobjmffgaaDoor.li
