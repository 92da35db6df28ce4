/-
  Logs as plain mathematics: what stands where, what is taken over, what is let go. No walk.
-/
import Derived.Test.YtmgmhnohocamfaaGreatTlSa
namespace Go.Proofs.YtmgmhnohocamfaaGreat.tl
set_option linter.unusedVariables false
open qm (Bs right readS)

def e0 : EnIn := ⟨0, 0, []⟩
/-- Has a log a term there? -/
def Lg.rch (g : Lg) (i : Nat) : Bool := decide (g.base ≤ i) && decide (i - g.base ≤ g.es.length)
/-- How many of its entries stand up to there. -/
def Lg.upTo (g : Lg) (i : Nat) : Nat := min (i - g.base) g.es.length
/-- The term behind so many entries. -/
def Lg.tb (g : Lg) (n : Nat) : Nat := if n = 0 then g.bt else (g.es.getD (n - 1) e0).term
def Lg.term (g : Lg) (i : Nat) : Nat × Bool := if g.rch i then (g.tb (g.upTo i), true) else (0, false)
def Lg.last (g : Lg) : Nat := g.base + g.es.length
def Lg.lastT (g : Lg) : Nat := g.tb g.es.length
def Lg.slice (g : Lg) (f : Nat) (most : Int) : List EnIn := if g.base < f ∧ f ≤ g.last ∧ 1 ≤ most then (g.es.drop (f - g.base - 1)).take most.toNat else []
/-- The members that are said by the first n entries, and where. -/
def says (x : EnIn) : Option (List Int) := if x.kind = 2 ∧ (readS x.data).2 = 0 then some (readS x.data).1 else none
def Lg.mem (g : Lg) : Nat → List Int × Nat
  | 0 => (g.conf, g.base)
  | n + 1 => match says (g.es.getD n e0) with
    | some l => (l, g.base + n + 1)
    | none => g.mem n
def Lg.newer (g : Lg) (i t : Nat) : Bool := decide (g.lastT < t) || (decide (t = g.lastT) && decide (g.last ≤ i))
/-- How many entries have the same terms. -/
def alike : List EnIn → List EnIn → Nat
  | x :: a, y :: b => if x.term = y.term then alike a b + 1 else 0
  | _, _ => 0
def Lg.behind (g : Lg) (prev t : Nat) (l : List EnIn) : Lg × Nat × Bool :=
  if g.term prev = (t, true) then
    let n := g.upTo prev
    let s := alike (g.es.drop n) l
    if s = l.length then (g, 0, true) else ({ g with es := g.es.take (n + s) ++ l.drop s }, g.base + (n + s) + 1, true)
  else (g, 0, false)
def Lg.merge (g : Lg) (prev t : Nat) (l : List EnIn) : Lg × Nat × Bool :=
  if prev < g.base then g.behind g.base g.bt (l.drop (g.base - prev)) else g.behind prev t l
def Lg.install (g : Lg) (i t : Nat) (conf : List Int) : Lg := ⟨i, t, conf, if g.term i = (t, true) then g.es.drop (g.upTo i) else []⟩
def Lg.compact (g : Lg) (i : Nat) : Lg × Bool := if g.rch i then (g.install i (g.term i).1 (g.mem (g.upTo i)).1, true) else (g, false)
/-- Right terms, right kinds. -/
def rises : Nat → List EnIn → Bool
  | _, [] => true
  | t, x :: l => decide (1 ≤ x.kind) && decide (x.kind ≤ 3) && decide (t ≤ x.term) && rises x.term l
def confOk (c : List Int) : Bool := decide (c.length = 0) || right c
def Lg.right (g : Lg) : Bool := decide (g.base ≤ 4611686018427387904) && decide (g.es.length ≤ 1024) && confOk g.conf && rises g.bt g.es

/-! ### What of them follows -/
theorem alike_le : ∀ (a b : List EnIn), alike a b ≤ a.length ∧ alike a b ≤ b.length
  | [], _ => by simp [alike]
  | _ :: _, [] => by simp [alike]
  | x :: a, y :: b => by
    have := alike_le a b
    simp only [alike, List.length_cons]
    split <;> omega
theorem alike_eq : ∀ (a b : List EnIn) (k : Nat) (hk : k < alike a b) (h1 : k < a.length) (h2 : k < b.length), a[k].term = b[k].term
  | [], _, k, hk, h1, h2 => by simp at h1
  | _ :: _, [], k, hk, h1, h2 => by simp at h2
  | x :: a, y :: b, k, hk, h1, h2 => by
    simp only [alike] at hk
    by_cases h : x.term = y.term
    · rw [if_pos h] at hk
      cases k with
      | zero => exact h
      | succ k => exact alike_eq a b k (by omega) (by simpa using h1) (by simpa using h2)
    · rw [if_neg h] at hk; omega
theorem alike_ne : ∀ (a b : List EnIn) (h1 : alike a b < a.length) (h2 : alike a b < b.length), a[alike a b].term ≠ b[alike a b].term
  | [], _, h1, h2 => by simp at h1
  | _ :: _, [], h1, h2 => by simp at h2
  | x :: a, y :: b, h1, h2 => by
    by_cases h : x.term = y.term
    · have e : alike (x :: a) (y :: b) = alike a b + 1 := by simp [alike, h]
      simp only [e, List.getElem_cons_succ]
      exact alike_ne a b (by rw [e] at h1; simpa using h1) (by rw [e] at h2; simpa using h2)
    · have e : alike (x :: a) (y :: b) = 0 := by simp [alike, h]
      simp only [e, List.getElem_cons_zero]
      exact h
/-- The number of a walk that ends at n. -/
theorem alike_stop {a b : List EnIn} {n : Nat} (hn : n ≤ a.length) (hm : n ≤ b.length) (he : ∀ k (h1 : k < a.length) (h2 : k < b.length), k < n → a[k].term = b[k].term) (hs : n = a.length ∨ n = b.length ∨ ∃ (h1 : n < a.length) (h2 : n < b.length), a[n].term ≠ b[n].term) : alike a b = n := by
  have hl := alike_le a b
  rcases Nat.lt_trichotomy (alike a b) n with h | h | h
  · exact absurd (he (alike a b) (by omega) (by omega) h) (alike_ne a b (by omega) (by omega))
  · exact h
  · rcases hs with h2 | h2 | ⟨h1, h2, h3⟩
    · omega
    · omega
    · exact absurd (alike_eq a b n h h1 h2) h3
theorem alike_self : ∀ (a : List EnIn) (n : Nat), alike a (a.take n) = min n a.length
  | [], n => by simp [alike]
  | x :: a, 0 => by simp [alike]
  | x :: a, n + 1 => by simp only [List.take_succ_cons, alike, if_true, alike_self a n, List.length_cons]; omega
theorem rises_iff : ∀ (l : List EnIn) (t : Nat), rises t l = true ↔ ∀ k (h : k < l.length), 1 ≤ l[k].kind ∧ l[k].kind ≤ 3 ∧ (if k = 0 then t else (l.getD (k - 1) e0).term) ≤ l[k].term
  | [], t => by simp [rises]
  | x :: l, t => by
    have ih := rises_iff l x.term
    simp only [rises, Bool.and_eq_true, decide_eq_true_eq, ih]
    constructor
    · rintro ⟨⟨⟨h1, h2⟩, h3⟩, h4⟩ k hk
      cases k with
      | zero => exact ⟨h1, h2, by simpa using h3⟩
      | succ k =>
        have := h4 k (by simpa using hk)
        simp only [List.getElem_cons_succ, Nat.succ_ne_zero, if_false, Nat.add_sub_cancel]
        refine ⟨this.1, this.2.1, ?_⟩
        cases k with
        | zero => simpa using this.2.2
        | succ k => simpa using this.2.2
    · intro h
      have h0 := h 0 (by simp)
      refine ⟨⟨⟨h0.1, h0.2.1⟩, by simpa using h0.2.2⟩, fun k hk => ?_⟩
      have := h (k + 1) (by simpa using hk)
      simp only [List.getElem_cons_succ, Nat.succ_ne_zero, if_false, Nat.add_sub_cancel] at this
      refine ⟨this.1, this.2.1, ?_⟩
      cases k with
      | zero => simpa using this.2.2
      | succ k => simpa using this.2.2
theorem Lg.right_iff (g : Lg) : g.right = true ↔ g.base ≤ 4611686018427387904 ∧ g.es.length ≤ 1024 ∧ (g.conf = [] ∨ qm.right g.conf = true) ∧ rises g.bt g.es = true := by
  simp [Lg.right, confOk, and_assoc]
theorem Lg.right_conf {g : Lg} (h : g.right = true) : g.conf.length ≤ 5 := by
  rcases (g.right_iff.1 h).2.2.1 with h | h
  · simp [h]
  · exact (qm.right_len h).2
theorem Lg.term_yes {g : Lg} {i : Nat} (h : g.rch i = true) : g.term i = (g.tb (g.upTo i), true) := if_pos h
theorem Lg.term_no {g : Lg} {i : Nat} (h : g.rch i = false) : g.term i = (0, false) := if_neg (by simp [h])
theorem Lg.rch_iff {g : Lg} {i : Nat} : g.rch i = true ↔ g.base ≤ i ∧ i ≤ g.last := by
  simp only [Lg.rch, Lg.last, Bool.and_eq_true, decide_eq_true_eq]; omega
theorem Lg.upTo_of {g : Lg} {i : Nat} (h : g.rch i = true) : g.upTo i = i - g.base := by
  have := Lg.rch_iff.1 h
  unfold Lg.last at this
  unfold Lg.upTo; omega
theorem Lg.upTo_le (g : Lg) (i : Nat) : g.upTo i ≤ g.es.length := Nat.min_le_right _ _
theorem slice_sub (g : Lg) (f : Nat) (m : Int) : ∀ x ∈ g.slice f m, x ∈ g.es := by
  intro x hx
  unfold Lg.slice at hx
  split at hx
  · exact List.mem_of_mem_drop (List.mem_of_mem_take hx)
  · cases hx
theorem slice_len (g : Lg) (f : Nat) (m : Int) : (g.slice f m).length ≤ g.es.length := by
  unfold Lg.slice
  split
  · simp; omega
  · simp
end Go.Proofs.YtmgmhnohocamfaaGreat.tl
