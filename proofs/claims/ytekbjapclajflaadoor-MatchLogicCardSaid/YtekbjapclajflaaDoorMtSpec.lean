/-
  What keys say, as plain mathematics: what is whole, what the first key says, what stands behind it; no walk.
-/
import Derived.Test.YtekbjapclajflaaDoorMtHas
namespace Go.Proofs.YtekbjapclajflaaDoor.mt
open Go.RowKit

/-- A key, and where its Set lies. -/
structure Key where
  kind : Int
  kids : Int
  field : List UInt8
  text : List UInt8
  n : Nat
  set : List (Nat × Nat)
  sv : Value

def kidsN (k : Key) : Int := if k.kind = 1 then k.kids else if k.kind = 2 then 1 else if k.kind = 3 then 2 else 0
def kidsOk (k : Key) : Bool := if k.kind = 1 then decide (1 ≤ k.kids) else if k.kind = 2 then true else if k.kind = 3 then true else decide (4 ≤ k.kind) && decide (k.kind ≤ 13)

/-- n keys, one behind the other: what each says, and what stands behind them. -/
def times (g : List Key → Option (Bool × List Key)) : Nat → List Key → Option (List Bool × List Key)
  | 0, l => some ([], l)
  | n + 1, l => match times g n l with
    | none => none
    | some (bs, r) => match g r with
      | none => none
      | some (b, r') => some (bs ++ [b], r')
/-- What a key says by what its kids say. -/
def comb (f : Key → Bool) (k : Key) (bs : List Bool) : Bool := if k.kind = 1 then bs.all id else if k.kind = 2 then !bs.all id else if k.kind = 3 then bs.any id else f k
def step (f : Key → Bool) (g : List Key → Option (Bool × List Key)) (k : Key) (r : List Key) : Option (Bool × List Key) :=
  if kidsOk k = true then match times g (kidsN k).toNat r with
    | none => none
    | some (bs, r') => some (comb f k bs, r')
  else none
/-- What the first key says, and what stands behind it and its kids; d of them may stand in one another. -/
def E (f : Key → Bool) : Nat → List Key → Option (Bool × List Key)
  | 0, _ => none
  | _ + 1, [] => none
  | d + 1, k :: r => step f (E f d) k r
theorem E_cons (f : Key → Bool) (d : Nat) (k : Key) (r : List Key) : E f (d + 1) (k :: r) = step f (E f d) k r := rfl
theorem E_nil (f : Key → Bool) : ∀ d, E f d [] = none
  | 0 => rfl
  | _ + 1 => rfl

def no (_ : Key) : Bool := false
def done (o : Option (Bool × List Key)) : Bool := match o with
  | some (_, []) => true
  | _ => false
def yes (o : Option (Bool × List Key)) : Bool := match o with
  | some (b, []) => b
  | _ => false
def whole (l : List Key) : Bool := decide (l.length ≤ 32) && done (E no 9 l)
def says (f : Key → Bool) (l : List Key) : Bool := whole l && yes (E f 9 l)
def want (k : Key) : Bool := decide (k.kind = 11) || (decide (k.kind = 12) || decide (k.kind = 13))

/-! ### n keys -/
theorem times_none (g : List Key → Option (Bool × List Key)) (l : List Key) (k : Nat) (h : times g k l = none) : ∀ n, k ≤ n → times g n l = none
  | 0, hk => by
    obtain rfl : k = 0 := by omega
    exact h
  | n + 1, hk => by
    by_cases e : k = n + 1
    · rw [← e]; exact h
    · rw [times, times_none g l k h n (by omega)]
theorem times_next {g : List Key → Option (Bool × List Key)} {l : List Key} {k : Nat} {bs : List Bool} {r : List Key} (h : times g k l = some (bs, r)) :
    times g (k + 1) l = match g r with
      | none => none
      | some (b, r') => some (bs ++ [b], r') := by
  rw [times, h]
theorem times_length {g : List Key → Option (Bool × List Key)} : ∀ (n : Nat) {l : List Key} {bs : List Bool} {r : List Key}, times g n l = some (bs, r) → bs.length = n
  | 0, l, bs, r, h => by cases h; rfl
  | n + 1, l, bs, r, h => by
    rw [times] at h
    cases ht : times g n l with
    | none => rw [ht] at h; cases h
    | some p =>
      obtain ⟨bs', r'⟩ := p
      rw [ht] at h
      simp only at h
      cases hg : g r' with
      | none => rw [hg] at h; cases h
      | some q =>
        rw [hg] at h
        obtain ⟨b, r''⟩ := q
        cases h
        rw [List.length_append, times_length n ht]; rfl
/-- What holds of each step holds of all. -/
theorem times_rel {g g' : List Key → Option (Bool × List Key)} (t : List Key) (hg : ∀ l v r, g l = some (v, r) → g' (l ++ t) = some (v, r ++ t)) :
    ∀ (n : Nat) {l : List Key} {bs : List Bool} {r : List Key}, times g n l = some (bs, r) → times g' n (l ++ t) = some (bs, r ++ t)
  | 0, l, bs, r, h => by cases h; rfl
  | n + 1, l, bs, r, h => by
    rw [times] at h ⊢
    cases ht : times g n l with
    | none => rw [ht] at h; cases h
    | some p =>
      obtain ⟨bs', r'⟩ := p
      rw [ht] at h
      rw [times_rel t hg n ht]
      simp only at h ⊢
      cases hq : g r' with
      | none => rw [hq] at h; cases h
      | some q =>
        rw [hq] at h
        obtain ⟨b, r''⟩ := q
        cases h
        rw [hg _ _ _ hq]
theorem step_rel {f : Key → Bool} {g g' : List Key → Option (Bool × List Key)} (t : List Key) (hg : ∀ l v r, g l = some (v, r) → g' (l ++ t) = some (v, r ++ t)) {k : Key} {l : List Key} {v : Bool} {r : List Key}
    (h : step f g k l = some (v, r)) : step f g' k (l ++ t) = some (v, r ++ t) := by
  unfold step at h ⊢
  by_cases hk : kidsOk k = true
  · rw [if_pos hk] at h ⊢
    cases ht : times g (kidsN k).toNat l with
    | none => rw [ht] at h; cases h
    | some p =>
      obtain ⟨bs, r'⟩ := p
      rw [ht] at h
      rw [times_rel t hg _ ht]
      cases h
      rfl
  · rw [if_neg hk] at h; cases h
/-- More depth, more behind it: the same. -/
theorem E_rel (f : Key → Bool) (t : List Key) : ∀ (d d' : Nat), d ≤ d' → ∀ l v r, E f d l = some (v, r) → E f d' (l ++ t) = some (v, r ++ t)
  | 0, _, _, _, _, _, h => by cases h
  | d + 1, 0, hd, _, _, _, _ => by omega
  | d + 1, d' + 1, hd, [], _, _, h => by cases h
  | d + 1, d' + 1, hd, k :: l, v, r, h => by
    rw [List.cons_append, E_cons] at *
    exact step_rel t (E_rel f t d d' (by omega)) h
theorem E_more {f : Key → Bool} {d d' : Nat} (hd : d ≤ d') {l : List Key} {v : Bool} {r : List Key} (h : E f d l = some (v, r)) : E f d' l = some (v, r) := by
  have := E_rel f [] d d' hd l v r h
  rwa [List.append_nil, List.append_nil] at this

/-! ### What is behind it doesn't hang on what leaves say -/
theorem times_like {g g' : List Key → Option (Bool × List Key)} (hg : ∀ l, (g l).map (·.2) = (g' l).map (·.2)) : ∀ (n : Nat) (l : List Key), (times g n l).map (·.2) = (times g' n l).map (·.2)
  | 0, l => rfl
  | n + 1, l => by
    have ih := times_like hg n l
    rw [times, times]
    cases h1 : times g n l with
    | none =>
      rw [h1] at ih
      cases h2 : times g' n l with
      | none => rfl
      | some q => rw [h2] at ih; cases ih
    | some p =>
      rw [h1] at ih
      cases h2 : times g' n l with
      | none => rw [h2] at ih; cases ih
      | some q =>
        rw [h2] at ih
        obtain ⟨bs, r⟩ := p
        obtain ⟨bs', r'⟩ := q
        simp only [Option.map_some, Option.some.injEq] at ih
        subst ih
        have hr := hg r
        simp only
        cases g1 : g r with
        | none =>
          rw [g1] at hr
          cases g2 : g' r with
          | none => rfl
          | some q => rw [g2] at hr; cases hr
        | some p =>
          rw [g1] at hr
          cases g2 : g' r with
          | none => rw [g2] at hr; cases hr
          | some q => rw [g2] at hr; simpa using hr
theorem step_like {f f' : Key → Bool} {g g' : List Key → Option (Bool × List Key)} (hg : ∀ l, (g l).map (·.2) = (g' l).map (·.2)) (k : Key) (l : List Key) : (step f g k l).map (·.2) = (step f' g' k l).map (·.2) := by
  unfold step
  by_cases hk : kidsOk k = true
  · rw [if_pos hk, if_pos hk]
    have := times_like hg (kidsN k).toNat l
    cases h1 : times g (kidsN k).toNat l with
    | none =>
      rw [h1] at this
      cases h2 : times g' (kidsN k).toNat l with
      | none => rfl
      | some q => rw [h2] at this; cases this
    | some p =>
      rw [h1] at this
      cases h2 : times g' (kidsN k).toNat l with
      | none => rw [h2] at this; cases this
      | some q => rw [h2] at this; simpa using this
  · rw [if_neg hk, if_neg hk]
theorem E_like (f f' : Key → Bool) : ∀ (d : Nat) (l : List Key), (E f d l).map (·.2) = (E f' d l).map (·.2)
  | 0, _ => rfl
  | _ + 1, [] => rfl
  | d + 1, k :: l => step_like (E_like f f' d) k l
theorem done_like {o o' : Option (Bool × List Key)} (h : o.map (·.2) = o'.map (·.2)) : done o = done o' := by
  cases o with
  | none =>
    cases o' with
    | none => rfl
    | some q => cases h
  | some p =>
    cases o' with
    | none => cases h
    | some q =>
      obtain ⟨b, r⟩ := p
      obtain ⟨b', r'⟩ := q
      simp only [Option.map_some, Option.some.injEq] at h
      subst h
      cases r <;> rfl
theorem done_some {o : Option (Bool × List Key)} (h : done o = true) : ∃ b, o = some (b, []) := by
  cases o with
  | none => cases h
  | some p =>
    obtain ⟨b, r⟩ := p
    cases r with
    | nil => exact ⟨b, rfl⟩
    | cons => cases h
theorem whole_E {l : List Key} (h : whole l = true) (f : Key → Bool) : ∃ b, E f 9 l = some (b, []) := by
  unfold whole at h
  rw [Bool.and_eq_true] at h
  exact done_some ((done_like (E_like no f 9 l)).symm.trans h.2)
theorem whole_length {l : List Key} (h : whole l = true) : l.length ≤ 32 := by
  unfold whole at h
  rw [Bool.and_eq_true, decide_eq_true_eq] at h
  exact h.1
theorem whole_of {l : List Key} (hl : l.length ≤ 32) {f : Key → Bool} {b : Bool} (h : E f 9 l = some (b, [])) : whole l = true := by
  unfold whole
  rw [decide_eq_true hl, Bool.true_and, done_like (E_like no f 9 l), h]
  rfl
theorem says_of {l : List Key} (hl : l.length ≤ 32) {f : Key → Bool} {b : Bool} (h : E f 9 l = some (b, [])) : says f l = b := by
  unfold says
  rw [whole_of hl h, Bool.true_and, h]
  rfl

/-! ### What leaves say -/
theorem times_same {g g' : List Key → Option (Bool × List Key)} (A : List Key → Prop) (hA : ∀ l v r, A l → g l = some (v, r) → A r) (hg : ∀ l, A l → g l = g' l) : ∀ (n : Nat) (l : List Key), A l → times g n l = times g' n l ∧ ∀ bs r, times g n l = some (bs, r) → A r
  | 0, l, h => ⟨rfl, fun bs r e => by cases e; exact h⟩
  | n + 1, l, h => by
    obtain ⟨h1, h2⟩ := times_same A hA hg n l h
    rw [times, times, ← h1]
    cases ht : times g n l with
    | none => exact ⟨rfl, fun bs r e => by cases e⟩
    | some p =>
      obtain ⟨bs, r⟩ := p
      have ar := h2 bs r ht
      simp only
      rw [← hg r ar]
      cases hq : g r with
      | none => exact ⟨rfl, fun bs r e => by cases e⟩
      | some q =>
        obtain ⟨b, r'⟩ := q
        exact ⟨rfl, fun bs r e => by cases e; exact hA _ _ _ ar hq⟩
/-- What is read, alone. -/
theorem E_own (f : Key → Bool) : ∀ (d : Nat) (l : List Key) (v : Bool) (r : List Key), E f d l = some (v, r) → ∃ p, l = p ++ r ∧ E f d p = some (v, [])
  | 0, _, _, _, h => by cases h
  | _ + 1, [], _, _, h => by cases h
  | d + 1, k :: l, v, r, h => by
    rw [E_cons] at h
    unfold step at h
    by_cases hk : kidsOk k = true
    · rw [if_pos hk] at h
      cases ht : times (E f d) (kidsN k).toNat l with
      | none => rw [ht] at h; cases h
      | some p =>
        obtain ⟨bs, r'⟩ := p
        rw [ht] at h
        cases h
        have key : ∀ (n : Nat) (bs : List Bool) (r : List Key), times (E f d) n l = some (bs, r) → ∃ p, l = p ++ r ∧ times (E f d) n p = some (bs, []) := fun n => by
          induction n with
          | zero => intro bs r h; cases h; exact ⟨[], rfl, rfl⟩
          | succ n ih =>
            intro bs r h
            rw [times] at h
            cases ht : times (E f d) n l with
            | none => rw [ht] at h; cases h
            | some p =>
              obtain ⟨bs', r'⟩ := p
              rw [ht] at h
              simp only at h
              cases hq : E f d r' with
              | none => rw [hq] at h; cases h
              | some q =>
                rw [hq] at h
                obtain ⟨b, r''⟩ := q
                cases h
                obtain ⟨p1, e1, t1⟩ := ih _ _ ht
                obtain ⟨p2, e2, t2⟩ := E_own f d _ _ _ hq
                refine ⟨p1 ++ p2, by rw [e1, e2, List.append_assoc], ?_⟩
                have := times_rel p2 (fun l v r h => E_rel f p2 d d (Nat.le_refl _) l v r h) n t1
                rw [List.nil_append] at this
                rw [times_next this, t2]
        obtain ⟨p, e, t⟩ := key _ _ _ ht
        refine ⟨k :: p, by rw [e]; rfl, ?_⟩
        rw [E_cons]
        unfold step
        rw [if_pos hk, t]
    · rw [if_neg hk] at h; cases h
theorem E_end {f : Key → Bool} {d : Nat} {l : List Key} {v : Bool} {r : List Key} (h : E f d l = some (v, r)) : ∃ p, l = p ++ r := by
  obtain ⟨p, e, _⟩ := E_own f d l v r h
  exact ⟨p, e⟩
theorem E_cut {f : Key → Bool} {d : Nat} {a t : List Key} {v : Bool} (h : E f d (a ++ t) = some (v, t)) : E f d a = some (v, []) := by
  obtain ⟨p, e, h2⟩ := E_own f d _ v t h
  rw [List.append_cancel_right e]
  exact h2
theorem E_same (f f' : Key → Bool) : ∀ (d : Nat) (l : List Key), (∀ k ∈ l, f k = f' k) → E f d l = E f' d l
  | 0, _, _ => rfl
  | _ + 1, [], _ => rfl
  | d + 1, k :: l, h => by
    rw [E_cons, E_cons]
    unfold step
    have ht := (times_same (g := E f d) (g' := E f' d) (fun l => ∀ k ∈ l, f k = f' k) (fun l v r hl e => by
      obtain ⟨p, e⟩ := E_end e
      intro k hk
      exact hl k (by rw [e]; exact List.mem_append.2 (.inr hk))) (fun l hl => E_same f f' d l hl) (kidsN k).toNat l (fun k hk => h k (List.mem_cons_of_mem _ hk))).1
    have hc : ∀ bs, comb f k bs = comb f' k bs := fun bs => by
      unfold comb
      rw [h k List.mem_cons_self]
    rw [← ht]
    by_cases hk : kidsOk k = true
    · rw [if_pos hk, if_pos hk]
      cases times (E f d) (kidsN k).toNat l with
      | none => rfl
      | some p => simp only; rw [hc]
    · rw [if_neg hk, if_neg hk]
theorem says_same {f f' : Key → Bool} {l : List Key} (h : ∀ k ∈ l, f k = f' k) : says f l = says f' l := by
  unfold says
  rw [E_same f f' 9 l h]

def out (f : Key → Bool) (k : Key) (o : Option (List Bool × List Key)) : Option (Bool × List Key) := match o with
  | none => none
  | some (bs, r') => some (comb f k bs, r')
theorem step_eq (f : Key → Bool) (g : List Key → Option (Bool × List Key)) (k : Key) (r : List Key) : step f g k r = if kidsOk k = true then out f k (times g (kidsN k).toNat r) else none := by
  unfold step out
  rfl
theorem out_none (f : Key → Bool) (k : Key) : out f k none = none := rfl
theorem out_some (f : Key → Bool) (k : Key) (bs : List Bool) (r : List Key) : out f k (some (bs, r)) = some (comb f k bs, r) := rfl
theorem times_next_none {g : List Key → Option (Bool × List Key)} {l : List Key} {k : Nat} {bs : List Bool} {r : List Key} (h : times g k l = some (bs, r)) (h2 : g r = none) : times g (k + 1) l = none := by
  rw [times_next h, h2]
theorem times_next_some {g : List Key → Option (Bool × List Key)} {l : List Key} {k : Nat} {bs : List Bool} {r : List Key} (h : times g k l = some (bs, r)) {b : Bool} {r' : List Key} (h2 : g r = some (b, r')) : times g (k + 1) l = some (bs ++ [b], r') := by
  rw [times_next h, h2]

/-! ### NOT, OR, AND -/
def kNot (sv : Value) : Key := ⟨2, 0, [], [], 0, [], sv⟩
def kOr (sv : Value) : Key := ⟨3, 0, [], [], 0, [], sv⟩
def kAnd (sv : Value) : Key := ⟨1, 2, [], [], 0, [], sv⟩
theorem ok_not (sv : Value) : kidsOk (kNot sv) = true := rfl
theorem ok_or (sv : Value) : kidsOk (kOr sv) = true := rfl
theorem ok_and (sv : Value) : kidsOk (kAnd sv) = true := rfl
theorem times_one {g : List Key → Option (Bool × List Key)} {l : List Key} {b : Bool} {r : List Key} (h : g l = some (b, r)) : times g 1 l = some ([b], r) := by
  simp [times, h]
theorem times_two {g : List Key → Option (Bool × List Key)} {l m : List Key} {b c : Bool} {r : List Key} (h : g l = some (b, m)) (h2 : g m = some (c, r)) : times g 2 l = some ([b, c], r) := by
  simp [times, h, h2]
theorem E_not {f : Key → Bool} {sv : Value} {d : Nat} {l : List Key} {b : Bool} {r : List Key} (h : E f d l = some (b, r)) : E f (d + 1) (kNot sv :: l) = some (!b, r) := by
  rw [E_cons, step, if_pos (ok_not sv), show (kidsN (kNot sv)).toNat = 1 from rfl, times_one h]
  simp [comb, kNot]
theorem E_or {f : Key → Bool} {sv : Value} {d : Nat} {l m : List Key} {b c : Bool} {r : List Key} (h : E f d l = some (b, m)) (h2 : E f d m = some (c, r)) : E f (d + 1) (kOr sv :: l) = some (b || c, r) := by
  rw [E_cons, step, if_pos (ok_or sv), show (kidsN (kOr sv)).toNat = 2 from rfl, times_two h h2]
  simp [comb, kOr]
theorem E_and {f : Key → Bool} {sv : Value} {d : Nat} {l m : List Key} {b c : Bool} {r : List Key} (h : E f d l = some (b, m)) (h2 : E f d m = some (c, r)) : E f (d + 1) (kAnd sv :: l) = some (b && c, r) := by
  rw [E_cons, step, if_pos (ok_and sv), show (kidsN (kAnd sv)).toNat = 2 from rfl, times_two h h2]
  simp [comb, kAnd]
/-- What stands in a NOT that has an answer. -/
theorem not_E {f : Key → Bool} {sv : Value} {d : Nat} {l : List Key} {v : Bool} {r : List Key} (h : E f (d + 1) (kNot sv :: l) = some (v, r)) : ∃ b, E f d l = some (b, r) := by
  rw [E_cons, step, if_pos (ok_not sv), show (kidsN (kNot sv)).toNat = 1 from rfl, times, times] at h
  simp only at h
  cases he : E f d l with
  | none => rw [he] at h; cases h
  | some p =>
    obtain ⟨b, r'⟩ := p
    rw [he] at h
    simp at h
    exact ⟨b, by rw [h.2]⟩
theorem two_E {g : List Key → Option (Bool × List Key)} {l : List Key} {bs : List Bool} {r : List Key} (h : times g 2 l = some (bs, r)) : ∃ b c m, g l = some (b, m) ∧ g m = some (c, r) := by
  rw [times, times, times] at h
  simp only at h
  cases he : g l with
  | none => rw [he] at h; cases h
  | some p =>
    obtain ⟨b, m⟩ := p
    rw [he] at h
    simp only at h
    cases he2 : g m with
    | none => rw [he2] at h; cases h
    | some q =>
      obtain ⟨c, r'⟩ := q
      rw [he2] at h
      simp at h
      exact ⟨b, c, m, rfl, by rw [he2, h.2]⟩
theorem or_E {f : Key → Bool} {sv : Value} {d : Nat} {l : List Key} {v : Bool} {r : List Key} (h : E f (d + 1) (kOr sv :: l) = some (v, r)) : ∃ b c m, E f d l = some (b, m) ∧ E f d m = some (c, r) := by
  rw [E_cons, step, if_pos (ok_or sv), show (kidsN (kOr sv)).toNat = 2 from rfl] at h
  cases ht : times (E f d) 2 l with
  | none => rw [ht] at h; cases h
  | some p =>
    obtain ⟨bs, r'⟩ := p
    rw [ht] at h
    simp at h
    rw [h.2] at ht
    exact two_E ht
theorem and_E {f : Key → Bool} {sv : Value} {d : Nat} {l : List Key} {v : Bool} {r : List Key} (h : E f (d + 1) (kAnd sv :: l) = some (v, r)) : ∃ b c m, E f d l = some (b, m) ∧ E f d m = some (c, r) := by
  rw [E_cons, step, if_pos (ok_and sv), show (kidsN (kAnd sv)).toNat = 2 from rfl] at h
  cases ht : times (E f d) 2 l with
  | none => rw [ht] at h; cases h
  | some p =>
    obtain ⟨bs, r'⟩ := p
    rw [ht] at h
    simp at h
    rw [h.2] at ht
    exact two_E ht
/-- An end is where the list was to end. -/
theorem E_split {f : Key → Bool} {d : Nat} (hd : d ≤ 9) {a t : List Key} {va : Bool} (ha : E f 9 a = some (va, [])) {v : Bool} {m : List Key} (h : E f d (a ++ t) = some (v, m)) : m = t ∧ E f d a = some (va, []) := by
  have h1 := E_rel f t 9 9 (Nat.le_refl _) _ _ _ ha
  rw [E_more hd h] at h1
  simp at h1
  obtain ⟨rfl, rfl⟩ := h1
  exact ⟨rfl, E_cut h⟩

/-- What the law asks. -/
theorem logic (f : Key → Bool) (s1 s2 s3 s4 s5 s6 : Value) (a b : List Key) (ha : whole a = true) (hb : whole b = true)
    (h1 : whole (kNot s4 :: (kOr s2 :: (a ++ b))) = true) (h2 : whole (kAnd s5 :: ((kNot s1 :: a) ++ (kNot s6 :: b))) = true) (h3 : whole (kAnd s3 :: (a ++ b)) = true) :
    says f (kNot s1 :: a) = (!says f a) ∧ says f (kOr s2 :: (a ++ b)) = (says f a || says f b) ∧ says f (kAnd s3 :: (a ++ b)) = (says f a && says f b) ∧ says f (kNot s4 :: (kOr s2 :: (a ++ b))) = says f (kAnd s5 :: ((kNot s1 :: a) ++ (kNot s6 :: b))) := by
  obtain ⟨va, ea⟩ := whole_E ha f
  obtain ⟨vb, eb⟩ := whole_E hb f
  have l1 := whole_length h1
  have l2 := whole_length h2
  have l3 := whole_length h3
  rw [says_of (whole_length ha) ea, says_of (whole_length hb) eb]
  -- how deep both may stand
  obtain ⟨v1, e1⟩ := whole_E h1 f
  obtain ⟨v1', e1'⟩ := not_E e1
  obtain ⟨x, y, m, ex, ey⟩ := or_E e1'
  obtain ⟨rfl, a7⟩ := E_split (by omega) ea ex
  have b7 : E f 7 m = some (vb, []) := by
    have := E_more (d' := 9) (by omega) ey
    rw [eb] at this
    simp at this
    rw [ey, ← this]
  have ab7 : E f 7 (a ++ m) = some (va, m) := by
    have := E_rel f m 7 7 (Nat.le_refl _) _ _ _ a7
    rwa [List.nil_append] at this
  have ab8 := E_more (d' := 8) (by omega) ab7
  have b8 := E_more (d' := 8) (by omega) b7
  have na8 : E f 8 ((kNot s1 :: a) ++ (kNot s6 :: m)) = some (!va, kNot s6 :: m) := by
    have := E_rel f (kNot s6 :: m) 8 8 (Nat.le_refl _) _ _ _ (E_not (sv := s1) a7)
    rwa [List.nil_append] at this
  have nb8 : E f 8 (kNot s6 :: m) = some (!vb, []) := E_not b7
  simp only [List.length_cons, List.length_append] at l1 l2 l3
  rw [says_of (f := f) (by simp only [List.length_cons]; omega) (E_not (E_more (d' := 8) (by omega) a7)),
    says_of (f := f) (by simp only [List.length_cons, List.length_append]; omega) (E_or ab8 b8),
    says_of (f := f) (by simp only [List.length_cons, List.length_append]; omega) (E_and ab8 b8),
    says_of (f := f) (by simp only [List.length_cons, List.length_append]; omega) (E_not (E_or ab7 b7)),
    says_of (f := f) (by simp only [List.length_cons, List.length_append]; omega) (E_and na8 nb8)]
  exact ⟨rfl, rfl, rfl, by cases va <;> cases vb <;> rfl⟩
end Go.Proofs.YtekbjapclajflaaDoor.mt
