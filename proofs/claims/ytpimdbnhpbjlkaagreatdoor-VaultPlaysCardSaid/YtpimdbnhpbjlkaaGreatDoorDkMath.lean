/-
  What holds of every disk behind calls, and behind a crash; no walk.
-/
import Derived.Test.YtpimdbnhpbjlkaaGreatDoorDkSpec
namespace Go.Proofs.YtpimdbnhpbjlkaaGreatDoor.dk
set_option linter.unusedVariables false

/-! ### Calls done again -/
/-- All of them. -/
def full (l : List File) (p : List Call) : List File := p.foldl (fun l c => done l c (steps c)) l
theorem full_snoc (l : List File) (p : List Call) (c : Call) : full l (p ++ [c]) = done (full l p) c (steps c) := by simp [full]
theorem count_append (p q : List Call) : count (p ++ q) = count p + count q := by simp [count]
theorem done_zero (l : List File) (c : Call) : done l c 0 = l := by unfold done; rw [if_pos (by omega)]
theorem again_zero (l : List File) : ∀ p : List Call, again l p 0 = l
  | [] => rfl
  | c :: r => by
    unfold again
    rw [Nat.min_zero, done_zero, Nat.sub_zero, again_zero l r]
theorem again_append : ∀ (l : List File) (p q : List Call) (k : Nat), count p ≤ k → again l (p ++ q) k = again (full l p) q (k - count p)
  | l, [], q, k, _ => by simp [full, count]
  | l, c :: r, q, k, h => by
    have hc : count (c :: r) = steps c + count r := by simp [count]
    rw [hc] at h ⊢
    rw [List.cons_append, again, Nat.min_eq_left (by omega), again_append _ r q _ (by omega)]
    have : full l (c :: r) = full (done l c (steps c)) r := rfl
    rw [this, Nat.sub_sub]
theorem again_full (l : List File) (p : List Call) (k : Nat) (h : count p ≤ k) : again l p k = full l p := by
  have := again_append l p [] k h
  rwa [List.append_nil] at this
/-- Where the steps end within a call. -/
theorem again_cut (l : List File) (p : List Call) (c : Call) (q : List Call) (k : Nat) (h : count p ≤ k) (h2 : k < count p + steps c) : again l (p ++ c :: q) k = done (full l p) c (k - count p) := by
  rw [again_append l p (c :: q) k h, again, Nat.min_eq_right (by omega), Nat.sub_self, again_zero]
theorem full_sorted {l : List File} (h : Sorted l) (p : List Call) : Sorted (full l p) := by
  induction p generalizing l with
  | nil => exact h
  | cons c r ih => exact ih (done_sorted h c _)
theorem again_sorted {l : List File} (h : Sorted l) : ∀ (p : List Call) (k : Nat), Sorted (again l p k) := by
  intro p
  induction p generalizing l with
  | nil => intro k; exact h
  | cons c r ih => intro k; exact ih (done_sorted h c _) _
theorem again_get {l : List File} (h : Sorted l) {n : Bs} : ∀ (p : List Call) (k : Nat), (∀ c ∈ p, c.name ≠ n) → get (again l p k) n = get l n := by
  intro p
  induction p generalizing l with
  | nil => intro k _; rfl
  | cons c r ih =>
    intro k hp
    unfold again
    rw [ih (done_sorted h c _) _ (fun x hx => hp x (List.mem_cons_of_mem _ hx)), get_done_other h c _ (fun e => hp c List.mem_cons_self e.symm)]

/-! ### What every disk keeps -/
def Named (n : Bs) : Prop := 1 ≤ n.length ∧ n.length ≤ 80
def Good (c : Call) : Prop := Named c.name ∧ (c.kind = 1 → c.s ≠ [])
theorem steps_pos {c : Call} (h : Good c) : 1 ≤ steps c := by
  unfold steps
  split
  · next hk =>
    have := h.2 hk
    cases hs : c.s with
    | nil => exact absurd hs this
    | cons => simp
  · omega
theorem done_named {l : List File} (hl : ∀ f ∈ l, Named f.1) {c : Call} (hc : Good c) (n : Nat) : ∀ f ∈ done l c n, Named f.1 := by
  intro f hf
  unfold done at hf
  split at hf
  · exact hl f hf
  · split at hf
    · rcases mem_put.1 hf with rfl | ⟨hf, _⟩
      · exact hc.1
      · exact hl f hf
    · split at hf
      · rcases mem_put.1 hf with rfl | ⟨hf, _⟩
        · exact hc.1
        · exact hl f hf
      · exact hl f (mem_without.1 hf).1
structure Right (d : Dk) : Prop where
  cap : d.cap ≤ 1048576
  so : Sorted d.lasts
  nl : ∀ f ∈ d.lasts, Named f.1
  np : ∀ c ∈ d.pend, Good c
  seen : d.seen = full d.lasts d.pend
  room : ∀ j, used (full d.lasts (d.pend.take j)) ≤ d.cap
theorem Right.sorted {d : Dk} (h : Right d) : Sorted d.seen := h.seen ▸ full_sorted h.so _
theorem full_named {l : List File} (hl : ∀ f ∈ l, Named f.1) : ∀ (p : List Call), (∀ c ∈ p, Good c) → ∀ f ∈ full l p, Named f.1 := by
  intro p
  induction p generalizing l with
  | nil => intro _; exact hl
  | cons c r ih => intro hp; exact ih (done_named hl (hp c List.mem_cons_self) _) (fun x hx => hp x (List.mem_cons_of_mem _ hx))
theorem Right.named {d : Dk} (h : Right d) : ∀ f ∈ d.seen, Named f.1 := by rw [h.seen]; exact full_named h.nl _ h.np
theorem Right.used {d : Dk} (h : Right d) : used d.seen ≤ d.cap := by
  have := h.room d.pend.length
  rw [List.take_length] at this
  rwa [h.seen]
theorem fresh_right {cap : Nat} (h : cap ≤ 1048576) : Right (fresh cap) :=
  ⟨h, List.Pairwise.nil, fun f hf => (by cases hf), fun c hc => (by cases hc), rfl, fun j => by show used (full [] (([] : List Call).take j)) ≤ cap; simp [full, dk.used]⟩
theorem spend_parts (d : Dk) : (spend d).cap = d.cap ∧ (spend d).seen = d.seen ∧ (spend d).lasts = d.lasts ∧ (spend d).pend = d.pend ∧ (spend d).fused = d.fused := by
  unfold spend; split <;> simp
theorem spend_right {d : Dk} (h : Right d) : Right (spend d) := by
  obtain ⟨e1, e2, e3, e4, _⟩ := spend_parts d
  exact ⟨by rw [e1]; exact h.cap, by rw [e3]; exact h.so, by rw [e3]; exact h.nl, by rw [e4]; exact h.np, by rw [e2, e3, e4]; exact h.seen, by rw [e1, e3, e4]; exact h.room⟩
theorem after_done {l : List File} {c : Call} (h : Good c) : after l c = done l c (steps c) := by
  unfold after
  split
  · next hk =>
    have : steps c = 1 := by unfold steps; rw [if_neg (by omega)]
    rw [this]
    unfold done
    rw [if_neg (by omega), if_neg (by omega), if_pos hk]
  · rfl
/-- The ways of a call. -/
theorem turn_cases (d : Dk) (c : Call) : (turn d c).2 = d ∨ ((turn d c).1 = 0 ∧ Good c ∧ used (done d.seen c (steps c)) ≤ d.cap ∧ (turn d c).2 = spend { d with seen := done d.seen c (steps c), pend := d.pend ++ [c] }) := by
  unfold turn
  by_cases h1 : c.name.length < 1 ∨ 80 < c.name.length
  · rw [if_pos h1]; exact .inl rfl
  rw [if_neg h1]
  by_cases h2 : off d = true
  · rw [if_pos h2]; exact .inl rfl
  rw [if_neg h2]
  by_cases h3 : c.kind = 3 ∧ get d.seen c.name = none
  · rw [if_pos h3]; exact .inl rfl
  rw [if_neg h3]
  by_cases h4 : c.kind = 1 ∧ c.s = []
  · rw [if_pos h4]; exact .inl rfl
  rw [if_neg h4]
  have hg : Good c := ⟨by unfold Named; omega, fun hk e => h4 ⟨hk, e⟩⟩
  by_cases h5 : d.cap < used (after d.seen c)
  · rw [if_pos h5]; exact .inl rfl
  rw [if_neg h5]
  rw [after_done hg] at h5 ⊢
  exact .inr ⟨rfl, hg, by omega, rfl⟩
theorem push_right {d : Dk} (h : Right d) {c : Call} (hc : Good c) (hu : dk.used (done d.seen c (steps c)) ≤ d.cap) : Right { d with seen := done d.seen c (steps c), pend := d.pend ++ [c] } := by
  refine ⟨h.cap, h.so, h.nl, fun x hx => ?_, ?_, fun j => ?_⟩
  · rcases List.mem_append.1 hx with hx | hx
    · exact h.np x hx
    · rw [List.mem_singleton.1 hx]; exact hc
  · show done d.seen c (steps c) = full d.lasts (d.pend ++ [c])
    rw [full_snoc, ← h.seen]
  · show dk.used (full d.lasts ((d.pend ++ [c]).take j)) ≤ d.cap
    by_cases hj : j ≤ d.pend.length
    · rw [List.take_append_of_le_length hj]; exact h.room j
    · rw [List.take_of_length_le (by simp; omega), full_snoc, ← h.seen]; exact hu
theorem turn_right {d : Dk} (h : Right d) (c : Call) : Right (turn d c).2 := by
  rcases turn_cases d c with e | ⟨_, hg, hu, e⟩
  · rw [e]; exact h
  · rw [e]; exact spend_right (push_right h hg hu)
theorem turn_refused {d : Dk} {c : Call} (h : (turn d c).1 ≠ 0) : (turn d c).2 = d := by
  rcases turn_cases d c with e | ⟨e, _⟩
  · exact e
  · exact absurd e h
theorem sync_right {d : Dk} (h : Right d) : Right (sync d).2 := by
  unfold sync
  split
  · exact h
  · refine spend_right ⟨h.cap, h.sorted, h.named, fun c hc => (by cases hc), rfl, fun j => ?_⟩
    show dk.used (full d.seen (([] : List Call).take j)) ≤ d.cap
    simpa [full] using h.used
theorem again_room {cap : Nat} : ∀ (l : List File) (p : List Call) (k : Nat), Sorted l → (∀ j, dk.used (full l (p.take j)) ≤ cap) → dk.used (again l p k) ≤ cap
  | l, [], k, _, h => by
    show dk.used l ≤ cap
    simpa [full] using h 0
  | l, c :: r, k, hs, h => by
    unfold again
    have h0 : dk.used l ≤ cap := by simpa [full] using h 0
    have h1 : dk.used (done l c (steps c)) ≤ cap := by simpa [full] using h 1
    by_cases hk : steps c ≤ k
    · rw [Nat.min_eq_left hk]
      refine again_room _ r _ (done_sorted hs c _) fun j => ?_
      have := h (j + 1)
      rwa [List.take_succ_cons] at this
    · rw [Nat.min_eq_right (by omega), Nat.sub_self, again_zero]
      exact used_done_le hs c k (by omega) h0 h1
theorem again_named {l : List File} (hl : ∀ f ∈ l, Named f.1) : ∀ (p : List Call) (k : Nat), (∀ c ∈ p, Good c) → ∀ f ∈ again l p k, Named f.1 := by
  intro p
  induction p generalizing l with
  | nil => intro _ _; exact hl
  | cons c r ih => intro k hp; exact ih (done_named hl (hp c List.mem_cons_self) _) _ (fun x hx => hp x (List.mem_cons_of_mem _ hx))
theorem crash_right {d : Dk} (h : Right d) (k : Int) : Right (crash d k).2 := by
  unfold crash
  split
  · exact h
  · refine ⟨h.cap, again_sorted h.so _ _, again_named h.nl _ _ h.np, fun c hc => (by cases hc), rfl, fun j => ?_⟩
    have := again_room d.lasts d.pend k.toNat h.so h.room
    simpa [full] using this
theorem crash_ok {d : Dk} {k : Nat} (h : k ≤ count d.pend) : crash d (k : Int) = (0, { d with seen := again d.lasts d.pend k, lasts := again d.lasts d.pend k, pend := [], fused := false }) := by
  unfold crash
  rw [if_neg (by omega)]
  simp
theorem fuse_right {d : Dk} (h : Right d) (n : Int) : Right (fuse d n) := ⟨h.cap, h.so, h.nl, h.np, h.seen, h.room⟩

/-! ### A script of turns -/
def all (d : Dk) (l : List Call) : Dk := l.foldl (fun d c => if 1 ≤ c.kind ∧ c.kind ≤ 3 then (turn d c).2 else d) d
theorem all_snoc (d : Dk) (l : List Call) (c : Call) : all d (l ++ [c]) = if 1 ≤ c.kind ∧ c.kind ≤ 3 then (turn (all d l) c).2 else all d l := by simp [all]
theorem all_cons (d : Dk) (c : Call) (l : List Call) : all d (c :: l) = all (if 1 ≤ c.kind ∧ c.kind ≤ 3 then (turn d c).2 else d) l := rfl
theorem all_right {d : Dk} (h : Right d) : ∀ l, Right (all d l) := by
  intro l
  induction l generalizing d with
  | nil => exact h
  | cons c r ih =>
    rw [all_cons]
    split
    · exact ih (turn_right h c)
    · exact ih h
theorem turn_kept (d : Dk) (c : Call) : (turn d c).2.lasts = d.lasts ∧ (turn d c).2.fused = d.fused ∧ (turn d c).2.cap = d.cap ∧ ∃ p, (turn d c).2.pend = d.pend ++ p ∧ (p = [] ∨ p = [c]) := by
  rcases turn_cases d c with e | ⟨_, _, _, e⟩
  · rw [e]; exact ⟨rfl, rfl, rfl, [], by simp, .inl rfl⟩
  · rw [e]
    obtain ⟨e1, e2, e3, e4, e5⟩ := spend_parts { d with seen := done d.seen c (steps c), pend := d.pend ++ [c] }
    exact ⟨e3, e5, e1, [c], by rw [e4], .inr rfl⟩
theorem all_kept (d : Dk) : ∀ l, (all d l).lasts = d.lasts ∧ (all d l).fused = d.fused ∧ (all d l).cap = d.cap ∧ ∃ p, (all d l).pend = d.pend ++ p ∧ ∀ c ∈ p, c ∈ l := by
  intro l
  induction l generalizing d with
  | nil => exact ⟨rfl, rfl, rfl, [], by simp [all], fun c hc => by cases hc⟩
  | cons c r ih =>
    rw [all_cons]
    split
    · obtain ⟨h1, h2, h3, p, h4, h5⟩ := turn_kept d c
      obtain ⟨g1, g2, g3, q, g4, g5⟩ := ih (turn d c).2
      refine ⟨g1.trans h1, g2.trans h2, g3.trans h3, p ++ q, by rw [g4, h4, List.append_assoc], fun x hx => ?_⟩
      rcases List.mem_append.1 hx with hx | hx
      · rcases h5 with e | e
        · rw [e] at hx; cases hx
        · rw [e] at hx; rw [List.mem_singleton.1 hx]; exact List.mem_cons_self
      · exact List.mem_cons_of_mem _ (g5 x hx)
    · obtain ⟨g1, g2, g3, q, g4, g5⟩ := ih d
      exact ⟨g1, g2, g3, q, g4, fun x hx => List.mem_cons_of_mem _ (g5 x hx)⟩
theorem off_not {d : Dk} (h : d.fused = false) : off d = false := by unfold off; rw [h]; rfl

/-! ### The laws -/
/-- What was synced, and not turned since, is there behind every crash. -/
theorem synced {d : Dk} (h : Right d) (hp : d.pend = []) (l : List Call) (k : Nat) {n : Bs} (hn : ∀ c ∈ l, c.name ≠ n) : get (again (all d l).lasts (all d l).pend k) n = get d.seen n := by
  obtain ⟨h1, _, _, p, h2, h3⟩ := all_kept d l
  have hr := all_right h l
  rw [again_get hr.so _ _ (fun c hc => by
    rw [h2, hp, List.nil_append] at hc
    exact hn c (h3 c hc)), h1]
  have := h.seen
  rw [hp] at this
  rw [this]
  rfl

/-- What the law's loop tells: 'some' files, if it ends there; t goes on. -/
def upto (t : Dk) (k : Nat) : List Call → List File
  | [] => t.seen
  | c :: r =>
    if 1 ≤ c.kind ∧ c.kind ≤ 3 then
      if (turn t c).1 ≠ 0 then upto t k r
      else if k < count (turn t c).2.pend then (if c.kind = 1 ∧ count t.pend < k then (turn t { c with s := c.s.take (k - count t.pend) }).2.seen else t.seen)
      else upto (turn t c).2 k r
    else upto t k r
theorem begins : ∀ (l : List Call) (t : Dk), Right t → t.fused = false → ∀ k, count t.pend ≤ k → again (all t l).lasts (all t l).pend k = upto t k l
  | [], t, h, hf, k, hk => by
    show again t.lasts t.pend k = t.seen
    rw [again_full _ _ _ hk, h.seen]
  | c :: r, t, h, hf, k, hk => by
    rw [all_cons, upto]
    by_cases hc : 1 ≤ c.kind ∧ c.kind ≤ 3
    · rw [if_pos hc, if_pos hc]
      by_cases he : (turn t c).1 ≠ 0
      · rw [if_pos he, turn_refused he]
        exact begins r t h hf k hk
      · rw [if_neg he]
        have hft : (turn t c).2.fused = false := (turn_kept t c).2.1.trans hf
        by_cases hn : k < count (turn t c).2.pend
        · rw [if_pos hn]
          rcases turn_cases t c with e | ⟨e0, hg, hu, e⟩
          · rw [e] at hn; omega
          · obtain ⟨e1, e2, e3, e4, e5⟩ := spend_parts { t with seen := done t.seen c (steps c), pend := t.pend ++ [c] }
            obtain ⟨g1, _, _, q, g4, _⟩ := all_kept (turn t c).2 r
            have hl : (all (turn t c).2 r).lasts = t.lasts := by rw [g1, e, e3]
            have hp : (all (turn t c).2 r).pend = t.pend ++ c :: q := by rw [g4, e, e4]; simp
            have hcn : count (turn t c).2.pend = count t.pend + steps c := by rw [e, e4, count_append]; simp [count]
            rw [hcn] at hn
            rw [hl, hp, again_cut _ _ _ _ _ hk hn, ← h.seen]
            by_cases h1 : c.kind = 1 ∧ count t.pend < k
            · rw [if_pos h1]
              have hs : steps c = c.s.length := by unfold steps; rw [if_pos h1.1]
              have hu' : used (done t.seen c (k - count t.pend)) ≤ t.cap := used_done_le h.sorted c _ (by omega) h.used hu
              -- the shorter Add
              have hdone : done t.seen c (k - count t.pend) = after t.seen { c with s := c.s.take (k - count t.pend) } := by
                obtain ⟨m, hm⟩ : ∃ m, k - count t.pend = m := ⟨_, rfl⟩
                have hm1 : 1 ≤ m := by omega
                have hms : m < c.s.length := by rw [hs] at hn; omega
                rw [hm]
                have hk1 : ({ c with s := c.s.take m } : Call).kind = 1 := h1.1
                have hs' : steps { c with s := c.s.take m } = (c.s.take m).length := by unfold steps; rw [if_pos hk1]
                have hp1 : 1 ≤ (c.s.take m).length := by rw [List.length_take]; omega
                have e1 : done t.seen c m = put t.seen (c.name, (get t.seen c.name).getD [] ++ c.s.take m) := by unfold done; rw [if_neg (by omega), if_pos h1.1]
                have e2 : after t.seen { c with s := c.s.take m } = put t.seen (c.name, (get t.seen c.name).getD [] ++ c.s.take m) := by
                  unfold after
                  rw [if_neg (by rw [hk1]; decide), hs']
                  unfold done
                  rw [if_neg (by omega), if_pos hk1]
                  simp only [List.take_length]
                rw [e1, e2]
              have hk3 : ¬ ({ c with s := c.s.take (k - count t.pend) } : Call).kind = 3 := by show ¬ c.kind = 3; omega
              have hne : ¬ ({ c with s := c.s.take (k - count t.pend) } : Call).s = [] := by
                intro hh
                have := congrArg List.length hh
                rw [List.length_take, List.length_nil] at this
                rw [hs] at hn
                omega
              have hnm : ¬ (({ c with s := c.s.take (k - count t.pend) } : Call).name.length < 1 ∨ 80 < ({ c with s := c.s.take (k - count t.pend) } : Call).name.length) := by
                have := hg.1
                unfold Named at this
                show ¬ (c.name.length < 1 ∨ 80 < c.name.length)
                omega
              rw [hdone] at hu' ⊢
              unfold turn
              rw [if_neg hnm, if_neg (by rw [off_not hf]; decide), if_neg (fun hh => hk3 hh.1), if_neg (fun hh => hne hh.2), if_neg (by omega)]
              exact (spend_parts { t with seen := after t.seen { c with s := c.s.take (k - count t.pend) }, pend := t.pend ++ [{ c with s := c.s.take (k - count t.pend) }] }).2.1.symm
            · rw [if_neg h1]
              have : k - count t.pend = 0 := by
                by_cases hk1 : c.kind = 1
                · omega
                · have : steps c = 1 := by unfold steps; rw [if_neg hk1]
                  omega
              rw [this, done_zero]
        · rw [if_neg hn]
          exact begins r _ (turn_right h c) hft k (by omega)
    · rw [if_neg hc, if_neg hc]
      exact begins r t h hf k hk
/-- What is taken away makes room. -/
theorem makes_room {d : Dk} (h : Right d) (hf : d.fused = false) {n s : Bs} (hg : get d.seen n = some s) :
    (turn d ⟨3, n, []⟩).1 = 0 ∧ used (turn d ⟨3, n, []⟩).2.seen = used d.seen - s.length ∧ (turn (turn d ⟨3, n, []⟩).2 ⟨3, n, []⟩).1 = 6 ∧
      (turn (turn d ⟨3, n, []⟩).2 ⟨2, n, s⟩).1 = 0 ∧ used (turn (turn d ⟨3, n, []⟩).2 ⟨2, n, s⟩).2.seen = used d.seen := by
  have hn : Named n := h.named _ (get_some hg)
  have h1 : ¬ (n.length < 1 ∨ 80 < n.length) := by unfold Named at hn; omega
  have hw := used_without h.sorted n
  rw [hg] at hw
  simp only [Option.getD_some] at hw
  have ha : after d.seen ⟨3, n, []⟩ = without d.seen n := by simp [after, done, steps]
  have ht : turn d ⟨3, n, []⟩ = (0, spend { d with seen := without d.seen n, pend := d.pend ++ [⟨3, n, []⟩] }) := by
    unfold turn
    simp only
    rw [if_neg h1, if_neg (by rw [off_not hf]; decide), if_neg (by rw [hg]; simp), if_neg (by simp), ha, if_neg (by have := h.used; omega)]
  obtain ⟨e1, e2, e3, e4, e5⟩ := spend_parts { d with seen := without d.seen n, pend := d.pend ++ [⟨3, n, []⟩] }
  have hs := without_sorted h.sorted n
  have hwn := get_without_same d.seen n
  have hu := h.used
  have t1 : (turn d ⟨3, n, []⟩).1 = 0 := by rw [ht]
  have t2 : (turn d ⟨3, n, []⟩).2 = spend { d with seen := without d.seen n, pend := d.pend ++ [⟨3, n, []⟩] } := by rw [ht]
  rw [t1, t2]
  generalize spend { d with seen := without d.seen n, pend := d.pend ++ [⟨3, n, []⟩] } = d1 at *
  have hcap : d1.cap = d.cap := e1
  have hseen : d1.seen = without d.seen n := e2
  have hoff : ¬ off d1 = true := by rw [off_not (e5.trans hf)]; decide
  have hp := used_put hs (n, s)
  simp only [hwn, Option.getD_none, List.length_nil] at hp
  have haf : after d1.seen ⟨2, n, s⟩ = put (without d.seen n) (n, s) := by rw [hseen]; simp [after]
  have t3 : turn d1 ⟨2, n, s⟩ = (0, spend { d1 with seen := after d1.seen ⟨2, n, s⟩, pend := d1.pend ++ [⟨2, n, s⟩] }) := by
    unfold turn
    rw [if_neg h1, if_neg hoff, if_neg (fun hh => absurd hh.1 (show ¬ (2 = 3) by decide)), if_neg (fun hh => absurd hh.1 (show ¬ (2 = 1) by decide)), if_neg (by rw [haf, hcap]; omega)]
  have t4 : (turn d1 ⟨3, n, []⟩).1 = 6 := by
    unfold turn
    rw [if_neg h1, if_neg hoff, if_pos ⟨rfl, by rw [hseen]; exact hwn⟩]
  obtain ⟨_, f2, _⟩ := spend_parts { d1 with seen := after d1.seen ⟨2, n, s⟩, pend := d1.pend ++ [⟨2, n, s⟩] }
  refine ⟨rfl, by rw [hseen]; omega, t4, by rw [t3], ?_⟩
  rw [t3]
  show used (spend { d1 with seen := after d1.seen ⟨2, n, s⟩, pend := d1.pend ++ [⟨2, n, s⟩] }).seen = _
  rw [f2]
  show used (after d1.seen ⟨2, n, s⟩) = _
  rw [haf]
  omega
end Go.Proofs.YtpimdbnhpbjlkaaGreatDoor.dk
