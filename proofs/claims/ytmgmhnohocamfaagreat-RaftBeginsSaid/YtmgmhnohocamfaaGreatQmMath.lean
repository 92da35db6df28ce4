/-
  Who is enough, as plain mathematics: members, majorities, what they have; a heap's two moves. No walk, no function of the program is named.
-/
import Derived.Lib.Hide
namespace Go.Proofs.YtmgmhnohocamfaaGreat.qm
set_option linter.unusedVariables false

/-- Members: from one to five, rising. -/
def rises : Int → List Int → Bool
  | _, [] => true
  | a, x :: l => decide (a < x) && decide (x ≤ 5) && rises x l
def right (l : List Int) : Bool := rises 0 l && !l.isEmpty
/-- How many of l stand in who. -/
def cnt (l who : List Int) : Nat := (l.filter fun x => who.contains x).length
def most (l who : List Int) : Bool := right l && decide (l.length < 2 * cnt l who)

theorem rises_mono : ∀ {l : List Int} {a b : Int}, b ≤ a → rises a l = true → rises b l = true
  | [], _, _, _, _ => rfl
  | x :: l, a, b, h, k => by
    simp only [rises, Bool.and_eq_true, decide_eq_true_eq] at k ⊢
    exact ⟨⟨by omega, k.1.2⟩, k.2⟩
theorem rises_mem : ∀ {l : List Int} {a : Int}, rises a l = true → ∀ x ∈ l, a < x ∧ x ≤ 5
  | [], _, _, _, h => by cases h
  | y :: l, a, k, x, h => by
    simp only [rises, Bool.and_eq_true, decide_eq_true_eq] at k
    rcases List.mem_cons.1 h with rfl | h
    · exact ⟨k.1.1, k.1.2⟩
    · have := rises_mem k.2 x h
      exact ⟨by omega, this.2⟩
theorem rises_nodup : ∀ {l : List Int} {a : Int}, rises a l = true → l.Nodup
  | [], _, _ => List.nodup_nil
  | y :: l, a, k => by
    simp only [rises, Bool.and_eq_true, decide_eq_true_eq] at k
    refine List.nodup_cons.2 ⟨fun h => ?_, rises_nodup k.2⟩
    have := rises_mem k.2 y h
    omega
theorem rises_len : ∀ {l : List Int} {a : Int}, a ≤ 5 → rises a l = true → (l.length : Int) ≤ 5 - a
  | [], a, ha, _ => by simp; omega
  | y :: l, a, ha, k => by
    simp only [rises, Bool.and_eq_true, decide_eq_true_eq] at k
    have := rises_len k.1.2 k.2
    simp only [List.length_cons]
    omega
theorem rises_append : ∀ {l m : List Int} {a : Int}, rises a (l ++ m) = true ↔ rises a l = true ∧ rises (l.getLastD a) m = true
  | [], m, a => by simp [rises]
  | x :: l, m, a => by
    simp only [List.cons_append, rises, Bool.and_eq_true, decide_eq_true_eq]
    rw [rises_append]
    simp only [List.getLastD_cons]
    constructor
    · rintro ⟨h1, h2, h3⟩; exact ⟨⟨h1, h2⟩, h3⟩
    · rintro ⟨⟨h1, h2⟩, h3⟩; exact ⟨h1, h2, h3⟩
theorem right_nodup {l : List Int} (h : right l = true) : l.Nodup := by
  simp only [right, Bool.and_eq_true] at h
  exact rises_nodup h.1
theorem right_len {l : List Int} (h : right l = true) : 0 < l.length ∧ l.length ≤ 5 := by
  simp only [right, Bool.and_eq_true, Bool.not_eq_true', List.isEmpty_eq_false_iff] at h
  have := rises_len (by decide) h.1
  exact ⟨List.length_pos_iff.2 h.2, by omega⟩
theorem right_mem {l : List Int} (h : right l = true) {x : Int} (hx : x ∈ l) : 1 ≤ x ∧ x ≤ 5 := by
  simp only [right, Bool.and_eq_true] at h
  have := rises_mem h.1 x hx
  exact ⟨by omega, this.2⟩

/-- More in who, no fewer of l. -/
theorem cnt_mono {l a b : List Int} (h : ∀ x ∈ l, x ∈ a → x ∈ b) : cnt l a ≤ cnt l b := by
  unfold cnt
  induction l with
  | nil => simp
  | cons y l ih =>
    have ih := ih fun x hx => h x (List.mem_cons_of_mem _ hx)
    have hy := h y List.mem_cons_self
    by_cases h1 : y ∈ a
    · have h2 := hy h1
      simp [h1, h2]; simpa using ih
    · by_cases h2 : y ∈ b
      · simp [h1, h2]; have := ih; simp at this; omega
      · simp [h1, h2]; simpa using ih
theorem most_mono {l a b : List Int} (h : ∀ x ∈ l, x ∈ a → x ∈ b) (k : most l a = true) : most l b = true := by
  simp only [most, Bool.and_eq_true, decide_eq_true_eq] at k ⊢
  have := cnt_mono h
  exact ⟨k.1, by omega⟩
theorem most_congr {l a b : List Int} (h : ∀ x ∈ l, x ∈ a ↔ x ∈ b) : most l a = most l b := by
  rw [Bool.eq_iff_iff]
  exact ⟨most_mono fun x hx => (h x hx).1, most_mono fun x hx => (h x hx).2⟩
theorem most_none {l a : List Int} (h : ∀ x ∈ l, x ∉ a) : most l a = false := by
  have : cnt l a = 0 := by
    unfold cnt
    rw [List.length_eq_zero_iff, List.filter_eq_nil_iff]
    intro x hx; simp [h x hx]
  simp [most, this]

/-- An index that a node has. -/
structure Ix where
  node : Int
  idx : Int
deriving DecidableEq
/-- The nodes that have index x. -/
def has (have_ : List Ix) (x : Int) : List Int := (have_.filter fun h => decide (x ≤ h.idx)).map (·.node)
theorem mem_has {hv : List Ix} {x n : Int} : n ∈ has hv x ↔ ∃ h ∈ hv, x ≤ h.idx ∧ h.node = n := by
  simp [has, List.mem_map, List.mem_filter, and_assoc]
/-- b is the greatest index that a majority has. -/
structure Best (l : List Int) (hv : List Ix) (b : Int) : Prop where
  low : 0 ≤ b
  is : b = 0 ∨ (∃ h ∈ hv, h.idx = b) ∧ most l (has hv b) = true
  top : ∀ h ∈ hv, most l (has hv h.idx) = true → h.idx ≤ b
theorem Best.one {l : List Int} {hv : List Ix} {a b : Int} (h : Best l hv a) (k : Best l hv b) : a = b := by
  have h1 : a ≤ b := by
    rcases h.is with h0 | ⟨⟨x, hx, e⟩, hm⟩
    · have := k.low; omega
    · have := k.top x hx (by rw [e]; exact hm); omega
  have h2 : b ≤ a := by
    rcases k.is with h0 | ⟨⟨x, hx, e⟩, hm⟩
    · have := h.low; omega
    · have := h.top x hx (by rw [e]; exact hm); omega
  omega
/-- The reference's way. -/
def bestOf (l : List Int) (hv : List Ix) : List Ix → Int → Int
  | [], b => b
  | h :: rest, b => bestOf l hv rest (if b < h.idx ∧ most l (has hv h.idx) = true then h.idx else b)
theorem bestOf_spec {l : List Int} {hv : List Ix} : ∀ (rest : List Ix) (b : Int), 0 ≤ b → (b = 0 ∨ (∃ h ∈ hv, h.idx = b) ∧ most l (has hv b) = true) → (∀ h ∈ rest, h ∈ hv) → (∀ h ∈ hv, h ∉ rest → most l (has hv h.idx) = true → h.idx ≤ b) → Best l hv (bestOf l hv rest b)
  | [], b, h0, h1, h2, h3 => ⟨h0, h1, fun h hh hm => h3 h hh (by simp) hm⟩
  | x :: rest, b, h0, h1, h2, h3 => by
    unfold bestOf
    by_cases c : b < x.idx ∧ most l (has hv x.idx) = true
    · rw [if_pos c]
      refine bestOf_spec rest _ (by omega) (.inr ⟨⟨x, h2 x List.mem_cons_self, rfl⟩, c.2⟩) (fun h hh => h2 h (List.mem_cons_of_mem _ hh)) fun h hh hn hm => ?_
      by_cases e : h = x
      · subst e; exact Int.le_refl _
      · have := h3 h hh (by simp [e, hn]) hm; omega
    · rw [if_neg c]
      refine bestOf_spec rest _ h0 h1 (fun h hh => h2 h (List.mem_cons_of_mem _ hh)) fun h hh hn hm => ?_
      by_cases e : h = x
      · subst e
        rcases Int.lt_or_le b h.idx with k | k
        · exact absurd ⟨k, hm⟩ c
        · exact k
      · exact h3 h hh (by simp [e, hn]) hm
theorem bestOf_best (l : List Int) (hv : List Ix) : Best l hv (bestOf l hv hv 0) := bestOf_spec hv 0 (Int.le_refl _) (.inl rfl) (fun h hh => hh) fun h hh hn => absurd hh hn
def commit (l : List Int) (hv : List Ix) : Int := bestOf l hv hv 0
theorem commit_eq {l : List Int} {hv : List Ix} {b : Int} (h : Best l hv b) : b = commit l hv := h.one (bestOf_best l hv)
theorem best_wrong {l : List Int} (h : right l = false) (hv : List Ix) : Best l hv 0 :=
  ⟨Int.le_refl _, .inl rfl, fun x _ hm => by simp [most, h] at hm⟩
theorem commit_wrong {l : List Int} (h : right l = false) (hv : List Ix) : commit l hv = 0 := (commit_eq (best_wrong h hv)).symm

/-- The program's way: those that were taken, all of them greater than what is left. -/
structure Took (l : List Int) (hv P R : List Ix) (who : List Int) : Prop where
  all : ∀ h : Ix, h ∈ hv → h.node ∈ l → h ∈ P ∨ h ∈ R
  of : ∀ h : Ix, h ∈ P ∨ h ∈ R → h ∈ hv
  low : ∀ p ∈ P, ∀ r ∈ R, r.idx ≤ p.idx
  took : ∀ x : Int, x ∈ who ↔ ∃ p ∈ P, p.node = x
  no : most l who = false
theorem Took.start {l : List Int} {hv R : List Ix} (h : ∀ x : Ix, x ∈ R ↔ x ∈ hv ∧ x.node ∈ l) : Took l hv [] R [] :=
  ⟨fun x hx hn => .inr ((h x).2 ⟨hx, hn⟩), fun x hx => by
    rcases hx with hx | hx
    · cases hx
    · exact ((h x).1 hx).1, fun p hp => by (cases hp), by simp, most_none (by simp)⟩
theorem Took.again {l : List Int} {hv P R R' : List Ix} {who : List Int} {x : Ix} (h : Took l hv P R who) (hR : R.Perm (x :: R')) (top : ∀ r ∈ R, r.idx ≤ x.idx) (hx : x.node ∈ who) : Took l hv (x :: P) R' who := by
  have hm : ∀ y, y ∈ R ↔ y = x ∨ y ∈ R' := fun y => by rw [hR.mem_iff]; simp
  refine ⟨fun y hy hn => ?_, fun y hy => ?_, fun p hp r hr => ?_, fun n => ?_, h.no⟩
  · rcases h.all y hy hn with k | k
    · exact .inl (List.mem_cons_of_mem _ k)
    · rcases (hm y).1 k with rfl | k
      · exact .inl List.mem_cons_self
      · exact .inr k
  · rcases hy with hy | hy
    · rcases List.mem_cons.1 hy with rfl | hy
      · exact h.of _ (.inr ((hm _).2 (.inl rfl)))
      · exact h.of _ (.inl hy)
    · exact h.of _ (.inr ((hm _).2 (.inr hy)))
  · have hrR := (hm r).2 (.inr hr)
    rcases List.mem_cons.1 hp with rfl | hp
    · exact top r hrR
    · exact h.low p hp r hrR
  · rw [h.took]
    constructor
    · rintro ⟨p, hp, e⟩; exact ⟨p, List.mem_cons_of_mem _ hp, e⟩
    · rintro ⟨p, hp, e⟩
      rcases List.mem_cons.1 hp with rfl | hp
      · rw [h.took] at hx; obtain ⟨q, hq, e2⟩ := hx; exact ⟨q, hq, e2.trans e⟩
      · exact ⟨p, hp, e⟩
theorem Took.more {l : List Int} {hv P R R' : List Ix} {who : List Int} {x : Ix} (h : Took l hv P R who) (hR : R.Perm (x :: R')) (top : ∀ r ∈ R, r.idx ≤ x.idx) (hn : most l (who ++ [x.node]) = false) : Took l hv (x :: P) R' (who ++ [x.node]) := by
  have hm : ∀ y, y ∈ R ↔ y = x ∨ y ∈ R' := fun y => by rw [hR.mem_iff]; simp
  refine ⟨fun y hy hn => ?_, fun y hy => ?_, fun p hp r hr => ?_, fun n => ?_, hn⟩
  · rcases h.all y hy hn with k | k
    · exact .inl (List.mem_cons_of_mem _ k)
    · rcases (hm y).1 k with rfl | k
      · exact .inl List.mem_cons_self
      · exact .inr k
  · rcases hy with hy | hy
    · rcases List.mem_cons.1 hy with rfl | hy
      · exact h.of _ (.inr ((hm _).2 (.inl rfl)))
      · exact h.of _ (.inl hy)
    · exact h.of _ (.inr ((hm _).2 (.inr hy)))
  · have hrR := (hm r).2 (.inr hr)
    rcases List.mem_cons.1 hp with rfl | hp
    · exact top r hrR
    · exact h.low p hp r hrR
  · rw [List.mem_append, h.took]
    constructor
    · rintro (⟨p, hp, e⟩ | e)
      · exact ⟨p, List.mem_cons_of_mem _ hp, e⟩
      · exact ⟨x, List.mem_cons_self, (by simp at e; exact e.symm)⟩
    · rintro ⟨p, hp, e⟩
      rcases List.mem_cons.1 hp with rfl | hp
      · exact .inr (by simp [e])
      · exact .inl ⟨p, hp, e⟩
theorem Took.found {l : List Int} {hv P R R' : List Ix} {who : List Int} {x : Ix} (h : Took l hv P R who) (hR : R.Perm (x :: R')) (top : ∀ r ∈ R, r.idx ≤ x.idx) (h0 : 0 ≤ x.idx) (hm : most l (who ++ [x.node]) = true) : Best l hv x.idx := by
  have hxR : x ∈ R := hR.mem_iff.2 List.mem_cons_self
  refine ⟨h0, .inr ⟨⟨x, h.of _ (.inr hxR), rfl⟩, most_mono (fun n _ hn => ?_) hm⟩, fun y hy hyM => ?_⟩
  · rw [mem_has]
    rcases List.mem_append.1 hn with hn | hn
    · obtain ⟨p, hp, e⟩ := (h.took n).1 hn
      exact ⟨p, h.of _ (.inl hp), h.low p hp x hxR, e⟩
    · exact ⟨x, h.of _ (.inr hxR), Int.le_refl _, (by simp at hn; exact hn.symm)⟩
  · rcases Int.lt_or_le x.idx y.idx with k | k
    · refine absurd (most_mono (b := who) (fun n hn hh => ?_) hyM) (by rw [h.no]; simp)
      obtain ⟨z, hz, hz1, hz2⟩ := mem_has.1 hh
      rcases h.all z hz (by rw [hz2]; exact hn) with k2 | k2
      · exact (h.took n).2 ⟨z, k2, hz2⟩
      · have := top z k2; omega
    · exact k
theorem Took.none {l : List Int} {hv P : List Ix} {who : List Int} (h : Took l hv P [] who) : Best l hv 0 := by
  refine ⟨Int.le_refl _, .inl rfl, fun y hy hyM => ?_⟩
  refine absurd (most_mono (b := who) (fun n hn hh => ?_) hyM) (by rw [h.no]; simp)
  obtain ⟨z, hz, hz1, hz2⟩ := mem_has.1 hh
  rcases h.all z hz (by rw [hz2]; exact hn) with k2 | k2
  · exact (h.took n).2 ⟨z, k2, hz2⟩
  · cases k2

/-- P15.6. -/
theorem Best.above {l : List Int} {hv : List Ix} {b : Int} (h : Best l hv b) : most l (has hv (b + 1)) = false := by
  rcases hc : most l (has hv (b + 1)) with _ | _
  · rfl
  · exfalso
    -- the least index above b
    have key : ∀ (m : List Ix), (∀ x ∈ m, x ∈ hv) → (∃ x ∈ m, b + 1 ≤ x.idx) → ∃ x ∈ m, b + 1 ≤ x.idx ∧ ∀ y ∈ m, b + 1 ≤ y.idx → x.idx ≤ y.idx := by
      intro m
      induction m with
      | nil => rintro _ ⟨x, hx, _⟩; cases hx
      | cons z m ih =>
        intro hsub hex
        by_cases hm : ∃ x ∈ m, b + 1 ≤ x.idx
        · obtain ⟨x, hx, hb, hle⟩ := ih (fun x hx => hsub x (List.mem_cons_of_mem _ hx)) hm
          by_cases hz : b + 1 ≤ z.idx ∧ z.idx < x.idx
          · refine ⟨z, List.mem_cons_self, hz.1, fun y hy hyb => ?_⟩
            rcases List.mem_cons.1 hy with rfl | hy
            · exact Int.le_refl _
            · have := hle y hy hyb; omega
          · refine ⟨x, List.mem_cons_of_mem _ hx, hb, fun y hy hyb => ?_⟩
            rcases List.mem_cons.1 hy with rfl | hy
            · omega
            · exact hle y hy hyb
        · obtain ⟨x, hx, hb⟩ := hex
          rcases List.mem_cons.1 hx with rfl | hx
          · refine ⟨x, List.mem_cons_self, hb, fun y hy hyb => ?_⟩
            rcases List.mem_cons.1 hy with rfl | hy
            · exact Int.le_refl _
            · exact absurd ⟨y, hy, hyb⟩ hm
          · exact absurd ⟨x, hx, hb⟩ hm
    have hex : ∃ x ∈ hv, b + 1 ≤ x.idx := by
      by_cases he : ∃ x ∈ hv, b + 1 ≤ x.idx
      · exact he
      · refine absurd hc ?_
        rw [most_none]; · simp
        intro n _ hn
        obtain ⟨x, hx, h1, _⟩ := mem_has.1 hn
        exact he ⟨x, hx, h1⟩
    obtain ⟨x, hx, hb, hle⟩ := key hv (fun _ h => h) hex
    have := h.top x hx (most_mono (fun n _ hn => by
      obtain ⟨y, hy, h1, h2⟩ := mem_has.1 hn
      exact mem_has.2 ⟨y, hy, hle y hy h1, h2⟩) hc)
    omega
theorem Best.more {l : List Int} {hv : List Ix} {a b : Int} {m : Ix} (h : Best l hv a) (k : Best l (hv ++ [m]) b) : a ≤ b := by
  rcases h.is with h0 | ⟨⟨x, hx, e⟩, hm⟩
  · have := k.low; omega
  · have := k.top x (List.mem_append_left _ hx) (most_mono (fun n _ hn => by
      obtain ⟨y, hy, h1, h2⟩ := mem_has.1 hn
      exact mem_has.2 ⟨y, List.mem_append_left _ hy, by omega, h2⟩) hm)
    omega
end Go.Proofs.YtmgmhnohocamfaaGreat.qm
