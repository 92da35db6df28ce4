/-
  Flags, sets of flags, lists of flags: plain mathematics. No walk.
-/
import Derived.Test.YtiaggnpkmigbhaaDoorFlagAtomR
namespace Go.Proofs.YtiaggnpkmigbhaaDoor.fl

/-- A byte in its small form. -/
def low1 (c : UInt8) : UInt8 := if 65 ≤ c.toNat ∧ c.toNat ≤ 90 then UInt8.ofNat (c.toNat + 32) else c
def lower (l : List UInt8) : List UInt8 := l.map low1
theorem lower_length (l : List UInt8) : (lower l).length = l.length := by simp [lower]
theorem low_up (c : UInt8) : low1 (up1 c) = low1 c := by
  have hc := UInt8.toNat_lt c
  unfold low1 up1
  by_cases h : 97 ≤ c.toNat ∧ c.toNat ≤ 122
  · have h1 : (UInt8.ofNat (c.toNat - 32)).toNat = c.toNat - 32 := by rw [UInt8.toNat_ofNat']; omega
    rw [if_pos h, h1, if_pos (by omega), if_neg (by omega)]
    apply UInt8.toNat_inj.1
    rw [UInt8.toNat_ofNat']; omega
  · rw [if_neg h]
theorem up_low (c : UInt8) : up1 (low1 c) = up1 c := by
  have hc := UInt8.toNat_lt c
  unfold low1 up1
  by_cases h : 65 ≤ c.toNat ∧ c.toNat ≤ 90
  · have h1 : (UInt8.ofNat (c.toNat + 32)).toNat = c.toNat + 32 := by rw [UInt8.toNat_ofNat']; omega
    rw [if_pos h, h1, if_pos (by omega), if_neg (by omega)]
    apply UInt8.toNat_inj.1
    rw [UInt8.toNat_ofNat']; omega
  · rw [if_neg h]
theorem low_low (c : UInt8) : low1 (low1 c) = low1 c := by
  have h := low_up (low1 c)
  rw [up_low, low_up] at h; exact h.symm
theorem up_up (c : UInt8) : up1 (up1 c) = up1 c := by
  have h := up_low (up1 c)
  rw [low_up, up_low] at h; exact h.symm
theorem lower_upper (l : List UInt8) : lower (upper l) = lower l := by simp [lower, upper, low_up]
theorem upper_lower (l : List UInt8) : upper (lower l) = upper l := by simp [lower, upper, up_low]
theorem lower_lower (l : List UInt8) : lower (lower l) = lower l := by simp [lower, low_low]
theorem upper_upper (l : List UInt8) : upper (upper l) = upper l := by simp [upper, up_up]
theorem upper_iff (a b : List UInt8) : upper a = upper b ↔ lower a = lower b :=
  ⟨fun h => by rw [← lower_upper a, h, lower_upper], fun h => by rw [← upper_lower a, h, upper_lower]⟩
theorem lower_take (l : List UInt8) (k : Nat) (h : k < l.length) : lower (l.take (k + 1)) = lower (l.take k) ++ [low1 l[k]] := by
  unfold lower
  rw [List.take_succ_eq_append_getElem h, List.map_append]
  rfl

theorem atomByte_iff (c : UInt8) : atomByte c = true ↔ 33 ≤ c.toNat ∧ c.toNat ≤ 126 ∧ c.toNat ≠ 40 ∧ c.toNat ≠ 41 ∧ c.toNat ≠ 123 ∧ c.toNat ≠ 37 ∧ c.toNat ≠ 42 ∧ c.toNat ≠ 34 ∧ c.toNat ≠ 92 ∧ c.toNat ≠ 93 := by
  have e : ∀ d : UInt8, (c = d) = (c.toNat = d.toNat) := fun d => propext ⟨fun h => by rw [h], fun h => UInt8.toNat_inj.1 h⟩
  unfold atomByte atomSpecials
  simp only [List.mem_cons, List.not_mem_nil, or_false, e]
  simp only [Bool.and_eq_true, decide_eq_true_eq, Bool.not_eq_true', decide_eq_false_iff_not]
  simp
  omega
theorem atomByte_up (c : UInt8) : atomByte (up1 c) = atomByte c := by
  rw [Bool.eq_iff_iff, atomByte_iff, atomByte_iff]
  unfold up1
  have hc := UInt8.toNat_lt c
  by_cases h : 97 ≤ c.toNat ∧ c.toNat ≤ 122
  · have h1 : (UInt8.ofNat (c.toNat - 32)).toNat = c.toNat - 32 := by rw [UInt8.toNat_ofNat']; omega
    rw [if_pos h, h1]; omega
  · rw [if_neg h]
theorem atom_upper (l : List UInt8) : atom (upper l) = atom l := by
  unfold atom upper
  rw [List.all_map, List.length_map]
  congr 2
  funext c
  exact atomByte_up c
theorem atom_lower (l : List UInt8) : atom (lower l) = atom l := by rw [← atom_upper (lower l), upper_lower, atom_upper]

def fAns : List UInt8 := [92, 65, 110, 115, 119, 101, 114, 101, 100]
def fFla : List UInt8 := [92, 70, 108, 97, 103, 103, 101, 100]
def fDel : List UInt8 := [92, 68, 101, 108, 101, 116, 101, 100]
def fSee : List UInt8 := [92, 83, 101, 101, 110]
def fDra : List UInt8 := [92, 68, 114, 97, 102, 116]
/-- The flags of the system. -/
def sysL : List (List UInt8) := [fAns, fFla, fDel, fSee, fDra]
def sysOf (s : List UInt8) : Option (List UInt8) := sysL.find? fun f => decide (upper f = upper s)
/-- A flag as it is kept. -/
def canon (s : List UInt8) : Option (List UInt8) := match sysOf s with
  | some f => some f
  | none => if atom s = true ∧ s.length ≤ 32 then some (lower s) else none
theorem canon_upper (s : List UInt8) : canon (upper s) = canon s := by
  unfold canon sysOf
  rw [upper_upper, atom_upper, upper_length, lower_upper]
theorem canon_sys : ∀ f ∈ sysL, canon f = some f := by decide
theorem canon_again {s f : List UInt8} (h : canon s = some f) : canon f = some f := by
  cases hs : sysOf s with
  | some g =>
    unfold canon at h
    rw [hs] at h
    cases h
    exact canon_sys _ (List.mem_of_find?_eq_some hs)
  | none =>
    have h2 := h
    unfold canon at h2
    rw [hs] at h2
    dsimp only at h2
    split at h2
    · cases h2
      have : canon (lower s) = canon (upper (lower s)) := (canon_upper _).symm
      rw [this, upper_lower, canon_upper, h]
    · cases h2
theorem sys_small : ∀ f ∈ sysL, f.length ≤ 32 ∧ f ≠ [] ∧ (32 : UInt8) ∉ f ∧ (41 : UInt8) ∉ f := by decide
theorem canon_form {s f : List UInt8} (h : canon s = some f) : f.length ≤ 32 ∧ f ≠ [] ∧ (32 : UInt8) ∉ f ∧ (41 : UInt8) ∉ f := by
  cases hs : sysOf s with
  | some g =>
    unfold canon at h
    rw [hs] at h
    cases h
    exact sys_small _ (List.mem_of_find?_eq_some hs)
  | none =>
    unfold canon at h
    rw [hs] at h
    dsimp only at h
    split at h
    · rename_i hc
      cases h
      have ha : atom (lower s) = true := by rw [atom_lower]; exact hc.1
      unfold atom at ha
      simp only [Bool.and_eq_true, List.all_eq_true, decide_eq_true_eq] at ha
      refine ⟨by rw [lower_length]; exact hc.2, fun e => ?_, fun e => ?_, fun e => ?_⟩
      · rw [e] at ha; simp at ha
      · exact absurd (ha.1 _ e) (by decide)
      · exact absurd (ha.1 _ e) (by decide)
    · cases h

/-! ### The order -/
def place (f : List UInt8) : Nat := sysL.idxOf f
theorem place_le (f : List UInt8) : place f ≤ 5 := List.idxOf_le_length
def less (a b : List UInt8) : Bool := if place a ≠ place b then decide (place a < place b) else decide (a < b)
theorem less_iff (a b : List UInt8) : less a b = true ↔ place a < place b ∨ (place a = place b ∧ a < b) := by
  unfold less
  by_cases h : place a = place b
  · simp [h]
  · simp [h]
theorem lt_irr (a : List UInt8) : ¬ a < a := List.lt_irrefl a
theorem lt_tr {a b c : List UInt8} (h : a < b) (k : b < c) : a < c := List.lt_trans h k
theorem lt_tri {a b : List UInt8} (h : a ≠ b) : a < b ∨ b < a := by
  by_cases h1 : a < b
  · exact .inl h1
  · by_cases h2 : b < a
    · exact .inr h2
    · exact absurd (List.le_antisymm (List.not_lt.1 h2) (List.not_lt.1 h1)) h
theorem less_irr (a : List UInt8) : less a a = false := by
  cases h : less a a with
  | false => rfl
  | true =>
    rcases (less_iff a a).1 h with h | ⟨_, h⟩
    · omega
    · exact absurd h (lt_irr a)
theorem less_tr {a b c : List UInt8} (h : less a b = true) (k : less b c = true) : less a c = true := by
  rw [less_iff] at *
  rcases h with h | ⟨h1, h2⟩ <;> rcases k with k | ⟨k1, k2⟩
  · exact .inl (by omega)
  · exact .inl (by omega)
  · exact .inl (by omega)
  · exact .inr ⟨by omega, lt_tr h2 k2⟩
theorem less_tri {a b : List UInt8} (h : a ≠ b) : less a b = true ∨ less b a = true := by
  rw [less_iff, less_iff]
  rcases Nat.lt_trichotomy (place a) (place b) with h1 | h1 | h1
  · exact .inl (.inl h1)
  · rcases lt_tri h with h2 | h2
    · exact .inl (.inr ⟨h1, h2⟩)
    · exact .inr (.inr ⟨h1.symm, h2⟩)
  · exact .inr (.inl h1)
theorem less_as {a b : List UInt8} (h : less a b = true) : less b a = false := by
  cases k : less b a with
  | false => rfl
  | true => have := less_tr h k; rw [less_irr] at this; cases this
theorem less_ne {a b : List UInt8} (h : less a b = true) : a ≠ b := fun e => by rw [e, less_irr] at h; cases h
theorem less_not {a b : List UInt8} (h : a ≠ b) (k : less a b = false) : less b a = true := by
  rcases less_tri h with h | h
  · rw [h] at k; cases k
  · exact h

/-! ### Sets -/
def Sorted (l : List (List UInt8)) : Prop := l.Pairwise fun a b => less a b = true
/-- How many stand ahead of a flag. -/
def cut (f : List UInt8) (l : List (List UInt8)) : Nat := l.countP fun x => less x f
theorem cut_le (f : List UInt8) (l : List (List UInt8)) : cut f l ≤ l.length := List.countP_le_length
theorem cut_ahead {f : List UInt8} : ∀ {l : List (List UInt8)}, Sorted l → ∀ j (h : j < l.length), less l[j] f = decide (j < cut f l)
  | [], _, j, h => by simp at h
  | x :: r, hs, j, h => by
    unfold Sorted at hs
    rw [List.pairwise_cons] at hs
    have ih := @cut_ahead f r hs.2
    unfold cut at ih ⊢
    cases hx : less x f with
    | true =>
      rw [List.countP_cons_of_pos (by exact hx)]
      cases j with
      | zero => simpa using hx
      | succ j =>
        rw [List.getElem_cons_succ, ih j (by simpa using h)]
        simp
    | false =>
      have hz : r.countP (fun x => less x f) = 0 := by
        rw [List.countP_eq_zero]
        intro y hy e
        have := less_tr (hs.1 y hy) e
        rw [hx] at this; cases this
      rw [List.countP_cons_of_neg (by rw [hx]; decide), hz]
      cases j with
      | zero => simpa using hx
      | succ j =>
        rw [List.getElem_cons_succ, ih j (by simpa using h), hz]
        simp
theorem cut_behind {f : List UInt8} {l : List (List UInt8)} (hs : Sorted l) (hf : f ∉ l) (j : Nat) (h : j < l.length) : less f l[j] = decide (cut f l ≤ j) := by
  have h1 := cut_ahead (f := f) hs j h
  have hne : l[j] ≠ f := fun e => hf (e ▸ List.getElem_mem h)
  by_cases hc : cut f l ≤ j
  · rw [decide_eq_false (by omega)] at h1
    rw [decide_eq_true hc]
    exact less_not hne h1
  · rw [decide_eq_true (by omega)] at h1
    rw [decide_eq_false hc]
    exact less_as h1
/-- Does a flag stand there: the one at its place. -/
theorem cut_there {f : List UInt8} {l : List (List UInt8)} (hs : Sorted l) : f ∈ l ↔ ∃ h : cut f l < l.length, l[cut f l] = f := by
  constructor
  · intro hf
    obtain ⟨j, hj, e⟩ := List.getElem_of_mem hf
    have h1 := cut_ahead (f := f) hs j hj
    rw [e, less_irr] at h1
    have h2 : cut f l ≤ j := by simpa using h1.symm
    have hlt : cut f l < l.length := by omega
    refine ⟨hlt, ?_⟩
    by_cases h3 : cut f l = j
    · subst h3; exact e
    · have h4 := (List.pairwise_iff_getElem.1 hs) (cut f l) j hlt hj (by omega)
      rw [e] at h4
      have h5 := cut_ahead (f := f) hs (cut f l) hlt
      rw [h4] at h5
      simp at h5
  · rintro ⟨h, e⟩
    rw [← e]; exact List.getElem_mem h
/-- A set with one flag more. -/
def ins (f : List UInt8) (l : List (List UInt8)) : List (List UInt8) := if f ∈ l then l else l.take (cut f l) ++ f :: l.drop (cut f l)
theorem ins_in {f : List UInt8} {l : List (List UInt8)} (h : f ∈ l) : ins f l = l := by unfold ins; rw [if_pos h]
theorem ins_new {f : List UInt8} {l : List (List UInt8)} (h : f ∉ l) : ins f l = l.take (cut f l) ++ f :: l.drop (cut f l) := by unfold ins; rw [if_neg h]
theorem ins_mem {f x : List UInt8} {l : List (List UInt8)} : x ∈ ins f l ↔ x = f ∨ x ∈ l := by
  by_cases h : f ∈ l
  · rw [ins_in h]
    exact ⟨.inr, fun h2 => h2.elim (fun e => e ▸ h) id⟩
  · rw [ins_new h]
    conv => rhs; rw [← List.take_append_drop (cut f l) l]
    simp only [List.mem_append, List.mem_cons]
    constructor
    · rintro (h | h | h) <;> simp [h]
    · rintro (h | h | h) <;> simp [h]
theorem ins_length {f : List UInt8} {l : List (List UInt8)} (h : f ∉ l) : (ins f l).length = l.length + 1 := by
  have := cut_le f l
  rw [ins_new h, List.length_append, List.length_cons, List.length_take, List.length_drop]; omega
theorem ins_le (f : List UInt8) (l : List (List UInt8)) : l.length ≤ (ins f l).length ∧ (ins f l).length ≤ l.length + 1 := by
  by_cases h : f ∈ l
  · rw [ins_in h]; omega
  · rw [ins_length h]; omega
theorem ins_sorted {f : List UInt8} {l : List (List UInt8)} (hs : Sorted l) : Sorted (ins f l) := by
  by_cases h : f ∈ l
  · rw [ins_in h]; exact hs
  · rw [ins_new h]
    unfold Sorted
    rw [List.pairwise_append, List.pairwise_cons]
    refine ⟨hs.sublist (List.take_sublist _ _), ⟨?_, hs.sublist (List.drop_sublist _ _)⟩, ?_⟩
    · intro x hx
      obtain ⟨j, hj, e⟩ := List.getElem_of_mem hx
      rw [List.getElem_drop] at e
      rw [List.length_drop] at hj
      rw [← e, cut_behind hs h _ (by omega)]
      simp
    · intro a ha b hb
      obtain ⟨j, hj, e⟩ := List.getElem_of_mem ha
      rw [List.length_take] at hj
      rw [List.getElem_take] at e
      have haf : less a f = true := by
        rw [← e, cut_ahead hs _ (by omega)]
        simp; omega
      rcases List.mem_cons.1 hb with rfl | hb
      · exact haf
      · obtain ⟨i, hi, e2⟩ := List.getElem_of_mem hb
        rw [List.getElem_drop] at e2
        rw [List.length_drop] at hi
        refine less_tr haf ?_
        rw [← e2, cut_behind hs h _ (by omega)]
        simp
theorem ins_last {f : List UInt8} {l : List (List UInt8)} (hs : Sorted (l ++ [f])) : ins f l = l ++ [f] := by
  have h1 : ∀ x ∈ l, less x f = true := by
    unfold Sorted at hs
    rw [List.pairwise_append] at hs
    exact fun x hx => hs.2.2 x hx f (by simp)
  have hn : f ∉ l := fun h => by have := h1 f h; rw [less_irr] at this; cases this
  have hc : cut f l = l.length := by
    unfold cut
    rw [List.countP_eq_length]
    exact fun x hx => h1 x hx
  rw [ins_new hn, hc]
  simp
theorem ins_first {f : List UInt8} {l : List (List UInt8)} (hs : Sorted (f :: l)) : ins f l = f :: l := by
  have h1 : ∀ x ∈ l, less f x = true := by
    unfold Sorted at hs
    rw [List.pairwise_cons] at hs
    exact hs.1
  have hn : f ∉ l := fun h => by have := h1 f h; rw [less_irr] at this; cases this
  have hc : cut f l = 0 := by
    unfold cut
    rw [List.countP_eq_zero]
    intro x hx e
    have := less_as (h1 x hx)
    rw [e] at this; cases this
  rw [ins_new hn, hc]
  simp
def insAll (l fs : List (List UInt8)) : List (List UInt8) := fs.foldl (fun s f => ins f s) l
theorem insAll_cons (l : List (List UInt8)) (f : List UInt8) (fs : List (List UInt8)) : insAll l (f :: fs) = insAll (ins f l) fs := rfl
theorem insAll_snoc (l fs : List (List UInt8)) (f : List UInt8) : insAll l (fs ++ [f]) = ins f (insAll l fs) := by unfold insAll; rw [List.foldl_append]; rfl
theorem insAll_append (l a b : List (List UInt8)) : insAll l (a ++ b) = insAll (insAll l a) b := List.foldl_append
theorem insAll_sorted : ∀ {fs l : List (List UInt8)}, Sorted l → Sorted (insAll l fs)
  | [], _, h => h
  | _ :: fs, _, h => insAll_sorted (fs := fs) (ins_sorted h)
theorem insAll_mem {x : List UInt8} : ∀ {fs l : List (List UInt8)}, x ∈ insAll l fs ↔ x ∈ l ∨ x ∈ fs
  | [], l => by simp [insAll]
  | f :: fs, l => by
    rw [insAll_cons, insAll_mem (fs := fs), ins_mem, List.mem_cons]
    constructor
    · rintro ((h | h) | h) <;> simp [h]
    · rintro (h | h | h) <;> simp [h]
theorem insAll_le : ∀ (fs l : List (List UInt8)), l.length ≤ (insAll l fs).length ∧ (insAll l fs).length ≤ l.length + fs.length
  | [], l => ⟨Nat.le_refl _, by simp [insAll]⟩
  | f :: fs, l => by
    rw [insAll_cons, List.length_cons]
    have h1 := insAll_le fs (ins f l)
    have h2 := ins_le f l
    omega
theorem insAll_rise : ∀ (fs l : List (List UInt8)), Sorted (l ++ fs) → insAll l fs = l ++ fs
  | [], l, _ => by simp [insAll]
  | f :: fs, l, h => by
    have e : l ++ f :: fs = (l ++ [f]) ++ fs := by simp
    rw [e] at h ⊢
    have h1 : Sorted (l ++ [f]) := by
      unfold Sorted at h ⊢
      exact (List.pairwise_append.1 h).1
    rw [insAll_cons, ins_last h1]
    exact insAll_rise fs _ h
theorem insAll_self {l : List (List UInt8)} (h : Sorted l) : insAll [] l = l := insAll_rise l [] h
theorem insAll_fall : ∀ (fs l : List (List UInt8)), Sorted (fs.reverse ++ l) → insAll l fs = fs.reverse ++ l
  | [], l, _ => by simp [insAll]
  | f :: fs, l, h => by
    have e : (f :: fs).reverse ++ l = fs.reverse ++ (f :: l) := by simp
    rw [e] at h ⊢
    have h1 : Sorted (f :: l) := by
      unfold Sorted at h ⊢
      exact (List.pairwise_append.1 h).2.1
    rw [insAll_cons, ins_first h1]
    exact insAll_fall fs _ h
theorem insAll_turned {l : List (List UInt8)} (h : Sorted l) : insAll [] l.reverse = l := by
  have := insAll_fall l.reverse [] (by rw [List.reverse_reverse, List.append_nil]; exact h)
  rw [this, List.reverse_reverse, List.append_nil]
theorem insAll_there : ∀ (fs l : List (List UInt8)), (∀ f ∈ fs, f ∈ l) → insAll l fs = l
  | [], _, _ => rfl
  | f :: fs, l, h => by
    rw [insAll_cons, ins_in (h f (by simp))]
    exact insAll_there fs l fun x hx => h x (by simp [hx])

/-! ### The program's set: it grows no further than one too many -/
def pin (f : List UInt8) (l : List (List UInt8)) : List (List UInt8) := if f ∈ l ∨ 16 < l.length then l else ins f l
def pinAll (l fs : List (List UInt8)) : List (List UInt8) := fs.foldl (fun s f => pin f s) l
theorem pinAll_snoc (l fs : List (List UInt8)) (f : List UInt8) : pinAll l (fs ++ [f]) = pin f (pinAll l fs) := by unfold pinAll; rw [List.foldl_append]; rfl
theorem pinAll_cons (l : List (List UInt8)) (f : List UInt8) (fs : List (List UInt8)) : pinAll l (f :: fs) = pinAll (pin f l) fs := rfl
theorem pin_sorted {f : List UInt8} {l : List (List UInt8)} (h : Sorted l) : Sorted (pin f l) := by
  unfold pin; split
  · exact h
  · exact ins_sorted h
theorem pinAll_sorted : ∀ {fs l : List (List UInt8)}, Sorted l → Sorted (pinAll l fs)
  | [], _, h => h
  | _ :: fs, _, h => pinAll_sorted (fs := fs) (pin_sorted h)
theorem pin_few {f : List UInt8} {l : List (List UInt8)} (h : l.length ≤ 17) : (pin f l).length ≤ 17 := by
  unfold pin; split
  · exact h
  · rename_i hn
    have := (ins_le f l).2
    omega
theorem pinAll_few : ∀ {fs l : List (List UInt8)}, l.length ≤ 17 → (pinAll l fs).length ≤ 17
  | [], _, h => h
  | _ :: fs, _, h => pinAll_few (fs := fs) (pin_few h)
theorem pinAll_ins : ∀ (fs p r : List (List UInt8)), (p = r ∨ (16 < p.length ∧ 16 < r.length)) → (pinAll p fs = insAll r fs ∨ (16 < (pinAll p fs).length ∧ 16 < (insAll r fs).length))
  | [], _, _, h => h
  | f :: fs, p, r, h => by
    rw [pinAll_cons, insAll_cons]
    refine pinAll_ins fs _ _ ?_
    rcases h with rfl | ⟨h1, h2⟩
    · unfold pin
      by_cases hm : f ∈ p
      · rw [if_pos (.inl hm), ins_in hm]; exact .inl rfl
      · by_cases h16 : 16 < p.length
        · rw [if_pos (.inr h16)]
          exact .inr ⟨h16, Nat.lt_of_lt_of_le h16 (ins_le f p).1⟩
        · rw [if_neg (by simp [hm]; omega)]; exact .inl rfl
    · unfold pin
      rw [if_pos (.inr h1)]
      exact .inr ⟨h1, Nat.lt_of_lt_of_le h2 (ins_le f r).1⟩

/-! ### Make, Right, Change -/
def cf (x : List UInt8) : List UInt8 := (canon x).getD []
def okAll (l : List (List UInt8)) : Bool := l.all fun x => (canon x).isSome
/-- The set, or none; the error's number. -/
def full (r : List (List UInt8)) : List (List UInt8) × Nat := if 16 < r.length then ([], 7) else (r, 0)
def make (l : List (List UInt8)) : List (List UInt8) × Nat := if okAll l = true then full (insAll [] (l.map cf)) else ([], 4)
theorem make_pin {l : List (List UInt8)} (h : okAll l = true) : make l = full (pinAll [] (l.map cf)) := by
  unfold make
  rw [if_pos h]
  rcases pinAll_ins (l.map cf) [] [] (.inl rfl) with e | ⟨h1, h2⟩
  · rw [e]
  · unfold full; rw [if_pos h1, if_pos h2]
structure IsRight (l : List (List UInt8)) : Prop where
  c : ∀ x ∈ l, canon x = some x
  s : Sorted l
  n : l.length ≤ 16
theorem full_some {r m : List (List UInt8)} {e : Nat} (h : full r = (m, e)) : (e = 0 ∧ m = r ∧ r.length ≤ 16) ∨ (e = 7 ∧ m = [] ∧ 16 < r.length) := by
  unfold full at h
  split at h
  · cases h; exact .inr ⟨rfl, rfl, by assumption⟩
  · cases h; exact .inl ⟨rfl, rfl, by omega⟩
theorem make_right {l m : List (List UInt8)} (h : make l = (m, 0)) : IsRight m := by
  unfold make at h
  split at h
  · rename_i hok
    rcases full_some h with ⟨_, rfl, hn⟩ | ⟨h0, _⟩
    · refine ⟨fun x hx => ?_, insAll_sorted List.Pairwise.nil, hn⟩
      rcases insAll_mem.1 hx with h0 | hx
      · cases h0
      · obtain ⟨y, hy, rfl⟩ := List.mem_map.1 hx
        have := List.all_eq_true.1 hok y hy
        obtain ⟨f, hf⟩ := Option.isSome_iff_exists.1 this
        unfold cf
        rw [hf]
        exact canon_again hf
    · cases h0
  · cases h
theorem right_ok {l : List (List UInt8)} (h : ∀ x ∈ l, canon x = some x) : okAll l = true ∧ l.map cf = l := by
  constructor
  · unfold okAll
    rw [List.all_eq_true]
    intro x hx
    rw [h x hx]; rfl
  · conv => rhs; rw [← List.map_id l]
    apply List.map_congr_left
    intro x hx
    unfold cf
    rw [h x hx]; rfl
theorem right_make {l : List (List UInt8)} (h : IsRight l) : make l = (l, 0) := by
  obtain ⟨h1, h2⟩ := right_ok h.c
  have := h.n
  unfold make
  rw [if_pos h1, h2, insAll_self h.s]
  unfold full
  rw [if_neg (by omega)]
theorem right_iff (l : List (List UInt8)) : IsRight l ↔ make l = (l, 0) := ⟨right_make, make_right⟩
instance (l : List (List UInt8)) : Decidable (IsRight l) := decidable_of_iff _ (right_iff l).symm
def right (l : List (List UInt8)) : Bool := decide (IsRight l)
/-- What is made of two sets. -/
def body (how : Int) (l bs : List (List UInt8)) : List (List UInt8) :=
  if how = 0 then bs else if how = 1 then l ++ bs else l.filter fun x => decide (x ∉ bs)
def change (l : List (List UInt8)) (how : Int) (bs : List (List UInt8)) : List (List UInt8) × Nat :=
  if IsRight l ∧ IsRight bs ∧ 0 ≤ how ∧ how ≤ 2 then full (insAll [] (body how l bs)) else ([], 1)
theorem body_right {l bs : List (List UInt8)} (hl : IsRight l) (hb : IsRight bs) (how : Int) : ∀ x ∈ body how l bs, canon x = some x := by
  intro x hx
  unfold body at hx
  split at hx
  · exact hb.c x hx
  · split at hx
    · rcases List.mem_append.1 hx with h | h
      · exact hl.c x h
      · exact hb.c x h
    · exact hl.c x (List.mem_filter.1 hx).1
theorem change_make {l bs : List (List UInt8)} {how : Int} (hl : IsRight l) (hb : IsRight bs) (h0 : 0 ≤ how) (h2 : how ≤ 2) : change l how bs = make (body how l bs) := by
  obtain ⟨h1, h3⟩ := right_ok (body_right hl hb how)
  unfold change make
  rw [if_pos ⟨hl, hb, h0, h2⟩, if_pos h1, h3]
theorem right_nil : IsRight [] := ⟨fun x h => (by cases h), List.Pairwise.nil, by simp⟩
theorem right_filter {l : List (List UInt8)} (h : IsRight l) (p : List UInt8 → Bool) : IsRight (l.filter p) :=
  ⟨fun x hx => h.c x (List.mem_filter.1 hx).1, h.s.sublist List.filter_sublist, Nat.le_trans (List.length_filter_le _ _) h.n⟩
theorem change_take {l bs : List (List UInt8)} (hl : IsRight l) (hb : IsRight bs) : change l 2 bs = (l.filter (fun x => decide (x ∉ bs)), 0) := by
  rw [change_make hl hb (by omega) (by omega)]
  exact right_make (right_filter hl _)
theorem change_set {l bs : List (List UInt8)} (hl : IsRight l) (hb : IsRight bs) : change l 0 bs = (bs, 0) := by
  rw [change_make hl hb (by omega) (by omega)]
  exact right_make hb
theorem change_add {l bs : List (List UInt8)} (hl : IsRight l) (hb : IsRight bs) :
    (change l 1 bs = (insAll l bs, 0) ∧ IsRight (insAll l bs)) ∨ (change l 1 bs = ([], 7) ∧ 16 < l.length + bs.length) := by
  have he : change l 1 bs = full (insAll l bs) := by
    unfold change body
    rw [if_pos ⟨hl, hb, by omega, by omega⟩, if_neg (by omega), if_pos rfl, insAll_append, insAll_self hl.s]
  have hle := (insAll_le bs l).2
  by_cases h : 16 < (insAll l bs).length
  · right
    rw [he]
    unfold full
    rw [if_pos h]
    exact ⟨rfl, by omega⟩
  · left
    rw [he]
    unfold full
    rw [if_neg h]
    refine ⟨rfl, fun x hx => ?_, insAll_sorted hl.s, by omega⟩
    rcases insAll_mem.1 hx with h | h
    · exact hl.c x h
    · exact hb.c x h
/-- Turned round and in great letters: the same set. -/
theorem make_great {m : List (List UInt8)} (h : IsRight m) : make (m.reverse.map upper) = (m, 0) := by
  have h1 : ∀ x ∈ m.reverse, canon (upper x) = some x := fun x hx => by rw [canon_upper]; exact h.c x (List.mem_reverse.1 hx)
  have h2 : okAll (m.reverse.map upper) = true := by
    unfold okAll
    rw [List.all_eq_true]
    intro x hx
    obtain ⟨y, hy, rfl⟩ := List.mem_map.1 hx
    rw [h1 y hy]; rfl
  have h3 : (m.reverse.map upper).map cf = m.reverse := by
    rw [List.map_map]
    conv => rhs; rw [← List.map_id m.reverse]
    apply List.map_congr_left
    intro x hx
    show (canon (upper x)).getD [] = x
    rw [h1 x hx]; rfl
  have := h.n
  unfold make
  rw [if_pos h2, h3, insAll_turned h.s]
  unfold full
  rw [if_neg (by omega)]
end Go.Proofs.YtiaggnpkmigbhaaDoor.fl
