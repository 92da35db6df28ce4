/-
  A disk, as plain mathematics: what each call makes of it, what a crash leaves; no walk.
-/
import Derived.Test.YtpimdbnhpbjlkaaGreatDoorFlagBase
namespace Go.Proofs.YtpimdbnhpbjlkaaGreatDoor.dk
set_option linter.unusedVariables false

abbrev Bs := List UInt8
abbrev File := Bs × Bs
structure Call where
  kind : Nat
  name : Bs
  s : Bs
  deriving DecidableEq

def get (l : List File) (n : Bs) : Option Bs := (l.find? fun f => decide (f.1 = n)).map (·.2)
def without (l : List File) (n : Bs) : List File := l.filter fun f => decide (f.1 ≠ n)
def ins (f : File) : List File → List File
  | [] => [f]
  | x :: r => if f.1 < x.1 then f :: x :: r else x :: ins f r
def put (l : List File) (f : File) : List File := ins f (without l f.1)
def steps (c : Call) : Nat := if c.kind = 1 then c.s.length else 1
/-- Files behind the first n steps of a call. -/
def done (l : List File) (c : Call) (n : Nat) : List File :=
  if n < 1 then l else if c.kind = 1 then put l (c.name, (get l c.name).getD [] ++ c.s.take n) else if c.kind = 2 then put l (c.name, c.s) else without l c.name
def used (l : List File) : Nat := (l.map fun f => f.2.length).sum
structure Dk where
  cap : Nat
  seen : List File
  lasts : List File
  pend : List Call
  fused : Bool
  left : Int
def off (d : Dk) : Bool := d.fused && decide (d.left < 1)
def spend (d : Dk) : Dk := if d.fused = true then { d with left := d.left - 1 } else d
def after (l : List File) (c : Call) : List File := if c.kind = 2 then put l (c.name, c.s) else done l c (steps c)
/-- What an Add, a Put, a Drop answers, and what it makes. -/
def turn (d : Dk) (c : Call) : Nat × Dk :=
  if c.name.length < 1 ∨ 80 < c.name.length then (1, d)
  else if off d = true then (8, d)
  else if c.kind = 3 ∧ get d.seen c.name = none then (6, d)
  else if c.kind = 1 ∧ c.s = [] then (0, d)
  else if d.cap < used (after d.seen c) then (7, d)
  else (0, spend { d with seen := after d.seen c, pend := d.pend ++ [c] })
def sync (d : Dk) : Nat × Dk := if off d = true then (8, d) else (0, spend { d with lasts := d.seen, pend := [] })
def read (d : Dk) (n : Bs) : Bs × Nat := if off d = true then ([], 8) else match get d.seen n with
  | none => ([], 6)
  | some s => (s, 0)
def fuse (d : Dk) (n : Int) : Dk := { d with fused := decide (0 ≤ n), left := n }
def count (l : List Call) : Nat := (l.map steps).sum
/-- The pending calls, done again as far as the first k steps go. -/
def again (l : List File) : List Call → Nat → List File
  | [], _ => l
  | c :: r, k => again (done l c (min (steps c) k)) r (k - min (steps c) k)
def crash (d : Dk) (k : Int) : Nat × Dk :=
  if k < 0 ∨ (count d.pend : Int) < k then (1, d)
  else (0, { d with seen := again d.lasts d.pend k.toNat, lasts := again d.lasts d.pend k.toNat, pend := [], fused := false })
def fresh (cap : Nat) : Dk := ⟨cap, [], [], [], false, 0⟩

/-! ### Files -/
theorem lt_irr (a : Bs) : ¬ a < a := List.lt_irrefl a
theorem lt_tr {a b c : Bs} (h : a < b) (k : b < c) : a < c := List.lt_trans h k
theorem lt_tri {a b : Bs} (h : a ≠ b) : a < b ∨ b < a := by
  by_cases h1 : a < b
  · exact .inl h1
  · by_cases h2 : b < a
    · exact .inr h2
    · exact absurd (List.le_antisymm (List.not_lt.1 h2) (List.not_lt.1 h1)) h
def Sorted (l : List File) : Prop := l.Pairwise fun a b => a.1 < b.1
theorem without_sorted {l : List File} (h : Sorted l) (n : Bs) : Sorted (without l n) := h.sublist List.filter_sublist
theorem mem_without {l : List File} {n : Bs} {f : File} : f ∈ without l n ↔ f ∈ l ∧ f.1 ≠ n := by simp [without]
theorem mem_ins {f g : File} : ∀ {l : List File}, g ∈ ins f l ↔ g = f ∨ g ∈ l
  | [] => by simp [ins]
  | x :: r => by
    unfold ins
    split
    · simp
    · rw [List.mem_cons, mem_ins, List.mem_cons]
      constructor
      · rintro (h | h | h)
        · exact .inr (.inl h)
        · exact .inl h
        · exact .inr (.inr h)
      · rintro (h | h | h)
        · exact .inr (.inl h)
        · exact .inl h
        · exact .inr (.inr h)
theorem mem_put {l : List File} {f g : File} : g ∈ put l f ↔ g = f ∨ (g ∈ l ∧ g.1 ≠ f.1) := by unfold put; rw [mem_ins, mem_without]
theorem ins_sorted {f : File} : ∀ {l : List File}, Sorted l → (∀ g ∈ l, g.1 ≠ f.1) → Sorted (ins f l)
  | [], _, _ => List.pairwise_singleton _ _
  | x :: r, h, hn => by
    unfold ins
    obtain ⟨hx, hr⟩ := List.pairwise_cons.1 h
    split
    · next hlt =>
      refine List.pairwise_cons.2 ⟨fun g hg => ?_, h⟩
      rcases List.mem_cons.1 hg with rfl | hg
      · exact hlt
      · exact lt_tr hlt (hx g hg)
    · next hlt =>
      have hxf : x.1 < f.1 := by
        rcases lt_tri (hn x List.mem_cons_self) with h1 | h1
        · exact h1
        · exact absurd h1 hlt
      refine List.pairwise_cons.2 ⟨fun g hg => ?_, ins_sorted hr (fun g hg => hn g (List.mem_cons_of_mem _ hg))⟩
      rcases mem_ins.1 hg with rfl | hg
      · exact hxf
      · exact hx g hg
theorem put_sorted {l : List File} (h : Sorted l) (f : File) : Sorted (put l f) := ins_sorted (without_sorted h _) (fun g hg => (mem_without.1 hg).2)
theorem done_sorted {l : List File} (h : Sorted l) (c : Call) (n : Nat) : Sorted (done l c n) := by
  unfold done
  split
  · exact h
  · split
    · exact put_sorted h _
    · split
      · exact put_sorted h _
      · exact without_sorted h _
theorem get_some {l : List File} {n s : Bs} (h : get l n = some s) : (n, s) ∈ l := by
  unfold get at h
  obtain ⟨f, h1, h2⟩ := Option.map_eq_some_iff.1 h
  have h3 := List.find?_some h1
  have h4 := List.mem_of_find?_eq_some h1
  obtain ⟨a, b⟩ := f
  simp only [decide_eq_true_eq] at h3 h2
  subst h3 h2
  exact h4
theorem get_none {l : List File} {n : Bs} (h : get l n = none) : ∀ f ∈ l, f.1 ≠ n := by
  unfold get at h
  intro f hf
  have := List.find?_eq_none.1 (Option.map_eq_none_iff.1 h) f hf
  simpa using this
theorem get_of_mem {l : List File} (h : Sorted l) {n s : Bs} (hm : (n, s) ∈ l) : get l n = some s := by
  induction l with
  | nil => cases hm
  | cons x r ih =>
    obtain ⟨hx, hr⟩ := List.pairwise_cons.1 h
    unfold get
    rw [List.find?_cons]
    rcases List.mem_cons.1 hm with e | hm
    · subst e
      simp
    · have : x.1 ≠ n := fun e => lt_irr n (by have := hx _ hm; rwa [e] at this)
      simp only [this, decide_false]
      exact ih hr hm
theorem get_eq_none {l : List File} {n : Bs} (h : ∀ f ∈ l, f.1 ≠ n) : get l n = none := by
  unfold get
  rw [Option.map_eq_none_iff, List.find?_eq_none]
  intro f hf
  simpa using h f hf
theorem get_put_same {l : List File} (h : Sorted l) (n s : Bs) : get (put l (n, s)) n = some s := get_of_mem (put_sorted h _) (mem_put.2 (.inl rfl))
theorem get_put_other {l : List File} (h : Sorted l) {n m : Bs} (s : Bs) (hn : m ≠ n) : get (put l (n, s)) m = get l m := by
  cases hg : get l m with
  | none =>
    refine get_eq_none fun f hf => ?_
    rcases mem_put.1 hf with rfl | ⟨hf, _⟩
    · exact fun e => hn e.symm
    · exact get_none hg f hf
  | some t => exact get_of_mem (put_sorted h _) (mem_put.2 (.inr ⟨get_some hg, hn⟩))
theorem get_without_same (l : List File) (n : Bs) : get (without l n) n = none := get_eq_none fun f hf => (mem_without.1 hf).2
theorem get_without_other {l : List File} (h : Sorted l) {n m : Bs} (hn : m ≠ n) : get (without l n) m = get l m := by
  cases hg : get l m with
  | none => exact get_eq_none fun f hf => get_none hg f (mem_without.1 hf).1
  | some t => exact get_of_mem (without_sorted h _) (mem_without.2 ⟨get_some hg, hn⟩)
theorem get_done_other {l : List File} (h : Sorted l) (c : Call) (n : Nat) {m : Bs} (hm : m ≠ c.name) : get (done l c n) m = get l m := by
  unfold done
  split
  · rfl
  · split
    · exact get_put_other h _ hm
    · split
      · exact get_put_other h _ hm
      · exact get_without_other h hm

/-! ### How many bytes -/
theorem used_ins (f : File) : ∀ l : List File, used (ins f l) = f.2.length + used l
  | [] => by simp [ins, used]
  | x :: r => by
    unfold ins
    split
    · simp [used]
    · have := used_ins f r
      simp only [used, List.map_cons, List.sum_cons] at *
      omega
theorem used_without : ∀ {l : List File} (h : Sorted l) (n : Bs), used l = used (without l n) + ((get l n).getD []).length
  | [], _, n => by simp [used, without, get]
  | x :: r, h, n => by
    obtain ⟨hx, hr⟩ := List.pairwise_cons.1 h
    have ih := used_without hr n
    by_cases e : x.1 = n
    · have hall : ∀ f ∈ r, f.1 ≠ n := fun f hf e2 => by
        have := hx f hf
        rw [e, e2] at this
        exact lt_irr _ this
      have hw : without r n = r := by
        unfold without
        rw [List.filter_eq_self]
        intro f hf
        simpa using hall f hf
      have h1 : without (x :: r) n = r := by
        have : without (x :: r) n = without r n := by unfold without; rw [List.filter_cons]; simp [e]
        rw [this, hw]
      have h2 : get (x :: r) n = some x.2 := by
        unfold get
        rw [List.find?_cons]
        simp [e]
      rw [h1, h2]
      simp only [used, List.map_cons, List.sum_cons, Option.getD_some]
      omega
    · have h1 : without (x :: r) n = x :: without r n := by unfold without; rw [List.filter_cons]; simp [e]
      have h2 : get (x :: r) n = get r n := by
        unfold get
        rw [List.find?_cons]
        simp [e]
      rw [h1, h2]
      simp only [used, List.map_cons, List.sum_cons] at *
      omega
theorem used_put {l : List File} (h : Sorted l) (f : File) : used (put l f) + ((get l f.1).getD []).length = used l + f.2.length := by
  unfold put
  rw [used_ins]
  have := used_without h f.1
  omega
theorem used_without_le {l : List File} (h : Sorted l) (n : Bs) : used (without l n) ≤ used l := by have := used_without h n; omega
theorem used_done_le {B : Nat} {l : List File} (h : Sorted l) (c : Call) (n : Nat) (hn : n ≤ steps c) (hl : used l ≤ B) (hf : used (done l c (steps c)) ≤ B) : used (done l c n) ≤ B := by
  by_cases h0 : n < 1
  · unfold done; rw [if_pos h0]; exact hl
  · by_cases h1 : c.kind = 1
    · have hs : steps c = c.s.length := by unfold steps; rw [if_pos h1]
      rw [hs] at hn hf
      have e1 : done l c n = put l (c.name, (get l c.name).getD [] ++ c.s.take n) := by unfold done; rw [if_neg h0, if_pos h1]
      have e2 : done l c c.s.length = put l (c.name, (get l c.name).getD [] ++ c.s.take c.s.length) := by unfold done; rw [if_neg (by omega), if_pos h1]
      rw [e1]
      rw [e2] at hf
      have u1 := used_put h (c.name, (get l c.name).getD [] ++ c.s.take n)
      have u2 := used_put h (c.name, (get l c.name).getD [] ++ c.s.take c.s.length)
      simp only [List.length_append, List.length_take] at u1 u2
      omega
    · have hs : steps c = 1 := by unfold steps; rw [if_neg h1]
      rw [hs] at hn hf
      obtain rfl : n = 1 := by omega
      exact hf
end Go.Proofs.YtpimdbnhpbjlkaaGreatDoor.dk
