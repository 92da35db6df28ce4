/-
  A map from strings to whatever values, as it lies: a list of keys and values, by rising keys. No function of the program is named; no walk.
-/
import Derived.Test.YtpimdbnhpbjlkaaGreatDoorFlagBase
import Derived.Maps.OwnSet
import Derived.Maps.OwnOps
import Derived.Maps.RangeWalk
import Derived.Sort.KeysCollected
import Derived.StringKeys
namespace Go.Proofs.YtpimdbnhpbjlkaaGreatDoor.mp
set_option linter.unusedVariables false
open Go.RowKit Go.Maps Go.ChangeMaps Go.MapKept Go.WideMaps
open fl (S S_size S_data)

abbrev Bs := List UInt8
section
variable {β : Type}
def kget (l : List (Bs × β)) (n : Bs) : Option β := (l.find? fun f => decide (f.1 = n)).map (·.2)
def kwithout (l : List (Bs × β)) (n : Bs) : List (Bs × β) := l.filter fun f => decide (f.1 ≠ n)
def kins (f : Bs × β) : List (Bs × β) → List (Bs × β)
  | [] => [f]
  | x :: r => if f.1 < x.1 then f :: x :: r else x :: kins f r
def kput (l : List (Bs × β)) (f : Bs × β) : List (Bs × β) := kins f (kwithout l f.1)
def KSorted (l : List (Bs × β)) : Prop := l.Pairwise fun a b => a.1 < b.1

theorem mem_kwithout {l : List (Bs × β)} {n : Bs} {f : Bs × β} : f ∈ kwithout l n ↔ f ∈ l ∧ f.1 ≠ n := by simp [kwithout]
theorem mem_kins {f g : Bs × β} : ∀ {l : List (Bs × β)}, g ∈ kins f l ↔ g = f ∨ g ∈ l
  | [] => by simp [kins]
  | x :: r => by
    unfold kins
    split
    · simp
    · rw [List.mem_cons, mem_kins, List.mem_cons]
      constructor
      · rintro (h | h | h)
        · exact .inr (.inl h)
        · exact .inl h
        · exact .inr (.inr h)
      · rintro (h | h | h)
        · exact .inr (.inl h)
        · exact .inl h
        · exact .inr (.inr h)
theorem mem_kput {l : List (Bs × β)} {f g : Bs × β} : g ∈ kput l f ↔ g = f ∨ (g ∈ l ∧ g.1 ≠ f.1) := by unfold kput; rw [mem_kins, mem_kwithout]
theorem klt_irr (a : Bs) : ¬ a < a := List.lt_irrefl a
theorem klt_tri {a b : Bs} (h : a ≠ b) : a < b ∨ b < a := by
  by_cases h1 : a < b
  · exact .inl h1
  · by_cases h2 : b < a
    · exact .inr h2
    · exact absurd (List.le_antisymm (List.not_lt.1 h2) (List.not_lt.1 h1)) h
theorem kwithout_sorted {l : List (Bs × β)} (h : KSorted l) (n : Bs) : KSorted (kwithout l n) := h.sublist List.filter_sublist
theorem kins_sorted {f : Bs × β} : ∀ {l : List (Bs × β)}, KSorted l → (∀ g ∈ l, g.1 ≠ f.1) → KSorted (kins f l)
  | [], _, _ => List.pairwise_singleton _ _
  | x :: r, h, hn => by
    unfold kins
    obtain ⟨hx, hr⟩ := List.pairwise_cons.1 h
    split
    · next hlt =>
      refine List.pairwise_cons.2 ⟨fun g hg => ?_, h⟩
      rcases List.mem_cons.1 hg with rfl | hg
      · exact hlt
      · exact List.lt_trans hlt (hx g hg)
    · next hlt =>
      have hxf : x.1 < f.1 := by
        rcases klt_tri (hn x List.mem_cons_self) with h1 | h1
        · exact h1
        · exact absurd h1 hlt
      refine List.pairwise_cons.2 ⟨fun g hg => ?_, kins_sorted hr (fun g hg => hn g (List.mem_cons_of_mem _ hg))⟩
      rcases mem_kins.1 hg with rfl | hg
      · exact hxf
      · exact hx g hg
theorem kput_sorted {l : List (Bs × β)} (h : KSorted l) (f : Bs × β) : KSorted (kput l f) := kins_sorted (kwithout_sorted h _) (fun g hg => (mem_kwithout.1 hg).2)
theorem kget_some {l : List (Bs × β)} {n : Bs} {s : β} (h : kget l n = some s) : (n, s) ∈ l := by
  unfold kget at h
  obtain ⟨f, h1, h2⟩ := Option.map_eq_some_iff.1 h
  have h3 := List.find?_some h1
  have h4 := List.mem_of_find?_eq_some h1
  obtain ⟨a, b⟩ := f
  simp only [decide_eq_true_eq] at h3 h2
  subst h3 h2
  exact h4
theorem kget_none {l : List (Bs × β)} {n : Bs} (h : kget l n = none) : ∀ f ∈ l, f.1 ≠ n := by
  unfold kget at h
  intro f hf
  have := List.find?_eq_none.1 (Option.map_eq_none_iff.1 h) f hf
  simpa using this
theorem kget_of_mem {l : List (Bs × β)} (h : KSorted l) {n : Bs} {s : β} (hm : (n, s) ∈ l) : kget l n = some s := by
  induction l with
  | nil => cases hm
  | cons x r ih =>
    obtain ⟨hx, hr⟩ := List.pairwise_cons.1 h
    unfold kget
    rw [List.find?_cons]
    rcases List.mem_cons.1 hm with e | hm
    · subst e
      simp
    · have : x.1 ≠ n := fun e => klt_irr n (by have := hx _ hm; rwa [e] at this)
      simp only [this, decide_false]
      exact ih hr hm
theorem kget_eq_none {l : List (Bs × β)} {n : Bs} (h : ∀ f ∈ l, f.1 ≠ n) : kget l n = none := by
  unfold kget
  rw [Option.map_eq_none_iff, List.find?_eq_none]
  intro f hf
  simpa using h f hf
theorem kwithout_length (l : List (Bs × β)) (n : Bs) : (kwithout l n).length ≤ l.length := List.length_filter_le _ _
theorem kins_length (f : Bs × β) : ∀ l : List (Bs × β), (kins f l).length = l.length + 1
  | [] => rfl
  | x :: r => by
    unfold kins
    split
    · rfl
    · simp [kins_length f r]
theorem kput_length (l : List (Bs × β)) (f : Bs × β) : (kput l f).length ≤ l.length + 1 := by
  unfold kput
  rw [kins_length]
  have := kwithout_length l f.1
  omega
variable {γ : Type}
/-- What stands at the keys, seen otherwise. -/
abbrev kmap (g : β → γ) (l : List (Bs × β)) : List (Bs × γ) := l.map fun f => (f.1, g f.2)
theorem kmap_without (g : β → γ) (l : List (Bs × β)) (n : Bs) : kmap g (kwithout l n) = kwithout (kmap g l) n := by
  unfold kmap kwithout
  rw [List.filter_map]
  rfl
theorem kmap_ins (g : β → γ) (f : Bs × β) : ∀ l : List (Bs × β), kmap g (kins f l) = kins (f.1, g f.2) (kmap g l)
  | [] => rfl
  | x :: r => by
    have ih := kmap_ins g f r
    unfold kins
    by_cases h : f.1 < x.1
    · rw [if_pos h]
      show _ = if f.1 < x.1 then _ else _
      rw [if_pos h]
      rfl
    · rw [if_neg h]
      show _ = if f.1 < x.1 then _ else _
      rw [if_neg h]
      show (x.1, g x.2) :: kmap g (kins f r) = _
      rw [ih]
theorem kmap_put (g : β → γ) (f : Bs × β) (l : List (Bs × β)) : kmap g (kput l f) = kput (kmap g l) (f.1, g f.2) := by unfold kput; rw [kmap_ins, kmap_without]
theorem kmap_get (g : β → γ) (l : List (Bs × β)) (n : Bs) : kget (kmap g l) n = (kget l n).map g := by
  unfold kget kmap
  rw [List.find?_map, Option.map_map, Option.map_map]
  rfl
theorem kmap_sorted (g : β → γ) {l : List (Bs × β)} : KSorted (kmap g l) ↔ KSorted l := by unfold KSorted kmap; rw [List.pairwise_map]
theorem kmap_length (g : β → γ) (l : List (Bs × β)) : (kmap g l).length = l.length := by simp
end

/-! ### As the datum that the library's laws speak of -/
def R (v : Value) : Option (DataW Value × List MemPlace) := some (.held v, [])
def enc (l : List (Bs × Value)) : DataW Value := .map (l.map fun p => (.string p.1, .held p.2))
theorem before_lt : ∀ a b : Bs, bytesBefore a b = decide (a < b)
  | [], [] => by simp [bytesBefore]
  | [], b :: s => by simp [bytesBefore]
  | a :: r, [] => by simp [bytesBefore]
  | a :: r, b :: s => by
    rw [bytesBefore, before_lt r s, Bool.eq_iff_iff, decide_eq_true_eq, List.cons_lt_cons_iff]
    simp
theorem enc_insert (f : Bs × Value) : ∀ l : List (Bs × Value), DataW.insert (.string f.1, .held f.2) (l.map fun p => ((.string p.1 : Lit), (.held p.2 : DataW Value))) = (kins f l).map fun p => (.string p.1, .held p.2)
  | [] => rfl
  | x :: r => by
    have ih := enc_insert f r
    rw [List.map_cons, DataW.insert, kins]
    have e : Lit.before (.string f.1) (.string x.1) = decide (f.1 < x.1) := before_lt _ _
    simp only [e, decide_eq_true_eq]
    split
    · rfl
    · rw [List.map_cons, ih]
theorem enc_filter (n : Bs) (l : List (Bs × Value)) : (l.map fun p => ((.string p.1 : Lit), (.held p.2 : DataW Value))).filter (fun p => !p.1.sameKey (.string n)) = (kwithout l n).map fun p => (.string p.1, .held p.2) := by
  rw [List.filter_map]
  unfold kwithout
  congr 1
  refine List.filter_congr fun x _ => ?_
  by_cases h : x.1 = n <;> simp [Lit.sameKey, Function.comp, h]
theorem enc_put (l : List (Bs × Value)) (n : Bs) (v : Value) : (enc l).put (.string n) (.held v) = enc (kput l (n, v)) := by
  unfold enc DataW.put kput
  simp only
  rw [enc_filter, enc_insert (n, v)]
theorem enc_del (l : List (Bs × Value)) (n : Bs) : (enc l).del (.string n) = enc (kwithout l n) := by
  unfold enc DataW.del
  simp only
  rw [enc_filter]
theorem enc_at (l : List (Bs × Value)) (n : Bs) (z : DataW Value) : (enc l).atKey (.string n) z = match kget l n with | some v => .held v | none => z := by
  unfold enc DataW.atKey kget
  simp only
  rw [List.find?_map]
  have e : ((fun p : Lit × DataW Value => p.1.sameKey (.string n)) ∘ fun p : Bs × Value => ((.string p.1 : Lit), (.held p.2 : DataW Value))) = fun f : Bs × Value => decide (f.1 = n) := by
    funext f
    by_cases h : f.1 = n <;> simp [Lit.sameKey, Function.comp, h]
  rw [e]
  cases l.find? (fun f => decide (f.1 = n)) <;> rfl
theorem enc_has (l : List (Bs × Value)) (n : Bs) : has (enc l) (.string n) = (kget l n).isSome := by
  unfold enc kget
  rw [has_eq, List.any_map, Option.isSome_map, Bool.eq_iff_iff, List.any_eq_true, List.find?_isSome]
  constructor
  · rintro ⟨x, h1, h2⟩
    exact ⟨x, h1, by simpa [Lit.sameKey, Function.comp] using h2⟩
  · rintro ⟨x, h1, h2⟩
    exact ⟨x, h1, by simpa [Lit.sameKey, Function.comp] using h2⟩
theorem enc_size (l : List (Bs × Value)) : size (enc l) = l.length := by unfold enc; rw [size_eq, List.length_map]
theorem enc_strKeys (l : List (Bs × Value)) : strKeys (enc l) = l.map (·.1) := by
  show (l.map fun p => ((.string p.1 : Lit), (.held p.2 : DataW Value))).map (fun p => strOf p.1) = _
  rw [List.map_map]; rfl

/-! ### In memory -/
theorem klaw : Keyed Tryz.prog 9 := string_keyed Tryz.underlying9
theorem kstr (n : Bs) (h : n.length ≤ maxLen) : keyOf Tryz.prog 9 (.string (S n)) = some (.string n) := by
  have := keyOf_string_mk (P := Tryz.prog) Tryz.underlying9 (s := S n) h
  rwa [S_data] at this
/-- Block b is a map that holds l. -/
def Mp (w : World) (b : Nat) (l : List (Bs × Value)) : Prop := w.ownsMap Tryz.prog 9 R b l.length (enc l) ∧ KSorted l
theorem Mp.lt {w : World} {b : Nat} {l : List (Bs × Value)} (h : Mp w b l) : b < w.heap.size := h.1.lt
theorem Mp.block {w : World} {b : Nat} {l : List (Bs × Value)} (h : Mp w b l) : ∃ es c, w.heap[b]? = some (.map es c) := by obtain ⟨es, c, hb, _⟩ := h.1; exact ⟨es, c, hb⟩
theorem Mp.of {w w' : World} {b : Nat} {l : List (Bs × Value)} (h : Mp w b l) (hb : w'.heap[b]? = w.heap[b]?) : Mp w' b l := by
  obtain ⟨⟨es, c, h1, h2⟩, hs⟩ := h
  exact ⟨⟨es, c, hb.trans h1, h2⟩, hs⟩
theorem Mp.made (w : World) : Mp (w.alloc (.map #[] 0)) w.heap.size [] := ⟨World.ownsMap_made w _ _ _, List.Pairwise.nil⟩
theorem Mp.look {w : World} {b : Nat} {l : List (Bs × Value)} (h : Mp w b l) {T E : TypeId} (hT : Tryz.prog.underlying T = some (.map 9 E)) {z : Value} (hz : (zeroValue E).run Tryz.prog w = .ok z w) (n : Bs) (hn : n.length ≤ maxLen) :
    (Instr.lookup T (.map (some b)) (.string (S n)) false).run Tryz.prog w = .ok ((kget l n).getD z) w := by
  obtain ⟨v, ps, h1, h2⟩ := h.1.lookup klaw hT hz (zd := .held z) (zp := []) rfl (kstr n hn)
  rw [h1, enc_at] at *
  have e : v = (kget l n).getD z := by
    unfold R at h2
    cases hk : kget l n with
    | none => rw [hk] at h2; simp at h2; exact h2.1
    | some u => rw [hk] at h2; simp at h2; exact h2.1
  rw [e]
theorem Mp.lookok {w : World} {b : Nat} {l : List (Bs × Value)} (h : Mp w b l) {T E : TypeId} (hT : Tryz.prog.underlying T = some (.map 9 E)) {z : Value} (hz : (zeroValue E).run Tryz.prog w = .ok z w) (n : Bs) (hn : n.length ≤ maxLen) :
    (Instr.lookup T (.map (some b)) (.string (S n)) true).run Tryz.prog w = .ok (.tuple #[(kget l n).getD z, .bool (kget l n).isSome]) w := by
  obtain ⟨v, ps, h1, h2⟩ := h.1.look_ok klaw hT hz (zd := .held z) (zp := []) rfl (kstr n hn)
  rw [enc_has] at h1
  rw [enc_at] at h2
  rw [h1]
  have e : v = (kget l n).getD z := by
    unfold R at h2
    cases hk : kget l n with
    | none => rw [hk] at h2; simp at h2; exact h2.1
    | some u => rw [hk] at h2; simp at h2; exact h2.1
  rw [e]
/-- Only that map has turned. -/
structure Turned (b : Nat) (w w' : World) : Prop where
  os : w'.os = w.os
  tape : w'.tape = w.tape
  output : w'.output = w.output
  size : w'.heap.size = w.heap.size
  block : ∀ k, k ≠ b → w'.heap[k]? = w.heap[k]?
theorem Turned.of {b : Nat} {w w' : World} (h : w.mapTurned w' b) : Turned b w w' := by
  obtain ⟨es, c, es', c', hb, rfl⟩ := h
  exact ⟨rfl, rfl, rfl, by simp [setBlock], fun k hk => heap_setBlock_other hb _ hk⟩
theorem enc_tidy {w : World} {b : Nat} {l : List (Bs × Value)} {n : Nat} (h : w.ownsMap Tryz.prog 9 R b n (enc l)) : w.ownsMap Tryz.prog 9 R b l.length (enc l) := by
  obtain ⟨es, c, hb, F, hs, hD⟩ := h
  refine ⟨es, c, hb, F, ?_, hD⟩
  have := enc_size l
  rw [hD, size_eq, length_read] at this
  omega
theorem Mp.store {w : World} {b : Nat} {l : List (Bs × Value)} (h : Mp w b l) {T E : TypeId} (hT : Tryz.prog.underlying T = some (.map 9 E)) (n : Bs) (hn : n.length ≤ maxLen) (hl : l.length < maxLen) (v : Value) :
    ∃ w', (Instr.mapUpdate T (.map (some b)) (.string (S n)) v).run Tryz.prog w = .ok () w' ∧ Mp w' b (kput l (n, v)) ∧ Turned b w w' := by
  obtain ⟨w', h1, h2, h3⟩ := h.1.store klaw hT hl (kstr n hn) (val := v) (d := .held v) (ps := []) rfl
  rw [enc_put] at h2
  exact ⟨w', h1, ⟨enc_tidy h2, kput_sorted h.2 _⟩, Turned.of h3⟩
theorem Mp.drop {w : World} {b : Nat} {l : List (Bs × Value)} (h : Mp w b l) {T E : TypeId} (hT : Tryz.prog.underlying T = some (.map 9 E)) (n : Bs) (hn : n.length ≤ maxLen) (ty : TypeId) :
    ∃ w', (Builtin.delete_ #[T, 9] ty #[.map (some b), .string (S n)]).run Tryz.prog w = .ok (.tuple #[]) w' ∧ Mp w' b (kwithout l n) ∧ Turned b w w' := by
  obtain ⟨w', h1, h2, h3⟩ := h.1.drop klaw hT (kstr n hn) ty
  rw [enc_del] at h2
  exact ⟨w', h1, ⟨enc_tidy h2, kwithout_sorted h.2 _⟩, Turned.of h3⟩
theorem Mp.len {w : World} {b : Nat} {l : List (Bs × Value)} (h : Mp w b l) {T E : TypeId} (hT : Tryz.prog.underlying T = some (.map 9 E)) (ty : TypeId) :
    (Builtin.len_ #[T] ty #[.map (some b)]).run Tryz.prog w = .ok (.int .i64 (l.length : Nat)) w := by
  rw [h.1.len hT ty, enc_size]

/-! ### Gone over -/
/-- What is under way: r is the iterator; rest: what is still to come, in the map's own order. -/
def Ranging (w : World) (b r : Nat) (l rest : List (Bs × Value)) : Prop :=
  KSorted l ∧ rest.Sublist l ∧ ∃ left cnt, w.ranges Tryz.prog 9 R b r l.length (enc l) left cnt ∧ ∀ n, left (.string n) = (kget rest n).isSome
theorem Ranging.mp {w : World} {b r : Nat} {l rest : List (Bs × Value)} (h : Ranging w b r l rest) : Mp w b l := by obtain ⟨h1, _, left, cnt, h3, _⟩ := h; exact ⟨h3.owns, h1⟩
theorem Ranging.lt {w : World} {b r : Nat} {l rest : List (Bs × Value)} (h : Ranging w b r l rest) : r < w.heap.size := by obtain ⟨_, _, left, cnt, h3, _⟩ := h; exact h3.lt
theorem Ranging.ne {w : World} {b r : Nat} {l rest : List (Bs × Value)} (h : Ranging w b r l rest) : r ≠ b := by obtain ⟨_, _, left, cnt, h3, _⟩ := h; exact h3.ne
theorem Ranging.iter {w : World} {b r : Nat} {l rest : List (Bs × Value)} (h : Ranging w b r l rest) : ∃ a c d e, w.heap[r]? = some (.mapIter a c d e) := by
  obtain ⟨_, _, left, cnt, ⟨es, c, si, se, c0, a1, a2, a3, a4, a5, a6⟩, _⟩ := h
  exact ⟨_, _, _, _, a5⟩
theorem Ranging.of {w w' : World} {b r : Nat} {l rest : List (Bs × Value)} (h : Ranging w b r l rest) (hb : w'.heap[b]? = w.heap[b]?) (hr : w'.heap[r]? = w.heap[r]?) : Ranging w' b r l rest := by
  obtain ⟨h1, h2, left, cnt, ⟨es, c, si, se, c0, a1, a2, a3, a4, a5, a6⟩, h4⟩ := h
  exact ⟨h1, h2, left, cnt, ⟨es, c, si, se, c0, hb.trans a1, a2, a3, a4, hr.trans a5, a6⟩, h4⟩
theorem left_of {w w' : World} {b r : Nat} (hb : w'.heap[b]? = w.heap[b]?) (hr : w'.heap[r]? = w.heap[r]?) : w'.rangeLeft b r = w.rangeLeft b r := by unfold World.rangeLeft; rw [hb, hr]
theorem Mp.range {w : World} {b : Nat} {l : List (Bs × Value)} (h : Mp w b l) {T E : TypeId} (hT : Tryz.prog.underlying T = some (.map 9 E)) :
    ∃ w', (Instr.range T (.map (some b))).run Tryz.prog w = .ok (.pointer (some ⟨w.heap.size, 0, none⟩)) w' ∧ Ranging w' b w.heap.size l l ∧ Below w.heap.size w w' ∧ w'.heap.size = w.heap.size + 1 := by
  obtain ⟨w', h1, h2, h3, h4⟩ := h.1.range klaw hT
  exact ⟨w', h1, ⟨h.2, List.Sublist.refl _, _, _, h2, fun n => enc_has l n⟩, ⟨h3.os, h3.tape, h3.output, h3.size, fun k hk => h3.block k hk (by simp)⟩, h4⟩
theorem kget_without (l : List (Bs × Value)) (n m : Bs) : kget (kwithout l n) m = if m = n then none else kget l m := by
  split
  · next h => subst h; exact kget_eq_none fun f hf => (mem_kwithout.1 hf).2
  · next h =>
    unfold kget kwithout
    rw [List.find?_filter]
    congr 2
    funext f
    by_cases h2 : f.1 = m
    · subst h2; simp [h]
    · simp [h2]
/-- The step: nothing is left, or one that is left comes, whichever. -/
theorem Ranging.next {w : World} {b r : Nat} {l rest : List (Bs × Value)} (h : Ranging w b r l rest) (ty : TypeId) :
    (rest = [] ∧ (Instr.next (.pointer (some ⟨r, 0, none⟩)) false ty).run Tryz.prog w = .ok (.tuple #[.bool false]) w) ∨
    ∃ n v w', (n, v) ∈ rest ∧ n.length ≤ maxLen ∧ (Instr.next (.pointer (some ⟨r, 0, none⟩)) false ty).run Tryz.prog w = .ok (.tuple #[.bool true, .string (S n), v]) w' ∧ Ranging w' b r l (kwithout rest n) ∧ Turned r w w' ∧
      w'.rangeLeft b r < w.rangeLeft b r ∧ (Instr.entry (.pointer (some ⟨r, 0, none⟩))).run Tryz.prog w' = .ok (.tuple #[.string (S n), v]) w' := by
  obtain ⟨h1, h2, left, cnt, h3, h4⟩ := h
  rcases h3.next klaw ty with ⟨_, e2, e3⟩ | ⟨key, v, kl, y, w', cnt', a1, a2, a3, a4, a5, a6, a7, a8, a9, a10⟩
  · refine .inl ⟨?_, e3⟩
    cases rest with
    | nil => rfl
    | cons x t =>
      exfalso
      have h5 := h4 x.1
      rw [e2] at h5
      have : kget (x :: t) x.1 = some x.2 := by unfold kget; rw [List.find?_cons]; simp
      rw [this] at h5
      cases h5
  · obtain ⟨n, rfl, rfl, hn⟩ := Maps.keyOf_str Tryz.underlying9 a1
    obtain rfl : y = (.held v, []) := by unfold R at a3; exact (Option.some.inj a3).symm
    have hs : KSorted rest := List.Pairwise.sublist h2 h1
    have hr : (kget rest n).isSome = true := by rw [← h4]; exact a2
    obtain ⟨u, hu⟩ := Option.isSome_iff_exists.1 hr
    have hm := kget_some hu
    have hml : (n, u) ∈ l := h2.subset hm
    have hv : u = v := by
      have := a4 .nil
      rw [enc_at, kget_of_mem h1 hml] at this
      simpa using this
    subst hv
    have hlt : w'.rangeLeft b r < w.rangeLeft b r := by rw [a6.left_eq, h3.left_eq]; exact a7
    refine .inr ⟨n, u, w', hm, hn, a5, ⟨h1, List.Sublist.trans List.filter_sublist h2, _, cnt', a6, fun m => ?_⟩, ⟨a8.os, a8.tape, a8.output, a9, fun k hk => ?_⟩, hlt, a10⟩
    · show (left (.string m) && !(Lit.string m).sameKey (.string n)) = _
      rw [kget_without, h4]
      by_cases e : m = n
      · subst e; simp [Lit.sameKey]
      · simp [e, Lit.sameKey]
    · by_cases hlt : k < w.heap.size
      · exact a8.block k hlt (fun e => hk (Option.some.inj e))
      · rw [Array.getElem?_eq_none (by omega), Array.getElem?_eq_none (by omega)]
end Go.Proofs.YtpimdbnhpbjlkaaGreatDoor.mp
