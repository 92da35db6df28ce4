/-
  A row of numbers that is sorted in its place: how the worlds on the way stand to each other; what cmp.Less answers.
-/
import Derived.Test.YtbaeillecojilaaDoorProg
import Derived.WalkKit
import Derived.Lib.Hide
import Derived.BigGuard
import Derived.BigCall
import Derived.BigRegion
import Derived.CellFam
import Derived.Deep.Draws
import Derived.Deep.QuietTactic
import Derived.BigQuiet
import Derived.Maps.AppendAt
import Derived.Maps.Range
import Derived.Sort.AssemblyPlain
import Derived.Sort.Row
namespace Go.Proofs.YtbaeillecojilaaDoor.sq
open Go.RowKit
open Go.Sort (swp PermIn SortedIn ltInt SWO)

/-- The row at block g holds d, and may be written. -/
def RowI (w : World) (g : Nat) (d : Array Int) : Prop := ∀ t, t < d.size → w.cell? ⟨g, t, none⟩ = some (.int .u64 d[t]!) ∧ w.frozen? ⟨g, t, none⟩ = false
/-- From w0 on nothing that was there has turned but block g, and that holds d. -/
structure St (w0 : World) (g : Nat) (d : Array Int) (w : World) : Prop where
  grown : w0.grownBy w (some g)
  row : RowI w g d
  lt : g < w.heap.size
theorem St.start {w : World} {g : Nat} {d : Array Int} (h : RowI w g d) (hg : g < w.heap.size) : St w g d w := ⟨World.grownBy.refl _ _, h, hg⟩
theorem St.drewN {w0 w : World} {g : Nat} {d : Array Int} (h : St w0 g d w) (q : Nat) : St w0 g d (w.drewN q) := ⟨⟨h.grown.os, h.grown.tape, h.grown.output, h.grown.size, h.grown.block⟩, h.row, h.lt⟩
theorem St.then {w0 w w' : World} {g : Nat} {d d' : Array Int} (h : St w0 g d w) (k : St w g d' w') : St w0 g d' w' := ⟨h.grown.trans k.grown, k.row, k.lt⟩
theorem grown_set {w0 w : World} {g : Nat} (h : w0.grownBy w (some g)) (t : Nat) (v : Value) : w0.grownBy (w.setCell ⟨g, t, none⟩ v) (some g) :=
  h.trans ⟨rfl, rfl, rfl, by simp, fun k _ hk => Below.heap_setCell w _ _ _ (fun e => hk (by simp [e]))⟩
theorem frozen_set (w : World) (a b : Addr) (v : Value) : (w.setCell a v).frozen? b = w.frozen? b := by
  by_cases h : b.block = a.block
  · simp only [World.frozen?, World.setCell, Array.getElem?_modify, h]
    cases hw : w.heap[a.block]? with
    | none => simp
    | some o => cases o <;> simp
  · simp only [World.frozen?]
    rw [Below.heap_setCell w a v b.block h]
theorem RowI.put {w : World} {g : Nat} {d : Array Int} (h : RowI w g d) {i : Nat} (hi : i < d.size) (x : Int) : RowI (w.setCell ⟨g, i, none⟩ (.int .u64 x)) g (d.setIfInBounds i x) := fun t ht => by
  rw [Array.size_setIfInBounds] at ht
  refine ⟨?_, by rw [frozen_set]; exact (h t ht).2⟩
  by_cases he : i = t
  · subst he
    rw [World.cell?_setCell_same' _ _ _ (by rw [(h i hi).1]; rfl), Go.Sort.getElem!_set_same d i x hi]
  · rw [World.cell?_setCell_other _ _ _ _ (by first | (simp; done) | (simp; omega)), (h t ht).1, Go.Sort.getElem!_set_other d i t x (fun e => he e.symm)]
theorem RowI.swap {w : World} {g : Nat} {d : Array Int} (h : RowI w g d) {i j : Nat} (hi : i < d.size) (hj : j < d.size) : RowI ((w.setCell ⟨g, i, none⟩ (.int .u64 d[j]!)).setCell ⟨g, j, none⟩ (.int .u64 d[i]!)) g (swp d i j) := by
  have h1 := h.put hi d[j]!
  exact h1.put (by rw [Array.size_setIfInBounds]; exact hj) d[i]!
theorem St.swap {w0 w : World} {g : Nat} {d : Array Int} (h : St w0 g d w) (q : Nat) {i j : Nat} (hi : i < d.size) (hj : j < d.size) : St w0 g (swp d i j) (((w.drewN q).setCell ⟨g, i, none⟩ (.int .u64 d[j]!)).setCell ⟨g, j, none⟩ (.int .u64 d[i]!)) :=
  ⟨grown_set (grown_set (h.drewN q).grown _ _) _ _, (h.drewN q).row.swap hi hj, by simpa using h.lt⟩
/-- The row's numbers under one letter, for the walk. -/
theorem St.fam {w0 w : World} {g : Nat} {d : Array Int} (h : St w0 g d w) : ∃ G : Nat → Int, (∀ t, G t = d[t]!) ∧ (∀ t, t < d.size → w.cell? ⟨g, t, none⟩ = some (.int .u64 (G t))) ∧ ∀ t, t < d.size → w.frozen? ⟨g, t, none⟩ = false :=
  ⟨fun t => d[t]!, fun _ => rfl, fun t ht => (h.row t ht).1, fun t ht => (h.row t ht).2⟩

/-- What a place holds behind a store at another one, or the same. -/
theorem St.seen {w0 w : World} {g : Nat} {d : Array Int} (h : St w0 g d w) {a q : Nat} (hq : q < d.size) {G : Nat → Int} (hG : ∀ t, G t = d[t]!) (v : Value) : (w.setCell ⟨g, a, none⟩ v).cell? ⟨g, q, none⟩ = some (if a = q then v else .int .u64 (G q)) := by
  by_cases he : a = q
  · subst he
    rw [if_pos rfl, World.cell?_setCell_same' _ _ _ (by rw [(h.row a hq).1]; rfl)]
  · rw [if_neg he, World.cell?_setCell_other _ _ _ _ (by first | (simp; done) | (simp; omega)), (h.row q hq).1, hG]

theorem isnan_any (x : Int) (w : World) : Calls Tryd.prog 88 #[.int .u64 x] w fun e w' => e = .returned (.bool false) ∧ w' = w := by
  have hx : (x != x) = false := by simp
  go_enter Tryd.func88, Tryd.ntmps88
  go_wp2
  go_ret
  exact ⟨by first | rfl | simp, rfl⟩
theorem less_any (x y : Int) (w : World) : Calls Tryd.prog 72 #[.int .u64 x, .int .u64 y] w fun e w' => e = .returned (.bool (ltInt x y)) ∧ w' = w := by
  go_enter Tryd.func72, Tryd.ntmps72
  go_wp2_with (go_at_call 88; refine (isnan_any _ _).mono ?_; rintro e w' ⟨rfl, rfl⟩)
  go_ret
  exact ⟨rfl, rfl⟩
end Go.Proofs.YtbaeillecojilaaDoor.sq
