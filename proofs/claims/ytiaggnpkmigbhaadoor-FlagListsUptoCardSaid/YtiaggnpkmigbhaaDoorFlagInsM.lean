/-
  A row of texts of one's own, one of them put in between. No walk.
-/
import Derived.Test.YtiaggnpkmigbhaaDoorFlagFind
import Derived.Shelf.Spec.SlicesInsertGrow
import Derived.Deep.AppendSrc
import Derived.Maps.AppendAt
namespace Go.Proofs.YtiaggnpkmigbhaaDoor.fl
open Go.RowKit

theorem ownsRow_below {w w' : World} {b : Nat} {e : TypeId} {size : Nat} {v : Value} {n : Nat} {xs : List Value} (h : w.ownsRow b e size v n xs) (hb : Below w.heap.size w w') : w'.ownsRow b e size v n xs := by
  obtain ⟨h1, h2 | ⟨g, cap, cur, h3, h4, h5, h6⟩⟩ := h
  · exact ⟨h1, .inl h2⟩
  · exact ⟨h1, .inr ⟨g, cap, cur, h3, h4, (hb.block g (Array.getElem?_eq_some_iff.1 h5).1).trans h5, h6⟩⟩
theorem heap_set {w : World} {g k : Nat} {cur : Array Value} {e : TypeId} {fr : Nat × Nat} (v : Value) (h : w.heap[g]? = some (.cells cur e fr)) : (w.setCell ⟨g, k, none⟩ v).heap[g]? = some (.cells (cur.setIfInBounds k v) e fr) := by
  simp [World.setCell, Array.getElem?_modify, h]
/-- The block behind some stores into it: the same make, the same length. -/
theorem heap_sets {g : Nat} {e : TypeId} {fr : Nat × Nat} : ∀ (vs : List Value) (o : Nat) (w : World) (cur : Array Value), w.heap[g]? = some (.cells cur e fr) → ∃ cur', (w.setCells g o vs).heap[g]? = some (.cells cur' e fr) ∧ cur'.size = cur.size
  | [], _, _, cur, h => ⟨cur, h, rfl⟩
  | v :: r, o, w, cur, h => by
    obtain ⟨cur', h1, h2⟩ := heap_sets r (o + 1) (w.setCell ⟨g, o, none⟩ v) _ (heap_set (k := o) v h)
    exact ⟨cur', h1, by rw [h2]; simp⟩
theorem below_sets {B g : Nat} (hg : B ≤ g) {a : World} : ∀ (vs : List Value) (o : Nat) (w : World), Below B a w → Below B a (w.setCells g o vs)
  | [], _, _, h => h
  | v :: r, o, _, h => below_sets hg r (o + 1) _ (h.setCell (p := ⟨g, o, none⟩) hg v)
theorem grown_set (g k : Nat) (v : Value) (w : World) : w.grownBy (w.setCell ⟨g, k, none⟩ v) (some g) :=
  ⟨rfl, rfl, rfl, by simp, fun j _ hj => Below.heap_setCell w ⟨g, k, none⟩ v j (fun e => hj (by rw [e]))⟩
theorem grown_sets (g : Nat) : ∀ (vs : List Value) (o : Nat) (a w : World), a.grownBy w (some g) → a.grownBy (w.setCells g o vs) (some g)
  | [], _, _, _, h => h
  | v :: r, o, a, w, h => grown_sets g r (o + 1) a _ (h.trans (grown_set g o v w))
theorem grown_drew (w : World) (row : Option Nat) : w.grownBy w.drew row := ⟨rfl, rfl, rfl, Nat.le_refl _, fun _ _ _ => rfl⟩
theorem grown_new {w w' : World} (h : Below w.heap.size w w') (row : Option Nat) : w.grownBy w' row := ⟨h.os, h.tape, h.output, h.size, fun k hk _ => h.block k hk⟩
/-- Cells make a row of one's own. -/
theorem own_cells {w : World} {B g cap : Nat} {cur : Array Value} {l : List (List UInt8)} (hB : B ≤ g) (hh : w.heap[g]? = some (.cells cur 9 (0, 0))) (hs : cur.size = cap) (hc : cap ≤ maxLen) (hn : l.length ≤ cap)
    (hcell : ∀ j (h : j < l.length), w.cell? ⟨g, j, none⟩ = some (.string (S l[j]))) : w.ownsRow B 9 1 (.slice (some ⟨g, 0, none⟩) l.length cap) l.length (cellsS l) := by
  refine ⟨by simp [cellsS], .inr ⟨g, cap, cur, rfl, hB, hh, hn, hc, by omega, ?_⟩⟩
  apply List.ext_getElem
  · simp [cellsS]; omega
  · intro j h1 h2
    have hj : j < l.length := by simpa [cellsS] using h2
    have h3 := hcell j hj
    rw [cell_of_row w g j cur _ _ hh] at h3
    rw [List.getElem_take]
    have h4 : cur[j]? = some (cur[j]'(by omega)) := Array.getElem?_eq_getElem (by omega)
    rw [h4] at h3
    have h5 := Option.some.inj h3
    simp only [Array.getElem_toList, cellsS, List.getElem_map]
    exact h5
theorem cellsS_length (l : List (List UInt8)) : (cellsS l).length = l.length := by simp [cellsS]
theorem cellsS_one (l : List (List UInt8)) : ∀ v ∈ cellsS l, v.oneCell' = true := by
  intro v hv
  obtain ⟨x, _, rfl⟩ := List.mem_map.1 hv
  rfl
theorem cellsS_append (a b : List (List UInt8)) : cellsS (a ++ b) = cellsS a ++ cellsS b := by simp [cellsS]
theorem cellsS_at {l : List (List UInt8)} {j : Nat} (h : j < l.length) : (cellsS l)[j]? = some (.string (S l[j])) := by simp [cellsS, h]
/-- A list with one more put in. -/
def put (f : List UInt8) (l : List (List UInt8)) (i : Nat) : List (List UInt8) := l.take i ++ f :: l.drop i
theorem put_length {f : List UInt8} {l : List (List UInt8)} {i : Nat} (h : i ≤ l.length) : (put f l i).length = l.length + 1 := by
  unfold put
  rw [List.length_append, List.length_cons, List.length_take, List.length_drop]; omega
theorem put_ahead {f : List UInt8} {l : List (List UInt8)} {i j : Nat} (h : i ≤ l.length) (hj : j < i) (h' : j < (put f l i).length) : (put f l i)[j] = l[j]'(by omega) := by
  simp only [put]
  rw [List.getElem_append_left (by rw [List.length_take]; omega), List.getElem_take]
theorem put_at {f : List UInt8} {l : List (List UInt8)} {i : Nat} (h : i ≤ l.length) (h' : i < (put f l i).length) : (put f l i)[i] = f := by
  simp only [put]
  rw [List.getElem_append_right (by rw [List.length_take]; omega)]
  simp only [List.length_take]
  simp [Nat.min_eq_left h]
theorem put_behind {f : List UInt8} {l : List (List UInt8)} {i j : Nat} (h : i ≤ l.length) (hj : i < j) (h' : j < (put f l i).length) (h2 : j - 1 < l.length) : (put f l i)[j] = l[j - 1] := by
  simp only [put]
  rw [List.getElem_append_right (by rw [List.length_take]; omega)]
  have e : j - (l.take i).length = (j - 1 - i) + 1 := by rw [List.length_take]; omega
  simp only [e, List.getElem_cons_succ, List.getElem_drop]
  congr 1; omega
end Go.Proofs.YtiaggnpkmigbhaaDoor.fl
