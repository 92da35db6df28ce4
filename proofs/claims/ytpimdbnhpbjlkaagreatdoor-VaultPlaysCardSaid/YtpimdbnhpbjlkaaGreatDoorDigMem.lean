/-
  An array in memory; what it means that of the blocks that were there one alone was written. No walk.
-/
import Derived.Test.YtpimdbnhpbjlkaaGreatDoorDigBase
import Derived.Laws.Rows
import Derived.Deep.WholeRow
namespace Go.Proofs.YtpimdbnhpbjlkaaGreatDoor.dg
open Go.RowKit

/-- Block b holds an array's cells. -/
def Arr (w : World) (b : Nat) (t : TypeId) (cs : Array Value) : Prop := w.heap[b]? = some (.cells cs t (0, 0))
theorem Arr.lt {w : World} {b : Nat} {t : TypeId} {cs : Array Value} (h : Arr w b t cs) : b < w.heap.size := (Array.getElem?_eq_some_iff.1 h).1
theorem Arr.cell {w : World} {b : Nat} {t : TypeId} {cs : Array Value} (h : Arr w b t cs) {j : Nat} {v : Value} (hv : cs[j]? = some v) : w.cell? ⟨b, j, none⟩ = some v := (cell_of_row w b j cs t (0, 0) h).trans hv
theorem Arr.frozen {w : World} {b : Nat} {t : TypeId} {cs : Array Value} (h : Arr w b t cs) (j : Nat) : w.frozen? ⟨b, j, none⟩ = false := frozen_of_row w b j cs t h
theorem Arr.set {w : World} {b : Nat} {t : TypeId} {cs : Array Value} (h : Arr w b t cs) (j : Nat) (v : Value) : Arr (w.setCell ⟨b, j, none⟩ v) b t (cs.setIfInBounds j v) := heap_setCell_same w b j cs t v h
theorem Arr.drew {w : World} {b : Nat} {t : TypeId} {cs : Array Value} (h : Arr w b t cs) : Arr w.drew b t cs := h
theorem Arr.drewN {w : World} {b : Nat} {t : TypeId} {cs : Array Value} (h : Arr w b t cs) (n : Nat) : Arr (w.drewN n) b t cs := h
theorem Arr.new (w : World) (t : TypeId) (cs : Array Value) : Arr (w.alloc (.cells cs t)) w.heap.size t cs := heap_alloc_new w _
theorem Arr.alloc {w : World} {b : Nat} {t : TypeId} {cs : Array Value} (h : Arr w b t cs) (o : Obj) : Arr (w.alloc o) b t cs := (Below.heap_alloc w o b h.lt).trans h

/-- Of the blocks that were there only block b may have changed; new ones may have come. -/
structure Touch (b : Nat) (w w' : World) : Prop where
  os : w'.os = w.os
  tape : w'.tape = w.tape
  output : w'.output = w.output
  size : w.heap.size ≤ w'.heap.size
  block : ∀ k, k < w.heap.size → k ≠ b → w'.heap[k]? = w.heap[k]?
theorem Touch.refl (b : Nat) (w : World) : Touch b w w := ⟨rfl, rfl, rfl, Nat.le_refl _, fun _ _ _ => rfl⟩
theorem Touch.trans {b : Nat} {a c d : World} (h : Touch b a c) (k : Touch b c d) : Touch b a d :=
  ⟨k.os.trans h.os, k.tape.trans h.tape, k.output.trans h.output, Nat.le_trans h.size k.size, fun i hi hb => (k.block i (Nat.lt_of_lt_of_le hi h.size) hb).trans (h.block i hi hb)⟩
theorem Touch.setCell {b : Nat} {a w : World} (h : Touch b a w) (o : Nat) (v : Value) : Touch b a (w.setCell ⟨b, o, none⟩ v) :=
  h.trans ⟨rfl, rfl, rfl, by simp [World.setCell], fun k _ hk => Below.heap_setCell _ _ _ _ hk⟩
theorem Touch.drew {b : Nat} {a w : World} (h : Touch b a w) : Touch b a w.drew := ⟨h.os, h.tape, h.output, h.size, h.block⟩
theorem Touch.drewN {b : Nat} {a w : World} (h : Touch b a w) (n : Nat) : Touch b a (w.drewN n) := ⟨h.os, h.tape, h.output, h.size, h.block⟩
theorem Touch.of_below {b : Nat} {w w' : World} (h : Below w.heap.size w w') : Touch b w w' := ⟨h.os, h.tape, h.output, h.size, fun k hk _ => h.block k hk⟩
theorem Touch.below {b : Nat} {w w' : World} (h : Touch b w w') {B : Nat} (hB : B ≤ b) (hw : B ≤ w.heap.size) : Below B w w' :=
  ⟨h.os, h.tape, h.output, h.size, fun k hk => h.block k (by omega) (by omega)⟩
theorem Touch.arr {b c : Nat} {w w' : World} {t : TypeId} {cs : Array Value} (h : Touch b w w') (k : Arr w c t cs) (hne : c ≠ b) : Arr w' c t cs := (h.block c k.lt hne).trans k
theorem Touch.cell {b : Nat} {w w' : World} (h : Touch b w w') {p : Addr} (hl : p.block < w.heap.size) (hp : p.block ≠ b) : w'.cell? p = w.cell? p := World.cell?_of_block (w := w) (h.block p.block hl hp)
end Go.Proofs.YtpimdbnhpbjlkaaGreatDoor.dg
