/-
  How a reader and a piece stand in memory, and what it means that one block alone was written. No walk.
-/
import Derived.Test.YtmgmhnohocamfaaGreatProg
import Derived.WalkKit
import Derived.Deep.Draws
import Derived.Lib.Hide
namespace Go.Proofs.YtmgmhnohocamfaaGreat.pk
open Go.RowKit

/-- Of the two worlds' blocks only block b may have changed; none came, none went. -/
structure Only (b : Nat) (w w' : World) : Prop where
  os : w'.os = w.os
  tape : w'.tape = w.tape
  output : w'.output = w.output
  size : w'.heap.size = w.heap.size
  block : ∀ k, k ≠ b → w'.heap[k]? = w.heap[k]?

theorem Only.refl (b : Nat) (w : World) : Only b w w := ⟨rfl, rfl, rfl, rfl, fun _ _ => rfl⟩
theorem Only.trans {b : Nat} {a c d : World} (h : Only b a c) (k : Only b c d) : Only b a d :=
  ⟨k.os.trans h.os, k.tape.trans h.tape, k.output.trans h.output, k.size.trans h.size, fun i hi => (k.block i hi).trans (h.block i hi)⟩
theorem Only.drewN {b : Nat} {a w : World} (h : Only b a w) (n : Nat) : Only b a (w.drewN n) := ⟨h.os, h.tape, h.output, h.size, h.block⟩
theorem Only.drew {b : Nat} {a w : World} (h : Only b a w) : Only b a w.drew := ⟨h.os, h.tape, h.output, h.size, h.block⟩
theorem Only.setCell {b : Nat} {a w : World} (h : Only b a w) (o : Nat) (v : Value) : Only b a (w.setCell ⟨b, o, none⟩ v) :=
  h.trans ⟨rfl, rfl, rfl, by simp [World.setCell], fun k hk => Below.heap_setCell _ _ _ _ hk⟩
theorem Only.below {b : Nat} {w w' : World} (h : Only b w w') {B : Nat} (hB : B ≤ b) : Below B w w' :=
  ⟨h.os, h.tape, h.output, by have := h.size; omega, fun k hk => h.block k (by omega)⟩
theorem Only.cell {b : Nat} {w w' : World} (h : Only b w w') {p : Addr} (hp : p.block ≠ b) : w'.cell? p = w.cell? p := World.cell?_of_block (w := w) (h.block p.block hp)
theorem Only.frozen {b : Nat} {w w' : World} (h : Only b w w') {p : Addr} (hp : p.block ≠ b) : w'.frozen? p = w.frozen? p := World.frozen?_of_block (w := w) (h.block p.block hp)

/-- Of the blocks that were there only block b may have changed; new ones may have come. -/
structure Touch (b : Nat) (w w' : World) : Prop where
  os : w'.os = w.os
  tape : w'.tape = w.tape
  output : w'.output = w.output
  size : w.heap.size ≤ w'.heap.size
  block : ∀ k, k < w.heap.size → k ≠ b → w'.heap[k]? = w.heap[k]?

theorem Touch.refl (b : Nat) (w : World) : Touch b w w := ⟨rfl, rfl, rfl, Nat.le_refl _, fun _ _ _ => rfl⟩
theorem Touch.trans {b : Nat} {a c d : World} (h : Touch b a c) (k : Touch b c d) : Touch b a d :=
  ⟨k.os.trans h.os, k.tape.trans h.tape, k.output.trans h.output, Nat.le_trans h.size k.size, fun i hi hb => (k.block i (Nat.lt_of_lt_of_le hi h.size) hb).trans (h.block i hi hb)⟩
theorem Only.touch {b : Nat} {w w' : World} (h : Only b w w') : Touch b w w' := ⟨h.os, h.tape, h.output, by have := h.size; omega, fun k _ hb => h.block k hb⟩
theorem Touch.of_below {b : Nat} {w w' : World} (h : Below w.heap.size w w') : Touch b w w' := ⟨h.os, h.tape, h.output, h.size, fun k hk _ => h.block k hk⟩
theorem Touch.drewN {b : Nat} {a w : World} (h : Touch b a w) (n : Nat) : Touch b a (w.drewN n) := ⟨h.os, h.tape, h.output, h.size, h.block⟩
theorem Touch.drew {b : Nat} {a w : World} (h : Touch b a w) : Touch b a w.drew := ⟨h.os, h.tape, h.output, h.size, h.block⟩
theorem Touch.setCell {b : Nat} {a w : World} (h : Touch b a w) (o : Nat) (v : Value) : Touch b a (w.setCell ⟨b, o, none⟩ v) :=
  h.trans ((Only.refl b w).setCell o v).touch
theorem Touch.below {b : Nat} {w w' : World} (h : Touch b w w') {B : Nat} (hB : B ≤ b) (hw : B ≤ w.heap.size) : Below B w w' :=
  ⟨h.os, h.tape, h.output, h.size, fun k hk => h.block k (by omega) (by omega)⟩
theorem Touch.cell {b : Nat} {w w' : World} (h : Touch b w w') {p : Addr} (hl : p.block < w.heap.size) (hp : p.block ≠ b) : w'.cell? p = w.cell? p := World.cell?_of_block (w := w) (h.block p.block hl hp)

/-- Of the blocks that were there only blocks p and q may have changed; new ones may have come. -/
structure Touch2 (p q : Nat) (w w' : World) : Prop where
  os : w'.os = w.os
  tape : w'.tape = w.tape
  output : w'.output = w.output
  size : w.heap.size ≤ w'.heap.size
  block : ∀ k, k < w.heap.size → k ≠ p → k ≠ q → w'.heap[k]? = w.heap[k]?

theorem Touch2.refl (p q : Nat) (w : World) : Touch2 p q w w := ⟨rfl, rfl, rfl, Nat.le_refl _, fun _ _ _ _ => rfl⟩
theorem Touch2.trans {p q : Nat} {a c d : World} (h : Touch2 p q a c) (k : Touch2 p q c d) : Touch2 p q a d :=
  ⟨k.os.trans h.os, k.tape.trans h.tape, k.output.trans h.output, Nat.le_trans h.size k.size, fun i hi hb hq => (k.block i (Nat.lt_of_lt_of_le hi h.size) hb hq).trans (h.block i hi hb hq)⟩
theorem Touch.two_l {p q : Nat} {w w' : World} (h : Touch p w w') : Touch2 p q w w' := ⟨h.os, h.tape, h.output, h.size, fun k hk hp _ => h.block k hk hp⟩
theorem Touch.two_r {p q : Nat} {w w' : World} (h : Touch q w w') : Touch2 p q w w' := ⟨h.os, h.tape, h.output, h.size, fun k hk _ hq => h.block k hk hq⟩
theorem Touch2.drewN {p q : Nat} {a w : World} (h : Touch2 p q a w) (n : Nat) : Touch2 p q a (w.drewN n) := ⟨h.os, h.tape, h.output, h.size, h.block⟩
theorem Touch2.drew {p q : Nat} {a w : World} (h : Touch2 p q a w) : Touch2 p q a w.drew := ⟨h.os, h.tape, h.output, h.size, h.block⟩
theorem Touch2.set_l {p q : Nat} {a w : World} (h : Touch2 p q a w) (o : Nat) (v : Value) : Touch2 p q a (w.setCell ⟨p, o, none⟩ v) := h.trans ((Touch.refl p w).setCell o v).two_l
theorem Touch2.set_r {p q : Nat} {a w : World} (h : Touch2 p q a w) (o : Nat) (v : Value) : Touch2 p q a (w.setCell ⟨q, o, none⟩ v) := h.trans ((Touch.refl q w).setCell o v).two_r
theorem Touch2.cell {p q : Nat} {w w' : World} (h : Touch2 p q w w') {x : Addr} (hl : x.block < w.heap.size) (hp : x.block ≠ p) (hq : x.block ≠ q) : w'.cell? x = w.cell? x := World.cell?_of_block (w := w) (h.block x.block hl hp hq)

/-- Block b is a reader: its text, how far, its fault. -/
def RD (w : World) (b : Nat) (s : ByteArray) (a f : Int) : Prop := w.heap[b]? = some (.cells #[.string s, .int .i64 a, .int .i64 f] 173 (0, 0))
/-- Block b is a piece: what is left, the most, the number, the text. -/
def PS (w : World) (b : Nat) (s : ByteArray) (m n : Int) (t : ByteArray) : Prop := w.heap[b]? = some (.cells #[.string s, .int .i64 m, .int .u64 n, .string t] 175 (0, 0))

theorem cell_at {w : World} {b : Nat} {cs : Array Value} {T : TypeId} (hb : w.heap[b]? = some (.cells cs T (0, 0))) (j : Nat) : w.cell? ⟨b, j, none⟩ = cs[j]? := by
  simp [World.cell?, hb]
theorem frozen_at {w : World} {b : Nat} {cs : Array Value} {T : TypeId} (hb : w.heap[b]? = some (.cells cs T (0, 0))) (j : Nat) : w.frozen? ⟨b, j, none⟩ = false := by
  simp [World.frozen?, hb]
theorem lt_of_at {w : World} {b : Nat} {o : Obj} (hb : w.heap[b]? = some o) : b < w.heap.size := by
  rcases Nat.lt_or_ge b w.heap.size with h' | h'
  · exact h'
  · simp [Array.getElem?_eq_none h'] at hb

theorem RD.cells {w : World} {b : Nat} {s : ByteArray} {a f : Int} (h : RD w b s a f) :
    w.cell? ⟨b, 0, none⟩ = some (.string s) ∧ w.cell? ⟨b, 1, none⟩ = some (.int .i64 a) ∧ w.cell? ⟨b, 2, none⟩ = some (.int .i64 f) ∧
    w.frozen? ⟨b, 0, none⟩ = false ∧ w.frozen? ⟨b, 1, none⟩ = false ∧ w.frozen? ⟨b, 2, none⟩ = false :=
  ⟨cell_at h 0, cell_at h 1, cell_at h 2, frozen_at h 0, frozen_at h 1, frozen_at h 2⟩
theorem PS.cells {w : World} {b : Nat} {s : ByteArray} {m n : Int} {t : ByteArray} (h : PS w b s m n t) :
    w.cell? ⟨b, 0, none⟩ = some (.string s) ∧ w.cell? ⟨b, 1, none⟩ = some (.int .i64 m) ∧ w.cell? ⟨b, 2, none⟩ = some (.int .u64 n) ∧ w.cell? ⟨b, 3, none⟩ = some (.string t) ∧
    w.frozen? ⟨b, 0, none⟩ = false ∧ w.frozen? ⟨b, 1, none⟩ = false ∧ w.frozen? ⟨b, 2, none⟩ = false ∧ w.frozen? ⟨b, 3, none⟩ = false :=
  ⟨cell_at h 0, cell_at h 1, cell_at h 2, cell_at h 3, frozen_at h 0, frozen_at h 1, frozen_at h 2, frozen_at h 3⟩
theorem RD.lt {w : World} {b : Nat} {s : ByteArray} {a f : Int} (h : RD w b s a f) : b < w.heap.size := lt_of_at h
theorem PS.lt {w : World} {b : Nat} {s : ByteArray} {m n : Int} {t : ByteArray} (h : PS w b s m n t) : b < w.heap.size := lt_of_at h

theorem RD.drewN {w : World} {b : Nat} {s : ByteArray} {a f : Int} (h : RD w b s a f) (q : Nat) : RD (w.drewN q) b s a f := h
theorem PS.drewN {w : World} {b : Nat} {s : ByteArray} {m n : Int} {t : ByteArray} (h : PS w b s m n t) (q : Nat) : PS (w.drewN q) b s m n t := h
theorem RD.drew {w : World} {b : Nat} {s : ByteArray} {a f : Int} (h : RD w b s a f) : RD w.drew b s a f := h
theorem PS.drew {w : World} {b : Nat} {s : ByteArray} {m n : Int} {t : ByteArray} (h : PS w b s m n t) : PS w.drew b s m n t := h

theorem RD.of_only {w w' : World} {c b : Nat} {s : ByteArray} {a f : Int} (h : RD w b s a f) (k : Only c w w') (hne : b ≠ c) : RD w' b s a f := (k.block b hne).trans h
theorem PS.of_only {w w' : World} {c b : Nat} {s : ByteArray} {m n : Int} {t : ByteArray} (h : PS w b s m n t) (k : Only c w w') (hne : b ≠ c) : PS w' b s m n t := (k.block b hne).trans h
theorem RD.of_touch {w w' : World} {c b : Nat} {s : ByteArray} {a f : Int} (h : RD w b s a f) (k : Touch c w w') (hne : b ≠ c) : RD w' b s a f := (k.block b (lt_of_at h) hne).trans h
theorem PS.of_touch {w w' : World} {c b : Nat} {s : ByteArray} {m n : Int} {t : ByteArray} (h : PS w b s m n t) (k : Touch c w w') (hne : b ≠ c) : PS w' b s m n t := (k.block b (lt_of_at h) hne).trans h
theorem RD.of_below {w w' : World} {B b : Nat} {s : ByteArray} {a f : Int} (h : RD w b s a f) (k : Below B w w') (hlt : b < B) : RD w' b s a f := (k.block b hlt).trans h
theorem PS.of_below {w w' : World} {B b : Nat} {s : ByteArray} {m n : Int} {t : ByteArray} (h : PS w b s m n t) (k : Below B w w') (hlt : b < B) : PS w' b s m n t := (k.block b hlt).trans h

theorem set_at {w : World} {b i : Nat} {cs : Array Value} {T : TypeId} (hb : w.heap[b]? = some (.cells cs T (0, 0))) (v : Value) :
    (w.setCell ⟨b, i, none⟩ v).heap[b]? = some (.cells (cs.setIfInBounds i v) T (0, 0)) := heap_setCell_same w b i cs T v hb

theorem RD.set1 {w : World} {b : Nat} {s : ByteArray} {a f : Int} (h : RD w b s a f) (x : Int) : RD (w.setCell ⟨b, 1, none⟩ (.int .i64 x)) b s x f := set_at h _
theorem RD.set2 {w : World} {b : Nat} {s : ByteArray} {a f : Int} (h : RD w b s a f) (x : Int) : RD (w.setCell ⟨b, 2, none⟩ (.int .i64 x)) b s a x := set_at h _
theorem PS.set0 {w : World} {b : Nat} {s : ByteArray} {m n : Int} {t : ByteArray} (h : PS w b s m n t) (x : ByteArray) : PS (w.setCell ⟨b, 0, none⟩ (.string x)) b x m n t := set_at h _
theorem PS.set1 {w : World} {b : Nat} {s : ByteArray} {m n : Int} {t : ByteArray} (h : PS w b s m n t) (x : Int) : PS (w.setCell ⟨b, 1, none⟩ (.int .i64 x)) b s x n t := set_at h _
theorem PS.set2 {w : World} {b : Nat} {s : ByteArray} {m n : Int} {t : ByteArray} (h : PS w b s m n t) (x : Int) : PS (w.setCell ⟨b, 2, none⟩ (.int .u64 x)) b s m x t := set_at h _
theorem PS.set3 {w : World} {b : Nat} {s : ByteArray} {m n : Int} {t : ByteArray} (h : PS w b s m n t) (x : ByteArray) : PS (w.setCell ⟨b, 3, none⟩ (.string x)) b s m n x := set_at h _
end Go.Proofs.YtmgmhnohocamfaaGreat.pk
