/-
  A row of bytes that is written into; the conversions from and to it. No walk. (From the texts of layer 4.)
-/
import Derived.Test.YtnpikjobjmffgaaDoorLinNum
import Derived.Deep.QuietTactic
import Derived.BigQuiet
import Derived.Lib.AtoiErrMem
import Derived.Laws.Rows
import Derived.Lib.ConvBytes
namespace Go.Proofs.YtnpikjobjmffgaaDoor.li
open Go.RowKit
theorem heap_alloc_size (w : World) (o : Obj) : (w.alloc o).heap.size = w.heap.size + 1 := by simp
theorem old_cell {B : Nat} {w w' : World} {b : Nat} {v : Value} (h : w.cell? ⟨b, 0, none⟩ = some v) (hb : Below B w w') (hB : w.heap.size ≤ B) : w'.cell? ⟨b, 0, none⟩ = some v :=
  (hb.cell (p := ⟨b, 0, none⟩) (Nat.lt_of_lt_of_le (Lib.lt_of_cell h) hB)).trans h
theorem S_empty_no {l : List UInt8} (h : 0 < l.length) : (S l).toList.isEmpty = false := by
  rw [← decide_eq_emptyBytes]
  exact decide_eq_false (fun e => by
    have := congrArg ByteArray.size e
    rw [S_size] at this
    simp at this
    rw [this] at h
    simp at h)

/-- A row of bytes in a block of the call's own. -/
structure RowAt (g : Nat) (t : List UInt8) (W : World) : Prop where
  c : ∀ i (h : i < t.length), W.cell? ⟨g, i, none⟩ = some (.int .u8 (t[i].toNat : Nat))
  f : ∀ i, i < t.length → W.frozen? ⟨g, i, none⟩ = false
theorem RowAt.later {g : Nat} {t : List UInt8} {w w' : World} (h : RowAt g t w) {B : Nat} (hb : Below B w w') (hg : g < B) : RowAt g t w' :=
  ⟨fun i hi => (hb.cell (p := ⟨g, i, none⟩) hg).trans (h.c i hi), fun i hi => (hb.frozen (p := ⟨g, i, none⟩) hg).trans (h.f i hi)⟩
theorem RowAt.bytes (w : World) (l : List UInt8) : RowAt w.heap.size l (Lib.bytesWorld w 5 (S l)) where
  c := fun i hi => by
    rw [Lib.bytesWorld_cell w _ (S l) i (by rw [S_size]; exact hi), S_data]
    simp [List.getElem?_eq_getElem hi]
  f := fun i hi => by
    simp only [World.frozen?, Lib.bytesWorld_at_new]
    simp [Lib.bytesCells]
    have : i < (S l).size := by rw [S_size]; exact hi
    rw [S_size] at this ⊢
    omega
theorem bytes_below (w : World) (s : ByteArray) : Below w.heap.size w (Lib.bytesWorld w 5 s) :=
  ⟨rfl, rfl, rfl, by rw [Lib.bytesWorld_size]; omega, fun k hk => Lib.bytesWorld_at_old w _ s k hk⟩
theorem frozen_setCell (w : World) (a b : Addr) (v : Value) : (w.setCell a v).frozen? b = w.frozen? b := by
  by_cases h : b.block = a.block
  · simp only [World.frozen?, World.setCell, Array.getElem?_modify, h]
    cases hw : w.heap[a.block]? with
    | none => simp
    | some o => cases o <;> simp
  · simp only [World.frozen?]
    rw [Below.heap_setCell w a v b.block h]
theorem RowAt.set {g : Nat} {t : List UInt8} {w : World} (h : RowAt g t w) (k : Nat) (hk : k < t.length) (d : UInt8) : RowAt g (t.set k d) (w.setCell ⟨g, k, none⟩ (.int .u8 (d.toNat : Nat))) where
  c := fun i hi => by
    rw [List.length_set] at hi
    by_cases he : k = i
    · subst he
      rw [World.cell?_setCell_same' _ _ _ (by rw [h.c k hk]; rfl), List.getElem_set_self]
    · rw [World.cell?_setCell_other _ _ _ _ (by first | (simp; done) | (simp; omega)), h.c i hi, List.getElem_set_ne he]
  f := fun i hi => by
    rw [List.length_set] at hi
    rw [frozen_setCell]
    exact h.f i hi
set_option maxRecDepth 100000 in
theorem conv_row (W : World) (g cap : Nat) (t : List UInt8) (h : RowAt g t W) :
    (convert 48 9 (.slice (some ⟨g, 0, none⟩) t.length cap)).run Tryd.prog W = .ok (.string (S t)) W := by
  have hr := run_convert_bytes_arg (P := Tryd.prog) W 48 5 Tryd.underlying48 Tryd.underlying5 g 0 t.length cap (t.map fun b => (b.toNat : Int)) (by simp) (fun i hi => by
    rw [Nat.zero_add, h.c i hi]
    simp [List.getElem?_eq_getElem hi]) 9 Tryd.underlying9
  rw [hr]
  congr 2
  apply ByteArray.ext
  apply Array.toList_inj.1
  rw [strOfNums_data, List.map_map, S_data]
  conv => rhs; rw [← List.map_id t]
  apply List.map_congr_left
  intro x _
  simp
theorem all_steps (p : UInt8 → Bool) (l : List UInt8) (k : Nat) (h : k < l.length) (hp : p l[k] = false) : l.all p = false := by
  rw [List.all_eq_false]
  exact ⟨l[k], List.getElem_mem h, by rw [hp]; decide⟩
theorem all_whole (p : UInt8 → Bool) (l : List UInt8) (H : ∀ j (h : j < l.length), j < l.length → p l[j] = true) : l.all p = true := by
  rw [List.all_eq_true]
  intro x hx
  obtain ⟨j, hj, e⟩ := List.getElem_of_mem hx
  rw [← e]; exact H j hj hj
end Go.Proofs.YtnpikjobjmffgaaDoor.li
