/-
  Feeders, and rows of what is heard: how they lie. No walk.
-/
import Derived.Test.YtnpikjobjmffgaaDoorLinMath
import Derived.Test.YtnpikjobjmffgaaDoorLinNumP
import Derived.Deep.OwnRows
import Derived.Deep.AppendLies
import Derived.Deep.CutRange
import Derived.Laws.OwnMore
import Derived.Laws.Rows
import Derived.Laws.BytesArg
import Derived.Lib.ConvBytes
import Derived.Lib.Varint
import Derived.Lib.VarintMem
namespace Go.Proofs.YtnpikjobjmffgaaDoor.li
open Go.RowKit

theorem infoU8 : (Tryd.prog.info? 5).map (fun i => (i.zero, i.size, i.bytes)) = some (some (.int .u8 0), 1, 1) := by kernel_rfl
theorem infoH : (Tryd.prog.info? 45).map (fun i => (i.zero, i.size, i.bytes)) = some (some (.agg #[.int .i64 0, .string ⟨#[]⟩]), 2, 24) := by kernel_rfl
theorem addr_add (b off j : Nat) : (⟨b, off, none⟩ : Addr).add j = ⟨b, off + j, none⟩ := by unfold Addr.add; split <;> simp_all

/-- The bytes p lie at (g, o). -/
def Lie (w : World) (g o : Nat) (p : List UInt8) : Prop := ∀ i (hi : i < p.length), w.cell? ⟨g, o + i, none⟩ = some (.int .u8 (p[i].toNat : Nat))
theorem Lie.of {w w' : World} {g o : Nat} {p : List UInt8} (h : Lie w g o p) (hb : w'.heap[g]? = w.heap[g]?) : Lie w' g o p := fun i hi => (World.cell?_of_block (w := w) (a := ⟨g, o + i, none⟩) hb).trans (h i hi)
theorem Lie.lt {w : World} {g o : Nat} {p : List UInt8} (h : Lie w g o p) (hp : 0 < p.length) : g < w.heap.size := World.block_lt_of_cell? _ _ (h 0 hp)
theorem Lie.drop {w : World} {g o : Nat} {p : List UInt8} (h : Lie w g o p) (k : Nat) : Lie w g (o + k) (p.drop k) := fun i hi => by
  rw [List.length_drop] at hi
  rw [show o + k + i = o + (k + i) by omega, h (k + i) (by omega), List.getElem_drop]
theorem Lie.take {w : World} {g o : Nat} {p : List UInt8} (h : Lie w g o p) (k : Nat) : Lie w g o (p.take k) := fun i hi => by
  rw [List.length_take] at hi
  rw [h i (by omega), List.getElem_take]
theorem lie_own {w : World} {B : Nat} {v : Value} {l : List UInt8} (h : w.ownsRow B 5 1 v l.length (Lib.byteCells l)) (hl : 0 < l.length) :
    ∃ g c, v = .slice (some ⟨g, 0, none⟩) l.length c ∧ l.length ≤ c ∧ Lie w g 0 l := by
  rcases h.2 with ⟨_, h0⟩ | ⟨g, cap, cur, rfl, hg, hh, hn, hcap, hsz, htake⟩
  · omega
  · refine ⟨g, cap, rfl, hn, fun i hi => ?_⟩
    rw [Nat.zero_add, h.cellAt i (by omega)]
    simp [Lib.byteCells, List.getElem?_eq_getElem hi]
/-- 'string(b)' of bytes that lie somewhere. -/
theorem conv_lie (W : World) (g o cap : Nat) (p : List UInt8) (h : Lie W g o p) :
    (convert 48 9 (.slice (some ⟨g, o, none⟩) p.length cap)).run Tryd.prog W = .ok (.string (S p)) W := by
  have h := run_convert_bytes_arg (P := Tryd.prog) W 48 5 Tryd.underlying48 Tryd.underlying5 g o p.length cap (p.map fun b => (b.toNat : Int)) (by simp) (fun i hi => by
    rw [h i hi]
    simp [List.getElem?_eq_getElem hi]) 9 Tryd.underlying9
  rw [h]
  congr 2
  apply ByteArray.ext
  apply Array.toList_inj.1
  rw [strOfNums_data, List.map_map, S_data]
  conv => rhs; rw [← List.map_id p]
  apply List.map_congr_left
  intro x _
  simp

/-- A block's cells. -/
def Arr (w : World) (b : Nat) (t : TypeId) (cs : Array Value) : Prop := w.heap[b]? = some (.cells cs t (0, 0))
theorem Arr.lt {w : World} {b : Nat} {t : TypeId} {cs : Array Value} (h : Arr w b t cs) : b < w.heap.size := (Array.getElem?_eq_some_iff.1 h).1
theorem Arr.cell {w : World} {b : Nat} {t : TypeId} {cs : Array Value} (h : Arr w b t cs) {j : Nat} {v : Value} (hv : cs[j]? = some v) : w.cell? ⟨b, j, none⟩ = some v := (cell_of_row w b j cs t (0, 0) h).trans hv
theorem Arr.frozen {w : World} {b : Nat} {t : TypeId} {cs : Array Value} (h : Arr w b t cs) (j : Nat) : w.frozen? ⟨b, j, none⟩ = false := frozen_of_row w b j cs t h
theorem Arr.set {w : World} {b : Nat} {t : TypeId} {cs : Array Value} (h : Arr w b t cs) (j : Nat) (v : Value) : Arr (w.setCell ⟨b, j, none⟩ v) b t (cs.setIfInBounds j v) := heap_setCell_same w b j cs t v h
theorem Arr.new (w : World) (t : TypeId) (cs : Array Value) : Arr (w.alloc (.cells cs t)) w.heap.size t cs := heap_alloc_new w _
theorem Arr.of {w w' : World} {b : Nat} {t : TypeId} {cs : Array Value} (h : Arr w b t cs) (hb : w'.heap[b]? = w.heap[b]?) : Arr w' b t cs := hb.trans h

/-- All but two blocks is as it was. -/
structure Apart (q : Nat) (r : Option Nat) (w w' : World) : Prop where
  os : w'.os = w.os
  tape : w'.tape = w.tape
  output : w'.output = w.output
  size : w.heap.size ≤ w'.heap.size
  block : ∀ k, k < w.heap.size → k ≠ q → some k ≠ r → w'.heap[k]? = w.heap[k]?
theorem Apart.refl (q : Nat) (r : Option Nat) (w : World) : Apart q r w w := ⟨rfl, rfl, rfl, Nat.le_refl _, fun _ _ _ _ => rfl⟩
theorem Apart.trans {q : Nat} {r r' : Option Nat} {a b c : World} (h : Apart q r a b) (k : Apart q r' b c) (hr : ∀ k, r' = some k → r = some k ∨ a.heap.size ≤ k) : Apart q r a c :=
  ⟨k.os.trans h.os, k.tape.trans h.tape, k.output.trans h.output, Nat.le_trans h.size k.size, fun i hi hq hn =>
    (k.block i (Nat.lt_of_lt_of_le hi h.size) hq (fun e => by
      rcases hr i e.symm with e2 | e2
      · exact hn e2.symm
      · omega)).trans (h.block i hi hq hn)⟩
theorem Apart.of_below {q : Nat} {r : Option Nat} {w w' : World} (h : Below w.heap.size w w') : Apart q r w w' := ⟨h.os, h.tape, h.output, h.size, fun k hk _ _ => h.block k hk⟩
theorem Apart.of_none {q : Nat} {r : Option Nat} {w w' : World} (h : Apart q none w w') : Apart q r w w' := ⟨h.os, h.tape, h.output, h.size, fun k hk hq _ => h.block k hk hq (by simp)⟩
theorem Apart.below_then {q : Nat} {r : Option Nat} {a b c : World} (h : Below a.heap.size a b) (k : Apart q r b c) : Apart q r a c :=
  ⟨k.os.trans h.os, k.tape.trans h.tape, k.output.trans h.output, Nat.le_trans h.size k.size, fun i hi hq hn => (k.block i (Nat.lt_of_lt_of_le hi h.size) hq hn).trans (h.block i hi)⟩
theorem Apart.then_below {q : Nat} {r : Option Nat} {a b c : World} (h : Apart q r a b) (k : Below b.heap.size b c) : Apart q r a c :=
  ⟨k.os.trans h.os, k.tape.trans h.tape, k.output.trans h.output, Nat.le_trans h.size k.size, fun i hi hq hn => (k.block i (Nat.lt_of_lt_of_le hi h.size)).trans (h.block i hi hq hn)⟩
theorem Apart.grown {q : Nat} {r row : Option Nat} {a w w' : World} (h : Apart q r a w) (hg : w.grownBy w' row) (hr : ∀ k, row = some k → r = some k ∨ a.heap.size ≤ k) : Apart q r a w' :=
  h.trans ⟨hg.os, hg.tape, hg.output, hg.size, fun k hk _ hn => hg.block k hk hn⟩ hr
theorem Apart.drew {q : Nat} {r : Option Nat} {a w : World} (h : Apart q r a w) : Apart q r a w.drew := ⟨h.os, h.tape, h.output, h.size, h.block⟩
theorem Apart.drewN {q : Nat} {r : Option Nat} {a w : World} (h : Apart q r a w) (n : Nat) : Apart q r a (w.drewN n) := ⟨h.os, h.tape, h.output, h.size, h.block⟩
theorem Apart.alloc {q : Nat} {r : Option Nat} {a w : World} (h : Apart q r a w) (o : Obj) : Apart q r a (w.alloc o) :=
  ⟨h.os, h.tape, h.output, by have := h.size; simp; omega, fun k hk hq hn => (Below.heap_alloc w o k (Nat.lt_of_lt_of_le hk h.size)).trans (h.block k hk hq hn)⟩
theorem Apart.setCell {q : Nat} {r : Option Nat} {a w : World} (h : Apart q r a w) (j : Nat) (u : Value) : Apart q r a (w.setCell ⟨q, j, none⟩ u) :=
  ⟨h.os, h.tape, h.output, by have := h.size; simpa [World.setCell] using this, fun k hk hq hn => (Below.heap_setCell w _ u k hq).trans (h.block k hk hq hn)⟩
theorem Apart.below {q : Nat} {r : Option Nat} {w w' : World} (h : Apart q r w w') {B : Nat} (hB : B ≤ w.heap.size) (hq : B ≤ q) (hr : ∀ k, r = some k → B ≤ k) : Below B w w' :=
  ⟨h.os, h.tape, h.output, h.size, fun k hk => h.block k (by omega) (by omega) (fun e => by have := hr k e.symm; omega)⟩

theorem ownsRow_kept {w w' : World} {b : Nat} {e : TypeId} {size : Nat} {v : Value} {n : Nat} {xs : List Value} (h : w.ownsRow b e size v n xs) (hb : ∀ k, v.ownBlock = some k → w'.heap[k]? = w.heap[k]?) : w'.ownsRow b e size v n xs := by
  obtain ⟨h1, h2 | ⟨g, cap, cur, h3, h4, h5, h6⟩⟩ := h
  · exact ⟨h1, .inl h2⟩
  · exact ⟨h1, .inr ⟨g, cap, cur, h3, h4, (hb g (by rw [h3]; rfl)).trans h5, h6⟩⟩
theorem ownsRow_type {w : World} {b : Nat} {e : TypeId} {size : Nat} {v : Value} {n : Nat} {xs : List Value} (h : w.ownsRow b e size v n xs) {k : Nat} (hk : v.ownBlock = some k) : ∃ cur, w.heap[k]? = some (.cells cur e (0, 0)) := by
  rcases h.2 with ⟨rfl, _⟩ | ⟨g, cap, cur, rfl, hg, hh, _⟩
  · simp [Value.ownBlock] at hk
  · simp [Value.ownBlock] at hk
    subst hk
    exact ⟨cur, hh⟩
theorem types_apart {w : World} {k : Nat} {c c' : Array Value} {t t' : TypeId} (h : w.heap[k]? = some (.cells c t (0, 0))) (h' : w.heap[k]? = some (.cells c' t' (0, 0))) : t = t' := by
  rw [h] at h'
  cases h'
  rfl
theorem ownsRow_below {w w' : World} {b : Nat} {e : TypeId} {size : Nat} {v : Value} {n : Nat} {xs : List Value} (h : w.ownsRow b e size v n xs) (hb : Below w.heap.size w w') : w'.ownsRow b e size v n xs :=
  ownsRow_kept h (fun k hk => hb.block k (h.lt k hk).2)
theorem ownsRow_lower {w : World} {b b' : Nat} {e : TypeId} {size : Nat} {v : Value} {n : Nat} {xs : List Value} (h : w.ownsRow b e size v n xs) (hb : b' ≤ b) : w.ownsRow b' e size v n xs := by
  obtain ⟨h1, h2 | ⟨g, cap, cur, h3, h4, h5⟩⟩ := h
  · exact ⟨h1, .inl h2⟩
  · exact ⟨h1, .inr ⟨g, cap, cur, h3, by omega, h5⟩⟩

/-- A feeder at block q stands so; v is its text's row. -/
structure Fd (w : World) (q : Nat) (v : Value) (st : St) : Prop where
  b : 3 ≤ q
  a : Arr w q 50 #[v, .int .i64 (st.part : Nat), .bool st.deaf]
  r : w.ownsRow 3 5 1 v st.text.length (Lib.byteCells st.text)
theorem Fd.kept {w w' : World} {q : Nat} {v : Value} {st : St} (h : Fd w q v st) (hq : w'.heap[q]? = w.heap[q]?) (hr : ∀ k, v.ownBlock = some k → w'.heap[k]? = w.heap[k]?) : Fd w' q v st :=
  ⟨h.b, h.a.of hq, ownsRow_kept h.r hr⟩
theorem Fd.later {w w' : World} {q : Nat} {v : Value} {st : St} (h : Fd w q v st) (hb : Below w.heap.size w w') : Fd w' q v st :=
  h.kept (hb.block q h.a.lt) (fun k hk => hb.block k (h.r.lt k hk).2)
theorem Fd.drew {w : World} {q : Nat} {v : Value} {st : St} (h : Fd w q v st) : Fd w.drew q v st := ⟨h.b, h.a, h.r⟩
/-- A feeder's own block is no row. -/
theorem Fd.self {w : World} {q p : Nat} {v u : Value} {st su : St} (h : Fd w q v st) (k : Fd w p u su) : v.ownBlock ≠ some p := fun e => by
  obtain ⟨cur, hc⟩ := ownsRow_type h.r e
  exact absurd (types_apart hc k.a) (by decide)
/-- Two rows lie apart. -/
def Sep (v u : Value) : Prop := ∀ k, v.ownBlock = some k → u.ownBlock ≠ some k
theorem Fd.apart {w w' : World} {q p : Nat} {v u : Value} {st su : St} (h : Fd w q v st) (k : Fd w p u su) (hne : q ≠ p) (hs : Sep v u) (ha : Apart p u.ownBlock w w') : Fd w' q v st :=
  h.kept (ha.block q h.a.lt hne (fun e => k.self h e.symm)) (fun j hj => ha.block j (h.r.lt j hj).2 (fun e => by subst e; exact h.self k hj) (fun e => hs j hj e.symm))

/-- The cells of what is heard. -/
def cellsH (l : List Hd) : List Value := l.flatMap fun h => [.int .i64 (h.kind : Nat), .string (S h.text)]
theorem cellsH_snoc (l : List Hd) (h : Hd) : cellsH (l ++ [h]) = cellsH l ++ [.int .i64 (h.kind : Nat), .string (S h.text)] := by simp [cellsH]
theorem cellsH_append (l m : List Hd) : cellsH (l ++ m) = cellsH l ++ cellsH m := by simp [cellsH]
theorem cellsH_length : ∀ l : List Hd, (cellsH l).length = l.length * 2
  | [] => rfl
  | h :: r => by
    have := cellsH_length r
    unfold cellsH at *
    rw [List.flatMap_cons, List.length_append, this]
    simp; omega
theorem cellsH_at : ∀ (l : List Hd) (j : Nat) (h : j < l.length), (cellsH l)[j * 2]? = some (.int .i64 (l[j].kind : Nat)) ∧ (cellsH l)[j * 2 + 1]? = some (.string (S l[j].text))
  | x :: r, 0, _ => by simp [cellsH]
  | x :: r, j + 1, h => by
    have ih := cellsH_at r j (by simpa using h)
    unfold cellsH at *
    rw [List.flatMap_cons, List.getElem_cons_succ]
    rw [show (j + 1) * 2 = j * 2 + 2 by omega, List.getElem?_append_right (by simp), List.getElem?_append_right (by simp)]
    exact ih
theorem cellsH_one (l : List Hd) : ∀ u ∈ cellsH l, u.oneCell' = true := fun u hu => by
  unfold cellsH at hu
  rw [List.mem_flatMap] at hu
  obtain ⟨h, _, hm⟩ := hu
  simp at hm
  rcases hm with rfl | rfl <;> rfl
/-- A row of what is heard, or none. -/
def RowH (w : World) (a : Option Addr) (l : List Hd) : Prop :=
  l = [] ∨ ∃ b off, a = some ⟨b, off, none⟩ ∧ b < w.heap.size ∧ ∀ j (h : j < l.length), w.cell? ⟨b, off + j * 2, none⟩ = some (.int .i64 (l[j].kind : Nat)) ∧ w.cell? ⟨b, off + j * 2 + 1, none⟩ = some (.string (S l[j].text))
theorem RowH.later {w w' : World} {a : Option Addr} {l : List Hd} (h : RowH w a l) (k : Below w.heap.size w w') : RowH w' a l := by
  rcases h with h | ⟨b, off, e, hb, hc⟩
  · exact .inl h
  · exact .inr ⟨b, off, e, Nat.lt_of_lt_of_le hb k.size, fun j hj => ⟨(k.cell (p := ⟨b, _, none⟩) hb).trans (hc j hj).1, (k.cell (p := ⟨b, _, none⟩) hb).trans (hc j hj).2⟩⟩
theorem RowH.drew {w : World} {a : Option Addr} {l : List Hd} (h : RowH w a l) : RowH w.drew a l := h
/-- A row of what is heard that the call owns. -/
def HOwn (w : World) (B : Nat) (v : Value) (l : List Hd) : Prop := w.ownsRow B 45 2 v l.length (cellsH l)
theorem HOwn.row {w : World} {B : Nat} {v : Value} {l : List Hd} (h : HOwn w B v l) : ∃ a c, v = .slice a l.length c ∧ RowH w a l ∧ (a = none → c = 0) := by
  rcases h.2 with ⟨rfl, h0⟩ | ⟨g, cap, cur, rfl, hg, hh, hn, hcap, hsz, htake⟩
  · have : l = [] := List.length_eq_zero_iff.1 h0
    subst this
    exact ⟨none, 0, rfl, .inl rfl, fun _ => rfl⟩
  · refine ⟨_, _, rfl, .inr ⟨g, 0, rfl, (Array.getElem?_eq_some_iff.1 hh).1, fun j hj => ?_⟩, fun e => by cases e⟩
    have h' : w.ownsRow B 45 2 (.slice (some ⟨g, 0, none⟩) l.length cap) l.length (cellsH l) := h
    have h1 := cellsH_at l j hj
    rw [Nat.zero_add, h'.cellAt (j * 2) (by omega), h'.cellAt (j * 2 + 1) (by omega)]
    exact h1
theorem HOwn.later {w w' : World} {B : Nat} {v : Value} {l : List Hd} (h : HOwn w B v l) (hb : Below w.heap.size w w') : HOwn w' B v l := ownsRow_below h hb
theorem HOwn.apart {w w' : World} {B p : Nat} {v u : Value} {l : List Hd} {su : St} (h : HOwn w B v l) (k : Fd w p u su) (ha : Apart p u.ownBlock w w') : HOwn w' B v l :=
  ownsRow_kept h (fun j hj => by
    obtain ⟨cur, hc⟩ := ownsRow_type h hj
    refine ha.block j (h.lt j hj).2 (fun e => ?_) (fun e => ?_)
    · subst e
      exact absurd (types_apart hc k.a) (by decide)
    · obtain ⟨cu, hc2⟩ := ownsRow_type k.r e.symm
      exact absurd (types_apart hc hc2) (by decide))
/-- A row of what is heard is none of a feeder's blocks. -/
theorem Fd.heard {w w' : World} {B q : Nat} {v u : Value} {l : List Hd} {st : St} (h : Fd w q v st) (k : HOwn w B u l) (hg : w.grownBy w' u.ownBlock) : Fd w' q v st :=
  h.kept (hg.block q h.a.lt (fun e => by
    obtain ⟨cur, hc⟩ := ownsRow_type k e.symm
    exact absurd (types_apart hc h.a) (by decide))) (fun j hj => hg.block j (h.r.lt j hj).2 (fun e => by
    obtain ⟨cur, hc⟩ := ownsRow_type h.r hj
    obtain ⟨cu, hc2⟩ := ownsRow_type k e.symm
    exact absurd (types_apart hc hc2) (by decide)))

theorem Errs.lt {w : World} (h : Errs w) : 3 ≤ w.heap.size := by
  obtain ⟨_, ⟨t2, p2, h2⟩⟩ := h
  have := World.block_lt_of_cell? _ _ h2
  exact this
theorem Errs.below {w w' : World} (h : Errs w) (hb : Below 3 w w') : Errs w' := by
  obtain ⟨⟨t1, p1, h1⟩, ⟨t2, p2, h2⟩⟩ := h
  exact ⟨⟨t1, p1, (hb.cell (p := ⟨1, 0, none⟩) (by show (_ : Nat) < 3; decide)).trans h1⟩, ⟨t2, p2, (hb.cell (p := ⟨2, 0, none⟩) (by show (_ : Nat) < 3; decide)).trans h2⟩⟩
theorem Errs.apart {w w' : World} {p : Nat} {u : Value} {su : St} (h : Errs w) (k : Fd w p u su) (ha : Apart p u.ownBlock w w') : Errs w' :=
  h.below (ha.below h.lt k.b (fun j hj => (k.r.lt j hj).1))
theorem S_mid (l : List UInt8) (a b : Nat) : (S l).extract a b = S ((l.drop a).take (b - a)) := by
  apply ByteArray.ext
  apply Array.toList_inj.1
  rw [Lib.extract_data, S_data, S_data]
/-- 'append(l, m...)' of what was heard: the run. -/
theorem append_heard (t : TypeId) (ht : Tryd.prog.underlying t = some (.slice 45)) (B B' : Nat) (v u : Value) (o l : List Hd) (hlen : o.length + l.length ≤ 1000000000000) (w : World)
    (ho : HOwn w B v o) (hB : B ≤ w.heap.size) (hu : HOwn w B' u l) :
    ∃ v' w', (∀ ty, (Builtin.append_ #[t, t] ty #[v, u]).run Tryd.prog w = .ok v' w') ∧ HOwn w' B v' (o ++ l) ∧ w.grownBy w' v.ownBlock := by
  obtain ⟨i0, hi, hz0, hz1, hz2⟩ := info_parts infoH
  obtain ⟨a, c, rfl, hr, hn⟩ := hu.row
  cases a with
  | none =>
    obtain rfl := hn rfl
    have hl : l = [] := by
      rcases hr with h | ⟨_, _, h, _⟩
      · exact h
      · cases h
    subst hl
    have h := fun ty => run_append_owned_none (P := Tryd.prog) (w := w) B t ty 45 i0 2 ht hi v o.length (cellsH o) ho
    rw [List.append_nil]
    exact ⟨_, _, h, ho, World.grownBy.refl w _⟩
  | some ad =>
    have hnews : ∀ j y, (cellsH l)[j]? = some y → w.cell? (ad.add j) = some y := by
      intro j y hj
      rcases hr with rfl | ⟨b, off, hab, hbw, hcell⟩
      · simp [cellsH] at hj
      · obtain rfl : ad = ⟨b, off, none⟩ := Option.some.inj hab
        have hjl : j < l.length * 2 := by
          rcases Nat.lt_or_ge j (l.length * 2) with h | h
          · exact h
          · rw [List.getElem?_eq_none (by rw [cellsH_length]; exact h)] at hj; cases hj
        have hq : j / 2 < l.length := by omega
        have hat := cellsH_at l (j / 2) hq
        have hcc := hcell (j / 2) hq
        rw [addr_add]
        rcases Nat.mod_two_eq_zero_or_one j with hm | hm
        · rw [show j / 2 * 2 = j by omega] at hat hcc
          rw [hat.1] at hj
          rw [hcc.1]; exact hj
        · rw [show j / 2 * 2 + 1 = j by omega] at hat
          rw [show off + j / 2 * 2 + 1 = off + j by omega] at hcc
          rw [hat.2] at hj
          rw [hcc.2]; exact hj
    have hrun := fun ty => run_append_own (P := Tryd.prog) (w := w) B t ty 45 i0 (.agg #[.int .i64 0, .string ⟨#[]⟩]) 2 24 ht hi hz0 hz1 hz2 rfl (by decide) v o.length (cellsH o) ho ad l.length c
      (cellsH l) (cellsH_length l) hnews (cellsH_one l) (by unfold maxLen; omega) (by omega) hB
    obtain ⟨v', w', h1, h2, h3, _⟩ := hrun t
    refine ⟨v', w', fun ty => ?_, ?_, h3⟩
    · exact h1
    · unfold HOwn; rw [List.length_append, cellsH_append]; exact h2
end Go.Proofs.YtnpikjobjmffgaaDoor.li
