/-
  Rows of whatever structs, as they lie; a row of one's own that grows; what stays where one block turns. No walk, no function of the program is named.
-/
import Derived.Test.YtmgmhnohocamfaaGreatFlagBase
import Derived.Deep.OwnRows
import Derived.Deep.CutRange
import Derived.Laws.OwnMore
import Derived.Laws.Rows
import Derived.Maps.AppendAt
import Derived.Deep.QuietTactic
import Derived.BigQuiet
namespace Go.Proofs.YtmgmhnohocamfaaGreat.rw
set_option linter.unusedVariables false
open Go.RowKit

theorem addr_add (b off j : Nat) : (⟨b, off, none⟩ : Addr).add j = ⟨b, off + j, none⟩ := by unfold Addr.add; split <;> simp_all
theorem below_drew {B : Nat} {a w : World} (h : Below B a w) : Below B a w.drew := ⟨h.os, h.tape, h.output, h.size, h.block⟩
theorem below_drewN {B : Nat} {a w : World} (h : Below B a w) (n : Nat) : Below B a (w.drewN n) := ⟨h.os, h.tape, h.output, h.size, h.block⟩
theorem below_box (w : World) (o : Obj) : Below w.heap.size w (w.alloc o) := (Below.refl _ w).alloc (Nat.le_refl _) _
theorem bnext {w w1 w2 : World} (h : Below w.heap.size w w1) (k : Below w1.heap.size w1 w2) : Below w.heap.size w w2 := h.trans (k.mono h.size)
theorem size_1 (w : World) (o : Obj) : (w.alloc o).heap.size = w.heap.size + 1 := by simp

/-- A block's cells. -/
def Arr (w : World) (b : Nat) (t : TypeId) (cs : Array Value) : Prop := w.heap[b]? = some (.cells cs t (0, 0))
theorem Arr.lt {w : World} {b : Nat} {t : TypeId} {cs : Array Value} (h : Arr w b t cs) : b < w.heap.size := (Array.getElem?_eq_some_iff.1 h).1
theorem Arr.cell {w : World} {b : Nat} {t : TypeId} {cs : Array Value} (h : Arr w b t cs) {j : Nat} {v : Value} (hv : cs[j]? = some v) : w.cell? ⟨b, j, none⟩ = some v := (cell_of_row w b j cs t (0, 0) h).trans hv
theorem Arr.frozen {w : World} {b : Nat} {t : TypeId} {cs : Array Value} (h : Arr w b t cs) (j : Nat) : w.frozen? ⟨b, j, none⟩ = false := frozen_of_row w b j cs t h
theorem Arr.set {w : World} {b : Nat} {t : TypeId} {cs : Array Value} (h : Arr w b t cs) (j : Nat) (v : Value) : Arr (w.setCell ⟨b, j, none⟩ v) b t (cs.setIfInBounds j v) := heap_setCell_same w b j cs t v h
theorem Arr.new (w : World) (t : TypeId) (cs : Array Value) : Arr (w.alloc (.cells cs t)) w.heap.size t cs := heap_alloc_new w _
theorem Arr.of {w w' : World} {b : Nat} {t : TypeId} {cs : Array Value} (h : Arr w b t cs) (hb : w'.heap[b]? = w.heap[b]?) : Arr w' b t cs := hb.trans h
theorem Arr.below {w w' : World} {b : Nat} {t : TypeId} {cs : Array Value} (h : Arr w b t cs) (k : Below w.heap.size w w') : Arr w' b t cs := h.of (k.block b h.lt)

/-- All but one block is as it was. -/
structure But (q : Nat) (w w' : World) : Prop where
  os : w'.os = w.os
  tape : w'.tape = w.tape
  output : w'.output = w.output
  size : w.heap.size ≤ w'.heap.size
  block : ∀ k, k < w.heap.size → k ≠ q → w'.heap[k]? = w.heap[k]?
theorem But.refl (q : Nat) (w : World) : But q w w := ⟨rfl, rfl, rfl, Nat.le_refl _, fun _ _ _ => rfl⟩
theorem But.trans {q : Nat} {a b c : World} (h : But q a b) (k : But q b c) : But q a c :=
  ⟨k.os.trans h.os, k.tape.trans h.tape, k.output.trans h.output, Nat.le_trans h.size k.size, fun i hi hq => (k.block i (Nat.lt_of_lt_of_le hi h.size) hq).trans (h.block i hi hq)⟩
theorem But.of_below {q : Nat} {w w' : World} (h : Below w.heap.size w w') : But q w w' := ⟨h.os, h.tape, h.output, h.size, fun k hk _ => h.block k hk⟩
theorem But.then_below {q : Nat} {a b c : World} (h : But q a b) (k : Below b.heap.size b c) : But q a c := h.trans (But.of_below k)
theorem But.set {q : Nat} {a w : World} (h : But q a w) (j : Nat) (u : Value) : But q a (w.setCell ⟨q, j, none⟩ u) :=
  ⟨h.os, h.tape, h.output, by have := h.size; simpa [World.setCell] using this, fun k hk hq => (Below.heap_setCell w _ u k hq).trans (h.block k hk hq)⟩
theorem But.alloc {q : Nat} {a w : World} (h : But q a w) (o : Obj) : But q a (w.alloc o) :=
  ⟨h.os, h.tape, h.output, by have := h.size; simp; omega, fun k hk hq => (Below.heap_alloc w o k (Nat.lt_of_lt_of_le hk h.size)).trans (h.block k hk hq)⟩
theorem But.drew {q : Nat} {a w : World} (h : But q a w) : But q a w.drew := ⟨h.os, h.tape, h.output, h.size, h.block⟩
theorem But.drewN {q : Nat} {a w : World} (h : But q a w) (n : Nat) : But q a (w.drewN n) := ⟨h.os, h.tape, h.output, h.size, h.block⟩
theorem But.below {q : Nat} {w w' : World} (h : But q w w') {B : Nat} (hB : B ≤ w.heap.size) (hq : B ≤ q) : Below B w w' :=
  ⟨h.os, h.tape, h.output, h.size, fun k hk => h.block k (by omega) (by omega)⟩
theorem But.arr {q : Nat} {w w' : World} (h : But q w w') {b : Nat} {t : TypeId} {cs : Array Value} (hA : Arr w b t cs) (hq : b ≠ q) : Arr w' b t cs := hA.of (h.block b hA.lt hq)
theorem But.cell {q : Nat} {w w' : World} (h : But q w w') {b j : Nat} {v : Value} (hv : w.cell? ⟨b, j, none⟩ = some v) (hq : b ≠ q) : w'.cell? ⟨b, j, none⟩ = some v :=
  (World.cell?_of_block (h.block b (World.block_lt_of_cell? w _ hv) hq)).trans hv

/-- What a row's elements are: their type, their slices' type, their cells. -/
structure Sh (α : Type) where
  t : TypeId
  st : TypeId
  k : Nat
  bytes : Nat
  z : Value
  enc : α → List Value
  hu : Tryz.prog.underlying st = some (.slice t)
  hi : (Tryz.prog.info? t).map (fun i => (i.zero, i.size, i.bytes)) = some (some z, k, bytes)
  hz : z.cells.size = k
  hk : 0 < k
  hb : bytes ≤ 4096
  len : ∀ x, (enc x).length = k
  one : ∀ x, ∀ u ∈ enc x, u.oneCell' = true

section
variable {α : Type} (s : Sh α)
def cellsG (l : List α) : List Value := l.flatMap s.enc
theorem cellsG_length (l : List α) : (cellsG s l).length = l.length * s.k := by
  induction l with
  | nil => simp [cellsG]
  | cons x l ih =>
    unfold cellsG at *
    rw [List.flatMap_cons, List.length_append, ih, s.len, List.length_cons, Nat.add_mul]
    omega
theorem cellsG_append (a b : List α) : cellsG s (a ++ b) = cellsG s a ++ cellsG s b := by simp [cellsG]
theorem cellsG_one (x : α) : cellsG s [x] = s.enc x := by simp [cellsG]
theorem cellsG_get : ∀ (l : List α) (j : Nat) (hj : j < l.length) (i : Nat), i < s.k → (cellsG s l)[j * s.k + i]? = (s.enc l[j])[i]?
  | x :: l, 0, hj, i, hi => by
    unfold cellsG
    rw [List.flatMap_cons, List.getElem?_append_left (by rw [s.len]; omega)]
    simp
  | x :: l, j + 1, hj, i, hi => by
    have ih := cellsG_get l j (by simpa using hj) i hi
    unfold cellsG at *
    have e : (j + 1) * s.k + i = s.k + (j * s.k + i) := by rw [Nat.add_mul]; omega
    rw [List.flatMap_cons, List.getElem?_append_right (by rw [s.len]; omega), s.len, e, Nat.add_sub_cancel_left]
    simpa using ih
theorem cellsG_cell {l : List α} : ∀ u ∈ cellsG s l, u.oneCell' = true := by
  intro u hu
  obtain ⟨x, _, h⟩ := List.mem_flatMap.1 hu
  exact s.one x u h
/-- A row, or none. -/
def Row (w : World) (a : Option Addr) (l : List α) : Prop :=
  l = [] ∨ ∃ b off, a = some ⟨b, off, none⟩ ∧ b < w.heap.size ∧ (∀ j (h : j < l.length) i (hi : i < s.k), w.cell? ⟨b, off + j * s.k + i, none⟩ = (s.enc l[j])[i]?)
theorem Row.keep {w w' : World} {a : Option Addr} {l : List α} (h : Row s w a l) (hs : w.heap.size ≤ w'.heap.size) (hb : ∀ b off, a = some ⟨b, off, none⟩ → b < w.heap.size → w'.heap[b]? = w.heap[b]?) : Row s w' a l := by
  rcases h with h | ⟨b, off, e, hl, hc⟩
  · exact .inl h
  · exact .inr ⟨b, off, e, Nat.lt_of_lt_of_le hl hs, fun j hj i hi => (World.cell?_of_block (hb b off e hl)).trans (hc j hj i hi)⟩
theorem Row.at {w : World} {a : Option Addr} {l : List α} (h : Row s w a l) {j : Nat} (hj : j < l.length) : ∃ b off, a = some ⟨b, off, none⟩ ∧ b < w.heap.size ∧ ∀ i (hi : i < s.k), w.cell? ⟨b, off + j * s.k + i, none⟩ = (s.enc l[j])[i]? := by
  rcases h with rfl | ⟨b, off, e, hb, hc⟩
  · simp at hj
  · exact ⟨b, off, e, hb, fun i hi => hc j hj i hi⟩
/-- A slice of them. -/
def Sl (w : World) (v : Value) (l : List α) : Prop := ∃ a c, v = .slice a l.length c ∧ l.length ≤ c ∧ Row s w a l ∧ (a = none → c = 0)
theorem Sl.later {w w' : World} {v : Value} {l : List α} (h : Sl s w v l) (k : Below w.heap.size w w') : Sl s w' v l := by
  obtain ⟨a, c, h1, h2, h3, h4⟩ := h
  exact ⟨a, c, h1, h2, h3.keep s k.size fun b _ _ hb => k.block b hb, h4⟩
theorem Sl.nil (w : World) : Sl s w (.slice none 0 0) [] := ⟨none, 0, rfl, Nat.le_refl _, .inl rfl, fun _ => rfl⟩
/-- The slice isn't in that block (or it holds nothing). -/
def Off (q : Nat) (v : Value) (l : List α) : Prop := l ≠ [] → v.ownBlock ≠ some q
theorem Sl.but {q : Nat} {w w' : World} {v : Value} {l : List α} (h : Sl s w v l) (k : But q w w') (ho : Off q v l) : Sl s w' v l := by
  obtain ⟨a, c, h1, h2, h3, h4⟩ := h
  refine ⟨a, c, h1, h2, ?_, h4⟩
  by_cases he : l = []
  · exact .inl he
  · refine h3.keep s k.size fun b off e hb => k.block b hb fun e2 => ho he ?_
    rw [h1, e]; simp [Value.ownBlock, e2]
theorem Off.new {w : World} {v : Value} {l : List α} (h : Sl s w v l) {q : Nat} (hq : w.heap.size ≤ q) : Off q v l := by
  obtain ⟨a, c, h1, h2, h3, h4⟩ := h
  intro hne e
  rcases h3 with h | ⟨b, off, e2, hb, _⟩
  · exact hne h
  · rw [h1, e2] at e
    simp [Value.ownBlock] at e
    omega
/-- .. isn't in these blocks. -/
def Apt (F : Nat → Prop) (v : Value) (l : List α) : Prop := l ≠ [] → ∀ q, v.ownBlock = some q → ¬ F q
theorem Sl.lt {w : World} {v : Value} {l : List α} (h : Sl s w v l) (hl : l ≠ []) {q : Nat} (hq : v.ownBlock = some q) : q < w.heap.size := by
  obtain ⟨a, c, h1, h2, h3, h4⟩ := h
  rcases h3 with h | ⟨b, off, e, hb, _⟩
  · exact absurd h hl
  · rw [h1, e] at hq
    simp [Value.ownBlock] at hq
    omega
/-- A row of one's own. -/
abbrev Own (w : World) (B : Nat) (v : Value) (l : List α) : Prop := w.ownsRow B s.t s.k v l.length (cellsG s l)
theorem Own.nil (w : World) (B : Nat) : Own s w B (.slice none 0 0) [] := World.ownsRow_nil _ _ _ _
theorem Own.sl {w : World} {B : Nat} {v : Value} {l : List α} (h : Own s w B v l) : Sl s w v l := by
  have h2 := h
  rcases h.2 with ⟨rfl, h0⟩ | ⟨g, cap, cur, rfl, hg, hh, hn, hcap, hsz, htake⟩
  · have : l = [] := List.length_eq_zero_iff.1 h0
    subst this
    exact Sl.nil s w
  · refine ⟨_, _, rfl, hn, .inr ⟨g, 0, rfl, (Array.getElem?_eq_some_iff.1 hh).1, fun j hj i hi => ?_⟩, fun e => by cases e⟩
    have hlt : j * s.k + i < l.length * s.k := by
      have : (j + 1) * s.k ≤ l.length * s.k := Nat.mul_le_mul_right _ hj
      rw [Nat.add_mul] at this
      omega
    rw [Nat.zero_add, h2.cellAt (j * s.k + i) hlt]
    exact cellsG_get s l j hj i hi
theorem Own.off {w : World} {B : Nat} {v : Value} {l : List α} (h : Own s w B v l) {q : Nat} (hq : q < B) : Off q v l := by
  intro _ e
  have := (h.lt q e).1
  omega
theorem Own.below {w w' : World} {B : Nat} {v : Value} {l : List α} (h : Own s w B v l) (k : Below w.heap.size w w') : Own s w' B v l := by
  obtain ⟨h1, h2 | ⟨g, cap, cur, h3, h4, h5, h6⟩⟩ := h
  · exact ⟨h1, .inl h2⟩
  · exact ⟨h1, .inr ⟨g, cap, cur, h3, h4, (k.block g (Array.getElem?_eq_some_iff.1 h5).1).trans h5, h6⟩⟩
theorem Own.form {w : World} {B : Nat} {v : Value} {l : List α} (h : Own s w B v l) : ∃ a c, v = .slice a l.length c := by
  rcases h.2 with ⟨rfl, h0⟩ | ⟨g, cap, cur, rfl, _⟩
  · exact ⟨none, 0, by rw [h0]⟩
  · exact ⟨_, _, rfl⟩
/-- A literal's row. -/
theorem Own.lit (w : World) (l : List α) (hl : l.length < 1000000) (hne : l ≠ []) : Own s (w.alloc (.cells (cellsG s l).toArray s.t)) w.heap.size (.slice (some ⟨w.heap.size, 0, none⟩) l.length l.length) l :=
  World.ownsRow_lit (base := w.heap.size) (e := s.t) (size := s.k) w (cellsG s l).toArray l.length (Nat.le_refl _) (by unfold maxLen; omega) (by simp [cellsG_length])
abbrev App (v u : Value) (w : World) (v' : Value) (w' : World) : Prop := (Builtin.append_ #[s.st, s.st] s.st #[v, u]).run Tryz.prog w = .ok v' w'
/-- An append of a slice to a row of one's own: the run. -/
theorem append_own (B : Nat) (v : Value) (o l : List α) (u : Value) (hlen : o.length + l.length ≤ 34359738368) (w : World) (ho : Own s w B v o) (hB : B ≤ w.heap.size) (hu : Sl s w u l) :
    ∃ v' w', App s v u w v' w' ∧ Own s w' B v' (o ++ l) ∧ Below B w w' ∧ w.grownBy w' v.ownBlock := by
  obtain ⟨i0, hi, hz0, hz1, hz2⟩ := info_parts s.hi
  obtain ⟨a, c, rfl, hc, hr, hn⟩ := hu
  cases a with
  | none =>
    have hl : l = [] := by
      rcases hr with h | ⟨_, _, h, _⟩
      · exact h
      · cases h
    obtain rfl := hn rfl
    subst hl
    have h := run_append_owned_none (P := Tryz.prog) (w := w) B s.st s.st s.t i0 s.k s.hu hi v o.length (cellsG s o) ho
    rw [List.append_nil]
    exact ⟨_, _, h, ho, Below.refl _ _, World.grownBy.refl w _⟩
  | some ad =>
    have hnews : ∀ j y, (cellsG s l)[j]? = some y → w.cell? (ad.add j) = some y := by
      intro j y hj
      rcases hr with rfl | ⟨b, off, hab, hbw, hcell⟩
      · simp [cellsG] at hj
      · obtain rfl : ad = ⟨b, off, none⟩ := Option.some.inj hab
        have hjl : j < l.length * s.k := by
          rcases Nat.lt_or_ge j (l.length * s.k) with h | h
          · exact h
          · rw [List.getElem?_eq_none (by rw [cellsG_length]; exact h)] at hj; cases hj
        have hk0 := s.hk
        have hk : j / s.k < l.length := Nat.div_lt_of_lt_mul (by rw [Nat.mul_comm]; exact hjl)
        have hm : j % s.k < s.k := Nat.mod_lt _ hk0
        have e : j / s.k * s.k + j % s.k = j := by rw [Nat.mul_comm]; exact Nat.div_add_mod _ _
        have h1 := cellsG_get s l (j / s.k) hk (j % s.k) hm
        rw [e] at h1
        have h2 := hcell (j / s.k) hk (j % s.k) hm
        rw [Nat.add_assoc, e] at h2
        rw [addr_add, h2, ← h1, hj]
    have hby : (o.length + l.length) * s.bytes ≤ 140737488355328 := Nat.le_trans (Nat.mul_le_mul hlen s.hb) (by decide)
    obtain ⟨v', w', h1, h2, h3, _⟩ := run_append_own (P := Tryz.prog) (w := w) B s.st s.st s.t i0 s.z s.k s.bytes s.hu hi hz0 hz1 hz2 s.hz s.hk v o.length (cellsG s o) ho ad l.length c
      (cellsG s l) (cellsG_length s l) hnews (cellsG_cell s) (by unfold maxLen; omega) hby hB
    refine ⟨v', w', h1, ?_, (Below.refl B w).grown h3 hB (fun k hk => (ho.lt k hk).1), h3⟩
    show w'.ownsRow B s.t s.k v' (o ++ l).length (cellsG s (o ++ l))
    rw [List.length_append, cellsG_append]; exact h2
/-- 'append(v, x)': the run in the world that has the literal. -/
theorem append_one (B : Nat) (v : Value) (o : List α) (x : α) (hlen : o.length < 34359738368) (w : World) (ho : Own s w B v o) (hB : B ≤ w.heap.size) :
    ∃ v' w', App s v (.slice (some ⟨w.heap.size, 0, none⟩) 1 1) (w.alloc (.cells (s.enc x).toArray s.t)) v' w' ∧ Own s w' B v' (o ++ [x]) ∧ Below B w w' := by
  have b0 := below_box w (.cells (s.enc x).toArray s.t)
  have hl := (Own.lit s w [x] (by simp) (by simp)).sl
  rw [cellsG_one] at hl
  obtain ⟨v', w', h1, h2, h3, _⟩ := append_own s B v o [x] _ (by simp; omega) _ (ho.below s b0) (by simp; omega) hl
  exact ⟨v', w', h1, h2, (b0.mono hB).trans h3⟩
/-- 'append([]T{x}, u...)': a new row. -/
theorem append_lit (x : α) (u : Value) (l : List α) (hlen : l.length < 34359738368) (w : World) (hu : Sl s w u l) :
    ∃ v' w', App s (.slice (some ⟨w.heap.size, 0, none⟩) 1 1) u (w.alloc (.cells (s.enc x).toArray s.t)) v' w' ∧ Own s w' w.heap.size v' (x :: l) ∧ Below w.heap.size w w' := by
  have b0 := below_box w (.cells (s.enc x).toArray s.t)
  have ho := Own.lit s w [x] (by simp) (by simp)
  rw [cellsG_one] at ho
  obtain ⟨v', w', h1, h2, h3, _⟩ := append_own s w.heap.size _ [x] l u (by simp; omega) _ ho (by simp) (hu.later s b0)
  exact ⟨v', w', h1, h2, b0.trans h3⟩
/-- 'append([]T{}, u...)': a new row. -/
theorem append_none (u : Value) (l : List α) (hlen : l.length < 34359738368) (w : World) (hu : Sl s w u l) :
    ∃ v' w', App s (.slice (some ⟨w.heap.size, 0, none⟩) 0 0) u (w.alloc (.cells #[] s.t)) v' w' ∧ Own s w' w.heap.size v' l ∧ Below w.heap.size w w' := by
  have b0 := below_box w (.cells #[] s.t)
  have ho : Own s (w.alloc (.cells #[] s.t)) w.heap.size (.slice (some ⟨w.heap.size, 0, none⟩) 0 0) [] := World.ownsRow_made (base := w.heap.size) (e := s.t) (size := s.k) w #[] 0 (Nat.le_refl _) (by unfold maxLen; omega) (by simp)
  obtain ⟨v', w', h1, h2, h3, _⟩ := append_own s w.heap.size _ [] l u (by simp; omega) _ ho (by simp) (hu.later s b0)
  exact ⟨v', w', h1, by simpa using h2, b0.trans h3⟩
end
/-- An append whose run is known, at an operation that its guard lets by. -/
theorem wpList_append_at {P : Program} {w : World} {ops : Array Oper} {rest : List Oper} {o : Oper} {a : Act} {Q : Exit → Act → World → Prop} (s x : Operand) (t : TypeId)
    (hw : Region.wanted o (yielded ops a.tmps) = true)
    (ho : o.op = .call { callee := .builtin .append, args := #[s, x], argTypes := #[t, t] }) (vs vx v' : Value) (w' : World) (hs : a.eval s = vs) (hx : a.eval x = vx)
    (hr : (Builtin.append_ #[t, t] o.type #[vs, vx]).run P w = .ok v' w') (h : wpList P ops Q rest (a.put o.dst v') w') : wpList P ops Q (o :: rest) a w :=
  wpList_step fun K hK => by
    rw [if_pos hw]
    unfold Oper.wp execOp
    simp only [ho, resolve, invoke, builtin, Sem.run_bind, Sem.run_pure, Result.andThen_ok, List.map_toArray, List.map_cons, List.map_nil, hs, hx, hr]
    exact hK _ _ h
end Go.Proofs.YtmgmhnohocamfaaGreat.rw
