/-
  How keys lie; what kids, wants, Wants answer.
-/
import Derived.Test.YtekbjapclajflaaDoorMtSpec
import Derived.Deep.OwnRows
import Derived.Deep.CutRange
import Derived.Laws.OwnMore
import Derived.Laws.Rows
namespace Go.Proofs.YtekbjapclajflaaDoor.mt
open Go.RowKit Go.Shelf
open fl (S S_size S_append S_inj)

theorem addr_add (b off j : Nat) : (⟨b, off, none⟩ : Addr).add j = ⟨b, off + j, none⟩ := by unfold Addr.add; split <;> simp_all

/-- A block's cells. -/
def Arr (w : World) (b : Nat) (t : TypeId) (cs : Array Value) : Prop := w.heap[b]? = some (.cells cs t (0, 0))
theorem Arr.lt {w : World} {b : Nat} {t : TypeId} {cs : Array Value} (h : Arr w b t cs) : b < w.heap.size := (Array.getElem?_eq_some_iff.1 h).1
theorem Arr.cell {w : World} {b : Nat} {t : TypeId} {cs : Array Value} (h : Arr w b t cs) {j : Nat} {v : Value} (hv : cs[j]? = some v) : w.cell? ⟨b, j, none⟩ = some v := (cell_of_row w b j cs t (0, 0) h).trans hv
theorem Arr.frozen {w : World} {b : Nat} {t : TypeId} {cs : Array Value} (h : Arr w b t cs) (j : Nat) : w.frozen? ⟨b, j, none⟩ = false := frozen_of_row w b j cs t h
theorem Arr.set {w : World} {b : Nat} {t : TypeId} {cs : Array Value} (h : Arr w b t cs) (j : Nat) (v : Value) : Arr (w.setCell ⟨b, j, none⟩ v) b t (cs.setIfInBounds j v) := heap_setCell_same w b j cs t v h
theorem Arr.new (w : World) (t : TypeId) (cs : Array Value) : Arr (w.alloc (.cells cs t)) w.heap.size t cs := heap_alloc_new w _
theorem Arr.of {w w' : World} {b : Nat} {t : TypeId} {cs : Array Value} (h : Arr w b t cs) (hb : w'.heap[b]? = w.heap[b]?) : Arr w' b t cs := hb.trans h
theorem Arr.below {w w' : World} {b : Nat} {t : TypeId} {cs : Array Value} (h : Arr w b t cs) (k : Below w.heap.size w w') : Arr w' b t cs := h.of (k.block b h.lt)

/-- All but one block is as it was. -/
structure But (q : Nat) (w w' : World) : Prop where
  os : w'.os = w.os
  tape : w'.tape = w.tape
  output : w'.output = w.output
  size : w.heap.size ≤ w'.heap.size
  block : ∀ k, k < w.heap.size → k ≠ q → w'.heap[k]? = w.heap[k]?
theorem But.refl (q : Nat) (w : World) : But q w w := ⟨rfl, rfl, rfl, Nat.le_refl _, fun _ _ _ => rfl⟩
theorem But.trans {q : Nat} {a b c : World} (h : But q a b) (k : But q b c) : But q a c :=
  ⟨k.os.trans h.os, k.tape.trans h.tape, k.output.trans h.output, Nat.le_trans h.size k.size, fun i hi hq => (k.block i (Nat.lt_of_lt_of_le hi h.size) hq).trans (h.block i hi hq)⟩
theorem But.of_below {q : Nat} {w w' : World} (h : Below w.heap.size w w') : But q w w' := ⟨h.os, h.tape, h.output, h.size, fun k hk _ => h.block k hk⟩
theorem But.then_below {q : Nat} {a b c : World} (h : But q a b) (k : Below b.heap.size b c) : But q a c := h.trans (But.of_below k)
theorem But.set {q : Nat} {a w : World} (h : But q a w) (j : Nat) (u : Value) : But q a (w.setCell ⟨q, j, none⟩ u) :=
  ⟨h.os, h.tape, h.output, by have := h.size; simpa [World.setCell] using this, fun k hk hq => (Below.heap_setCell w _ u k hq).trans (h.block k hk hq)⟩
theorem But.alloc {q : Nat} {a w : World} (h : But q a w) (o : Obj) : But q a (w.alloc o) :=
  ⟨h.os, h.tape, h.output, by have := h.size; simp; omega, fun k hk hq => (Below.heap_alloc w o k (Nat.lt_of_lt_of_le hk h.size)).trans (h.block k hk hq)⟩
theorem But.drewN {q : Nat} {a w : World} (h : But q a w) (n : Nat) : But q a (w.drewN n) := ⟨h.os, h.tape, h.output, h.size, h.block⟩
theorem But.below {q : Nat} {w w' : World} (h : But q w w') {B : Nat} (hB : B ≤ w.heap.size) (hq : B ≤ q) : Below B w w' :=
  ⟨h.os, h.tape, h.output, h.size, fun k hk => h.block k (by omega) (by omega)⟩
theorem But.arr {q : Nat} {w w' : World} (h : But q w w') {b : Nat} {t : TypeId} {cs : Array Value} (hA : Arr w b t cs) (hq : b ≠ q) : Arr w' b t cs := hA.of (h.block b hA.lt hq)

/-- A key's Set lies there. -/
def SetIn (w : World) (k : Key) : Prop := ∃ a c, k.sv = .slice a k.set.length c ∧ sq.RowR w a k.set ∧ k.set.length ≤ 140737488355328 ∧ k.kids ≤ 9223372036854775807
theorem SetIn.later {w w' : World} {k : Key} (h : SetIn w k) (b : Below w.heap.size w w') : SetIn w' k := by
  obtain ⟨a, c, h1, h2, h3⟩ := h
  exact ⟨a, c, h1, h2.later b, h3⟩
def keyCells (k : Key) : List Value := [.int .i64 k.kind, .int .i64 k.kids, .string (S k.field), .string (S k.text), .int .u64 (k.n : Nat), k.sv]
def cellsK (l : List Key) : List Value := l.flatMap keyCells
/-- A row of keys, or none. -/
def RowK (w : World) (a : Option Addr) (l : List Key) : Prop :=
  l = [] ∨ ∃ b off, a = some ⟨b, off, none⟩ ∧ b < w.heap.size ∧ ∀ j (h : j < l.length) i (hi : i < 6), w.cell? ⟨b, off + j * 6 + i, none⟩ = (keyCells l[j])[i]?
theorem RowK.keep {w w' : World} {a : Option Addr} {l : List Key} (h : RowK w a l) (hs : w.heap.size ≤ w'.heap.size) (hb : ∀ b off, a = some ⟨b, off, none⟩ → b < w.heap.size → w'.heap[b]? = w.heap[b]?) : RowK w' a l := by
  rcases h with h | ⟨b, off, e, hl, hc⟩
  · exact .inl h
  · exact .inr ⟨b, off, e, Nat.lt_of_lt_of_le hl hs, fun j hj i hi => (World.cell?_of_block (hb b off e hl)).trans (hc j hj i hi)⟩
theorem RowK.later {w w' : World} {a : Option Addr} {l : List Key} (h : RowK w a l) (k : Below w.heap.size w w') : RowK w' a l := h.keep k.size fun b _ _ hb => k.block b hb
/-- A slice of keys, all that they hold lying there. -/
structure Sl (w : World) (v : Value) (l : List Key) : Prop where
  form : ∃ a c, v = .slice a l.length c ∧ l.length ≤ c ∧ RowK w a l ∧ (a = none → c = 0)
  sets : ∀ k ∈ l, SetIn w k
theorem Sl.later {w w' : World} {v : Value} {l : List Key} (h : Sl w v l) (k : Below w.heap.size w w') : Sl w' v l := by
  obtain ⟨⟨a, c, h1, h2, h3, h4⟩, h5⟩ := h
  exact ⟨⟨a, c, h1, h2, h3.later k, h4⟩, fun x hx => (h5 x hx).later k⟩
theorem Sl.nil (w : World) : Sl w (.slice none 0 0) [] := ⟨⟨none, 0, rfl, Nat.le_refl _, .inl rfl, fun _ => rfl⟩, fun k hk => by cases hk⟩
/-- What an own row's block is: not another's. -/
def OffK (q : Nat) (v : Value) (l : List Key) : Prop := (l ≠ [] → v.ownBlock ≠ some q) ∧ ∀ k ∈ l, k.set ≠ [] → k.sv.ownBlock ≠ some q
theorem Sl.but {q : Nat} {w w' : World} {v : Value} {l : List Key} (h : Sl w v l) (k : But q w w') (ho : OffK q v l) : Sl w' v l := by
  obtain ⟨⟨a, c, h1, h2, h3, h4⟩, h5⟩ := h
  refine ⟨⟨a, c, h1, h2, ?_, h4⟩, fun x hx => ?_⟩
  · by_cases he : l = []
    · exact .inl he
    · refine h3.keep k.size fun b off e hb => k.block b hb fun e2 => ho.1 he ?_
      rw [h1, e]; simp [Value.ownBlock, e2]
  · obtain ⟨a', c', g1, g2, g3⟩ := h5 x hx
    refine ⟨a', c', g1, ?_, g3⟩
    by_cases he : x.set = []
    · exact .inl he
    · rcases g2 with g | ⟨b, off, e, hb, hc⟩
      · exact absurd g he
      · have hne : b ≠ q := fun e2 => ho.2 x hx he (by rw [g1, e]; simp [Value.ownBlock, e2])
        refine .inr ⟨b, off, e, Nat.lt_of_lt_of_le hb k.size, fun j hj => ?_⟩
        have := k.block b hb hne
        exact ⟨(World.cell?_of_block this).trans (hc j hj).1, (World.cell?_of_block this).trans (hc j hj).2⟩
theorem OffK.new {w : World} {v : Value} {l : List Key} (h : Sl w v l) {q : Nat} (hq : w.heap.size ≤ q) : OffK q v l := by
  obtain ⟨⟨a, c, h1, h2, h3, h4⟩, h5⟩ := h
  refine ⟨fun hne e => ?_, fun x hx hne e => ?_⟩
  · rcases h3 with h | ⟨b, off, e2, hb, _⟩
    · exact hne h
    · rw [h1, e2] at e
      simp [Value.ownBlock] at e
      omega
  · obtain ⟨a', c', g1, g2, g3⟩ := h5 x hx
    rcases g2 with h | ⟨b, off, e2, hb, _⟩
    · exact hne h
    · rw [g1, e2] at e
      simp [Value.ownBlock] at e
      omega
theorem OffK.tail {q : Nat} {v v' : Value} {k : Key} {l : List Key} (h : OffK q v (k :: l)) (hv : v'.ownBlock = v.ownBlock) : OffK q v' l :=
  ⟨fun _ => by rw [hv]; exact h.1 (by simp), fun x hx => h.2 x (List.mem_cons_of_mem _ hx)⟩
/-- The first key's cells. -/
structure KeyAt (w : World) (p : Addr) (k : Key) : Prop where
  c0 : w.cell? p = some (.int .i64 k.kind)
  c1 : w.cell? (p.add 1) = some (.int .i64 k.kids)
  c2 : w.cell? (p.add 2) = some (.string (S k.field))
  c3 : w.cell? (p.add 3) = some (.string (S k.text))
  c4 : w.cell? (p.add 4) = some (.int .u64 (k.n : Nat))
  c5 : w.cell? (p.add 5) = some k.sv
theorem rowK_at {w : World} {a : Option Addr} {l : List Key} (h : RowK w a l) {j : Nat} (hj : j < l.length) : ∃ b off, a = some ⟨b, off, none⟩ ∧ b < w.heap.size ∧
    w.cell? ⟨b, off + j * 6, none⟩ = some (.int .i64 l[j].kind) ∧ w.cell? ⟨b, off + j * 6 + 1, none⟩ = some (.int .i64 l[j].kids) ∧ w.cell? ⟨b, off + j * 6 + 2, none⟩ = some (.string (S l[j].field)) ∧ w.cell? ⟨b, off + j * 6 + 3, none⟩ = some (.string (S l[j].text)) ∧ w.cell? ⟨b, off + j * 6 + 4, none⟩ = some (.int .u64 (l[j].n : Nat)) ∧ w.cell? ⟨b, off + j * 6 + 5, none⟩ = some l[j].sv := by
  rcases h with rfl | ⟨b, off, e, hb, hc⟩
  · simp at hj
  · exact ⟨b, off, e, hb, hc j hj 0 (by decide), hc j hj 1 (by decide), hc j hj 2 (by decide), hc j hj 3 (by decide), hc j hj 4 (by decide), hc j hj 5 (by decide)⟩
theorem rowK_tail {w : World} {b off : Nat} {k : Key} {l : List Key} (h : RowK w (some ⟨b, off, none⟩) (k :: l)) : RowK w (some ⟨b, off + 6, none⟩) l := by
  rcases h with h | ⟨b', off', e, hb, hc⟩
  · cases h
  · cases e
    refine .inr ⟨b, off + 6, rfl, hb, fun j hj i hi => ?_⟩
    have := hc (j + 1) (by simp; omega) i hi
    rw [show off + (j + 1) * 6 + i = off + 6 + j * 6 + i by omega] at this
    simpa using this

/-- A key, as a value. -/
def keyV (k : Key) : Value := .agg #[.int .i64 k.kind, .int .i64 k.kids, .string (S k.field), .string (S k.text), .int .u64 (k.n : Nat), k.sv]

theorem below_drew {B : Nat} {a w : World} (h : Below B a w) : Below B a w.drew := ⟨h.os, h.tape, h.output, h.size, h.block⟩
theorem below_box (w : World) (o : Obj) : Below w.heap.size w (w.alloc o) := (Below.refl _ w).alloc (Nat.le_refl _) _

set_option maxRecDepth 100000 in
theorem kids_any (k : Key) (w : World) :
    Calls Tryd.prog 14 #[keyV k] w fun e w' => e = .returned (.tuple #[.int .i64 (kidsN k), .bool (kidsOk k)]) ∧ Below w.heap.size w w' := by
  obtain ⟨kind, kids, field, text, n, set, sv⟩ := k
  unfold keyV kidsN kidsOk
  simp only
  by_cases h1 : kind = 1
  · have hq : (kind == 1) = true := by rw [h1]; rfl
    rw [if_pos h1, if_pos h1]
    clear h1
    go_enter Tryd.func14, Tryd.ntmps14
    go_wp2
    go_region
    go_wp2
    all_goals go_ret2
    all_goals exact ⟨rfl, below_drew (below_box w _)⟩
  have q1 : (kind == 1) = false := by rw [beq_eq_false_iff_ne]; exact h1
  rw [if_neg h1, if_neg h1]
  clear h1
  by_cases h2 : kind = 2
  · have hq : (kind == 2) = true := by rw [h2]; rfl
    rw [if_pos h2, if_pos h2]
    clear h2
    go_enter Tryd.func14, Tryd.ntmps14
    go_wp2
    all_goals go_ret2
    all_goals exact ⟨rfl, below_box w _⟩
  have q2 : (kind == 2) = false := by rw [beq_eq_false_iff_ne]; exact h2
  rw [if_neg h2, if_neg h2]
  clear h2
  by_cases h3 : kind = 3
  · have hq : (kind == 3) = true := by rw [h3]; rfl
    rw [if_pos h3, if_pos h3]
    clear h3
    go_enter Tryd.func14, Tryd.ntmps14
    go_wp2
    all_goals go_ret2
    all_goals exact ⟨rfl, below_box w _⟩
  have q3 : (kind == 3) = false := by rw [beq_eq_false_iff_ne]; exact h3
  rw [if_neg h3, if_neg h3]
  clear h3
  by_cases h4 : 4 ≤ kind
  · have hd : decide (4 ≤ kind) = true := decide_eq_true h4
    rw [hd]
    clear h4
    go_enter Tryd.func14, Tryd.ntmps14
    go_wp2
    go_region
    go_wp2
    all_goals go_ret2
    all_goals exact ⟨rfl, below_drew (below_box w _)⟩
  · have hd : decide (4 ≤ kind) = false := decide_eq_false h4
    rw [hd]
    clear h4
    go_enter Tryd.func14, Tryd.ntmps14
    go_wp2
    go_region
    go_wp2
    all_goals go_ret2
    all_goals exact ⟨rfl, below_drew (below_box w _)⟩

set_option maxRecDepth 100000 in
theorem want_any (k : Key) (w : World) :
    Calls Tryd.prog 16 #[keyV k] w fun e w' => e = .returned (.bool (want k)) ∧ Below w.heap.size w w' := by
  obtain ⟨kind, kids, field, text, n, set, sv⟩ := k
  unfold keyV want
  simp only
  by_cases h1 : kind = 11
  · have hq : (kind == 11) = true := by rw [h1]; rfl
    rw [decide_eq_true h1]
    clear h1
    go_enter Tryd.func16, Tryd.ntmps16
    go_wp2
    go_ret
    exact ⟨rfl, below_box w _⟩
  have q1 : (kind == 11) = false := by rw [beq_eq_false_iff_ne]; exact h1
  rw [decide_eq_false h1]
  clear h1
  by_cases h2 : kind = 12
  · have hq : (kind == 12) = true := by rw [h2]; rfl
    rw [decide_eq_true h2]
    clear h2
    go_enter Tryd.func16, Tryd.ntmps16
    go_wp2
    go_ret
    exact ⟨rfl, below_box w _⟩
  have q2 : (kind == 12) = false := by rw [beq_eq_false_iff_ne]; exact h2
  rw [decide_eq_false h2]
  clear h2
  by_cases h3 : kind = 13
  · have hq : (kind == 13) = true := by rw [h3]; rfl
    rw [decide_eq_true h3]
    clear h3
    go_enter Tryd.func16, Tryd.ntmps16
    go_wp2
    go_ret
    exact ⟨rfl, below_box w _⟩
  · have hq : (kind == 13) = false := by rw [beq_eq_false_iff_ne]; exact h3
    rw [decide_eq_false h3]
    clear h3
    go_enter Tryd.func16, Tryd.ntmps16
    go_wp2
    go_ret
    exact ⟨rfl, below_box w _⟩

/-- At which place it first stands. -/
def firstAt (l : List Key) (i : Int) : Prop := (i = -1 ∧ l.any want = false) ∨ (0 ≤ i ∧ l.any want = true)

set_option maxHeartbeats 1000000 in
set_option maxRecDepth 100000 in
theorem index_any (a : Option Addr) (cap : Nat) (l : List Key) (hl : l.length ≤ 140737488355328) (w : World) (hr : RowK w a l) :
    Calls Tryd.prog 19 #[.slice a l.length cap, .func (.func 16) #[] #[]] w fun e w' => (∃ i, e = .returned (.int .i64 i) ∧ firstAt l i) ∧ Below w.heap.size w w' := by
  go_enter Tryd.func19, Tryd.ntmps19
  go_wp2
  go_loopw [8] (fun i wr => ∃ k : Nat, i = .int .i64 k ∧ k ≤ l.length ∧ Hid (∀ j (h : j < l.length), j < k → want l[j] = false) ∧ Below w.heap.size w wr)
    (fun i _ => l.length - (intOf i).toNat)
  case atStart => exact ⟨0, rfl, Nat.zero_le _, Lib.hid (fun j _ h => absurd h (by omega)), Below.refl _ _⟩
  case round =>
    obtain ⟨k, rfl, hk, HN, hB⟩ := hrel
    by_cases hlt : k < l.length
    · obtain ⟨b, off, rfl, hb, c0, c1, c2, c3, c4, c5⟩ := rowK_at (hr.later hB) hlt
      have hki : (k : Int) < (l.length : Int) := by omega
      obtain ⟨x, hx⟩ : ∃ x, l[k]'hlt = x := ⟨_, rfl⟩
      rw [hx] at c0 c1 c2 c3 c4 c5
      have HW := want_any x wr
      have hnr : Hid (want x = false → ∀ j (h : j < l.length), j < k + 1 → want l[j] = false) := fun hf j h hj => by
        by_cases h2 : j < k
        · exact HN.out j h h2
        · obtain rfl : j = k := by omega
          rw [hx]; exact hf
      have hyr : Hid (want x = true → l.any want = true) := fun ht => sq.list_yes want l k hlt (by rw [hx]; exact ht)
      unfold keyV at HW
      generalize want x = r at *
      clear hx HN hr
      go_wp2_with fail
      refine HW.mono ?_
      rintro e w1 ⟨rfl, b1⟩
      have hB1 : Below w.heap.size w w1 := hB.trans (b1.mono hB.size)
      clear hB b1 c0 c1 c2 c3 c4 c5 HW hb
      cases r with
      | true =>
        have HY := Lib.hid (hyr.out rfl)
        clear hyr hnr
        go_wp2
        go_ret
        exact ⟨⟨_, rfl, .inr ⟨by omega, HY.out⟩⟩, hB1⟩
      | false =>
        have HF := Lib.hid (hnr.out rfl)
        clear hyr hnr
        go_wp2
        go_roundw
        case rel => exact ⟨k + 1, by go_num, by omega, HF, hB1⟩
        case measure => simp [intOf]; omega
    · obtain rfl : k = l.length := by omega
      have HM : Hid (l.any want = false) := Lib.hid (sq.list_not want l HN.out)
      clear HN hr
      go_wp2
      go_ret
      exact ⟨⟨_, rfl, .inl ⟨rfl, HM.out⟩⟩, hB⟩

set_option maxRecDepth 100000 in
theorem wants_any (v : Value) (l : List Key) (hl : l.length ≤ 140737488355328) (w : World) (h : Sl w v l) :
    Calls Tryd.prog 10 #[v] w fun e w' => e = .returned (.bool (l.any want)) ∧ Below w.heap.size w w' := by
  obtain ⟨⟨a, c, rfl, _, hr, _⟩, _⟩ := h
  have hc : Calls Tryd.prog 15 #[.slice a l.length c, .func (.func 16) #[] #[]] w fun e w' => e = .returned (.bool (l.any want)) ∧ Below w.heap.size w w' := by
    have hi := index_any a c l hl w hr
    unfold firstAt at hi
    generalize l.any want = r at *
    clear hr
    go_enter Tryd.func15, Tryd.ntmps15
    go_wp2_with fail
    refine hi.mono ?_
    rintro e w1 ⟨⟨i, rfl, hf⟩, b1⟩
    clear hi
    rcases hf with ⟨rfl, hf⟩ | ⟨h0, hf⟩
    · subst hf
      go_wp2_with fail
      go_ret
      exact ⟨rfl, b1⟩
    · subst hf
      have hd : decide (i ≥ 0) = true := decide_eq_true h0
      go_wp2_with fail
      go_ret
      exact ⟨by first | rfl | simp [h0], b1⟩
  go_enter Tryd.func10, Tryd.ntmps10
  go_wp2_with fail
  refine hc.mono ?_
  rintro e w1 ⟨rfl, b1⟩
  go_wp2_with fail
  go_ret
  exact ⟨rfl, b1⟩
end Go.Proofs.YtekbjapclajflaaDoor.mt
