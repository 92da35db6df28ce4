/-
  Entries, logs, as they lie. No walk.
-/
import Derived.Test.YtmgmhnohocamfaaGreatQmP9
import Derived.Test.YtmgmhnohocamfaaGreatPackClone
import Derived.Laws.StructEq
import Derived.Laws.MakeOwn
import Derived.Lib.LazyBuf
import Derived.Deep.CutBlock
namespace Go.Proofs.YtmgmhnohocamfaaGreat.tl
set_option linter.unusedVariables false
open Go.RowKit
open pk (S S_size S_data)
open qm (Bs noSh)
open rw (Arr But below_box bnext below_drew below_drewN)

theorem S_inj {a b : Bs} (h : S a = S b) : a = b := by rw [← S_data a, h, S_data]
structure EnIn where
  term : Nat
  kind : Int
  data : Bs
def enSh : rw.Sh EnIn where
  t := 51
  st := 35
  k := 3
  bytes := 32
  z := .agg #[.int .u64 0, .int .i64 0, .string ⟨#[]⟩]
  enc := fun x => [.int .u64 (x.term : Nat), .int .i64 x.kind, .string (S x.data)]
  hu := Tryz.underlying35
  hi := by kernel_rfl
  hz := by rfl
  hk := by decide
  hb := by decide
  len := fun _ => rfl
  one := fun x u hu => by
    simp only [List.mem_cons, List.not_mem_nil, or_false] at hu
    rcases hu with rfl | rfl | rfl <;> rfl
theorem slN_at {w : World} {v : Value} {l : List Int} (h : rw.Sl noSh w v l) {j : Nat} (hj : j < l.length) : ∃ b off c, v = .slice (some ⟨b, off, none⟩) l.length c ∧ b < w.heap.size ∧ w.cell? ⟨b, off + j, none⟩ = some (.int .i64 l[j]) := by
  obtain ⟨a, c, rfl, hc, hr, hn⟩ := h
  obtain ⟨b, off, rfl, hb, hcell⟩ := hr.at _ hj
  have h0 := hcell 0 (by decide)
  exact ⟨b, off, c, rfl, hb, by simpa [noSh] using h0⟩
theorem slE_at {w : World} {v : Value} {l : List EnIn} (h : rw.Sl enSh w v l) {j : Nat} (hj : j < l.length) : ∃ b off c, v = .slice (some ⟨b, off, none⟩) l.length c ∧ b < w.heap.size ∧ w.cell? ⟨b, off + j * 3, none⟩ = some (.int .u64 (l[j].term : Nat)) ∧ w.cell? ⟨b, off + j * 3 + 1, none⟩ = some (.int .i64 l[j].kind) ∧ w.cell? ⟨b, off + j * 3 + 2, none⟩ = some (.string (S l[j].data)) := by
  obtain ⟨a, c, rfl, hc, hr, hn⟩ := h
  obtain ⟨b, off, rfl, hb, hcell⟩ := hr.at _ hj
  have h0 := hcell 0 (by decide)
  have h1 := hcell 1 (by decide)
  have h2 := hcell 2 (by decide)
  exact ⟨b, off, c, rfl, hb, by simpa [enSh] using h0, by simpa [enSh] using h1, by simpa [enSh] using h2⟩
theorem sl_form {α : Type} {s : rw.Sh α} {w : World} {v : Value} {l : List α} (h : rw.Sl s w v l) : ∃ a c, v = .slice a l.length c := by
  obtain ⟨a, c, h, _⟩ := h
  exact ⟨a, c, h⟩
theorem own_ne {α : Type} {s : rw.Sh α} {w : World} {B q : Nat} {v : Value} {l : List α} (h : rw.Own s w B v l) {t : TypeId} {cs : Array Value} {fr : Nat × Nat} (hq : w.heap[q]? = some (.cells cs t fr)) (ht : t ≠ s.t) : v.ownBlock ≠ some q := by
  intro e
  obtain ⟨h1, h2 | ⟨g, cap, cur, h3, h4, h5, h6⟩⟩ := h
  · rw [h2.1] at e; cases e
  · rw [h3] at e
    simp only [Value.ownBlock, Option.some.injEq] at e
    subst e
    rw [h5] at hq
    injection hq with hq
    injection hq with _ hq _
    exact ht hq.symm
theorem own_but {α : Type} {s : rw.Sh α} {w w' : World} {B q : Nat} {v : Value} {l : List α} (h : rw.Own s w B v l) {t : TypeId} {cs : Array Value} {fr : Nat × Nat} (hq : w.heap[q]? = some (.cells cs t fr)) (ht : t ≠ s.t) (k : But q w w') : rw.Own s w' B v l := qm.own_but h k (own_ne h hq ht)
theorem own_lower {α : Type} {s : rw.Sh α} {w : World} {B B' : Nat} {v : Value} {l : List α} (h : rw.Own s w B v l) (hB : B' ≤ B) : rw.Own s w B' v l := qm.own_mono h hB

/-- A log. -/
structure Lg where
  base : Nat
  bt : Nat
  conf : List Int
  es : List EnIn
def lgC (base bterm : Nat) (cv ev : Value) : Array Value := #[.int .u64 (base : Nat), .int .u64 (bterm : Nat), cv, ev]
abbrev Lg.v (g : Lg) (cv ev : Value) : Value := .agg #[.int .u64 (g.base : Nat), .int .u64 (g.bt : Nat), cv, ev]
/-- Its rows. -/
structure LV (w : World) (cv ev : Value) (g : Lg) : Prop where
  c : rw.Sl noSh w cv g.conf
  l : rw.Sl enSh w ev g.es
theorem LV.later {w w' : World} {cv ev : Value} {g : Lg} (h : LV w cv ev g) (k : Below w.heap.size w w') : LV w' cv ev g := ⟨h.c.later _ k, h.l.later _ k⟩
/-- How large it may be. -/
structure Fit (g : Lg) : Prop where
  base : g.base ≤ 4611686018427387904 + 1000000
  bt : g.bt < 18446744073709551616
  conf : g.conf.length ≤ 1000000000
  es : g.es.length ≤ 1000000
  e : ∀ x ∈ g.es, x.term < 18446744073709551616 ∧ x.data.length ≤ 281474976710656
/-- A log in a box. -/
structure Bx (w W : World) (b : Nat) (cv ev : Value) (g : Lg) : Prop where
  a : Arr W b 46 (lgC g.base g.bt cv ev)
  v : LV W cv ev g
  b : Below w.heap.size w W
theorem Bx.below {w W W' : World} {b : Nat} {cv ev : Value} {g : Lg} (h : Bx w W b cv ev g) (k : Below W.heap.size W W') : Bx w W' b cv ev g := ⟨h.a.below k, h.v.later k, h.b.trans (k.mono h.b.size)⟩
theorem LV.box {w : World} {cv ev : Value} {g : Lg} (h : LV w cv ev g) : Bx w (w.alloc (.cells #[.int .u64 (g.base : Nat), .int .u64 (g.bt : Nat), cv, ev] 46)) w.heap.size cv ev g := ⟨Arr.new w _ _, h.later (below_box _ _), below_box _ _⟩
theorem Bx.cells {w W : World} {b : Nat} {cv ev : Value} {g : Lg} (h : Bx w W b cv ev g) :
    W.cell? ⟨b, 0, none⟩ = some (.int .u64 (g.base : Nat)) ∧ W.cell? ⟨b, 1, none⟩ = some (.int .u64 (g.bt : Nat)) ∧ W.cell? ⟨b, 2, none⟩ = some cv ∧ W.cell? ⟨b, 3, none⟩ = some ev := ⟨h.a.cell rfl, h.a.cell rfl, h.a.cell rfl, h.a.cell rfl⟩
end Go.Proofs.YtmgmhnohocamfaaGreat.tl
