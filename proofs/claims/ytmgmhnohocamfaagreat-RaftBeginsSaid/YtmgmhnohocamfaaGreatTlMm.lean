/-
  Who a log's members are: what the search for them keeps. No walk.
-/
import Derived.Test.YtmgmhnohocamfaaGreatTlIt
namespace Go.Proofs.YtmgmhnohocamfaaGreat.tl
set_option linter.unusedVariables false
open Go.RowKit Go.Shelf
open pk (S S_size S_data)
open qm (Bs noSh readS)
open rw (Arr But below_box bnext below_drew below_drewN)
open pt (Frm Moved Push Dep)

/-! ### What the entries say -/
theorem mem_none (g : Lg) : ∀ (n : Nat), (∀ x ∈ backs g n, says x.2 = none) → g.mem n = (g.conf, g.base)
  | 0, _ => rfl
  | n + 1, h => by
    have h1 := h _ List.mem_cons_self
    rw [Lg.mem, h1]
    exact mem_none g n fun x hx => h x (List.mem_cons_of_mem _ hx)
theorem mem_some (g : Lg) : ∀ (n : Nat) (pre : List (Nat × EnIn)) (x : Nat × EnIn) (l : List Int), pre ++ [x] <+: backs g n → (∀ y ∈ pre, says y.2 = none) → says x.2 = some l → g.mem n = (l, x.1)
  | 0, pre, x, l, h, _, _ => by
    have := h.length_le
    simp [backs] at this
  | n + 1, [], x, l, h, _, hx => by
    obtain ⟨t, e⟩ := h
    simp only [backs, List.nil_append, List.cons_append, List.cons.injEq] at e
    rw [e.1] at hx ⊢
    rw [Lg.mem, hx]
  | n + 1, y :: pre, x, l, h, hp, hx => by
    obtain ⟨t, e⟩ := h
    simp only [backs, List.cons_append, List.cons.injEq] at e
    have h1 := hp y List.mem_cons_self
    rw [e.1] at h1
    rw [Lg.mem, h1]
    exact mem_some g n pre x l ⟨t, e.2⟩ (fun z hz => hp z (List.mem_cons_of_mem _ hz)) hx
theorem backs_sub (g : Lg) : ∀ (n : Nat), n ≤ g.es.length → ∀ x ∈ backs g n, x.2 ∈ g.es ∧ g.base < x.1 ∧ x.1 ≤ g.base + n
  | 0, _, x, hx => by cases hx
  | n + 1, hn, x, hx => by
    rcases List.mem_cons.1 hx with rfl | hx
    · refine ⟨?_, by show g.base < g.base + n + 1; omega, Nat.le_refl _⟩
      rw [List.getD_eq_getElem?_getD, List.getElem?_eq_getElem (by omega), Option.getD_some]
      exact List.getElem_mem _
    · have := backs_sub g n (by omega) x hx
      exact ⟨this.1, this.2.1, by omega⟩
theorem says_no_kind {x : EnIn} (h : x.kind ≠ 2) : says x = none := if_neg (fun h2 => h h2.1)
theorem says_no_text {x : EnIn} (h : (readS x.data).2 ≠ 0) : says x = none := if_neg (fun h2 => h h2.2)
theorem says_yes {x : EnIn} (h : x.kind = 2) (h2 : (readS x.data).2 = 0) : says x = some (readS x.data).1 := if_pos ⟨h, h2⟩

/-! ### The boxes of the search -/
def cA : Obj := .cells #[.slice none 0 0] 36
def cB : Obj := .cells #[.int .u64 0] 34
def BoxO (Y : World) (q : Nat) (t : TypeId) (v : Value) : Option Nat → Prop
  | none => True
  | some b => q ≤ b ∧ Boxed Y b t v
/-- Under way: the box of the members, the box of their index, the members' copy, as far as they are there. -/
structure My (w Y : World) (cv ev : Value) (g : Lg) (oa ob : Option Nat) (ou : Option Value) : Prop where
  v0 : LV w cv ev g
  bx : Bx w Y w.heap.size cv ev g
  a : BoxO Y (w.heap.size + 1) 36 (.slice none 0 0) oa
  b : BoxO Y (w.heap.size + 1) 34 (.int .u64 0) ob
  u : ∀ u, ou = some u → rw.Own noSh Y (w.heap.size + 1) u g.conf
theorem BoxO.below {Y Y' : World} {q : Nat} {t : TypeId} {v : Value} {o : Option Nat} (h : BoxO Y q t v o) (k : Below Y.heap.size Y Y') : BoxO Y' q t v o := by
  cases o with
  | none => trivial
  | some b => exact ⟨h.1, (k.block b h.2.lt).trans h.2⟩
theorem My.below {w Y Y' : World} {cv ev : Value} {g : Lg} {oa ob : Option Nat} {ou : Option Value} (h : My w Y cv ev g oa ob ou) (k : Below Y.heap.size Y Y') : My w Y' cv ev g oa ob ou :=
  ⟨h.v0, h.bx.below k, h.a.below k, h.b.below k, fun u e => (h.u u e).below _ k⟩
theorem My.lt {w Y : World} {cv ev : Value} {g : Lg} {oa ob : Option Nat} {ou : Option Value} (h : My w Y cv ev g oa ob ou) : w.heap.size + 1 ≤ Y.heap.size := h.bx.a.lt
theorem My.allocA {w Y : World} {cv ev : Value} {g : Lg} {ob : Option Nat} {ou : Option Value} (h : My w Y cv ev g none ob ou) : My w (Y.alloc (.cells #[.slice none 0 0] 36)) cv ev g (some Y.heap.size) ob ou :=
  have k := below_box Y (.cells #[.slice none 0 0] 36)
  ⟨h.v0, h.bx.below k, ⟨h.lt, Boxed.new Y _ _⟩, h.b.below k, fun u e => (h.u u e).below _ k⟩
theorem My.allocB {w Y : World} {cv ev : Value} {g : Lg} {oa : Option Nat} {ou : Option Value} (h : My w Y cv ev g oa none ou) : My w (Y.alloc (.cells #[.int .u64 0] 34)) cv ev g oa (some Y.heap.size) ou :=
  have k := below_box Y (.cells #[.int .u64 0] 34)
  ⟨h.v0, h.bx.below k, h.a.below k, ⟨h.lt, Boxed.new Y _ _⟩, fun u e => (h.u u e).below _ k⟩
theorem My.allocAB {w Y : World} {cv ev : Value} {g : Lg} {ou : Option Value} (h : My w Y cv ev g none none ou) : My w ((Y.alloc (.cells #[.slice none 0 0] 36)).alloc (.cells #[.int .u64 0] 34)) cv ev g (some Y.heap.size) (some (Y.heap.size + 1)) ou := by
  have k := h.allocA.allocB
  rw [World.size_alloc] at k
  exact k
theorem My.allocBA {w Y : World} {cv ev : Value} {g : Lg} {ou : Option Value} (h : My w Y cv ev g none none ou) : My w ((Y.alloc (.cells #[.int .u64 0] 34)).alloc (.cells #[.slice none 0 0] 36)) cv ev g (some (Y.heap.size + 1)) (some Y.heap.size) ou := by
  have k := h.allocB.allocA
  rw [World.size_alloc] at k
  exact k
theorem My.drew {w Y : World} {cv ev : Value} {g : Lg} {oa ob : Option Nat} {ou : Option Value} (h : My w Y cv ev g oa ob ou) : My w Y.drew cv ev g oa ob ou := h.below (below_drew (Below.refl _ _))
theorem My.call {w Y Y' : World} {cv ev : Value} {g : Lg} {oa ob : Option Nat} {u : Value} (h : My w Y cv ev g oa ob none) (k : Below Y.heap.size Y Y') (o : rw.Own noSh Y' Y.heap.size u g.conf) : My w Y' cv ev g oa ob (some u) :=
  ⟨h.v0, h.bx.below k, h.a.below k, h.b.below k, fun u' e => by cases e; exact own_lower o h.lt⟩
/-- The members' box holds u, the index's box x. -/
structure Mb (w Y : World) (bl bat : Nat) (u : Value) (l : List Int) (x : Nat) : Prop where
  m : Boxed Y bl 36 u
  a : Boxed Y bat 34 (.int .u64 (x : Nat))
  o : rw.Own noSh Y (w.heap.size + 1) u l
theorem bl_ne {Y : World} {bl bat : Nat} {u v : Value} (h : Boxed Y bl 36 u) (k : Boxed Y bat 34 v) : bl ≠ bat := by
  rintro rfl
  unfold Boxed at h k
  rw [h] at k
  injection k with k
  injection k with _ k _
  exact absurd k (by decide)
theorem Mb.at_but {w Y Y' : World} {bl bat : Nat} {u : Value} {l : List Int} (h : rw.Own noSh Y (w.heap.size + 1) u l) {b : Nat} {t : TypeId} {v : Value} (hb : Boxed Y b t v) (ht : t ≠ 3) (k : But b Y Y') : rw.Own noSh Y' (w.heap.size + 1) u l := own_but h hb ht k
theorem My.first {w Y : World} {cv ev : Value} {g : Lg} {bl bat : Nat} {u : Value} (h : My w Y cv ev g (some bl) (some bat) (some u)) :
    Y.cell? ⟨bl, 0, none⟩ = some (.slice none 0 0) ∧ Y.frozen? ⟨bl, 0, none⟩ = false ∧ (Y.setCell ⟨bl, 0, none⟩ u).cell? ⟨bat, 0, none⟩ = some (.int .u64 0) ∧ (Y.setCell ⟨bl, 0, none⟩ u).frozen? ⟨bat, 0, none⟩ = false ∧ (Y.setCell ⟨bl, 0, none⟩ u).cell? ⟨w.heap.size, 0, none⟩ = some (.int .u64 (g.base : Nat)) := by
  have h2 := h.b.2.other (B' := bl) (fun e => bl_ne h.a.2 h.b.2 e.symm) u
  refine ⟨h.a.2.cell, h.a.2.frozen, h2.cell, h2.frozen, ?_⟩
  have kb : But bl Y (Y.setCell ⟨bl, 0, none⟩ u) := (But.refl bl Y).set 0 u
  exact kb.cell h.bx.cells.1 (by have := h.a.1; omega)
theorem My.cellA {w Y : World} {cv ev : Value} {g : Lg} {bl : Nat} {ob : Option Nat} {ou : Option Value} (h : My w Y cv ev g (some bl) ob ou) : Y.cell? ⟨bl, 0, none⟩ = some (.slice none 0 0) ∧ Y.frozen? ⟨bl, 0, none⟩ = false := ⟨h.a.2.cell, h.a.2.frozen⟩
theorem My.cellB {w Y : World} {cv ev : Value} {g : Lg} {bat : Nat} {oa : Option Nat} {ou : Option Value} (h : My w Y cv ev g oa (some bat) ou) : Y.cell? ⟨bat, 0, none⟩ = some (.int .u64 0) ∧ Y.frozen? ⟨bat, 0, none⟩ = false := ⟨h.b.2.cell, h.b.2.frozen⟩
theorem My.farB {w Y : World} {cv ev : Value} {g : Lg} {bat : Nat} {oa : Option Nat} {ou : Option Value} (h : My w Y cv ev g oa (some bat) ou) : (∀ o, (Y.alloc o).cell? ⟨bat, 0, none⟩ = some (.int .u64 0)) ∧ ∀ o, (Y.alloc o).frozen? ⟨bat, 0, none⟩ = false := ⟨fun o => (h.below (below_box _ o)).cellB.1, fun o => (h.below (below_box _ o)).cellB.2⟩
theorem My.farA {w Y : World} {cv ev : Value} {g : Lg} {bl : Nat} {ob : Option Nat} {ou : Option Value} (h : My w Y cv ev g (some bl) ob ou) : (∀ o, (Y.alloc o).cell? ⟨bl, 0, none⟩ = some (.slice none 0 0)) ∧ ∀ o, (Y.alloc o).frozen? ⟨bl, 0, none⟩ = false := ⟨fun o => (h.below (below_box _ o)).cellA.1, fun o => (h.below (below_box _ o)).cellA.2⟩
theorem My.done {w Y : World} {cv ev : Value} {g : Lg} {bl bat : Nat} {u : Value} (h : My w Y cv ev g (some bl) (some bat) (some u)) :
    Mb w ((Y.setCell ⟨bl, 0, none⟩ u).setCell ⟨bat, 0, none⟩ (.int .u64 (g.base : Nat))) bl bat u g.conf g.base ∧ Bx w ((Y.setCell ⟨bl, 0, none⟩ u).setCell ⟨bat, 0, none⟩ (.int .u64 (g.base : Nat))) w.heap.size cv ev g ∧ w.heap.size < bl ∧ w.heap.size < bat := by
  have hne := bl_ne h.a.2 h.b.2
  have k1 : But bl Y (Y.setCell ⟨bl, 0, none⟩ u) := (But.refl bl Y).set 0 u
  have l1 := h.a.2.set u
  have a1 := h.b.2.other (B' := bl) (fun e => hne e.symm) u
  have o1 := own_but (h.u u rfl) h.a.2 (by decide) k1
  generalize Y.setCell ⟨bl, 0, none⟩ u = Z at *
  have k2 : But bat Z (Z.setCell ⟨bat, 0, none⟩ (.int .u64 (g.base : Nat))) := (But.refl bat Z).set 0 _
  have l2 := l1.other (B' := bat) hne (.int .u64 (g.base : Nat))
  have a2 := a1.set (.int .u64 (g.base : Nat))
  have o2 := own_but o1 a1 (by decide) k2
  have B : Below (w.heap.size + 1) Y (Z.setCell ⟨bat, 0, none⟩ (.int .u64 (g.base : Nat))) := (k1.below h.lt h.a.1).trans (k2.below (by have := k1.size; have := h.lt; omega) h.b.1)
  generalize Z.setCell ⟨bat, 0, none⟩ (.int .u64 (g.base : Nat)) = F at *
  refine ⟨⟨l2, a2, o2⟩, ⟨h.bx.a.of (B.block _ (by omega)), h.v0.later (h.bx.b.trans (B.mono (by omega))), h.bx.b.trans (B.mono (by omega))⟩, by have := h.a.1; omega, by have := h.b.1; omega⟩
theorem alloc_set (Y : World) (o : Obj) (b : Nat) (v : Value) (h : b < Y.heap.size) : (Y.alloc o).setCell ⟨b, 0, none⟩ v = (Y.setCell ⟨b, 0, none⟩ v).alloc o := World.setCell_alloc_past o b 0 v h
/-- What stands behind the first region. -/
def MbX (w F : World) (cv ev : Value) (g : Lg) (bl bat : Nat) (u : Value) : Prop := Mb w F bl bat u g.conf g.base ∧ Bx w F w.heap.size cv ev g ∧ w.heap.size < bl ∧ w.heap.size < bat
theorem My.done' {w Y : World} {cv ev : Value} {g : Lg} {bl bat : Nat} {u : Value} (h : My w Y cv ev g (some bl) (some bat) (some u)) : MbX w ((Y.setCell ⟨bl, 0, none⟩ u).setCell ⟨bat, 0, none⟩ (.int .u64 (g.base : Nat))) cv ev g bl bat u := h.done
theorem My.endAB {w Y : World} {cv ev : Value} {g : Lg} {u : Value} (h : My w Y cv ev g none none (some u)) : MbX w ((Y.alloc (.cells #[u] 36)).alloc (.cells #[.int .u64 (g.base : Nat)] 34)) cv ev g Y.heap.size (Y.heap.size + 1) u := by
  have k1 := below_box Y (.cells #[u] 36)
  have l1 := Boxed.new Y 36 u
  have hs : (Y.alloc (.cells #[u] 36)).heap.size = Y.heap.size + 1 := by simp
  have o1 := (h.u u rfl).below _ k1
  have x1 := h.bx.below k1
  have hl := h.lt
  generalize Y.alloc (.cells #[u] 36) = Z at *
  have k2 := below_box Z (.cells #[.int .u64 (g.base : Nat)] 34)
  have a2 := Boxed.new Z 34 (.int .u64 (g.base : Nat))
  rw [hs] at a2
  exact ⟨⟨(k2.block _ l1.lt).trans l1, a2, o1.below _ k2⟩, x1.below k2, by omega, by omega⟩
theorem My.endBA {w Y : World} {cv ev : Value} {g : Lg} {u : Value} (h : My w Y cv ev g none none (some u)) : MbX w ((Y.alloc (.cells #[.int .u64 (g.base : Nat)] 34)).alloc (.cells #[u] 36)) cv ev g (Y.heap.size + 1) Y.heap.size u := by
  have k1 := below_box Y (.cells #[.int .u64 (g.base : Nat)] 34)
  have l1 := Boxed.new Y 34 (.int .u64 (g.base : Nat))
  have hs : (Y.alloc (.cells #[.int .u64 (g.base : Nat)] 34)).heap.size = Y.heap.size + 1 := by simp
  have o1 := (h.u u rfl).below _ k1
  have x1 := h.bx.below k1
  have hl := h.lt
  generalize Y.alloc (.cells #[.int .u64 (g.base : Nat)] 34) = Z at *
  have k2 := below_box Z (.cells #[u] 36)
  have a2 := Boxed.new Z 36 u
  rw [hs] at a2
  exact ⟨⟨a2, (k2.block _ l1.lt).trans l1, o1.below _ k2⟩, x1.below k2, by omega, by omega⟩
theorem My.setA {w Y : World} {cv ev : Value} {g : Lg} {bl : Nat} {u : Value} (h : My w Y cv ev g (some bl) none (some u)) : Boxed (Y.setCell ⟨bl, 0, none⟩ u) bl 36 u ∧ rw.Own noSh (Y.setCell ⟨bl, 0, none⟩ u) (w.heap.size + 1) u g.conf ∧ Bx w (Y.setCell ⟨bl, 0, none⟩ u) w.heap.size cv ev g ∧ w.heap.size < bl ∧ (Y.setCell ⟨bl, 0, none⟩ u).heap.size = Y.heap.size ∧ w.heap.size < Y.heap.size := by
  have k1 : But bl Y (Y.setCell ⟨bl, 0, none⟩ u) := (But.refl bl Y).set 0 u
  have B := k1.below h.lt h.a.1
  have hs : (Y.setCell ⟨bl, 0, none⟩ u).heap.size = Y.heap.size := by simp
  exact ⟨h.a.2.set u, own_but (h.u u rfl) h.a.2 (by decide) k1, ⟨h.bx.a.of (B.block _ (by omega)), h.v0.later (h.bx.b.trans (B.mono (by omega))), h.bx.b.trans (B.mono (by omega))⟩, by have := h.a.1; omega, hs, h.lt⟩
theorem My.setB {w Y : World} {cv ev : Value} {g : Lg} {bat : Nat} {u : Value} (h : My w Y cv ev g none (some bat) (some u)) : Boxed (Y.setCell ⟨bat, 0, none⟩ (.int .u64 (g.base : Nat))) bat 34 (.int .u64 (g.base : Nat)) ∧ rw.Own noSh (Y.setCell ⟨bat, 0, none⟩ (.int .u64 (g.base : Nat))) (w.heap.size + 1) u g.conf ∧ Bx w (Y.setCell ⟨bat, 0, none⟩ (.int .u64 (g.base : Nat))) w.heap.size cv ev g ∧ w.heap.size < bat ∧ (Y.setCell ⟨bat, 0, none⟩ (.int .u64 (g.base : Nat))).heap.size = Y.heap.size ∧ w.heap.size < Y.heap.size := by
  have k1 : But bat Y (Y.setCell ⟨bat, 0, none⟩ (.int .u64 (g.base : Nat))) := (But.refl bat Y).set 0 _
  have B := k1.below h.lt h.b.1
  have hs : (Y.setCell ⟨bat, 0, none⟩ (.int .u64 (g.base : Nat))).heap.size = Y.heap.size := by simp
  exact ⟨h.b.2.set _, own_but (h.u u rfl) h.b.2 (by decide) k1, ⟨h.bx.a.of (B.block _ (by omega)), h.v0.later (h.bx.b.trans (B.mono (by omega))), h.bx.b.trans (B.mono (by omega))⟩, by have := h.b.1; omega, hs, h.lt⟩
theorem My.endA {w Y : World} {cv ev : Value} {g : Lg} {bl : Nat} {u : Value} (h : My w Y cv ev g (some bl) none (some u)) : MbX w ((Y.setCell ⟨bl, 0, none⟩ u).alloc (.cells #[.int .u64 (g.base : Nat)] 34)) cv ev g bl Y.heap.size u := by
  obtain ⟨l1, o1, x1, g1, hs, g2⟩ := h.setA
  generalize Y.setCell ⟨bl, 0, none⟩ u = Z at *
  have k2 := below_box Z (.cells #[.int .u64 (g.base : Nat)] 34)
  have a2 := Boxed.new Z 34 (.int .u64 (g.base : Nat))
  rw [hs] at a2
  exact ⟨⟨(k2.block _ l1.lt).trans l1, a2, o1.below _ k2⟩, x1.below k2, g1, by omega⟩
theorem My.endB {w Y : World} {cv ev : Value} {g : Lg} {bat : Nat} {u : Value} (h : My w Y cv ev g none (some bat) (some u)) : MbX w ((Y.setCell ⟨bat, 0, none⟩ (.int .u64 (g.base : Nat))).alloc (.cells #[u] 36)) cv ev g Y.heap.size bat u := by
  obtain ⟨l1, o1, x1, g1, hs, g2⟩ := h.setB
  generalize Y.setCell ⟨bat, 0, none⟩ (.int .u64 (g.base : Nat)) = Z at *
  have k2 := below_box Z (.cells #[u] 36)
  have a2 := Boxed.new Z 36 u
  rw [hs] at a2
  exact ⟨⟨a2, (k2.block _ l1.lt).trans l1, o1.below _ k2⟩, x1.below k2, by omega, g1⟩
theorem My.endA' {w Y : World} {cv ev : Value} {g : Lg} {bl : Nat} {u : Value} (h : My w Y cv ev g (some bl) none (some u)) : MbX w ((Y.alloc (.cells #[.int .u64 (g.base : Nat)] 34)).setCell ⟨bl, 0, none⟩ u) cv ev g bl Y.heap.size u := by
  have hl := h.a.2.lt
  rw [show (Y.alloc (.cells #[.int .u64 (g.base : Nat)] 34)).setCell ⟨bl, 0, none⟩ u = (Y.setCell ⟨bl, 0, none⟩ u).alloc (.cells #[.int .u64 (g.base : Nat)] 34) from alloc_set Y _ bl u hl]
  exact h.endA
theorem My.endB' {w Y : World} {cv ev : Value} {g : Lg} {bat : Nat} {u : Value} (h : My w Y cv ev g none (some bat) (some u)) : MbX w ((Y.alloc (.cells #[u] 36)).setCell ⟨bat, 0, none⟩ (.int .u64 (g.base : Nat))) cv ev g Y.heap.size bat u := by
  have hl := h.b.2.lt
  rw [show (Y.alloc (.cells #[u] 36)).setCell ⟨bat, 0, none⟩ (.int .u64 (g.base : Nat)) = (Y.setCell ⟨bat, 0, none⟩ (.int .u64 (g.base : Nat))).alloc (.cells #[u] 36) from alloc_set Y _ bat _ hl]
  exact h.endB
end Go.Proofs.YtmgmhnohocamfaaGreat.tl
