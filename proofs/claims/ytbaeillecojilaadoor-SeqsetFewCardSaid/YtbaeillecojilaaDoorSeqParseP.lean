/-
  What the program's parseRange and Parse answer.
-/
import Derived.Test.YtbaeillecojilaaDoorSeqCutP
import Derived.Test.YtbaeillecojilaaDoorSeqP4
import Derived.Test.YtbaeillecojilaaDoorSeqParse
namespace Go.Proofs.YtbaeillecojilaaDoor.sq
open Go.RowKit

def okRange (p : List UInt8) : Value := if rangeOk p = true then .agg #[.int .u64 ((rangeOf p).1 : Nat), .int .u64 ((rangeOf p).2 : Nat)] else .agg #[.int .u64 0, .int .u64 0]

/-- The two cells of a result of the call's own. -/
structure Two (g : Nat) (x y : Int) (W : World) : Prop where
  c0 : W.cell? ⟨g, 0, none⟩ = some (.int .u64 x)
  c1 : W.cell? ⟨g, 1, none⟩ = some (.int .u64 y)
  f0 : W.frozen? ⟨g, 0, none⟩ = false
  f1 : W.frozen? ⟨g, 1, none⟩ = false
theorem Two.later {g : Nat} {x y : Int} {w w' : World} (h : Two g x y w) {B : Nat} (hb : Below B w w') (hg : g < B) : Two g x y w' :=
  ⟨(hb.cell (p := ⟨g, 0, none⟩) hg).trans h.c0, (hb.cell (p := ⟨g, 1, none⟩) hg).trans h.c1, (hb.frozen (p := ⟨g, 0, none⟩) hg).trans h.f0, (hb.frozen (p := ⟨g, 1, none⟩) hg).trans h.f1⟩
theorem Two.made (w : World) (x y : Int) (T : TypeId) : Two w.heap.size x y (w.alloc (.cells #[.int .u64 x, .int .u64 y] T)) :=
  ⟨by rw [World.cell?_alloc_new]; rfl, by rw [World.cell?_alloc_new]; rfl, World.frozen?_alloc_at _ _ _ _ rfl, World.frozen?_alloc_at _ _ _ _ rfl⟩

theorem Two.put {g : Nat} {x y : Int} {W : World} (h : Two g x y W) (u v : Int) : Two g u v ((W.setCell ⟨g, 0, none⟩ (.int .u64 u)).setCell ⟨g, 1, none⟩ (.int .u64 v)) where
  c0 := by
    rw [World.cell?_setCell_other _ _ _ _ (by first | (simp; done) | (simp; omega)), World.cell?_setCell_same' _ _ _ (by rw [h.c0]; rfl)]
  c1 := by
    rw [World.cell?_setCell_same' _ _ _ (by rw [World.cell?_setCell_other _ _ _ _ (by first | (simp; done) | (simp; omega)), h.c1]; rfl)]
  f0 := by rw [frozen_setCell, frozen_setCell]; exact h.f0
  f1 := by rw [frozen_setCell, frozen_setCell]; exact h.f1
theorem two_end {g : Nat} {w W : World} (hb : Below g w W) (h : Two g 0 0 W) (u v : Int) :
    Below g w ((W.setCell ⟨g, 0, none⟩ (.int .u64 u)).setCell ⟨g, 1, none⟩ (.int .u64 v)) ∧ Two g u v ((W.setCell ⟨g, 0, none⟩ (.int .u64 u)).setCell ⟨g, 1, none⟩ (.int .u64 v)) :=
  ⟨(hb.setCell (by simp) _).setCell (by simp) _, h.put u v⟩

set_option maxHeartbeats 2000000 in
set_option maxRecDepth 100000 in
theorem prange_any (p : List UInt8) (hl : p.length ≤ 140737488355328) (w : World) (hE : Errs w) :
    Calls Tryd.prog 25 #[.string (S p)] w fun e w' => e = .returned (.tuple #[okRange p, .bool (rangeOk p)]) ∧ Below w.heap.size w w' := by
  have hc := fun W => cut_any 58 p hl W
  have hbad : Hid (rangeOk p = false → okRange p = .agg #[.int .u64 0, .int .u64 0]) := fun h => by unfold okRange; rw [h]; rfl
  have hgood : Hid (∀ x y, rangeOk p = true → rangeOf p = (x, y) → okRange p = .agg #[.int .u64 (x : Nat), .int .u64 (y : Nat)]) := fun x y h h2 => by unfold okRange; rw [if_pos h, h2]
  have hb0 : Below w.heap.size w (w.alloc (.cells #[.int .u64 0, .int .u64 0] 41)) := (Below.refl _ _).alloc (Nat.le_refl _) _
  have ht0 := Two.made w 0 0 41
  have hs0 : w.heap.size < (w.alloc (.cells #[.int .u64 0, .int .u64 0] 41)).heap.size := by simp
  have HE := Lib.hid (hE.later hb0)
  have HH := Lib.hid (And.intro hb0 (And.intro ht0 hs0))
  clear hE hb0 ht0 hs0
  go_enter Tryd.func25, Tryd.ntmps25
  go_wp2_with fail
  obtain ⟨hb0, ht0, hs0⟩ := HH.out
  clear HH
  generalize w.alloc (.cells #[.int .u64 0, .int .u64 0] 41) = w0 at *
  have hbg : ∀ W, Below w0.heap.size w0 W → Below w.heap.size w W ∧ Two w.heap.size 0 0 W ∧ w.heap.size < W.heap.size := fun W k => ⟨hb0.trans (k.mono (by omega)), ht0.later k hs0, by have := k.size; omega⟩
  have HBG := Lib.hid hbg
  clear hb0 ht0 hs0 hbg
  refine (hc _).mono ?_
  rintro e w1 ⟨⟨h1, rfl⟩ | ⟨a, b, h1, h2, h3, rfl⟩, hb⟩
  · obtain ⟨q1, q2⟩ := part_none h1
    have HQ : Hid (rangeOk p = endOk p ∧ rangeOf p = (endOf p, endOf p)) := Lib.hid ⟨q1, q2⟩
    have HN : Hid (∀ W, Below w0.heap.size w0 W → _) := fun W k => parsenum_any p hl W (HE.out.later k)
    clear h1 q1 q2 hc HE hl
    generalize endOk p = eo at *
    generalize endOf p = ef at *
    go_wp2_with fail
    refine (HN.out w1 hb).mono ?_
    rintro e w2 ⟨rfl, b2⟩
    have hb2 := hb.trans (b2.mono hb.size)
    clear b2 hb
    go_wp2_with fail
    refine (HN.out w2 hb2).mono ?_
    rintro e w3 ⟨rfl, b3⟩
    have hb3 := hb2.trans (b3.mono hb2.size)
    clear b3 hb2 HN
    obtain ⟨k1, ⟨k2, k3, k4, k5⟩, k6⟩ := HBG.out w3 hb3
    clear hb3 HBG
    cases eo with
    | false =>
      obtain ⟨m1, m2⟩ := two_end k1 ⟨k2, k3, k4, k5⟩ 0 0
      have HM := Lib.hid (And.intro m1 m2)
      clear m1 m2
      go_wp2_with fail
      obtain ⟨m1, m2, m3, _, _⟩ := HM.out
      generalize World.setCell (World.setCell w3 _ _) _ _ = W at *
      refine bodyPost_ret (v := .tuple #[.agg #[.int .u64 0, .int .u64 0], .bool false]) ?_ ?_ ?_
      · simp [results, Tryd.results25, go_sem, m2, m3]
      · rfl
      refine ⟨?_, m1⟩
      rw [hbad.out (by rw [HQ.out.1]), HQ.out.1]
    | true =>
      obtain ⟨m1, m2⟩ := two_end k1 ⟨k2, k3, k4, k5⟩ (ef : Nat) (ef : Nat)
      have HM := Lib.hid (And.intro m1 m2)
      clear m1 m2
      go_wp2_with fail
      obtain ⟨m1, m2, m3, _, _⟩ := HM.out
      generalize World.setCell (World.setCell w3 _ _) _ _ = W at *
      refine bodyPost_ret (v := .tuple #[.agg #[.int .u64 (ef : Nat), .int .u64 (ef : Nat)], .bool true]) ?_ ?_ ?_
      · simp [results, Tryd.results25, go_sem, m2, m3]
      · rfl
      refine ⟨?_, m1⟩
      rw [hgood.out ef ef HQ.out.1 HQ.out.2, HQ.out.1]
  · obtain ⟨q1, q2⟩ := part_two h1
    have HQ : Hid (rangeOk p = (endOk a && endOk b) ∧ (rangeOk p = true → rangeOf p = (endOf a, endOf b))) := Lib.hid ⟨q1, q2⟩
    have HNA : Hid (∀ W, Below w0.heap.size w0 W → _) := fun W k => parsenum_any a (by omega) W (HE.out.later k)
    have HNB : Hid (∀ W, Below w0.heap.size w0 W → _) := fun W k => parsenum_any b (by omega) W (HE.out.later k)
    clear h1 h2 h3 q1 q2 hc HE hl
    generalize endOk a = eo at *
    generalize endOf a = ef at *
    generalize endOk b = fo at *
    generalize endOf b = ff at *
    go_wp2_with fail
    refine (HNA.out w1 hb).mono ?_
    rintro e w2 ⟨rfl, b2⟩
    have hb2 := hb.trans (b2.mono hb.size)
    clear b2 hb HNA
    go_wp2_with fail
    refine (HNB.out w2 hb2).mono ?_
    rintro e w3 ⟨rfl, b3⟩
    have hb3 := hb2.trans (b3.mono hb2.size)
    clear b3 hb2 HNB
    obtain ⟨k1, ⟨k2, k3, k4, k5⟩, k6⟩ := HBG.out w3 hb3
    clear hb3 HBG
    cases eo with
    | false =>
      obtain ⟨m1, m2⟩ := two_end k1 ⟨k2, k3, k4, k5⟩ 0 0
      have HM := Lib.hid (And.intro m1 m2)
      clear m1 m2
      go_wp2_with fail
      obtain ⟨m1, m2, m3, _, _⟩ := HM.out
      generalize World.setCell (World.setCell w3 _ _) _ _ = W at *
      refine bodyPost_ret (v := .tuple #[.agg #[.int .u64 0, .int .u64 0], .bool false]) ?_ ?_ ?_
      · simp [results, Tryd.results25, go_sem, m2, m3]
      · rfl
      refine ⟨?_, m1⟩
      rw [hbad.out (by rw [HQ.out.1]; rfl), HQ.out.1]; rfl
    | true =>
      cases fo with
      | false =>
        obtain ⟨m1, m2⟩ := two_end k1 ⟨k2, k3, k4, k5⟩ 0 0
        have HM := Lib.hid (And.intro m1 m2)
        clear m1 m2
        go_wp2_with fail
        obtain ⟨m1, m2, m3, _, _⟩ := HM.out
        generalize World.setCell (World.setCell w3 _ _) _ _ = W at *
        refine bodyPost_ret (v := .tuple #[.agg #[.int .u64 0, .int .u64 0], .bool false]) ?_ ?_ ?_
        · simp [results, Tryd.results25, go_sem, m2, m3]
        · rfl
        refine ⟨?_, m1⟩
        rw [hbad.out (by rw [HQ.out.1]; rfl), HQ.out.1]; rfl
      | true =>
        obtain ⟨m1, m2⟩ := two_end k1 ⟨k2, k3, k4, k5⟩ (ef : Nat) (ff : Nat)
        have HM := Lib.hid (And.intro m1 m2)
        clear m1 m2
        go_wp2_with fail
        obtain ⟨m1, m2, m3, _, _⟩ := HM.out
        generalize World.setCell (World.setCell w3 _ _) _ _ = W at *
        refine bodyPost_ret (v := .tuple #[.agg #[.int .u64 (ef : Nat), .int .u64 (ff : Nat)], .bool true]) ?_ ?_ ?_
        · simp [results, Tryd.results25, go_sem, m2, m3]
        · rfl
        refine ⟨?_, m1⟩
        rw [hgood.out ef ff (by rw [HQ.out.1]; rfl) (HQ.out.2 (by rw [HQ.out.1]; rfl)), HQ.out.1]; rfl
end Go.Proofs.YtbaeillecojilaaDoor.sq
