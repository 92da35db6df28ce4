/-
  The library's choice of a pivot lies in the part; what counts the swaps is a cell of the call's own.
-/
import Derived.Test.YtbaeillecojilaaDoorSrtRev
namespace Go.Proofs.YtbaeillecojilaaDoor.sq
open Go.RowKit
open Go.Sort (swp PermIn SortedIn ltInt SWO)

/-- Block q holds one number, which may be written; nothing else has turned since w. -/
structure One (w : World) (q : Nat) (w' : World) : Prop where
  grown : w.grownBy w' (some q)
  cell : ∃ s, w'.cell? ⟨q, 0, none⟩ = some (.int .i64 s)
  fz : w'.frozen? ⟨q, 0, none⟩ = false
theorem One.drewN {w w' : World} {q : Nat} (h : One w q w') (n : Nat) : One w q (w'.drewN n) := ⟨⟨h.grown.os, h.grown.tape, h.grown.output, h.grown.size, h.grown.block⟩, h.cell, h.fz⟩
theorem One.then {w w' w'' : World} {q : Nat} (h : One w q w') (k : One w' q w'') : One w q w'' := ⟨h.grown.trans k.grown, k.cell, k.fz⟩
theorem One.set {w w' : World} {q : Nat} (h : One w q w') (s : Int) : One w q (w'.setCell ⟨q, 0, none⟩ (.int .i64 s)) := by
  obtain ⟨s0, h0⟩ := h.cell
  exact ⟨grown_set h.grown 0 _, ⟨s, World.cell?_setCell_same' _ _ _ (by rw [h0]; rfl)⟩, by rw [frozen_set]; exact h.fz⟩
theorem One.row {w w' : World} {q g : Nat} {d : Array Int} (h : One w q w') (hr : RowI w g d) (hg : g < w.heap.size) (hne : g ≠ q) : RowI w' g d := fun t ht => by
  have hb := h.grown.block g hg (by simpa using hne)
  exact ⟨(World.cell?_of_block (a := ⟨g, t, none⟩) hb).trans (hr t ht).1, (World.frozen?_of_block (a := ⟨g, t, none⟩) hb).trans (hr t ht).2⟩

set_option maxHeartbeats 1000000 in
set_option maxRecDepth 100000 in
theorem order2_any (g cap q lo hi a b : Nat) (d : Array Int) (w : World) (hR : RowI w g d) (hq : One w q w) (ha : lo ≤ a ∧ a < hi) (hb : lo ≤ b ∧ b < hi) (hhi : hi ≤ d.size) :
    Calls Tryd.prog 99 #[.slice (some ⟨g, 0, none⟩) d.size cap, .int .i64 a, .int .i64 b, .pointer (some ⟨q, 0, none⟩)] w fun e w' =>
      (∃ a' b' : Nat, e = .returned (.tuple #[.int .i64 a', .int .i64 b']) ∧ (lo ≤ a' ∧ a' < hi) ∧ (lo ≤ b' ∧ b' < hi)) ∧ One w q w' := by
  obtain ⟨G, hG, hcw, hfw⟩ := (show ∃ G : Nat → Int, (∀ t, G t = d[t]!) ∧ (∀ t, t < d.size → w.cell? ⟨g, t, none⟩ = some (.int .u64 (G t))) ∧ ∀ t, t < d.size → w.frozen? ⟨g, t, none⟩ = false from
    ⟨fun t => d[t]!, fun _ => rfl, fun t ht => (hR t ht).1, fun t ht => (hR t ht).2⟩)
  clear hG hR
  have had : a < d.size := by omega
  have hbd : b < d.size := by omega
  have hadz : (a : Int) < (d.size : Int) := by omega
  have hbdz : (b : Int) < (d.size : Int) := by omega
  obtain ⟨s, hs⟩ := hq.cell
  have hfs := hq.fz
  have HQ := Lib.hid hq
  clear hq
  go_enter Tryd.func99, Tryd.ntmps99
  go_wp2
  go_quiet (first | (go_at_call 72; refine Calls.quiet_of_same (less_any _ _ _)))
  go_wp2
  · exact bodyPost_ret (results_tmp2 rfl _ _ _) rfl ⟨⟨b, a, rfl, hb, ha⟩, (HQ.out.drewN nq).set _⟩
  · exact bodyPost_ret (results_tmp2 rfl _ _ _) rfl ⟨⟨a, b, rfl, ha, hb⟩, HQ.out.drewN nq⟩

set_option maxRecDepth 100000 in
theorem median_any (g cap q lo hi a b c : Nat) (d : Array Int) (w : World) (hR : RowI w g d) (hg : g < w.heap.size) (hne : g ≠ q) (hq : One w q w) (ha : lo ≤ a ∧ a < hi) (hb : lo ≤ b ∧ b < hi) (hc : lo ≤ c ∧ c < hi) (hhi : hi ≤ d.size) :
    Calls Tryd.prog 87 #[.slice (some ⟨g, 0, none⟩) d.size cap, .int .i64 a, .int .i64 b, .int .i64 c, .pointer (some ⟨q, 0, none⟩)] w fun e w' =>
      (∃ m : Nat, e = .returned (.int .i64 m) ∧ (lo ≤ m ∧ m < hi)) ∧ One w q w' := by
  have HO : Hid (∀ (x y : Nat) W, One w q W → (lo ≤ x ∧ x < hi) → (lo ≤ y ∧ y < hi) → Calls Tryd.prog 99 #[.slice (some ⟨g, 0, none⟩) d.size cap, .int .i64 x, .int .i64 y, .pointer (some ⟨q, 0, none⟩)] W fun e w' =>
      (∃ a' b' : Nat, e = .returned (.tuple #[.int .i64 a', .int .i64 b']) ∧ (lo ≤ a' ∧ a' < hi) ∧ (lo ≤ b' ∧ b' < hi)) ∧ One w q w') := fun x y W hW hx hy =>
    (order2_any g cap q lo hi x y d W (hW.row hR hg hne) ⟨World.grownBy.refl _ _, hW.cell, hW.fz⟩ hx hy hhi).mono fun e w' ⟨h1, h2⟩ => ⟨h1, hW.then h2⟩
  have HQ := Lib.hid hq
  clear hq hR
  go_enter Tryd.func87, Tryd.ntmps87
  go_wp2_with fail
  refine (HO.out a b _ HQ.out ha hb).mono ?_
  rintro e w1 ⟨⟨a1, b1, rfl, ha1, hb1⟩, k1⟩
  have K1 := Lib.hid k1
  clear k1 HQ
  go_wp2_with fail
  refine (HO.out b1 c _ K1.out hb1 hc).mono ?_
  rintro e w2 ⟨⟨b2, c2, rfl, hb2, hc2⟩, k2⟩
  have K2 := Lib.hid k2
  clear k2 K1
  go_wp2_with fail
  refine (HO.out a1 b2 _ K2.out ha1 hb2).mono ?_
  rintro e w3 ⟨⟨a3, b3, rfl, ha3, hb3⟩, k3⟩
  have K3 := Lib.hid k3
  clear k3 K2 HO
  go_wp2_with fail
  go_ret
  exact ⟨⟨b3, rfl, hb3⟩, K3.out⟩

set_option maxRecDepth 100000 in
theorem adjacent_any (g cap q lo hi a : Nat) (d : Array Int) (w : World) (hR : RowI w g d) (hg : g < w.heap.size) (hne : g ≠ q) (hq : One w q w) (ha : lo + 1 ≤ a ∧ a + 1 < hi) (hhi : hi ≤ d.size) (hsz : d.size < 4611686018427387904) :
    Calls Tryd.prog 86 #[.slice (some ⟨g, 0, none⟩) d.size cap, .int .i64 a, .pointer (some ⟨q, 0, none⟩)] w fun e w' =>
      (∃ m : Nat, e = .returned (.int .i64 m) ∧ (lo ≤ m ∧ m < hi)) ∧ One w q w' := by
  have h := median_any g cap q lo hi (a - 1) a (a + 1) d w hR hg hne hq (by omega) (by omega) (by omega) hhi
  have hw1 := wrapi (show (a : Int) - 1 = ((a - 1 : Nat) : Int) by omega) (by omega)
  have hw2 := wrapi (show (a : Int) + 1 = ((a + 1 : Nat) : Int) by omega) (by omega)
  clear hR hq
  go_enter Tryd.func86, Tryd.ntmps86
  go_wp2_with fail
  refine h.mono ?_
  rintro e w3 ⟨⟨b3, rfl, hb3⟩, k3⟩
  have K3 := Lib.hid k3
  clear k3 h
  go_wp2_with fail
  go_ret
  exact ⟨⟨b3, rfl, hb3⟩, K3.out⟩
end Go.Proofs.YtbaeillecojilaaDoor.sq
