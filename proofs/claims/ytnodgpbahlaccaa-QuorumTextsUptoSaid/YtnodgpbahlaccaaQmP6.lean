/-
  Rows put together: the library's Grow and Concat.
-/
import Derived.Test.YtnodgpbahlaccaaQmP5
import Derived.Test.YtnodgpbahlaccaaQmR5
import Derived.Shelf.Abstract
import Derived.Lib.AppendZerosOnto
namespace Go.Proofs.Ytnodgpbahlaccaa.qm
set_option linter.unusedVariables false
open Go.RowKit
open rw (Arr But Own bnext below_box below_drew below_drewN)

set_option maxHeartbeats 2000000 in
set_option maxRecDepth 100000 in
theorem grow_any (n : Nat) (hn : n ≤ 2000) (w : World) :
    Calls Try.prog 47 #[.slice none 0 0, .int .i64 n] w fun e w' => (∃ v, e = .returned v ∧ Own noSh w' w.heap.size v []) ∧ Below w.heap.size w w' := by
  obtain ⟨i0, hi, hz0, hz1, hz2⟩ := info_parts noSh.hi
  have hz2 : i0.bytes = 8 := hz2
  have hz1 : i0.size = 1 := hz1
  by_cases h0 : n = 0
  · subst h0
    go_enter Try.func47, Try.ntmps47
    go_wp2
    go_ret
    exact ⟨⟨_, rfl, Own.nil _ _ _⟩, Below.refl _ _⟩
  · have hold : (Builtin.firstCells i0.size 0 (.slice none 0 0)).run Try.prog w.drew = .ok ([] : List Value).toArray w.drew := by rw [hz1]; exact run_firstCells_none w.drew 1 0 0 0
    have hrun := fun ty => Lib.run_append_grow_zeros w 22 3 ty 3 i0 _ .i64 .i64 Try.underlying22 Try.underlying3 hi hz0 none 0 0 [] hold n (by omega) (by omega) (by omega) (by omega) (by rw [hz2]; omega) (by rw [hz2]; exact growslice_fits (by omega) (by omega))
    have hge := grownCap_ge w n 0 3
    have hcm := grownCap_le_maxLen w n 0 3 (by unfold maxLen; omega)
    simp only [Nat.zero_add] at hrun
    generalize grownCap w n 0 3 = G at *
    obtain ⟨ROW, hROW⟩ : ∃ ROW : Array Value, ROW = ([] : List Value).toArray ++ Builtin.zeroCells (Value.int .i64 0).cells n ++ Builtin.zeroCells (Value.int .i64 0).cells (G - n) := ⟨_, rfl⟩
    have hRs : ROW.size = G := by
      rw [hROW]
      simp [Builtin.zeroCells, Value.cells]
      omega
    have hrun := fun ty => (hROW ▸ hrun ty : _)
    have hown : Own noSh (w.drew.alloc (.cells ROW 3)) w.heap.size (.slice (some ⟨w.heap.size, 0, none⟩) 0 G) [] :=
      ⟨by rfl, .inr ⟨w.heap.size, G, ROW, rfl, Nat.le_refl _, heap_alloc_new w.drew _, Nat.zero_le _, hcm, by show _ = G * 1; omega, by rfl⟩⟩
    have hbl : Below w.heap.size w (w.drew.alloc (.cells ROW 3)) := ((Below.refl _ w).drew).alloc (Nat.le_refl _) _
    have HH := Lib.hid (And.intro hown hbl)
    have hni : (n : Int) > 0 := by omega
    have hn2 : wrap64 ((n : Int)) = (n : Int) := by unfold wrap64; omega
    have hG63 : G ≤ 9223372036854775807 := by unfold maxLen at hcm; omega
    clear hold hROW hown hbl hcm h0 hRs
    go_enter Try.func47, Try.ntmps47
    go_wp2_with (at_builtin; refine Lib.wpList_append_run _ rfl _ _ _ _ rfl _ _ rfl rfl _ _ (hrun _) ?_)
    go_ret
    exact ⟨⟨_, rfl, HH.out.1⟩, HH.out.2⟩
set_option maxHeartbeats 4000000 in
set_option maxRecDepth 100000 in
theorem concat2_any (u0 u1 : Value) (l0 l1 : List Int) (vb c : Nat) (hl0 : l0.length ≤ 100) (hl1 : l1.length ≤ 100) (w : World) (hu0 : Ns w u0 l0) (hu1 : Ns w u1 l1) (h0 : w.cell? ⟨vb, 0, none⟩ = some u0) (h1 : w.cell? ⟨vb, 1, none⟩ = some u1) :
    Calls Try.prog 34 #[.slice (some ⟨vb, 0, none⟩) 2 c] w fun e w' => ∃ v, e = .returned v ∧ NewN w w' v (l0 ++ l1) := by
  have hvb := World.block_lt_of_cell? w _ h0
  have HU := Lib.hid (And.intro hu0 hu1)
  obtain ⟨a0, ca0, rfl⟩ := sl_form hu0
  obtain ⟨a1, ca1, rfl⟩ := sl_form hu1
  have HG := Lib.hid fun W => grow_any (l0.length + l1.length) (by omega) W
  obtain ⟨n0, hn0⟩ : ∃ n, l0.length = n := ⟨_, rfl⟩
  rw [hn0] at hl0 h0
  obtain ⟨n1, hn1⟩ : ∃ n, l1.length = n := ⟨_, rfl⟩
  rw [hn1] at hl1 h1
  rw [hn0, hn1] at HG
  obtain ⟨m0, hm0⟩ : ∃ m, n0 = m := ⟨_, rfl⟩
  have f0 : IntKind.i64.wrap ((n0 : Int)) = (n0 : Int) := by rw [IntKind.wrap_i64]; omega
  have p0 : ¬ ((n0 : Int) < 0) := by omega
  obtain ⟨s1, hs1⟩ : ∃ s, n0 + n1 = s := ⟨_, rfl⟩
  have f1 : IntKind.i64.wrap ((n0 : Int) + (n1 : Int)) = (s1 : Int) := by rw [IntKind.wrap_i64]; omega
  have p1 : ¬ ((s1 : Int) < 0) := by omega
  rw [hs1] at HG
  have HN := Lib.hid (And.intro hn0 hn1)
  have HL := Lib.hid (And.intro hl0 hl1)
  clear hu0 hu1 hm0 hn0 hn1 hs1
  go_enter Try.func34, Try.ntmps34
  go_wp2
  refine wp_loop_rounds 3 ?_
  rw [rounds_succ]
  go_wp2
  rw [rounds_succ]
  go_wp2
  rw [rounds_succ]
  have hg2 := HG.out w
  go_wp2_with fail
  refine hg2.mono ?_
  clear hg2
  rintro e w1 ⟨⟨v, rfl, hown⟩, b1⟩
  have h0' := (b1.cell (p := ⟨vb, 0, none⟩) hvb).trans h0
  have h1' := (b1.cell (p := ⟨vb, 1, none⟩) hvb).trans h1
  obtain ⟨v0, x0, hr0, ho0, hb0, _⟩ := rw.append_own noSh w.heap.size v ([]) l0 _ (by have := HL.out; have := HN.out; simp; omega) w1 hown b1.size ((HU.out.1).later _ b1)
  have B0 := b1.trans hb0
  have h1'' := (B0.cell (p := ⟨vb, 1, none⟩) hvb).trans h1
  obtain ⟨v1, x1, hr1, ho1, hb1, _⟩ := rw.append_own noSh w.heap.size v0 ([] ++ l0) l1 _ (by have := HL.out; have := HN.out; simp; omega) x0 ho0 B0.size ((HU.out.2).later _ B0)
  have B1 := B0.trans hb1
  have HS : Hid (NewN w x1 v1 (l0 ++ l1)) := ⟨by have h := ho1; simpa using h, B1⟩
  rw [HN.out.1] at hr0
  have R0 := Lib.hid hr0
  rw [HN.out.2] at hr1
  have R1 := Lib.hid hr1
  clear h0 h1 hown b1 ho0 hb0 ho1 hb1 B0 B1 HG hr0 hr1
  go_wp2
  refine wp_loop_rounds 3 ?_
  rw [rounds_succ]
  go_wp2_with (at_builtin; refine rw.wpList_append_at _ _ _ rfl rfl _ _ _ _ rfl rfl R0.out ?_)
  rw [rounds_succ]
  go_wp2_with (at_builtin; refine rw.wpList_append_at _ _ _ rfl rfl _ _ _ _ rfl rfl R1.out ?_)
  rw [rounds_succ]
  go_wp2
  go_ret
  exact ⟨_, rfl, HS.out⟩
set_option maxHeartbeats 4000000 in
set_option maxRecDepth 100000 in
theorem concat3_any (u0 u1 u2 : Value) (l0 l1 l2 : List Int) (vb c : Nat) (hl0 : l0.length ≤ 100) (hl1 : l1.length ≤ 100) (hl2 : l2.length ≤ 100) (w : World) (hu0 : Ns w u0 l0) (hu1 : Ns w u1 l1) (hu2 : Ns w u2 l2) (h0 : w.cell? ⟨vb, 0, none⟩ = some u0) (h1 : w.cell? ⟨vb, 1, none⟩ = some u1) (h2 : w.cell? ⟨vb, 2, none⟩ = some u2) :
    Calls Try.prog 34 #[.slice (some ⟨vb, 0, none⟩) 3 c] w fun e w' => ∃ v, e = .returned v ∧ NewN w w' v (l0 ++ l1 ++ l2) := by
  have hvb := World.block_lt_of_cell? w _ h0
  have HU := Lib.hid (And.intro hu0 (And.intro hu1 hu2))
  obtain ⟨a0, ca0, rfl⟩ := sl_form hu0
  obtain ⟨a1, ca1, rfl⟩ := sl_form hu1
  obtain ⟨a2, ca2, rfl⟩ := sl_form hu2
  have HG := Lib.hid fun W => grow_any (l0.length + l1.length + l2.length) (by omega) W
  obtain ⟨n0, hn0⟩ : ∃ n, l0.length = n := ⟨_, rfl⟩
  rw [hn0] at hl0 h0
  obtain ⟨n1, hn1⟩ : ∃ n, l1.length = n := ⟨_, rfl⟩
  rw [hn1] at hl1 h1
  obtain ⟨n2, hn2⟩ : ∃ n, l2.length = n := ⟨_, rfl⟩
  rw [hn2] at hl2 h2
  rw [hn0, hn1, hn2] at HG
  obtain ⟨m0, hm0⟩ : ∃ m, n0 = m := ⟨_, rfl⟩
  have f0 : IntKind.i64.wrap ((n0 : Int)) = (n0 : Int) := by rw [IntKind.wrap_i64]; omega
  have p0 : ¬ ((n0 : Int) < 0) := by omega
  obtain ⟨s1, hs1⟩ : ∃ s, n0 + n1 = s := ⟨_, rfl⟩
  have f1 : IntKind.i64.wrap ((n0 : Int) + (n1 : Int)) = (s1 : Int) := by rw [IntKind.wrap_i64]; omega
  have p1 : ¬ ((s1 : Int) < 0) := by omega
  obtain ⟨s2, hs2⟩ : ∃ s, s1 + n2 = s := ⟨_, rfl⟩
  have f2 : IntKind.i64.wrap ((s1 : Int) + (n2 : Int)) = (s2 : Int) := by rw [IntKind.wrap_i64]; omega
  have p2 : ¬ ((s2 : Int) < 0) := by omega
  rw [hs1, hs2] at HG
  have HN := Lib.hid (And.intro hn0 (And.intro hn1 hn2))
  have HL := Lib.hid (And.intro hl0 (And.intro hl1 hl2))
  clear hu0 hu1 hu2 hm0 hn0 hn1 hn2 hs1 hs2
  go_enter Try.func34, Try.ntmps34
  go_wp2
  refine wp_loop_rounds 4 ?_
  rw [rounds_succ]
  go_wp2
  rw [rounds_succ]
  go_wp2
  rw [rounds_succ]
  go_wp2
  rw [rounds_succ]
  have hg2 := HG.out w
  go_wp2_with fail
  refine hg2.mono ?_
  clear hg2
  rintro e w1 ⟨⟨v, rfl, hown⟩, b1⟩
  have h0' := (b1.cell (p := ⟨vb, 0, none⟩) hvb).trans h0
  have h1' := (b1.cell (p := ⟨vb, 1, none⟩) hvb).trans h1
  have h2' := (b1.cell (p := ⟨vb, 2, none⟩) hvb).trans h2
  obtain ⟨v0, x0, hr0, ho0, hb0, _⟩ := rw.append_own noSh w.heap.size v ([]) l0 _ (by have := HL.out; have := HN.out; simp; omega) w1 hown b1.size ((HU.out.1).later _ b1)
  have B0 := b1.trans hb0
  have h1'' := (B0.cell (p := ⟨vb, 1, none⟩) hvb).trans h1
  have h2'' := (B0.cell (p := ⟨vb, 2, none⟩) hvb).trans h2
  obtain ⟨v1, x1, hr1, ho1, hb1, _⟩ := rw.append_own noSh w.heap.size v0 ([] ++ l0) l1 _ (by have := HL.out; have := HN.out; simp; omega) x0 ho0 B0.size ((HU.out.2.1).later _ B0)
  have B1 := B0.trans hb1
  have h2''' := (B1.cell (p := ⟨vb, 2, none⟩) hvb).trans h2
  obtain ⟨v2, x2, hr2, ho2, hb2, _⟩ := rw.append_own noSh w.heap.size v1 ([] ++ l0 ++ l1) l2 _ (by have := HL.out; have := HN.out; simp; omega) x1 ho1 B1.size ((HU.out.2.2).later _ B1)
  have B2 := B1.trans hb2
  have HS : Hid (NewN w x2 v2 (l0 ++ l1 ++ l2)) := ⟨by have h := ho2; simpa using h, B2⟩
  rw [HN.out.1] at hr0
  have R0 := Lib.hid hr0
  rw [HN.out.2.1] at hr1
  have R1 := Lib.hid hr1
  rw [HN.out.2.2] at hr2
  have R2 := Lib.hid hr2
  clear h0 h1 h2 hown b1 ho0 hb0 ho1 hb1 ho2 hb2 B0 B1 B2 HG hr0 hr1 hr2
  go_wp2
  refine wp_loop_rounds 4 ?_
  rw [rounds_succ]
  go_wp2_with (at_builtin; refine rw.wpList_append_at _ _ _ rfl rfl _ _ _ _ rfl rfl R0.out ?_)
  rw [rounds_succ]
  go_wp2_with (at_builtin; refine rw.wpList_append_at _ _ _ rfl rfl _ _ _ _ rfl rfl R1.out ?_)
  rw [rounds_succ]
  go_wp2_with (at_builtin; refine rw.wpList_append_at _ _ _ rfl rfl _ _ _ _ rfl rfl R2.out ?_)
  rw [rounds_succ]
  go_wp2
  go_ret
  exact ⟨_, rfl, HS.out⟩
end Go.Proofs.Ytnodgpbahlaccaa.qm
