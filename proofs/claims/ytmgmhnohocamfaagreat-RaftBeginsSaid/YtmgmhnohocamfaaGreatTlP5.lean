/-
  Two rows of entries: how far they are alike; put together (the library's Grow and Concat).
-/
import Derived.Test.YtmgmhnohocamfaaGreatTlP4
import Derived.Shelf.Abstract
import Derived.Lib.AppendZerosOnto
namespace Go.Proofs.YtmgmhnohocamfaaGreat.tl
set_option linter.unusedVariables false
open Go.RowKit
open pk (S S_size S_data)
open qm (Bs noSh)
open rw (Arr But below_box bnext below_drew below_drewN)

set_option maxHeartbeats 2000000 in
set_option maxRecDepth 100000 in
theorem alike_any (u v : Value) (a b : List EnIn) (ha : a.length ≤ 1000000) (hb : b.length ≤ 1000000) (w : World) (h1 : rw.Sl enSh w u a) (h2 : rw.Sl enSh w v b) :
    Calls Tryz.prog 156 #[u, v] w fun e w' => e = .returned (.int .i64 (alike a b : Nat)) ∧ Below w.heap.size w w' := by
  obtain ⟨ua, uc, rfl⟩ := sl_form h1
  obtain ⟨va, vc, rfl⟩ := sl_form h2
  obtain ⟨R, hR⟩ : ∃ R, alike a b = R := ⟨_, rfl⟩
  rw [hR]
  have HR := Lib.hid hR
  obtain ⟨na, hna⟩ : ∃ n, a.length = n := ⟨_, rfl⟩
  obtain ⟨nb, hnb⟩ : ∃ n, b.length = n := ⟨_, rfl⟩
  have HN : Hid (a.length = na ∧ b.length = nb) := ⟨hna, hnb⟩
  have H1 := Lib.hid h1
  have H2 := Lib.hid h2
  rw [hna] at H1 ha ⊢
  rw [hnb] at H2 hb ⊢
  obtain ⟨m, hm⟩ : ∃ m, min na nb = m := ⟨_, rfl⟩
  have HM : Hid (min na nb = m) := hm
  have hmb : m ≤ 1000000 := by omega
  have f1 : min (na : Int) (nb : Int) = (m : Int) := by omega
  clear h1 h2 hna hnb hR hm
  go_enter Tryz.func156, Tryz.ntmps156
  go_wp2_with fail
  go_loopw [11] (fun i wr => ∃ k : Nat, i = .int .i64 (k : Nat) ∧ k ≤ m ∧ Hid (Below w.heap.size w wr ∧ ∀ j (h1 : j < a.length) (h2 : j < b.length), j < k → a[j].term = b[j].term))
    (fun i _ => m - (intOf i).toNat)
  case atStart => exact ⟨0, rfl, Nat.zero_le _, Below.refl _ _, fun j _ _ h => absurd h (Nat.not_lt_zero _)⟩
  case round =>
    obtain ⟨k, rfl, hk, HI⟩ := hrel
    by_cases hlt : k < m
    · have hki : (k : Int) < (m : Int) := by omega
      have hka : k < a.length := by rw [HN.out.1]; have := HM.out; omega
      have hkb : k < b.length := by rw [HN.out.2]; have := HM.out; omega
      have G1 := H1.out.later _ HI.out.1
      have G2 := H2.out.later _ HI.out.1
      rw [← HN.out.1] at G1
      rw [← HN.out.2] at G2
      obtain ⟨p1, o1, d1, e1, g1, c10, c11, c12⟩ := slE_at G1 hka
      obtain ⟨p2, o2, d2, e2, g2, c20, c21, c22⟩ := slE_at G2 hkb
      injection e1 with e11 e12 e13
      injection e2 with e21 e22 e23
      subst e11 e13 e21 e23
      clear e12 e22 G1 G2 c11 c12 c21 c22
      have hkna : (k : Int) < (na : Int) := by have := HN.out.1; omega
      have hknb : (k : Int) < (nb : Int) := by have := HN.out.2; omega
      obtain ⟨x, hx⟩ : ∃ x, (a[k]'hka).term = x := ⟨_, rfl⟩
      obtain ⟨y, hy⟩ : ∃ y, (b[k]'hkb).term = y := ⟨_, rfl⟩
      rw [hx] at c10
      rw [hy] at c20
      have HB : Hid (∀ n, Below w.heap.size w (wr.drewN n)) := fun n => below_drewN HI.out.1 n
      by_cases hxy : x = y
      · have hq : ((x : Int) != (y : Int)) = false := by rw [hxy]; simp
        have HT : Hid (∀ j (h1 : j < a.length) (h2 : j < b.length), j < k + 1 → a[j].term = b[j].term) := fun j h1 h2 hj => by
          by_cases e : j = k
          · subst e; exact hx.trans (hxy.trans hy.symm)
          · exact HI.out.2 j h1 h2 (by omega)
        clear HI hx hy hxy g1 g2 hka hkb
        go_upto_region 4 with (fail)
        go_quiet (fail)
        go_wp2_with fail
        exact ⟨⟨k + 1, by rw [Int.natCast_add]; rfl, by omega, HB.out _, HT.out⟩, by simp only [intOf]; omega⟩
      · have hq : ((x : Int) != (y : Int)) = true := bne_iff_ne.2 (by omega)
        have HT : Hid (R = k) := HR.out.symm.trans (alike_stop (by omega) (by omega) HI.out.2 (.inr (.inr ⟨hka, hkb, by rw [hx, hy]; exact hxy⟩)))
        clear HI hx hy hxy g1 g2 hka hkb
        go_upto_region 4 with (fail)
        go_quiet (fail)
        go_wp2_with fail
        go_ret
        rw [HT.out]
        exact ⟨rfl, HB.out _⟩
    · obtain rfl : k = m := by omega
      have hki : ¬ (k : Int) < (k : Int) := by omega
      have HT : Hid (R = k ∧ Below w.heap.size w wr) := by
        refine ⟨HR.out.symm.trans (alike_stop (by rw [HN.out.1]; have := HM.out; omega) (by rw [HN.out.2]; have := HM.out; omega) HI.out.2 ?_), HI.out.1⟩
        have h1 := HN.out.1; have h2 := HN.out.2; have := HM.out
        rcases Nat.le_total na nb with h | h
        · exact .inl (by omega)
        · exact .inr (.inl (by omega))
      clear HI
      go_wp2_with fail
      go_ret
      rw [HT.out.1]
      exact ⟨rfl, HT.out.2⟩
set_option maxHeartbeats 2000000 in
set_option maxRecDepth 100000 in
theorem grow_any (n : Nat) (hn : n ≤ 4000000) (w : World) :
    Calls Tryz.prog 166 #[.slice none 0 0, .int .i64 n] w fun e w' => (∃ v, e = .returned v ∧ rw.Own enSh w' w.heap.size v []) ∧ Below w.heap.size w w' := by
  obtain ⟨i0, hi, hz0, hz1, hz2⟩ := info_parts enSh.hi
  have hz2 : i0.bytes = 32 := hz2
  have hz1 : i0.size = 3 := hz1
  by_cases h0 : n = 0
  · subst h0
    go_enter Tryz.func166, Tryz.ntmps166
    go_wp2
    go_ret
    exact ⟨⟨_, rfl, rw.Own.nil _ _ _⟩, Below.refl _ _⟩
  · have hold : (Builtin.firstCells i0.size 0 (.slice none 0 0)).run Tryz.prog w.drew = .ok ([] : List Value).toArray w.drew := by rw [hz1]; exact run_firstCells_none w.drew 3 0 0 0
    have hrun := fun ty => Lib.run_append_grow_zeros w 35 3 ty 51 i0 _ .i64 .i64 Tryz.underlying35 Tryz.underlying3 hi hz0 none 0 0 [] hold n (by omega) (by omega) (by omega) (by omega) (by rw [hz2]; omega) (by rw [hz2]; exact growslice_fits (by omega) (by omega))
    have hge := grownCap_ge w n 0 51
    have hcm := grownCap_le_maxLen w n 0 51 (by unfold maxLen; omega)
    simp only [Nat.zero_add] at hrun
    generalize grownCap w n 0 51 = G at *
    obtain ⟨ROW, hROW⟩ : ∃ ROW : Array Value, ROW = ([] : List Value).toArray ++ Builtin.zeroCells (Value.agg #[.int .u64 0, .int .i64 0, .string ⟨#[]⟩]).cells n ++ Builtin.zeroCells (Value.agg #[.int .u64 0, .int .i64 0, .string ⟨#[]⟩]).cells (G - n) := ⟨_, rfl⟩
    have hRs : ROW.size = G * 3 := by
      rw [hROW]
      simp [Builtin.zeroCells, Value.cells]
      omega
    have hrun := fun ty => (hROW ▸ hrun ty : _)
    have hown : rw.Own enSh (w.drew.alloc (.cells ROW 51)) w.heap.size (.slice (some ⟨w.heap.size, 0, none⟩) 0 G) [] :=
      ⟨by rfl, .inr ⟨w.heap.size, G, ROW, rfl, Nat.le_refl _, heap_alloc_new w.drew _, Nat.zero_le _, hcm, by show _ = G * 3; omega, by rfl⟩⟩
    have hbl : Below w.heap.size w (w.drew.alloc (.cells ROW 51)) := ((Below.refl _ w).drew).alloc (Nat.le_refl _) _
    have HH := Lib.hid (And.intro hown hbl)
    have hni : (n : Int) > 0 := by omega
    have hn2 : wrap64 ((n : Int)) = (n : Int) := by unfold wrap64; omega
    have hG63 : G ≤ 9223372036854775807 := by unfold maxLen at hcm; omega
    clear hold hROW hown hbl hcm h0 hRs
    go_enter Tryz.func166, Tryz.ntmps166
    go_wp2_with (at_builtin; refine Lib.wpList_append_run _ rfl _ _ _ _ rfl _ _ rfl rfl _ _ (hrun _) ?_)
    go_ret
    exact ⟨⟨_, rfl, HH.out.1⟩, HH.out.2⟩
set_option maxHeartbeats 4000000 in
set_option maxRecDepth 100000 in
theorem concat_any (u0 u1 : Value) (l0 l1 : List EnIn) (vb c : Nat) (hl0 : l0.length ≤ 1000000) (hl1 : l1.length ≤ 1000000) (w : World) (hu0 : rw.Sl enSh w u0 l0) (hu1 : rw.Sl enSh w u1 l1) (h0 : w.cell? ⟨vb, 0, none⟩ = some u0) (h1 : w.cell? ⟨vb, 1, none⟩ = some u1) :
    Calls Tryz.prog 157 #[.slice (some ⟨vb, 0, none⟩) 2 c] w (EOut w (l0 ++ l1)) := by
  have hvb := World.block_lt_of_cell? w _ h0
  have HU := Lib.hid (And.intro hu0 hu1)
  obtain ⟨a0, ca0, rfl⟩ := sl_form hu0
  obtain ⟨a1, ca1, rfl⟩ := sl_form hu1
  have HG := Lib.hid fun W => grow_any (l0.length + l1.length) (by omega) W
  obtain ⟨n0, hn0⟩ : ∃ n, l0.length = n := ⟨_, rfl⟩
  rw [hn0] at hl0 h0
  obtain ⟨n1, hn1⟩ : ∃ n, l1.length = n := ⟨_, rfl⟩
  rw [hn1] at hl1 h1
  rw [hn0, hn1] at HG
  obtain ⟨m0, hm0⟩ : ∃ m, n0 = m := ⟨_, rfl⟩
  have f0 : IntKind.i64.wrap ((n0 : Int)) = (n0 : Int) := by rw [IntKind.wrap_i64]; omega
  have p0 : ¬ ((n0 : Int) < 0) := by omega
  obtain ⟨s1, hs1⟩ : ∃ s, n0 + n1 = s := ⟨_, rfl⟩
  have f1 : IntKind.i64.wrap ((n0 : Int) + (n1 : Int)) = (s1 : Int) := by rw [IntKind.wrap_i64]; omega
  have p1 : ¬ ((s1 : Int) < 0) := by omega
  rw [hs1] at HG
  have HN := Lib.hid (And.intro hn0 hn1)
  have HL := Lib.hid (And.intro hl0 hl1)
  clear hu0 hu1 hm0 hn0 hn1 hs1
  go_enter Tryz.func157, Tryz.ntmps157
  go_wp2
  refine wp_loop_rounds 3 ?_
  rw [rounds_succ]
  go_wp2
  rw [rounds_succ]
  go_wp2
  rw [rounds_succ]
  have hg2 := HG.out w
  go_wp2_with fail
  refine hg2.mono ?_
  clear hg2
  rintro e w1 ⟨⟨v, rfl, hown⟩, b1⟩
  have h0' := (b1.cell (p := ⟨vb, 0, none⟩) hvb).trans h0
  have h1' := (b1.cell (p := ⟨vb, 1, none⟩) hvb).trans h1
  obtain ⟨v0, x0, hr0, ho0, hb0, _⟩ := rw.append_own enSh w.heap.size v ([]) l0 _ (by have := HL.out; have := HN.out; simp; omega) w1 hown b1.size ((HU.out.1).later _ b1)
  have B0 := b1.trans hb0
  have h1'' := (B0.cell (p := ⟨vb, 1, none⟩) hvb).trans h1
  obtain ⟨v1, x1, hr1, ho1, hb1, _⟩ := rw.append_own enSh w.heap.size v0 ([] ++ l0) l1 _ (by have := HL.out; have := HN.out; simp; omega) x0 ho0 B0.size ((HU.out.2).later _ B0)
  have B1 := B0.trans hb1
  have HS : Hid (rw.Own enSh x1 w.heap.size v1 (l0 ++ l1) ∧ Below w.heap.size w x1) := ⟨by have h := ho1; simpa using h, B1⟩
  rw [HN.out.1] at hr0
  have R0 := Lib.hid hr0
  rw [HN.out.2] at hr1
  have R1 := Lib.hid hr1
  clear h0 h1 hown b1 ho0 hb0 ho1 hb1 B0 B1 HG hr0 hr1
  go_wp2
  refine wp_loop_rounds 3 ?_
  rw [rounds_succ]
  go_wp2_with (at_builtin; refine rw.wpList_append_at _ _ _ rfl rfl _ _ _ _ rfl rfl R0.out ?_)
  rw [rounds_succ]
  go_wp2_with (at_builtin; refine rw.wpList_append_at _ _ _ rfl rfl _ _ _ _ rfl rfl R1.out ?_)
  rw [rounds_succ]
  go_wp2
  go_ret
  exact ⟨_, rfl, HS.out⟩
end Go.Proofs.YtmgmhnohocamfaaGreat.tl
