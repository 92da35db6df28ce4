/-
  The law QuorumHas: the walk.
-/
import Derived.Test.YtnodgpbahlaccaaQmL1
namespace Go.Proofs.Ytnodgpbahlaccaa.qm
set_option linter.unusedVariables false
open Go.RowKit
open rw (Arr But Own bnext below_box below_drew below_drewN)
open pk (S S_size S_data)

theorem step_app {α : Type} (s : rw.Sh α) {ops : Array Oper} {o : Oper} {a : Act} {w : World} {K : Act → World → Prop} {Q : Exit → Act → World → Prop} {E : Prop} (hgd : o.guard = none) (x y : Operand)
    (ho : o.op = .call { callee := .builtin .append, args := #[x, y], argTypes := #[s.st, s.st] }) (hty : o.type = s.st) (B : Nat) (v u : Value) (m l : List α) (hx : a.eval x = v) (hy : a.eval y = u)
    (hlen : m.length + l.length ≤ 34359738368) (hown : Own s w B v m) (hB : B ≤ w.heap.size) (hu : rw.Sl s w u l)
    (h : ∀ v' w', Own s w' B v' (m ++ l) → w.grownBy w' v.ownBlock → K (a.put o.dst v') w') :
    if Region.wanted o (yielded ops a.tmps) = true then Oper.wp Try.prog o a w K Q else E := by
  have hw : Region.wanted o (yielded ops a.tmps) = true := by simp [Region.wanted, hgd]
  rw [if_pos hw]
  obtain ⟨v', w', hr, h2, _, h4⟩ := rw.append_own s B v m l u hlen w hown hB hu
  unfold rw.App at hr
  unfold Oper.wp execOp
  simp only [ho, hty, resolve, invoke, builtin, Sem.run_bind, Sem.run_pure, Result.andThen_ok, List.map_toArray, List.map_cons, List.map_nil, hx, hy, hr]
  exact h v' w' h2 h4
/-- An empty row in memory. -/
theorem own_empty (w : World) (B : Nat) (hB : B ≤ w.heap.size) : Own ixSh (w.alloc (.cells #[] 31)) B (.slice (some ⟨w.heap.size, 0, none⟩) 0 0) [] :=
  own_mono (World.ownsRow_made (base := w.heap.size) (e := ixSh.t) (size := ixSh.k) w #[] 0 (Nat.le_refl _) (by unfold maxLen; omega) (by simp)) hB
theorem sl_grown {α : Type} {s : rw.Sh α} {w w' : World} {v : Value} {l : List α} {o : Option Nat} (h : rw.Sl s w v l) (g : w.grownBy w' o) (ho : ∀ k, o = some k → v.ownBlock ≠ some k) : rw.Sl s w' v l := by
  obtain ⟨a, c, h1, h2, h3, h4⟩ := h
  refine ⟨a, c, h1, h2, h3.keep s g.size fun b off e hb => g.block b hb fun e2 => ho b e2.symm ?_, h4⟩
  rw [h1, e]; simp [Value.ownBlock]
/-- What holds of a world on the way: the members, the indices, the one more in its box. -/
structure Hw (w W : World) (u v : Value) (l : List Int) (hv : List Ix) (q : Nat) (x : Ix) : Prop where
  a : Ns W u l
  b : Is W v hv
  box : Arr W q 31 #[.int .i64 x.node, .int .u64 x.idx]
  w : Below w.heap.size w W
theorem Hw.later {w W W' : World} {u v : Value} {l : List Int} {hv : List Ix} {q : Nat} {x : Ix} (h : Hw w W u v l hv q x) (k : Below W.heap.size W W') : Hw w W' u v l hv q x :=
  ⟨h.a.later _ k, h.b.later _ k, h.box.below k, h.w.trans (k.mono h.w.size)⟩
/-- A growth of a row that is not older than B leaves what is older. -/
theorem Hw.grown {w W0 W W' : World} {u v : Value} {l : List Int} {hv : List Ix} {q : Nat} {x : Ix} {o : Option Nat} (h : Hw w W0 u v l hv q x) (k : Below W0.heap.size W0 W) (g : W.grownBy W' o) (ho : ∀ i, o = some i → W0.heap.size ≤ i) : Hw w W' u v l hv q x :=
  h.later (k.trans (grown_below g k.size ho))
/-- Behind the first append, the one more laid beside. -/
structure Ax (W0 W : World) (t y : Value) (hv : List Ix) (x : Ix) : Prop where
  bl : Below W0.heap.size W0 W
  own : Own ixSh W W0.heap.size t hv
  one : Is W y [x]
theorem Ax.last {W0 W W' : World} {t y t' : Value} {hv : List Ix} {x : Ix} (h : Ax W0 W t y hv x) (o : Own ixSh W' W0.heap.size t' (hv ++ [x])) (g : W.grownBy W' t.ownBlock) : Below W0.heap.size W0 W' ∧ Is W' t' (hv ++ [x]) :=
  ⟨h.bl.trans (grown_below g h.bl.size fun k e => (h.own.lt k e).1), o.sl⟩
/-- The first append, the one more laid behind it. -/
theorem Ax.a {W0 W W' : World} {t : Value} {hv : List Ix} {x : Ix} {e : Nat} (bl : Below W0.heap.size W0 W) (o : Own ixSh W' W0.heap.size t hv) (g : W.grownBy W' (some e)) (he : W0.heap.size ≤ e) :
    Below W0.heap.size W0 W' ∧ Ax W0 (W'.alloc (.cells #[.int .i64 x.node, .int .u64 x.idx] 31)) t (.slice (some ⟨W'.heap.size, 0, none⟩) 1 1) hv x := by
  have b := bl.trans (grown_below g bl.size fun k h => by cases h; exact he)
  have k := below_box W' (.cells #[.int .i64 x.node, .int .u64 x.idx] 31)
  exact ⟨b, b.trans (k.mono b.size), o.below ixSh k, lit_at ixSh W' x⟩
/-- .. laid ahead of it. -/
theorem Ax.b {W0 W W' : World} {t : Value} {hv : List Ix} {x : Ix} {e f : Nat} (bl : Below W0.heap.size W0 W) (o : Own ixSh W' W0.heap.size t hv) (g : W.grownBy W' (some e)) (he : W0.heap.size ≤ e) (hl : Is W (.slice (some ⟨f, 0, none⟩) 1 1) [x]) (hf : f ≠ e) :
    Ax W0 W' t (.slice (some ⟨f, 0, none⟩) 1 1) hv x :=
  ⟨bl.trans (grown_below g bl.size fun k h => by cases h; exact he), o, sl_grown hl g fun k h => by cases h; simp [Value.ownBlock, hf]⟩
set_option maxHeartbeats 8000000 in
set_option maxRecDepth 100000 in
theorem has_walk (u v : Value) (l : List Int) (hv : List Ix) (x : Ix) (hl : l.length ≤ 140737488355328) (hh : hv.length ≤ 140737488355328) (hp : ∀ y ∈ hv, 0 ≤ y.idx ∧ y.idx ≤ 18446744073709551615) (hx : 0 ≤ x.idx ∧ x.idx ≤ 18446744073709551615) (w : World) (h : Ns w u l) (h2 : Is w v hv) :
    Calls Try.prog 8 #[u, v, .agg #[.int .i64 x.node, .int .u64 x.idx]] w fun e w' => e = .returned (.bool true) ∧ Below w.heap.size w w' := by
  have HA := Lib.hid fun W => alive_any W
  have HC := Lib.hid fun (y : hv.length ≤ 100000) W a b => commit_any u v l hv hl y (fun y hy => (hp y hy).1) W a b
  have HR := Lib.hid fun W (y : Ns W u l) => right_any u l hl W y
  have HM := Lib.hid fun t k (hk : k.length ≤ 140737488355328) W a b => most_any u t l k hl hk W a b
  have HH := Lib.hid fun i (y : hv.length ≤ 100000) W a => has_any v hv i y W a
  have HC2 := Lib.hid fun t (y : (hv ++ [x]).length ≤ 100000) W a b => commit_any u t l (hv ++ [x]) hl y (fun y hy => by
    rcases List.mem_append.1 hy with hy | hy
    · exact (hp y hy).1
    · rw [List.mem_singleton] at hy; rw [hy]; exact hx.1) W a b
  have HBst := Lib.hid (bestOf_best l hv)
  have HMr : Hid (commit l hv ≤ commit l (hv ++ [x])) := (bestOf_best l hv).more (bestOf_best l (hv ++ [x]))
  have HU : Hid (commit l hv ≤ 18446744073709551615) := by
    show _ ≤ _
    rcases (bestOf_best l hv).is with e | ⟨⟨y, hy, e⟩, _⟩
    · show bestOf l hv hv 0 ≤ _; omega
    · show bestOf l hv hv 0 ≤ _; rw [← e]; exact (hp y hy).2
  change Hid (Best l hv (commit l hv)) at HBst
  generalize commit l hv = C at *
  generalize commit l (hv ++ [x]) = D at *
  have kb := below_box w (.cells #[.int .i64 x.node, .int .u64 x.idx] 31)
  have H0 : Hid (Hw w (w.alloc (.cells #[.int .i64 x.node, .int .u64 x.idx] 31)) u v l hv w.heap.size x) := ⟨h.later _ kb, h2.later _ kb, Arr.new w _ _, kb⟩
  obtain ⟨a, c, rfl⟩ := sl_form h
  obtain ⟨a2, c2, rfl⟩ := sl_form h2
  obtain ⟨N, hN⟩ : ∃ n, hv.length = n := ⟨_, rfl⟩
  obtain ⟨M, hM⟩ : ∃ n, l.length = n := ⟨_, rfl⟩
  rw [hN] at HC HH H0 hh ⊢
  rw [hM] at HC HC2 HR HM H0 ⊢
  have HN := Lib.hid hN
  obtain ⟨q, hq⟩ : ∃ q, w.heap.size = q := ⟨_, rfl⟩
  have HQ : Hid (w.heap.size = q) := hq
  rw [hq] at H0
  clear h h2 hN hM hl hp hx kb
  have hA := HA.out (w.alloc (.cells #[.int .i64 x.node, .int .u64 x.idx] 31))
  by_cases h3 : N > 300
  · have h3i : (N : Int) > 300 := by omega
    clear HC HC2 HR HM HH
    go_enter Try.func8, Try.ntmps8
    go_wp2_with fail
    generalize w.alloc (.cells #[.int .i64 x.node, .int .u64 x.idx] 31) = w1 at *
    with_reducible refine hA.mono ?_
    clear hA
    rintro e w2 ⟨rfl, b2⟩
    have B2 := Lib.hid (H0.out.w.trans (b2.mono H0.out.w.size))
    have hA := HA.out w2
    clear b2 H0 HA
    go_wp2_with fail
    with_reducible refine hA.mono ?_
    clear hA
    rintro e w3 ⟨rfl, b3⟩
    have B3 := Lib.hid (B2.out.trans (b3.mono B2.out.size))
    clear b3 B2
    go_wp2_with fail
    go_ret
    exact ⟨rfl, B3.out⟩
  · have h3i : ¬ (N : Int) > 300 := by omega
    clear HA
    go_enter Try.func8, Try.ntmps8
    go_wp2_with fail
    generalize w.alloc (.cells #[.int .i64 x.node, .int .u64 x.idx] 31) = w1 at *
    with_reducible refine hA.mono ?_
    clear hA
    rintro e w2 ⟨rfl, b2⟩
    have H2 := Lib.hid (H0.out.later b2)
    have hC := HC.out (by omega) w2 H2.out.a H2.out.b
    clear b2 H0 HC
    go_wp2_with fail
    with_reducible refine hC.mono ?_
    clear hC
    rintro e w3 ⟨rfl, b3⟩
    have H3 := Lib.hid (H2.out.later b3)
    have hR := HR.out w3 H3.out.a
    obtain ⟨r, hr⟩ : ∃ r, right l = r := ⟨_, rfl⟩
    rw [hr] at hR
    clear b3 H2 HR
    cases r with
    | false =>
      have HZ : Hid (C = 0) := HBst.out.one (best_wrong hr hv)
      obtain rfl := HZ.out
      clear hr
      go_wp2_with fail
      with_reducible refine hR.mono ?_
      clear hR
      rintro e w4 ⟨rfl, rfl⟩
      go_wp2_with fail
      go_ret
      exact ⟨rfl, H3.out.w⟩
    | true =>
      have h0 := HBst.out.low
      have hu := HU.out
      have HRt := Lib.hid hr
      clear hr
      by_cases hC0 : C > 0
      · have hmC : Hid (most l (has hv C) = true) := by
          rcases HBst.out.is with e | ⟨_, e⟩
          · omega
          · exact e
        go_wp2_with fail
        with_reducible refine hR.mono ?_
        clear hR
        rintro e w4 ⟨rfl, rfl⟩
        have hh1 := HH.out C (by omega) w3 H3.out.b
        go_wp2_with fail
        with_reducible refine hh1.mono ?_
        clear hh1
        rintro e w5 ⟨t, rfl, k5⟩
        have H32 := Lib.hid (H3.out.later k5.2)
        have hm := HM.out t (has hv C) (by have := has_len hv C; have := HN.out; omega) w5 H32.out.a k5.1.sl
        rw [hmC.out] at hm
        clear k5 H3
        go_wp2_with fail
        with_reducible refine hm.mono ?_
        clear hm
        rintro e w6 ⟨rfl, rfl⟩
        by_cases hCu : C < 18446744073709551615
        · have hab := HBst.out.above
          have f1 : IntKind.u64.wrap (C + 1) = C + 1 := by rw [IntKind.wrap_u64]; omega
          have hh1 := HH.out (C + 1) (by omega) w5 H32.out.b
          go_wp2_with fail
          with_reducible refine hh1.mono ?_
          clear hh1
          rintro e w7 ⟨t, rfl, k5⟩
          have H322 := Lib.hid (H32.out.later k5.2)
          have hm := HM.out t (has hv (C + 1)) (by have := has_len hv (C + 1); have := HN.out; omega) w7 H322.out.a k5.1.sl
          rw [hab] at hm
          clear k5 H32
          go_wp2_with fail
          with_reducible refine hm.mono ?_
          clear hm
          rintro e w8 ⟨rfl, rfl⟩
          clear HH HM
          obtain ⟨xn, xi⟩ := x
          have x0 : w7.cell? ⟨q, 0, none⟩ = some (.int .i64 xn) := H322.out.box.cell rfl
          have x1 : w7.cell? ⟨q, 1, none⟩ = some (.int .u64 xi) := H322.out.box.cell rfl
          go_upto_region 8 with (fail)
          have kd : Below w7.heap.size w7 w7.drew := below_drew (Below.refl _ _)
          have ka := below_box w7.drew (.cells #[] 31)
          have kx := below_box w7.drew (.cells #[.int .i64 xn, .int .u64 xi] 31)
          have kax := below_box (w7.drew.alloc (.cells #[] 31)) (.cells #[.int .i64 xn, .int .u64 xi] 31)
          have kxa := below_box (w7.drew.alloc (.cells #[.int .i64 xn, .int .u64 xi] 31)) (.cells #[] 31)
          have sz1 : (w7.drew.alloc (.cells #[] 31)).heap.size = w7.heap.size + 1 := by simp
          have sz2 : (w7.drew.alloc (.cells #[.int .i64 xn, .int .u64 xi] 31)).heap.size = w7.heap.size + 1 := by simp
          have bA : Below w7.heap.size w7 (w7.drew.alloc (.cells #[] 31)) := kd.trans ka
          have bX : Below w7.heap.size w7 (w7.drew.alloc (.cells #[.int .i64 xn, .int .u64 xi] 31)) := kd.trans kx
          have bB : Below w7.heap.size w7 ((w7.drew.alloc (.cells #[] 31)).alloc (.cells #[.int .i64 xn, .int .u64 xi] 31)) := bA.trans (kax.mono bA.size)
          have bC : Below w7.heap.size w7 ((w7.drew.alloc (.cells #[.int .i64 xn, .int .u64 xi] 31)).alloc (.cells #[] 31)) := bX.trans (kxa.mono bX.size)
          have oA := own_empty w7.drew w7.heap.size (Nat.le_refl _)
          have oB := oA.below ixSh kax
          have oC := own_empty (w7.drew.alloc (.cells #[.int .i64 xn, .int .u64 xi] 31)) w7.heap.size bX.size
          have lB := lit_at ixSh (w7.drew.alloc (.cells #[] 31)) ⟨xn, xi⟩
          have lC := (lit_at ixSh w7.drew ⟨xn, xi⟩).later _ kxa
          rw [sz1] at lB
          rw [sz2] at oC
          have iA := H322.out.b.later _ bA
          have iB := H322.out.b.later _ bB
          have iC := H322.out.b.later _ bC
          have y0 : (w7.alloc (.cells #[] 31)).cell? ⟨q, 0, none⟩ = some (.int .i64 xn) := (H322.out.box.below (below_box _ _)).cell rfl
          have y1 : (w7.alloc (.cells #[] 31)).cell? ⟨q, 1, none⟩ = some (.int .u64 xi) := (H322.out.box.below (below_box _ _)).cell rfl
          have PA := Lib.hid fun t W' o g => Ax.a (x := ⟨xn, xi⟩) (t := t) (W' := W') (hv := hv) (e := w7.heap.size) bA o g (Nat.le_refl _)
          have PB := Lib.hid fun t W' o g => Ax.b (x := ⟨xn, xi⟩) (t := t) (W' := W') (hv := hv) (e := w7.heap.size) (f := w7.heap.size + 1) bB o g (Nat.le_refl _) lB (by omega)
          have PC := Lib.hid fun t W' o g => Ax.b (x := ⟨xn, xi⟩) (t := t) (W' := W') (hv := hv) (e := w7.heap.size + 1) (f := w7.heap.size) bC o g (by omega) lC (by omega)
          have hn1 : ([] : List Ix).length + hv.length ≤ 34359738368 := by have := HN.out; simp; omega
          have hn2 : hv.length + [(⟨xn, xi⟩ : Ix)].length ≤ 34359738368 := by have := HN.out; simp; omega
          have sA := bA.size
          have sB := bB.size
          have sC := bC.size
          have HX := Lib.hid fun W' (b : Below w7.heap.size w7 W') => H322.out.later b
          have HL3 : Hid ((hv ++ [(⟨xn, xi⟩ : Ix)]).length ≤ 100000) := by show _ ≤ _; have := HN.out; simp; omega
          have hge : D ≥ _ := HMr.out
          clear lB lC ka kx kax kxa kd bX
          go_region_law
            (first
              | (refine step_app ixSh rfl (.tmp 47) (.tmp 48) rfl rfl w7.heap.size _ _ [] hv rfl rfl hn1 oA sA iA ?_; intro t7 wz o7 g7; obtain ⟨B7, A7⟩ := PA.out t7 wz o7 g7; have z0 : wz.cell? ⟨q, 0, none⟩ = some (.int .i64 xn) := (HX.out wz B7).box.cell rfl; have z1 : wz.cell? ⟨q, 1, none⟩ = some (.int .u64 xi) := (HX.out wz B7).box.cell rfl)
              | (refine step_app ixSh rfl (.tmp 47) (.tmp 48) rfl rfl w7.heap.size _ _ [] hv rfl rfl hn1 oB sB iB ?_; intro t7 wz o7 g7; have A7 := PB.out t7 wz o7 g7)
              | (refine step_app ixSh rfl (.tmp 47) (.tmp 48) rfl rfl w7.heap.size _ _ [] hv rfl rfl hn1 oC sC iC ?_; intro t7 wz o7 g7; have A7 := PC.out t7 wz o7 g7)
              | (refine step_app ixSh rfl (.tmp 49) (.tmp 51) rfl rfl w7.heap.size _ _ hv [⟨xn, xi⟩] rfl rfl hn2 A7.own A7.bl.size A7.one ?_; intro t8 wy o8 g8; obtain ⟨B8, I8⟩ := A7.last o8 g8; have HK := HC2.out t8 HL3.out wy (HX.out wy B8).a I8)
              | (go_simp; go_at_call 15; refine HK.mono ?_; rintro e wv ⟨rfl, b9⟩))
          all_goals have BF := Lib.hid ((HX.out wy B8).w.trans (b9.mono (HX.out wy B8).w.size))
          all_goals clear A7 B8 I8 HK b9 o7 g7 o8 g8
          all_goals go_wp2_with fail
          all_goals go_ret
          all_goals first | exact ⟨rfl, BF.out⟩ | exact ⟨rfl, by rw [← HQ.out]; exact BF.out⟩
        · clear HH HM
          obtain ⟨xn, xi⟩ := x
          have x0 : w5.cell? ⟨q, 0, none⟩ = some (.int .i64 xn) := H32.out.box.cell rfl
          have x1 : w5.cell? ⟨q, 1, none⟩ = some (.int .u64 xi) := H32.out.box.cell rfl
          go_upto_region 8 with (fail)
          have kd : Below w5.heap.size w5 w5.drew := below_drew (Below.refl _ _)
          have ka := below_box w5.drew (.cells #[] 31)
          have kx := below_box w5.drew (.cells #[.int .i64 xn, .int .u64 xi] 31)
          have kax := below_box (w5.drew.alloc (.cells #[] 31)) (.cells #[.int .i64 xn, .int .u64 xi] 31)
          have kxa := below_box (w5.drew.alloc (.cells #[.int .i64 xn, .int .u64 xi] 31)) (.cells #[] 31)
          have sz1 : (w5.drew.alloc (.cells #[] 31)).heap.size = w5.heap.size + 1 := by simp
          have sz2 : (w5.drew.alloc (.cells #[.int .i64 xn, .int .u64 xi] 31)).heap.size = w5.heap.size + 1 := by simp
          have bA : Below w5.heap.size w5 (w5.drew.alloc (.cells #[] 31)) := kd.trans ka
          have bX : Below w5.heap.size w5 (w5.drew.alloc (.cells #[.int .i64 xn, .int .u64 xi] 31)) := kd.trans kx
          have bB : Below w5.heap.size w5 ((w5.drew.alloc (.cells #[] 31)).alloc (.cells #[.int .i64 xn, .int .u64 xi] 31)) := bA.trans (kax.mono bA.size)
          have bC : Below w5.heap.size w5 ((w5.drew.alloc (.cells #[.int .i64 xn, .int .u64 xi] 31)).alloc (.cells #[] 31)) := bX.trans (kxa.mono bX.size)
          have oA := own_empty w5.drew w5.heap.size (Nat.le_refl _)
          have oB := oA.below ixSh kax
          have oC := own_empty (w5.drew.alloc (.cells #[.int .i64 xn, .int .u64 xi] 31)) w5.heap.size bX.size
          have lB := lit_at ixSh (w5.drew.alloc (.cells #[] 31)) ⟨xn, xi⟩
          have lC := (lit_at ixSh w5.drew ⟨xn, xi⟩).later _ kxa
          rw [sz1] at lB
          rw [sz2] at oC
          have iA := H32.out.b.later _ bA
          have iB := H32.out.b.later _ bB
          have iC := H32.out.b.later _ bC
          have y0 : (w5.alloc (.cells #[] 31)).cell? ⟨q, 0, none⟩ = some (.int .i64 xn) := (H32.out.box.below (below_box _ _)).cell rfl
          have y1 : (w5.alloc (.cells #[] 31)).cell? ⟨q, 1, none⟩ = some (.int .u64 xi) := (H32.out.box.below (below_box _ _)).cell rfl
          have PA := Lib.hid fun t W' o g => Ax.a (x := ⟨xn, xi⟩) (t := t) (W' := W') (hv := hv) (e := w5.heap.size) bA o g (Nat.le_refl _)
          have PB := Lib.hid fun t W' o g => Ax.b (x := ⟨xn, xi⟩) (t := t) (W' := W') (hv := hv) (e := w5.heap.size) (f := w5.heap.size + 1) bB o g (Nat.le_refl _) lB (by omega)
          have PC := Lib.hid fun t W' o g => Ax.b (x := ⟨xn, xi⟩) (t := t) (W' := W') (hv := hv) (e := w5.heap.size + 1) (f := w5.heap.size) bC o g (by omega) lC (by omega)
          have hn1 : ([] : List Ix).length + hv.length ≤ 34359738368 := by have := HN.out; simp; omega
          have hn2 : hv.length + [(⟨xn, xi⟩ : Ix)].length ≤ 34359738368 := by have := HN.out; simp; omega
          have sA := bA.size
          have sB := bB.size
          have sC := bC.size
          have HX := Lib.hid fun W' (b : Below w5.heap.size w5 W') => H32.out.later b
          have HL3 : Hid ((hv ++ [(⟨xn, xi⟩ : Ix)]).length ≤ 100000) := by show _ ≤ _; have := HN.out; simp; omega
          have hge : D ≥ _ := HMr.out
          clear lB lC ka kx kax kxa kd bX
          go_region_law
            (first
              | (refine step_app ixSh rfl (.tmp 47) (.tmp 48) rfl rfl w5.heap.size _ _ [] hv rfl rfl hn1 oA sA iA ?_; intro t7 wz o7 g7; obtain ⟨B7, A7⟩ := PA.out t7 wz o7 g7; have z0 : wz.cell? ⟨q, 0, none⟩ = some (.int .i64 xn) := (HX.out wz B7).box.cell rfl; have z1 : wz.cell? ⟨q, 1, none⟩ = some (.int .u64 xi) := (HX.out wz B7).box.cell rfl)
              | (refine step_app ixSh rfl (.tmp 47) (.tmp 48) rfl rfl w5.heap.size _ _ [] hv rfl rfl hn1 oB sB iB ?_; intro t7 wz o7 g7; have A7 := PB.out t7 wz o7 g7)
              | (refine step_app ixSh rfl (.tmp 47) (.tmp 48) rfl rfl w5.heap.size _ _ [] hv rfl rfl hn1 oC sC iC ?_; intro t7 wz o7 g7; have A7 := PC.out t7 wz o7 g7)
              | (refine step_app ixSh rfl (.tmp 49) (.tmp 51) rfl rfl w5.heap.size _ _ hv [⟨xn, xi⟩] rfl rfl hn2 A7.own A7.bl.size A7.one ?_; intro t8 wy o8 g8; obtain ⟨B8, I8⟩ := A7.last o8 g8; have HK := HC2.out t8 HL3.out wy (HX.out wy B8).a I8)
              | (go_simp; go_at_call 15; refine HK.mono ?_; rintro e wv ⟨rfl, b9⟩))
          all_goals have BF := Lib.hid ((HX.out wy B8).w.trans (b9.mono (HX.out wy B8).w.size))
          all_goals clear A7 B8 I8 HK b9 o7 g7 o8 g8
          all_goals go_wp2_with fail
          all_goals go_ret
          all_goals first | exact ⟨rfl, BF.out⟩ | exact ⟨rfl, by rw [← HQ.out]; exact BF.out⟩
      · obtain rfl : C = 0 := by omega
        go_wp2_with fail
        with_reducible refine hR.mono ?_
        clear hR
        rintro e w4 ⟨rfl, rfl⟩
        have hab : most l (has hv 1) = false := HBst.out.above
        have hh1 := HH.out 1 (by omega) w3 H3.out.b
        go_wp2_with fail
        with_reducible refine hh1.mono ?_
        clear hh1
        rintro e w7 ⟨t, rfl, k5⟩
        have H32 := Lib.hid (H3.out.later k5.2)
        have hm := HM.out t (has hv 1) (by have := has_len hv 1; have := HN.out; omega) w7 H32.out.a k5.1.sl
        rw [hab] at hm
        clear k5 H3
        go_wp2_with fail
        with_reducible refine hm.mono ?_
        clear hm
        rintro e w6 ⟨rfl, rfl⟩
        clear HH HM
        obtain ⟨xn, xi⟩ := x
        have x0 : w7.cell? ⟨q, 0, none⟩ = some (.int .i64 xn) := H32.out.box.cell rfl
        have x1 : w7.cell? ⟨q, 1, none⟩ = some (.int .u64 xi) := H32.out.box.cell rfl
        go_upto_region 8 with (fail)
        have kd : Below w7.heap.size w7 w7.drew := below_drew (Below.refl _ _)
        have ka := below_box w7.drew (.cells #[] 31)
        have kx := below_box w7.drew (.cells #[.int .i64 xn, .int .u64 xi] 31)
        have kax := below_box (w7.drew.alloc (.cells #[] 31)) (.cells #[.int .i64 xn, .int .u64 xi] 31)
        have kxa := below_box (w7.drew.alloc (.cells #[.int .i64 xn, .int .u64 xi] 31)) (.cells #[] 31)
        have sz1 : (w7.drew.alloc (.cells #[] 31)).heap.size = w7.heap.size + 1 := by simp
        have sz2 : (w7.drew.alloc (.cells #[.int .i64 xn, .int .u64 xi] 31)).heap.size = w7.heap.size + 1 := by simp
        have bA : Below w7.heap.size w7 (w7.drew.alloc (.cells #[] 31)) := kd.trans ka
        have bX : Below w7.heap.size w7 (w7.drew.alloc (.cells #[.int .i64 xn, .int .u64 xi] 31)) := kd.trans kx
        have bB : Below w7.heap.size w7 ((w7.drew.alloc (.cells #[] 31)).alloc (.cells #[.int .i64 xn, .int .u64 xi] 31)) := bA.trans (kax.mono bA.size)
        have bC : Below w7.heap.size w7 ((w7.drew.alloc (.cells #[.int .i64 xn, .int .u64 xi] 31)).alloc (.cells #[] 31)) := bX.trans (kxa.mono bX.size)
        have oA := own_empty w7.drew w7.heap.size (Nat.le_refl _)
        have oB := oA.below ixSh kax
        have oC := own_empty (w7.drew.alloc (.cells #[.int .i64 xn, .int .u64 xi] 31)) w7.heap.size bX.size
        have lB := lit_at ixSh (w7.drew.alloc (.cells #[] 31)) ⟨xn, xi⟩
        have lC := (lit_at ixSh w7.drew ⟨xn, xi⟩).later _ kxa
        rw [sz1] at lB
        rw [sz2] at oC
        have iA := H32.out.b.later _ bA
        have iB := H32.out.b.later _ bB
        have iC := H32.out.b.later _ bC
        have y0 : (w7.alloc (.cells #[] 31)).cell? ⟨q, 0, none⟩ = some (.int .i64 xn) := (H32.out.box.below (below_box _ _)).cell rfl
        have y1 : (w7.alloc (.cells #[] 31)).cell? ⟨q, 1, none⟩ = some (.int .u64 xi) := (H32.out.box.below (below_box _ _)).cell rfl
        have PA := Lib.hid fun t W' o g => Ax.a (x := ⟨xn, xi⟩) (t := t) (W' := W') (hv := hv) (e := w7.heap.size) bA o g (Nat.le_refl _)
        have PB := Lib.hid fun t W' o g => Ax.b (x := ⟨xn, xi⟩) (t := t) (W' := W') (hv := hv) (e := w7.heap.size) (f := w7.heap.size + 1) bB o g (Nat.le_refl _) lB (by omega)
        have PC := Lib.hid fun t W' o g => Ax.b (x := ⟨xn, xi⟩) (t := t) (W' := W') (hv := hv) (e := w7.heap.size + 1) (f := w7.heap.size) bC o g (by omega) lC (by omega)
        have hn1 : ([] : List Ix).length + hv.length ≤ 34359738368 := by have := HN.out; simp; omega
        have hn2 : hv.length + [(⟨xn, xi⟩ : Ix)].length ≤ 34359738368 := by have := HN.out; simp; omega
        have sA := bA.size
        have sB := bB.size
        have sC := bC.size
        have HX := Lib.hid fun W' (b : Below w7.heap.size w7 W') => H32.out.later b
        have HL3 : Hid ((hv ++ [(⟨xn, xi⟩ : Ix)]).length ≤ 100000) := by show _ ≤ _; have := HN.out; simp; omega
        have hge : D ≥ _ := HMr.out
        clear lB lC ka kx kax kxa kd bX
        go_region_law
          (first
            | (refine step_app ixSh rfl (.tmp 47) (.tmp 48) rfl rfl w7.heap.size _ _ [] hv rfl rfl hn1 oA sA iA ?_; intro t7 wz o7 g7; obtain ⟨B7, A7⟩ := PA.out t7 wz o7 g7; have z0 : wz.cell? ⟨q, 0, none⟩ = some (.int .i64 xn) := (HX.out wz B7).box.cell rfl; have z1 : wz.cell? ⟨q, 1, none⟩ = some (.int .u64 xi) := (HX.out wz B7).box.cell rfl)
            | (refine step_app ixSh rfl (.tmp 47) (.tmp 48) rfl rfl w7.heap.size _ _ [] hv rfl rfl hn1 oB sB iB ?_; intro t7 wz o7 g7; have A7 := PB.out t7 wz o7 g7)
            | (refine step_app ixSh rfl (.tmp 47) (.tmp 48) rfl rfl w7.heap.size _ _ [] hv rfl rfl hn1 oC sC iC ?_; intro t7 wz o7 g7; have A7 := PC.out t7 wz o7 g7)
            | (refine step_app ixSh rfl (.tmp 49) (.tmp 51) rfl rfl w7.heap.size _ _ hv [⟨xn, xi⟩] rfl rfl hn2 A7.own A7.bl.size A7.one ?_; intro t8 wy o8 g8; obtain ⟨B8, I8⟩ := A7.last o8 g8; have HK := HC2.out t8 HL3.out wy (HX.out wy B8).a I8)
            | (go_simp; go_at_call 15; refine HK.mono ?_; rintro e wv ⟨rfl, b9⟩))
        all_goals have BF := Lib.hid ((HX.out wy B8).w.trans (b9.mono (HX.out wy B8).w.size))
        all_goals clear A7 B8 I8 HK b9 o7 g7 o8 g8
        all_goals go_wp2_with fail
        all_goals go_ret
        all_goals first | exact ⟨rfl, BF.out⟩ | exact ⟨rfl, by rw [← HQ.out]; exact BF.out⟩
end Go.Proofs.Ytnodgpbahlaccaa.qm
