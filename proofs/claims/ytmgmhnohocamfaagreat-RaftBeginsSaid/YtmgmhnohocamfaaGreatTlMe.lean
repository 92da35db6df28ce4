/-
  Who a log's members are: the program's search.
-/
import Derived.Test.YtmgmhnohocamfaaGreatTlMm
import Derived.Deep.CutRange
namespace Go.Proofs.YtmgmhnohocamfaaGreat.tl
set_option linter.unusedVariables false
open Go.RowKit Go.Shelf
open pk (S S_size S_data)
open qm (Bs noSh readS)
open rw (Arr But below_box bnext below_drew below_drewN)
open pt (Frm Moved Push Dep)
attribute [local go_sem] Oper.semAt_some

/-- Members handed out, with an index. -/
def MOut (w : World) (r : List Int × Nat) (e : Ending) (w' : World) : Prop := ∃ u, e = .returned (.tuple #[u, .int .u64 (r.2 : Nat)]) ∧ rw.Own noSh w' w.heap.size u r.1 ∧ Below w.heap.size w w'
set_option maxRecDepth 100000 in
theorem makeFunc_eq (fn : Fn) (first cap : Array Value) (w : World) : (Instr.makeFunc fn first cap).run Tryz.prog w = .ok (.func fn first cap) w := by simp [go_sem]
set_option maxRecDepth 100000 in
theorem backward_any (a0 a1 a2 a3 : Value) (i : Nat) (w : World) :
    Calls Tryz.prog 80 #[.agg #[a0, a1, a2, a3], .int .u64 (i : Nat)] w fun e w' => e = .returned (.func (.func 102) #[] #[.pointer (some ⟨w.heap.size, 0, none⟩), .pointer (some ⟨w.heap.size + 1, 0, none⟩)]) ∧ w' = (w.alloc (.cells #[a0, a1, a2, a3] 46)).alloc (.cells #[.int .u64 (i : Nat)] 34) := by
  have hmf : ∀ (fn : Fn) (first cap : Array Value) (w : World), (Instr.makeFunc fn first cap).run Tryz.prog w = .ok (.func fn first cap) w := makeFunc_eq
  go_enter Tryz.func80, Tryz.ntmps80
  go_wp2
  go_ret
  exact ⟨by simp, rfl⟩
theorem own_put {α : Type} {s : rw.Sh α} {w : World} {B D : Nat} {v : Value} {l : List α} (h : rw.Own s w B v l) (hD : w.heap[D]? = some (.deferred (some []))) (o : Obj) : rw.Own s (w.putObj D o) B v l := by
  refine qm.own_keep h fun i hi e => World.putObj_heap_other fun e2 => ?_
  subst e2
  obtain ⟨h1, h2 | ⟨g, cap, cur, h3, h4, h5, h6⟩⟩ := h
  · rw [h2.1] at e; cases e
  · rw [h3] at e
    simp only [Value.ownBlock, Option.some.injEq] at e
    subst e
    rw [h5] at hD
    cases hD
theorem out_put {w Wd : World} {D nq : Nat} {v : Value} {l : List Int} {r : List Int × Nat} {x : Nat} (hr : r = (l, x)) (h1 : rw.Own noSh Wd w.heap.size v l) (h2 : Below w.heap.size w Wd) (h3 : Wd.heap[D]? = some (.deferred (some []))) (h4 : w.heap.size ≤ D) (o : Obj) :
    MOut w r (.returned (.tuple #[v, .int .u64 (x : Nat)])) ((Wd.drewN nq).putObj D o) := by
  subst hr
  refine ⟨v, rfl, own_put (w := Wd.drewN nq) h1 h3 o, ?_⟩
  exact ⟨h2.os, h2.tape, h2.output, by have := h2.size; simp [World.putObj]; exact this, fun k hk => (World.putObj_heap_other (w := Wd.drewN nq) (by omega)).trans (h2.block k hk)⟩
/-- The loop: none so far says who they are. -/
def SI (w : World) (g : Lg) (bl bat : Nat) (u : Value) (pre : List (Nat × EnIn)) (O : Nat → Prop) (W : World) : Prop := (∀ x ∈ pre, says x.2 = none) ∧ Mb w W bl bat u g.conf g.base ∧ O bl ∧ O bat ∧ ∀ q, u.ownBlock = some q → O q
/-- .. one does. -/
def SX (w : World) (bl bat : Nat) (c : Code) (pre : List (Nat × EnIn)) (O : Nat → Prop) (W : World) : Prop := c = .exit 0 ∧ ∃ pre' x l u, pre = pre' ++ [x] ∧ (∀ y ∈ pre', says y.2 = none) ∧ says x.2 = some l ∧ Mb w W bl bat u l x.1 ∧ O bl ∧ O bat ∧ ∀ q, u.ownBlock = some q → O q
theorem Mb.frm {w X Y : World} {bl bat : Nat} {u : Value} {l : List Int} {x : Nat} {O : Nat → Prop} (h : Mb w X bl bat u l x) (k : Frm O X Y) (h1 : O bl) (h2 : O bat) (h3 : ∀ q, u.ownBlock = some q → O q) : Mb w Y bl bat u l x :=
  ⟨k.boxed h.m h1, k.boxed h.a h2, k.own h.o h3⟩
theorem SI.dep (w : World) (g : Lg) (bl bat : Nat) (u : Value) : Dep (SI w g bl bat u) := by
  rintro s O X Y ⟨h1, h2, h3, h4, h5⟩ k
  exact ⟨h1, h2.frm k h3 h4 h5, h3, h4, h5⟩
theorem SX.dep (w : World) (bl bat : Nat) (c : Code) : Dep (SX w bl bat c) := by
  rintro s O X Y ⟨h0, p, x, l, u, e, h1, h1', h2, h3, h4, h5⟩ k
  exact ⟨h0, p, x, l, u, e, h1, h1', h2.frm k h3 h4 h5, h3, h4, h5⟩
set_option maxHeartbeats 4000000 in
set_option maxRecDepth 100000 in
theorem members_any (g : Lg) (cv ev : Value) (i : Nat) (hi : i < 18446744073709551616) (hf : Fit g) (w : World) (h : LV w cv ev g) :
    Calls Tryz.prog 48 #[g.v cv ev, .int .u64 (i : Nat)] w (MOut w (g.mem (g.upTo i))) := by
  have H0 := Lib.hid h.box
  have HV := Lib.hid h
  obtain ⟨ca, cc, rfl⟩ := sl_form h.c
  have HC := Lib.hid fun W (k : Below w.heap.size w W) => iclone_any (.slice ca g.conf.length cc) g.conf hf.conf W (h.c.later _ k)
  have HF := Lib.hid hf
  obtain ⟨n, hn⟩ : ∃ n, g.conf.length = n := ⟨_, rfl⟩
  rw [hn] at H0 HC HV ⊢
  clear h hf hn
  refine (callsIn_wide (n := 12)).1 ?_
  refine callsIn_of_wp_marks Tryz.func48 rfl trivial ?_ rfl
  simp only [Tryz.ntmps48, List.size_toArray, List.length_cons, List.length_nil, Nat.reduceAdd, Nat.reduceSub, Array.replicate_succ, Array.replicate_zero, List.push_toArray, List.append_toArray, List.nil_append, List.cons_append]
  refine wpIn_wide.2 ?_
  go_upto_region 1 with (fail)
  generalize w.alloc (.cells #[.int .u64 (g.base : Nat), .int .u64 (g.bt : Nat), .slice ca n cc, ev] 46) = W at *
  go_step3
  go_upto_region 1 with (fail)
  go_cut [6, 7] from 6 (fun a b wx => ∃ bl bat u, a = .pointer (some ⟨bl, 0, none⟩) ∧ b = .pointer (some ⟨bat, 0, none⟩) ∧ Hid (MbX w wx (.slice ca n cc) ev g bl bat u))
  case first =>
    have M0 : Hid (My w W (.slice ca n cc) ev g none none none) := ⟨HV.out, H0.out, trivial, trivial, fun u e => by cases e⟩
    clear H0
    have MX := Lib.hid (M0.out.drew)
    have hC := HC.out _ MX.out.bx.b
    obtain ⟨ky0, ky1, ky2, ky3⟩ := MX.out.bx.cells
    have MXA := Lib.hid (M0.out.allocA.drew)
    have hCA := HC.out _ MXA.out.bx.b
    obtain ⟨kyA0, kyA1, kyA2, kyA3⟩ := MXA.out.bx.cells
    have MXB := Lib.hid (M0.out.allocB.drew)
    have hCB := HC.out _ MXB.out.bx.b
    obtain ⟨kyB0, kyB1, kyB2, kyB3⟩ := MXB.out.bx.cells
    have MXAB := Lib.hid (M0.out.allocAB.drew)
    have hCAB := HC.out _ MXAB.out.bx.b
    obtain ⟨kyAB0, kyAB1, kyAB2, kyAB3⟩ := MXAB.out.bx.cells
    have MXBA := Lib.hid (M0.out.allocBA.drew)
    have hCBA := HC.out _ MXBA.out.bx.b
    obtain ⟨kyBA0, kyBA1, kyBA2, kyBA3⟩ := MXBA.out.bx.cells
    refine wp_region_noPanic ?_
    go_region_law
      (first
        | (go_simp; go_at_call 52; with_reducible refine hC.mono ?_; rintro e w3 ⟨u, rfl, o3, b3⟩; obtain ⟨ua, uc, hu⟩ := o3.form; have MC := Lib.hid (MX.out.call b3 o3); have MD0 := Lib.hid (MC.out.allocAB); obtain ⟨p00, p01, p02, p03, p04⟩ := MD0.out.first; have pz0 := MD0.out.bx.cells.1; obtain ⟨pe0, pf0⟩ := MD0.out.cellB; have MD1 := Lib.hid (MC.out.allocBA); obtain ⟨p10, p11, p12, p13, p14⟩ := MD1.out.first; have pz1 := MD1.out.bx.cells.1; obtain ⟨pe1, pf1⟩ := MD1.out.cellB; have pa : ∀ o, (w3.alloc o).cell? ⟨w.heap.size, 0, none⟩ = some (.int .u64 (g.base : Nat)) := fun o => (MC.out.bx.below (below_box _ o)).cells.1; have pb : ∀ o o', ((w3.alloc o).alloc o').cell? ⟨w.heap.size, 0, none⟩ = some (.int .u64 (g.base : Nat)) := fun o o' => ((MC.out.bx.below (below_box _ o)).below (below_box _ o')).cells.1; clear b3 o3; have kz := MC.out.bx.cells.1; subst hu)
        | (go_simp; go_at_call 52; with_reducible refine hCA.mono ?_; rintro e w3 ⟨u, rfl, o3, b3⟩; obtain ⟨ua, uc, hu⟩ := o3.form; have MC := Lib.hid (MXA.out.call b3 o3); have MD0 := Lib.hid (MC.out.allocB); obtain ⟨p00, p01, p02, p03, p04⟩ := MD0.out.first; have pz0 := MD0.out.bx.cells.1; obtain ⟨pe0, pf0⟩ := MD0.out.cellB; obtain ⟨pg, ph⟩ := MC.out.cellA; obtain ⟨pgo, pho⟩ := MC.out.farA; have pa : ∀ o, (w3.alloc o).cell? ⟨w.heap.size, 0, none⟩ = some (.int .u64 (g.base : Nat)) := fun o => (MC.out.bx.below (below_box _ o)).cells.1; clear b3 o3; have kz := MC.out.bx.cells.1; subst hu)
        | (go_simp; go_at_call 52; with_reducible refine hCB.mono ?_; rintro e w3 ⟨u, rfl, o3, b3⟩; obtain ⟨ua, uc, hu⟩ := o3.form; have MC := Lib.hid (MXB.out.call b3 o3); have MD0 := Lib.hid (MC.out.allocA); obtain ⟨p00, p01, p02, p03, p04⟩ := MD0.out.first; have pz0 := MD0.out.bx.cells.1; obtain ⟨pe0, pf0⟩ := MD0.out.cellB; obtain ⟨pi, pj⟩ := MC.out.cellB; obtain ⟨pio, pjo⟩ := MC.out.farB; have pb : ∀ o, (w3.alloc o).cell? ⟨w.heap.size, 0, none⟩ = some (.int .u64 (g.base : Nat)) := fun o => (MC.out.bx.below (below_box _ o)).cells.1; clear b3 o3; have kz := MC.out.bx.cells.1; subst hu)
        | (go_simp; go_at_call 52; with_reducible refine hCAB.mono ?_; rintro e w3 ⟨u, rfl, o3, b3⟩; obtain ⟨ua, uc, hu⟩ := o3.form; have MC := Lib.hid (MXAB.out.call b3 o3); have MD0 := Lib.hid (MC.out); obtain ⟨p00, p01, p02, p03, p04⟩ := MD0.out.first; have pz0 := MD0.out.bx.cells.1; obtain ⟨pe0, pf0⟩ := MD0.out.cellB; obtain ⟨pg, ph⟩ := MC.out.cellA; obtain ⟨pgo, pho⟩ := MC.out.farA; have pa : ∀ o, (w3.alloc o).cell? ⟨w.heap.size, 0, none⟩ = some (.int .u64 (g.base : Nat)) := fun o => (MC.out.bx.below (below_box _ o)).cells.1; obtain ⟨pi, pj⟩ := MC.out.cellB; obtain ⟨pio, pjo⟩ := MC.out.farB; have pb : ∀ o, (w3.alloc o).cell? ⟨w.heap.size, 0, none⟩ = some (.int .u64 (g.base : Nat)) := fun o => (MC.out.bx.below (below_box _ o)).cells.1; clear b3 o3; have kz := MC.out.bx.cells.1; subst hu)
        | (go_simp; go_at_call 52; with_reducible refine hCBA.mono ?_; rintro e w3 ⟨u, rfl, o3, b3⟩; obtain ⟨ua, uc, hu⟩ := o3.form; have MC := Lib.hid (MXBA.out.call b3 o3); have MD0 := Lib.hid (MC.out); obtain ⟨p00, p01, p02, p03, p04⟩ := MD0.out.first; have pz0 := MD0.out.bx.cells.1; obtain ⟨pe0, pf0⟩ := MD0.out.cellB; obtain ⟨pg, ph⟩ := MC.out.cellA; obtain ⟨pgo, pho⟩ := MC.out.farA; have pa : ∀ o, (w3.alloc o).cell? ⟨w.heap.size, 0, none⟩ = some (.int .u64 (g.base : Nat)) := fun o => (MC.out.bx.below (below_box _ o)).cells.1; obtain ⟨pi, pj⟩ := MC.out.cellB; obtain ⟨pio, pjo⟩ := MC.out.farB; have pb : ∀ o, (w3.alloc o).cell? ⟨w.heap.size, 0, none⟩ = some (.int .u64 (g.base : Nat)) := fun o => (MC.out.bx.below (below_box _ o)).cells.1; clear b3 o3; have kz := MC.out.bx.cells.1; subst hu))
    all_goals refine NoPanic.normal ?_
    all_goals go_step
    all_goals go_step
    all_goals go_meet
    all_goals first
      | (refine ⟨w3.heap.size, w3.heap.size + 1, .slice ua g.conf.length uc, ?_, ?_, ?_⟩; (with_reducible rfl); (with_reducible rfl); with_reducible exact Lib.hid (MC.out.endAB))
      | (refine ⟨w3.heap.size + 1, w3.heap.size, .slice ua g.conf.length uc, ?_, ?_, ?_⟩; (with_reducible rfl); (with_reducible rfl); with_reducible exact Lib.hid (MC.out.endBA))
      | (refine ⟨W.heap.size, w3.heap.size, .slice ua g.conf.length uc, ?_, ?_, ?_⟩; (with_reducible rfl); (with_reducible rfl); with_reducible exact Lib.hid (MC.out.endA))
      | (refine ⟨W.heap.size, w3.heap.size, .slice ua g.conf.length uc, ?_, ?_, ?_⟩; (with_reducible rfl); (with_reducible rfl); with_reducible exact Lib.hid (MC.out.endA'))
      | (refine ⟨W.heap.size, w3.heap.size, .slice ua g.conf.length uc, ?_, ?_, ?_⟩; (with_reducible rfl); (with_reducible rfl); with_reducible exact Lib.hid (MD0.out.done'))
      | (refine ⟨w3.heap.size, W.heap.size, .slice ua g.conf.length uc, ?_, ?_, ?_⟩; (with_reducible rfl); (with_reducible rfl); with_reducible exact Lib.hid (MC.out.endB))
      | (refine ⟨w3.heap.size, W.heap.size, .slice ua g.conf.length uc, ?_, ?_, ?_⟩; (with_reducible rfl); (with_reducible rfl); with_reducible exact Lib.hid (MC.out.endB'))
      | (refine ⟨w3.heap.size, W.heap.size, .slice ua g.conf.length uc, ?_, ?_, ?_⟩; (with_reducible rfl); (with_reducible rfl); with_reducible exact Lib.hid (MD0.out.done'))
      | (refine ⟨W.heap.size, W.heap.size + 1, .slice ua g.conf.length uc, ?_, ?_, ?_⟩; (with_reducible rfl); (with_reducible rfl); with_reducible exact Lib.hid (MC.out.done'))
      | (refine ⟨W.heap.size + 1, W.heap.size, .slice ua g.conf.length uc, ?_, ?_, ?_⟩; (with_reducible rfl); (with_reducible rfl); with_reducible exact Lib.hid (MC.out.done'))
  case rest =>
    obtain ⟨bl, bat, u, rfl, rfl, HM⟩ := hcut
    obtain ⟨x0, x1, x2, x3⟩ := HM.out.2.1.cells
    have hBk := backward_any (.int .u64 (g.base : Nat)) (.int .u64 (g.bt : Nat)) (.slice ca n cc) ev i wc
    clear H0 HC
    go_wp2_with fail
    go_step3
    go_wp2_with fail
    with_reducible refine hBk.mono ?_
    clear hBk
    rintro e w2 ⟨rfl, rfl⟩
    go_wp2_with fail
    clear x0 x1 x2 x3
    obtain ⟨q, hq⟩ : ∃ q, wc.heap.size = q := ⟨_, rfl⟩
    have hwl := HM.out.2.1.a.lt
    have hlm := HM.out.1.m.lt
    have hla := HM.out.1.a.lt
    have hul := fun k => HM.out.1.o.lt k
    obtain ⟨W0, hW0⟩ : ∃ W0, (wc.alloc (.cells #[.int .u64 (g.base : Nat), .int .u64 (g.bt : Nat), .slice ca n cc, ev] 46)).alloc (.cells #[.int .u64 (i : Nat)] 34) = W0 := ⟨_, rfl⟩
    have s0 : W0.heap.size = q + 2 := by rw [← hW0, ← hq]; simp
    have B0 : Below wc.heap.size wc W0 := by rw [← hW0]; exact ((Below.refl _ wc).alloc (Nat.le_refl _) _).alloc (by simp) _
    have M0 : Mb w W0 bl bat u g.conf g.base := ⟨(B0.block _ hlm).trans HM.out.1.m, (B0.block _ hla).trans HM.out.1.a, HM.out.1.o.below _ B0⟩
    have hIt : It W0 q (q + 1) (.slice ca n cc) ev g i (fun k => k < w.heap.size ∨ k = q ∨ k = q + 1) := by
      have k1 := below_box wc (.cells #[.int .u64 (g.base : Nat), .int .u64 (g.bt : Nat), .slice ca n cc, ev] 46)
      have a1 := Arr.new wc 46 #[.int .u64 (g.base : Nat), .int .u64 (g.bt : Nat), .slice ca n cc, ev]
      have hs1 : (wc.alloc (.cells #[.int .u64 (g.base : Nat), .int .u64 (g.bt : Nat), .slice ca n cc, ev] 46)).heap.size = q + 1 := by rw [← hq]; simp
      have v0 := HM.out.2.1.v.later B0
      generalize wc.alloc (.cells #[.int .u64 (g.base : Nat), .int .u64 (g.bt : Nat), .slice ca n cc, ev] 46) = W1 at *
      have k2 := below_box W1 (.cells #[.int .u64 (i : Nat)] 34)
      have a2 := Boxed.new W1 34 (.int .u64 (i : Nat))
      rw [hs1] at a2
      rw [hq] at a1
      rw [hW0] at k2 a2
      exact ⟨a1.below k2, a2.cell, v0, .inr (.inl rfl), .inr (.inr rfl), fun h' k hk => .inl (HV.out.l.lt _ h' hk), fun h' k hk => .inl (HV.out.c.lt _ h' hk), fun k hk => by rcases hk with h' | h' | h' <;> omega⟩
    have hP := back_push 11 (by omega) g (.slice ca n cc) ev i q (q + 1) hi HF.out _ W0 hIt
    have hup := g.upTo_le i
    obtain ⟨N, hN⟩ : ∃ N, g.upTo i = N := ⟨_, rfl⟩
    have HN := Lib.hid hN
    rw [hN] at hP hup ⊢
    rw [hW0, hq]
    have HU : Hid (∀ k, u.ownBlock = some k → w.heap.size < k ∧ k < q) := fun k hk => by have := hul k hk; omega
    have HM0 := Lib.hid M0
    have HB : Hid (Below w.heap.size w W0) := HM.out.2.1.b.trans (B0.mono HM.out.2.1.b.size)
    have hg1 := HM.out.2.2.1
    have hg2 := HM.out.2.2.2
    rw [hq] at hlm hla hwl
    clear hIt hW0 B0 M0 hul HM hq hN
    refine wpIn_wide (n := 12) |>.1 ?_
    refine pt.wpIn_push (n := 12) (by omega) (gf := 102) (lb := #[.pointer (some ⟨q, 0, none⟩), .pointer (some ⟨q + 1, 0, none⟩)]) rfl (enters_of Tryz.func102 (by kernel_rfl) rfl)
      hP (Frm.refl _ _) (by intro k hk; rcases hk with h' | h' | h' <;> omega) (fun _ h => h.elim) (fun _ => rfl)
      (SI w g bl bat u) (SX w bl bat) (SI.dep _ _ _ _ _) (SX.dep _ _ _) (fun k => k = bl ∨ k = bat ∨ u.ownBlock = some k)
      (fun k hk => by rcases hk with h' | h' | h' <;> first | exact ⟨by omega, by omega⟩ | (have := HU.out k h'; exact ⟨by omega, by omega⟩))
      ⟨fun x hx => (by cases hx), HM0.out, .inl rfl, .inr (.inl rfl), fun k hk => .inr (.inr hk)⟩
      (fun x N a' W => ∃ Bx, N ≤ Bx ∧ Arr W Bx 51 #[.int .u64 (x.2.term : Nat), .int .i64 x.2.kind, .string (S x.2.data)] ∧ a' = { tmps := #[g.v (.slice ca n cc) ev, .int .u64 (i : Nat), .pointer (some ⟨w.heap.size, 0, none⟩), undef, .slice none 0 0, .int .u64 0, .pointer (some ⟨bl, 0, none⟩), .pointer (some ⟨bat, 0, none⟩), .int .u64 (x.1 : Nat), .pointer (some ⟨Bx, 0, none⟩), u10, u11, u12, u13, u14, u15, u16, .agg #[.int .u64 (g.base : Nat), .int .u64 (g.bt : Nat), .slice ca n cc, ev], .int .u64 (i : Nat), .func (.func 102) #[] #[.pointer (some ⟨q, 0, none⟩), .pointer (some ⟨q + 1, 0, none⟩)], .int .u64 (x.1 : Nat), .agg #[.int .u64 (x.2.term : Nat), .int .i64 x.2.kind, .string (S x.2.data)], u22, u23, u24, u25, u26, u27, u28, u29, u30, u31, u32, u33, u34, u35, u36], defers := [] })
      (by rintro x N' a' X Y ⟨Bx, h1, h2, h3⟩ hXY; exact ⟨Bx, h1, (hXY Bx h1 h2.lt).trans h2, h3⟩)
      ?assign ?body ?done ?stop
    case assign =>
      intro l x W K hK
      simp only [backV]
      gi_wp2
      exact hK _ _ (below_box _ _) ⟨W.heap.size, Nat.le_refl _, Arr.new _ _ _, rfl⟩
    case body =>
      rintro l pre ⟨xi, ⟨xt, xk, xd⟩⟩ post O W N' a' hx ⟨hn, hM, ho1, ho2, ho3⟩ hOb hNs ⟨Bx, hBx, hA, rfl⟩
      have hsub := backs_sub g N hup (xi, ⟨xt, xk, xd⟩) (by rw [hx]; simp)
      have hxd : xd.length ≤ 281474976710656 := (HF.out.e _ hsub.1).2
      simp only at hA
      have c0 := hA.cell (j := 0) (v := .int .u64 (xt : Nat)) rfl
      have c1 := hA.cell (j := 1) (v := .int .i64 xk) rfl
      have c2 := hA.cell (j := 2) (v := .string (S xd)) rfl
      have hn1 : 1 ≤ 12 - 1 - 1 := by omega
      by_cases hk : xk = 2
      · have q1 : (xk != 2) = false := by rw [hk]; rfl
        have HK := Lib.hid hk
        have hRd := qm.read_any xd hxd W
        obtain ⟨z, hz⟩ : ∃ z, (readS xd).2 = z := ⟨_, rfl⟩
        obtain ⟨rl, hrl⟩ : ∃ r, (readS xd).1 = r := ⟨_, rfl⟩
        simp only [qm.RdOut, hz, hrl] at hRd
        have HZ := Lib.hid (And.intro hz hrl)
        have HI := Lib.hid (And.intro hn (And.intro hM (And.intro ho1 (And.intro ho2 ho3))))
        have HO := Lib.hid hOb
        have hNs2 := Nat.le_trans (Nat.succ_le_of_lt (Nat.lt_of_lt_of_le (Nat.lt_trans hg1 (HO.out _ ho1)) hNs)) (Nat.le_refl _)
        clear hk hz hrl hn hM ho1 ho2 ho3 hOb hA c0 hsub hx
        gi_wp2_with fail
        refine ⟨trivial, ?_⟩
        refine (CallsIn.inRound l (callsIn_wide.2 hRd)).mono ?_
        clear hRd c1 c2
        rintro e w3 ⟨v, rfl, hN3⟩
        have l3 : Boxed w3 bl 36 u := (hN3.2.block _ HI.out.2.1.m.lt).trans HI.out.2.1.m
        have a3 : Boxed w3 bat 34 (.int .u64 (g.base : Nat)) := (hN3.2.block _ HI.out.2.1.a.lt).trans HI.out.2.1.a
        have o3 : rw.Own noSh w3 (w.heap.size + 1) u g.conf := HI.out.2.1.o.below _ hN3.2
        have b3 := hN3.2
        by_cases hz0 : z = 0
        · subst hz0
          have q2 : (((0 : Nat) : Int) == 0) = true := rfl
          have hne := bl_ne l3 a3
          have p1 := l3.cell
          have p2 := l3.frozen
          have a4 := a3.other (B' := bl) (fun e => hne e.symm) v
          have p3 := a4.cell
          have p4 := a4.frozen
          have p5 := a3.cell
          have p6 := a3.frozen
          have l4 := l3.set v
          have k4 : But bl w3 (w3.setCell ⟨bl, 0, none⟩ v) := (But.refl bl w3).set 0 v
          have v4 := own_but (own_lower hN3.1 hNs2) l3 (by decide) k4
          have hvl : ∀ k, v.ownBlock = some k → W.heap.size ≤ k ∧ k < w3.heap.size := fun k hk => hN3.1.lt k hk
          have l5 := l4.other (B' := bat) hne (.int .u64 (xi : Nat))
          have a5 := a4.set (.int .u64 (xi : Nat))
          have k5 : But bat (w3.setCell ⟨bl, 0, none⟩ v) ((w3.setCell ⟨bl, 0, none⟩ v).setCell ⟨bat, 0, none⟩ (.int .u64 (xi : Nat))) := (But.refl bat _).set 0 _
          have v5 := own_but v4 a4 (by decide) k5
          have HE : Hid (∃ O', SX w bl bat (.exit 0) (pre ++ [(xi, ⟨xt, xk, xd⟩)]) O' ((w3.setCell ⟨bl, 0, none⟩ v).setCell ⟨bat, 0, none⟩ (.int .u64 (xi : Nat))) ∧ pt.Step O O' W ((w3.setCell ⟨bl, 0, none⟩ v).setCell ⟨bat, 0, none⟩ (.int .u64 (xi : Nat)))) := by
            have hso : ∀ k, v.ownBlock = some k → W.heap.size ≤ k ∧ k < w3.heap.size := hvl
            refine ⟨fun k => k = bl ∨ k = bat ∨ v.ownBlock = some k, ⟨rfl, pre, _, rl, v, rfl, HI.out.1, ?_, ⟨l5, a5, v5⟩, .inl rfl, .inr (.inl rfl), fun k hk => .inr (.inr hk)⟩, ⟨?_, ?_, ?_, ?_, ?_, ?_⟩⟩
            · rw [says_yes HK.out HZ.out.1]; rw [HZ.out.2]
            · exact k5.os.trans (k4.os.trans b3.os)
            · exact k5.tape.trans (k4.tape.trans b3.tape)
            · exact k5.output.trans (k4.output.trans b3.output)
            · exact Nat.le_trans b3.size (Nat.le_trans k4.size k5.size)
            · intro k hk hnk
              have n1 : k ≠ bl := fun e => hnk (e ▸ HI.out.2.2.1)
              have n2 : k ≠ bat := fun e => hnk (e ▸ HI.out.2.2.2.1)
              have z3 := b3.size
              have z4 := k4.size
              exact (k5.block k (by omega) n2).trans ((k4.block k (by omega) n1).trans (b3.block k hk))
            · intro k hk
              rcases hk with rfl | rfl | hk
              · exact .inl HI.out.2.2.1
              · exact .inl HI.out.2.2.2.1
              · have := hso k hk
                have := k4.size
                have := k5.size
                exact .inr ⟨by omega, by omega⟩
          obtain ⟨va, vc, rfl⟩ := hN3.1.form
          clear l3 a3 o3 a4 l4 k4 v4 l5 a5 k5 v5 hN3 hvl b3
          gi_wp2_with fail
          exact HE.out
        · have q2 : ((z : Int) == 0) = false := beq_eq_false_iff_ne.2 (by omega)
          have HE : Hid (∃ O', SI w g bl bat u (pre ++ [(xi, ⟨xt, xk, xd⟩)]) O' w3 ∧ pt.Step O O' W w3) := by
            refine ⟨O, ⟨fun y hy => ?_, ⟨l3, a3, o3⟩, HI.out.2.2⟩, pt.moved_of_below _ _ b3⟩
            rcases List.mem_append.1 hy with hy | hy
            · exact HI.out.1 y hy
            · obtain rfl : y = (xi, ⟨xt, xk, xd⟩) := by simpa using hy
              exact says_no_text (by rw [HZ.out.1]; exact hz0)
          clear l3 a3 o3 hN3 b3
          gi_wp2_with fail
          exact HE.out
      · have q1 : (xk != 2) = true := bne_iff_ne.2 hk
        have HE : Hid (∃ O', SI w g bl bat u (pre ++ [(xi, ⟨xt, xk, xd⟩)]) O' W ∧ pt.Step O O' W W) := by
          refine ⟨O, ⟨fun y hy => ?_, hM, ho1, ho2, ho3⟩, pt.Moved.refl _ _ _⟩
          rcases List.mem_append.1 hy with hy | hy
          · exact hn y hy
          · obtain rfl : y = (xi, ⟨xt, xk, xd⟩) := by simpa using hy
            exact says_no_kind hk
        clear hn hM ho1 ho2 ho3 hOb hA hx hsub hk
        gi_wp2_with fail
        exact HE.out
    case done =>
      rintro D O' Wd hD ⟨hn, hM, ho1, ho2, ho3⟩ hMv nD hDd
      have HE : Hid (g.mem (g.upTo i) = (g.conf, g.base)) := by rw [HN.out]; exact mem_none g N hn
      have c5 := hM.m.cell
      have c6 := hM.a.cell
      have HF2 : Hid (rw.Own noSh Wd w.heap.size u g.conf ∧ Below w.heap.size w Wd ∧ Wd.heap[D]? = some (.deferred (some [])) ∧ w.heap.size ≤ D) := by
        refine ⟨own_lower hM.o (Nat.le_succ _), HB.out.trans (hMv.below (by have := HB.out.size; exact this) (fun k hk => ?_)), hDd, by have := HB.out.size; omega⟩
        rcases hk with (h' | h' | h') | h'
        · omega
        · omega
        · have := HU.out k h'; omega
        · exact h'.elim
      clear hMv nD hDd
      obtain ⟨ua, uc, rfl⟩ := hM.o.form
      clear hM hn ho1 ho2 ho3
      go_upto_region 9 with (fail)
      go_quiet (fail)
      go_wp2_with fail
      rw [Exit.noGoto_ret]
      refine ⟨by simp, .inl ⟨_, _, rfl, run_takeDeferred (w := Wd.drewN nq) HF2.out.2.2.1, ?_⟩⟩
      refine ⟨_, results_tmp2 rfl _ _ _, ?_⟩
      exact out_put (nq := nq) HE.out HF2.out.1 HF2.out.2.1 HF2.out.2.2.1 HF2.out.2.2.2 _
    case stop =>
      rintro D c pre O' Wd hD hpre ⟨rfl, pre', x, l, v, rfl, hn, hs, hM, ho1, ho2, ho3⟩ hMv nD hDd
      have HE : Hid (g.mem (g.upTo i) = (l, x.1)) := by rw [HN.out]; exact mem_some g N pre' x l hpre hn hs
      have c5 := hM.m.cell
      have c6 := hM.a.cell
      have HF2 : Hid (rw.Own noSh Wd w.heap.size v l ∧ Below w.heap.size w Wd ∧ Wd.heap[D]? = some (.deferred (some [])) ∧ w.heap.size ≤ D) := by
        refine ⟨own_lower hM.o (Nat.le_succ _), HB.out.trans (hMv.below (by have := HB.out.size; exact this) (fun k hk => ?_)), hDd, by have := HB.out.size; omega⟩
        rcases hk with (h' | h' | h') | h'
        · omega
        · omega
        · have := HU.out k h'; omega
        · exact h'.elim
      clear hMv nD hDd
      obtain ⟨ua, uc, rfl⟩ := hM.o.form
      clear hM hn ho1 ho2 ho3 hs hpre
      gi_wp2_with fail
      go_upto_region 9 with (fail)
      go_quiet (fail)
      go_wp2_with fail
      rw [Exit.noGoto_ret]
      refine ⟨by simp, .inl ⟨_, _, rfl, run_takeDeferred (w := Wd.drewN nq) HF2.out.2.2.1, ?_⟩⟩
      refine ⟨_, results_tmp2 rfl _ _ _, ?_⟩
      exact out_put (nq := nq) HE.out HF2.out.1 HF2.out.2.1 HF2.out.2.2.1 HF2.out.2.2.2 _
end Go.Proofs.YtmgmhnohocamfaaGreat.tl
