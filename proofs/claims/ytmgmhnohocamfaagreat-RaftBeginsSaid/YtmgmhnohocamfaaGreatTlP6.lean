/-
  A log's beginning: the program's Install.
-/
import Derived.Test.YtmgmhnohocamfaaGreatTlP5
import Derived.Deep.CutRange
namespace Go.Proofs.YtmgmhnohocamfaaGreat.tl
set_option linter.unusedVariables false
open Go.RowKit
open pk (S S_size S_data)
open qm (Bs noSh)
open rw (Arr But below_box bnext below_drew below_drewN)

theorem results_lg2 {w : World} {fn : Func} {tmps : Array Value} {t rb base bterm : Nat} {cv ev : Value} (h : fn.results = #[.cell t 46]) (h2 : tmps[t]? = some (.pointer (some ⟨rb, 0, none⟩)))
    (hC : Arr w rb 46 (lgC base bterm cv ev)) :
    (results fn tmps).run Tryz.prog w = .ok (.agg (lgC base bterm cv ev)) w := by
  have z0 := hC.cell (j := 0) rfl
  have z1 := hC.cell (j := 1) rfl
  have z2 := hC.cell (j := 2) rfl
  have z3 := hC.cell (j := 3) rfl
  simp [results, h, h2, go_sem, z0, z1, z2, z3, lgC]
/-- Two boxes: the log that came in, the log in the making; the result's, empty. -/
structure In (w W : World) (cv ev : Value) (g : Lg) (h : Lg) (hv ev2 : Value) : Prop where
  fg : Arr W w.heap.size 46 (lgC g.base g.bt cv ev)
  fr : Arr W (w.heap.size + 1) 46 #[.int .u64 0, .int .u64 0, .slice none 0 0, .slice none 0 0]
  fh : Arr W (w.heap.size + 1 + 1) 46 (lgC h.base h.bt hv ev2)
  v : LV W cv ev g
  b : Below w.heap.size w W
theorem In.below {w W W' : World} {cv ev : Value} {g h : Lg} {hv ev2 : Value} (a : In w W cv ev g h hv ev2) (k : Below W.heap.size W W') : In w W' cv ev g h hv ev2 :=
  ⟨a.fg.below k, a.fr.below k, a.fh.below k, a.v.later k, a.b.trans (k.mono a.b.size)⟩
theorem In.cg {w W : World} {cv ev : Value} {g h : Lg} {hv ev2 : Value} (a : In w W cv ev g h hv ev2) :
    W.cell? ⟨w.heap.size, 0, none⟩ = some (.int .u64 (g.base : Nat)) ∧ W.cell? ⟨w.heap.size, 1, none⟩ = some (.int .u64 (g.bt : Nat)) ∧ W.cell? ⟨w.heap.size, 2, none⟩ = some cv ∧ W.cell? ⟨w.heap.size, 3, none⟩ = some ev := ⟨a.fg.cell rfl, a.fg.cell rfl, a.fg.cell rfl, a.fg.cell rfl⟩
theorem In.ch {w W : World} {cv ev : Value} {g h : Lg} {hv ev2 : Value} (a : In w W cv ev g h hv ev2) :
    W.cell? ⟨w.heap.size + 1 + 1, 0, none⟩ = some (.int .u64 (h.base : Nat)) ∧ W.cell? ⟨w.heap.size + 1 + 1, 1, none⟩ = some (.int .u64 (h.bt : Nat)) ∧ W.cell? ⟨w.heap.size + 1 + 1, 2, none⟩ = some hv ∧ W.cell? ⟨w.heap.size + 1 + 1, 3, none⟩ = some ev2 ∧ W.frozen? ⟨w.heap.size + 1 + 1, 3, none⟩ = false := ⟨a.fh.cell rfl, a.fh.cell rfl, a.fh.cell rfl, a.fh.cell rfl, a.fh.frozen 3⟩
theorem In.cr {w W : World} {cv ev : Value} {g h : Lg} {hv ev2 : Value} (a : In w W cv ev g h hv ev2) :
    W.cell? ⟨w.heap.size + 1, 0, none⟩ = some (.int .u64 0) ∧ W.cell? ⟨w.heap.size + 1, 1, none⟩ = some (.int .u64 0) ∧ W.cell? ⟨w.heap.size + 1, 2, none⟩ = some (.slice none 0 0) ∧ W.cell? ⟨w.heap.size + 1, 3, none⟩ = some (.slice none 0 0) ∧ W.frozen? ⟨w.heap.size + 1, 0, none⟩ = false ∧ W.frozen? ⟨w.heap.size + 1, 1, none⟩ = false ∧ W.frozen? ⟨w.heap.size + 1, 2, none⟩ = false ∧ W.frozen? ⟨w.heap.size + 1, 3, none⟩ = false := ⟨a.fr.cell rfl, a.fr.cell rfl, a.fr.cell rfl, a.fr.cell rfl, a.fr.frozen 0, a.fr.frozen 1, a.fr.frozen 2, a.fr.frozen 3⟩
/-- The log in the making gets its entries. -/
theorem In.put {w W : World} {cv ev : Value} {g h : Lg} {hv ev2 : Value} (h0 : LV w cv ev g) (a : In w W cv ev g h hv ev2) (u : Value) : In w (W.setCell ⟨w.heap.size + 1 + 1, 3, none⟩ u) cv ev g h hv u := by
  have k : But (w.heap.size + 1 + 1) W (W.setCell ⟨w.heap.size + 1 + 1, 3, none⟩ u) := (But.refl _ W).set 3 u
  have b := a.b.trans (k.below a.b.size (by omega))
  exact ⟨k.arr a.fg (by omega), k.arr a.fr (by omega), a.fh.set 3 u, h0.later b, b⟩
theorem In.drew {w W : World} {cv ev : Value} {g h : Lg} {hv ev2 : Value} (a : In w W cv ev g h hv ev2) : In w W.drew cv ev g h hv ev2 := a.below (below_drew (Below.refl _ _))
theorem In.start {w : World} {cv ev hv : Value} {g h : Lg} (hh : h.es = []) (a : LV w cv ev g) : In w (((w.alloc (.cells #[.int .u64 (g.base : Nat), .int .u64 (g.bt : Nat), cv, ev] 46)).alloc (.cells #[.int .u64 0, .int .u64 0, .slice none 0 0, .slice none 0 0] 46)).alloc (.cells #[.int .u64 (h.base : Nat), .int .u64 (h.bt : Nat), hv, .slice none 0 0] 46)) cv ev g h hv (.slice none 0 0) := by
  have b1 := a.box
  have s1 : (w.alloc (.cells #[.int .u64 (g.base : Nat), .int .u64 (g.bt : Nat), cv, ev] 46)).heap.size = w.heap.size + 1 := by simp
  generalize w.alloc (.cells #[.int .u64 (g.base : Nat), .int .u64 (g.bt : Nat), cv, ev] 46) = W1 at *
  have k2 := below_box W1 (.cells #[.int .u64 0, .int .u64 0, .slice none 0 0, .slice none 0 0] 46)
  have a2 := Arr.new W1 46 #[.int .u64 0, .int .u64 0, .slice none 0 0, .slice none 0 0]
  have b2 := b1.below k2
  have s2 : (W1.alloc (.cells #[.int .u64 0, .int .u64 0, .slice none 0 0, .slice none 0 0] 46)).heap.size = w.heap.size + 1 + 1 := by simp [s1]
  rw [s1] at a2
  generalize W1.alloc (.cells #[.int .u64 0, .int .u64 0, .slice none 0 0, .slice none 0 0] 46) = W2 at *
  have k3 := below_box W2 (.cells #[.int .u64 (h.base : Nat), .int .u64 (h.bt : Nat), hv, .slice none 0 0] 46)
  have a3 := Arr.new W2 46 #[.int .u64 (h.base : Nat), .int .u64 (h.bt : Nat), hv, .slice none 0 0]
  have b3 := b2.below k3
  rw [s2] at a3
  exact ⟨b3.a, a2.below k3, a3, b3.v, b3.b⟩
/-- The result's box is filled. -/
theorem put_out {w W : World} {rb base bterm : Nat} {c : List Int} {l : List EnIn} {cv ev : Value} {a0 a1 a2 a3 : Value} (hr : Arr W rb 46 #[a0, a1, a2, a3]) (hrb : w.heap.size ≤ rb)
    (h1 : rw.Own noSh W w.heap.size cv c) (h2 : rw.Own enSh W w.heap.size ev l) (h3 : Below w.heap.size w W) :
    Arr (layL W rb base bterm cv ev) rb 46 (lgC base bterm cv ev) ∧ LogOut w base bterm c l (.returned (.agg (lgC base bterm cv ev))) (layL W rb base bterm cv ev) := by
  have k := layL_but W rb base bterm cv ev
  exact ⟨layL_arr hr, _, _, rfl, own_but h1 hr (by decide) k, own_but h2 hr (by decide) k, h3.trans (k.below h3.size hrb)⟩
set_option maxHeartbeats 8000000 in
set_option maxRecDepth 100000 in
theorem install_any (g : Lg) (cv ev : Value) (i t : Nat) (hv : Value) (conf : List Int) (hi : i < 18446744073709551616) (ht : t < 18446744073709551616) (hc : conf.length ≤ 1000000000) (hf : Fit g) (w : World) (h : LV w cv ev g) (hh : rw.Sl noSh w hv conf) :
    Calls Tryz.prog 127 #[g.v cv ev, .int .u64 (i : Nat), .int .u64 (t : Nat), hv] w (LogOut w i t conf (g.install i t conf).es) := by
  obtain ⟨ha, hcc, rfl⟩ := sl_form hh
  obtain ⟨a2, k2, rfl⟩ := sl_form h.l
  have H0 := Lib.hid (In.start (h := ⟨i, t, conf, []⟩) (hv := .slice ha conf.length hcc) rfl h)
  have HT := Lib.hid fun W (b : Below w.heap.size w W) => term_any g cv (.slice a2 g.es.length k2) i hi hf W (h.later b)
  have HU := Lib.hid fun W (b : Below w.heap.size w W) => upTo_any g cv (.slice a2 g.es.length k2) i hi hf W (h.later b)
  have HH := Lib.hid fun W (b : Below w.heap.size w W) => hh.later _ b
  have HV := Lib.hid fun W (b : Below w.heap.size w W) => h.l.later _ b
  have HL := Lib.hid h
  have HC := Lib.hid fun W (v1 v2 : Value) (l : List EnIn) (hl : l.length ≤ 1000000000) (hd : ∀ e ∈ l, e.data.length ≤ 281474976710656) (x1 : rw.Sl noSh W v1 conf) (x2 : rw.Sl enSh W v2 l) => copyLog_any i t v1 v2 conf l hc hl hd W x1 x2
  have hes := hf.es
  have HE := Lib.hid hf.e
  obtain ⟨u, hu⟩ : ∃ u, g.upTo i = u := ⟨_, rfl⟩
  have hul := g.upTo_le i
  rw [hu] at HU hul
  obtain ⟨T, hT⟩ : ∃ T, g.term i = T := ⟨_, rfl⟩
  rw [hT] at HT
  obtain ⟨tt, tb⟩ := T
  obtain ⟨R, hR⟩ : ∃ R, (g.install i t conf).es = R := ⟨_, rfl⟩
  rw [hR]
  have HR : Hid (R = if (tt, tb) = (t, true) then g.es.drop u else []) := by show R = _; rw [← hR, Lg.install, hT, hu]
  obtain ⟨m, hm⟩ : ∃ m, u + m = g.es.length := ⟨g.es.length - u, by omega⟩
  obtain ⟨a3, k3, hs3, hS3⟩ := cut_from .i64 h.l u m hm
  have HS3 := Lib.hid hS3
  obtain ⟨N, hN⟩ : ∃ N, g.es.length = N := ⟨_, rfl⟩
  have HN := Lib.hid hN
  obtain ⟨cn, hcn⟩ : ∃ cn, conf.length = cn := ⟨_, rfl⟩
  have HCN := Lib.hid hcn
  rw [hN] at H0 HT HU HV HL hs3 HS3 hm hul ⊢
  rw [hcn] at H0 HH ⊢
  simp only at H0
  clear h hh hf hu hT hR hS3 hN hcn
  go_enter Tryz.func127, Tryz.ntmps127
  go_upto_region 2 with (fail)
  generalize ((w.alloc (.cells #[.int .u64 (g.base : Nat), .int .u64 (g.bt : Nat), cv, .slice a2 N k2] 46)).alloc (.cells #[.int .u64 0, .int .u64 0, .slice none 0 0, .slice none 0 0] 46)).alloc (.cells #[.int .u64 (i : Nat), .int .u64 (t : Nat), .slice ha cn hcc, .slice none 0 0] 46) = W0 at *
  have hT := HT.out W0 H0.out.b
  obtain ⟨x0, x1, x2, x3⟩ := H0.out.cg
  go_wp2_with fail
  with_reducible refine hT.mono ?_
  clear hT x0 x1 x2 x3
  rintro e w2 ⟨rfl, b2⟩
  have H2 := Lib.hid (H0.out.below b2)
  clear b2 H0
  by_cases hyes : tb = true ∧ tt = t
  · obtain ⟨rfl, rfl⟩ := hyes
    have HR2 : Hid (R = g.es.drop u) := by show R = _; rw [HR.out, if_pos rfl]
    have q1 : ((tt : Int) == (tt : Int)) = true := beq_iff_eq.2 rfl
    clear HR q1
    go_upto_region 4 with (fail)
    have H3 := Lib.hid H2.out.drew
    clear H2
    have hU := HU.out w2.drew H3.out.b
    have kx := H3.out.cg
    go_region_held3 (fun W => W.cell? ⟨w.heap.size, 0, none⟩ = some (.int .u64 (g.base : Nat)) ∧ W.cell? ⟨w.heap.size, 1, none⟩ = some (.int .u64 (g.bt : Nat)) ∧ W.cell? ⟨w.heap.size, 2, none⟩ = some cv ∧ W.cell? ⟨w.heap.size, 3, none⟩ = some (.slice a2 N k2))
      (first | (with_reducible exact kx) | (with_reducible exact ky) | (with_reducible exact kz))
      (first
        | (go_at_call 103; with_reducible refine hU.mono ?_; rintro e w4 ⟨rfl, b4⟩; have H4 := Lib.hid (H3.out.below b4); have ky := H4.out.cg; have H5 := Lib.hid (H4.out.put (HL.out) (.slice a3 m k3)); have kz := H5.out.cg; obtain ⟨z0, z1, z2, z3, z4⟩ := H4.out.ch; clear b4 hU))
    clear kx ky kz z0 z1 z2 z3 z4
    generalize w4.setCell ⟨w.heap.size + 1 + 1, 3, none⟩ (.slice a3 m k3) = W5 at *
    obtain ⟨x0, x1, x2, x3, x4⟩ := H5.out.ch
    simp only at x0 x1
    have hC := HC.out W5 (.slice ha cn hcc) (.slice a3 m k3) R (by rw [HR2.out]; rw [List.length_drop]; omega) (fun e he => by rw [HR2.out] at he; exact (HE.out e (List.mem_of_mem_drop he)).2) (HH.out W5 H5.out.b) (by rw [HR2.out]; exact HS3.out W5 (HV.out W5 H5.out.b))
    go_wp2_with fail
    with_reducible refine hC.mono ?_
    clear hC x0 x1 x2 x3 x4
    rintro e w6 ⟨cv6, ev6, rfl, o1, o2, b6⟩
    have H6 := Lib.hid (H5.out.below b6)
    have HP := Lib.hid (put_out (w := w) (W := w6) (rb := w.heap.size + 1) (base := i) (bterm := tt) (c := conf) (l := R) H6.out.fr (by omega) (own_lower o1 H5.out.b.size) (own_lower o2 H5.out.b.size) H6.out.b)
    obtain ⟨c6a, c6c, rfl⟩ := o1.form
    obtain ⟨e6a, e6c, rfl⟩ := o2.form
    clear o1 o2 b6
    obtain ⟨y0, y1, y2, y3, f0, f1, f2, f3⟩ := H6.out.cr
    simp only [lgC]
    go_wp2_with fail
    exact bodyPost_ret (results_lg2 rfl rfl HP.out.1) rfl HP.out.2
  · have HR2 : Hid (R = []) := by
      show R = _
      rw [HR.out, if_neg]
      intro e
      injection e with e1 e2
      exact hyes ⟨e2, e1⟩
    clear HR
    have hq : tb = false ∨ (tb = true ∧ ((tt : Int) == (t : Int)) = false) := by
      cases tb with
      | false => exact .inl rfl
      | true => exact .inr ⟨rfl, beq_eq_false_iff_ne.2 (fun e => hyes ⟨rfl, by omega⟩)⟩
    have H5 := H2
    clear H2
    obtain ⟨W5, hW5⟩ : ∃ W5, w2 = W5 := ⟨_, rfl⟩
    rw [hW5] at H5 ⊢
    clear hW5 hyes
    have hq2 : Hid (tb = true → decide (tt = t) = false) := fun e => by
      rcases hq with h' | h'
      · rw [e] at h'; cases h'
      · have := h'.2; exact decide_eq_false (fun e2 => by subst e2; simp at this)
    rcases hq with rfl | ⟨rfl, q1⟩
    all_goals (
      try have q2 := hq2.out rfl
      obtain ⟨x0, x1, x2, x3, x4⟩ := H5.out.ch
      simp only at x0 x1
      have hC := HC.out W5 (.slice ha cn hcc) (.slice none 0 0) R (by rw [HR2.out]; exact Nat.zero_le _) (fun e he => by rw [HR2.out] at he; cases he) (HH.out W5 H5.out.b) (by rw [HR2.out]; exact rw.Sl.nil _ _)
      go_wp2_with fail
      with_reducible refine hC.mono ?_
      clear hC x0 x1 x2 x3 x4
      rintro e w6 ⟨cv6, ev6, rfl, o1, o2, b6⟩
      have H6 := Lib.hid (H5.out.below b6)
      have HP := Lib.hid (put_out (w := w) (W := w6) (rb := w.heap.size + 1) (base := i) (bterm := t) (c := conf) (l := R) H6.out.fr (by omega) (own_lower o1 H5.out.b.size) (own_lower o2 H5.out.b.size) H6.out.b)
      obtain ⟨c6a, c6c, rfl⟩ := o1.form
      obtain ⟨e6a, e6c, rfl⟩ := o2.form
      clear o1 o2 b6
      obtain ⟨y0, y1, y2, y3, f0, f1, f2, f3⟩ := H6.out.cr
      simp only [lgC]
      go_wp2_with fail
      exact bodyPost_ret (results_lg2 rfl rfl HP.out.1) rfl HP.out.2)
end Go.Proofs.YtmgmhnohocamfaaGreat.tl
