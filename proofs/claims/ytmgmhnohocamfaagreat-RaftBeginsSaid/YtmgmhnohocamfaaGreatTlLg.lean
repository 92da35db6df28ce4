/-
  A log in new memory.
-/
import Derived.Test.YtmgmhnohocamfaaGreatTlCp
namespace Go.Proofs.YtmgmhnohocamfaaGreat.tl
set_option linter.unusedVariables false
set_option linter.unusedSimpArgs false
open Go.RowKit
open pk (S S_size S_data)
open qm (Bs noSh)
open rw (Arr But below_box bnext below_drew below_drewN)

theorem own_empty (w : World) : rw.Own noSh (w.alloc (.cells #[] 3)) w.heap.size (.slice (some ⟨w.heap.size, 0, none⟩) 0 0) [] :=
  ⟨rfl, .inr ⟨w.heap.size, 0, #[], rfl, Nat.le_refl _, Arr.new w _ _, Nat.le_refl _, Nat.zero_le _, rfl, rfl⟩⟩
set_option maxHeartbeats 4000000 in
set_option maxRecDepth 100000 in
theorem iclone_any (v : Value) (l : List Int) (hl : l.length ≤ 1000000000) (w : World) (h : rw.Sl noSh w v l) :
    Calls Tryz.prog 52 #[v] w fun e w' => ∃ v', e = .returned v' ∧ rw.Own noSh w' w.heap.size v' l ∧ Below w.heap.size w w' := by
  have h0 := h
  obtain ⟨a, c, rfl, hc, hr, hn⟩ := h
  have heq := run_eql_slice_nil (P := Tryz.prog) w 36 3 a l.length c Tryz.underlying36
  cases a with
  | none =>
    have hc0 := hn rfl
    subst hc0
    have hl0 : l = [] := List.length_eq_zero_iff.1 (by omega)
    subst hl0
    have heq2 : (binOp .eql 36 (.slice none 0 0) (.slice none 0 0)).run Tryz.prog w = .ok (.bool true) w := heq
    clear h0 hr hn heq
    go_enter Tryz.func52, Tryz.ntmps52
    go_wp2_with fail
    exact bodyPost_ret (v := .slice none 0 0) (by simp [results, Tryz.results52]) rfl ⟨_, rfl, rw.Own.nil _ _ _, Below.refl _ _⟩
  | some ad =>
    have k := below_box w (.cells #[] 3)
    obtain ⟨v', w', g1, g2, g3, g4⟩ := rw.append_own noSh w.heap.size _ [] l _ (by simp; omega) _ (own_empty w) k.size (h0.later _ k)
    rw [List.nil_append] at g2
    have HE : Hid (rw.Own noSh w' w.heap.size v' l ∧ Below w.heap.size w w') := ⟨g2, k.trans g3⟩
    have HR := Lib.hid g1
    clear h0 hr hn g1 g2 g3 g4 k
    go_enter Tryz.func52, Tryz.ntmps52
    go_wp2_with (at_builtin; refine rw.wpList_append_at _ _ _ rfl rfl _ _ _ _ rfl rfl HR.out ?_)
    go_ret
    exact ⟨_, rfl, HE.out.1, HE.out.2⟩

theorem results_lg {w : World} {fn : Func} {tmps : Array Value} {rb : Nat} {base bterm : Nat} {cv ev : Value} (h : fn.results = #[.cell 2 46]) (h2 : tmps[2]? = some (.pointer (some ⟨rb, 0, none⟩)))
    (hC : Arr w rb 46 (lgC base bterm cv ev)) :
    (results fn tmps).run Tryz.prog w = .ok (.agg (lgC base bterm cv ev)) w := by
  have z0 := hC.cell (j := 0) rfl
  have z1 := hC.cell (j := 1) rfl
  have z2 := hC.cell (j := 2) rfl
  have z3 := hC.cell (j := 3) rfl
  simp [results, h, h2, go_sem, z0, z1, z2, z3, lgC]
/-- A log handed out: its rows are new. -/
def LogOut (w : World) (base bterm : Nat) (c : List Int) (l : List EnIn) (e : Ending) (w' : World) : Prop :=
  ∃ cv ev, e = .returned (.agg (lgC base bterm cv ev)) ∧ rw.Own noSh w' w.heap.size cv c ∧ rw.Own enSh w' w.heap.size ev l ∧ Below w.heap.size w w'
def layL (W : World) (rb : Nat) (base bterm : Nat) (cv ev : Value) : World := (((W.setCell ⟨rb, 0, none⟩ (.int .u64 (base : Nat))).setCell ⟨rb, 1, none⟩ (.int .u64 (bterm : Nat))).setCell ⟨rb, 2, none⟩ cv).setCell ⟨rb, 3, none⟩ ev
theorem layL_but (W : World) (rb : Nat) (base bterm : Nat) (cv ev : Value) : But rb W (layL W rb base bterm cv ev) := ((((But.refl rb W).set 0 _).set 1 _).set 2 _).set 3 _
theorem layL_arr {W : World} {rb : Nat} {t : TypeId} {a0 a1 a2 a3 cv ev : Value} {base bterm : Nat} (h : Arr W rb t #[a0, a1, a2, a3]) : Arr (layL W rb base bterm cv ev) rb t (lgC base bterm cv ev) := (((h.set 0 _).set 1 _).set 2 _).set 3 _
/-- The copy of a log under way: the box of what came in, the result's. -/
structure Lo (w W : World) (base bterm : Nat) (cv ev : Value) (c : List Int) (l : List EnIn) : Prop where
  o : rw.Off w.heap.size ev l
  g : Arr W w.heap.size 46 (lgC base bterm cv ev)
  r : Arr W (w.heap.size + 1) 46 #[.int .u64 0, .int .u64 0, .slice none 0 0, .slice none 0 0]
  c : rw.Sl noSh W cv c
  l : rw.Sl enSh W ev l
  b : Below w.heap.size w W
theorem Lo.below {w W W' : World} {base bterm : Nat} {cv ev : Value} {c : List Int} {l : List EnIn} (h : Lo w W base bterm cv ev c l) (k : Below W.heap.size W W') : Lo w W' base bterm cv ev c l := ⟨h.o, h.g.below k, h.r.below k, h.c.later _ k, h.l.later _ k, h.b.trans (k.mono h.b.size)⟩
/-- .. its members are copied. -/
structure Lo2 (w W : World) (base bterm : Nat) (cv ev : Value) (c : List Int) (l : List EnIn) : Prop where
  g : Arr W w.heap.size 46 (lgC base bterm cv ev)
  r : Arr W (w.heap.size + 1) 46 #[.int .u64 0, .int .u64 0, .slice none 0 0, .slice none 0 0]
  c : rw.Own noSh W w.heap.size cv c
  l : rw.Sl enSh W ev l
  b : Below w.heap.size w W
theorem Lo2.below {w W W' : World} {base bterm : Nat} {cv ev : Value} {c : List Int} {l : List EnIn} (h : Lo2 w W base bterm cv ev c l) (k : Below W.heap.size W W') : Lo2 w W' base bterm cv ev c l := ⟨h.g.below k, h.r.below k, h.c.below _ k, h.l.later _ k, h.b.trans (k.mono h.b.size)⟩
theorem Lo.two {w W : World} {base bterm : Nat} {cv ev u : Value} {c : List Int} {l : List EnIn} (h : Lo w W base bterm cv ev c l) (o : rw.Own noSh W w.heap.size u c) : Lo2 w (W.setCell ⟨w.heap.size, 2, none⟩ u) base bterm u ev c l := by
  have k : But w.heap.size W (W.setCell ⟨w.heap.size, 2, none⟩ u) := (But.refl _ W).set 2 u
  exact ⟨h.g.set 2 u, k.arr h.r (by omega), own_but o h.g (by decide) k, rw.Sl.but enSh h.l k h.o, h.b.trans (k.below h.b.size (Nat.le_refl _))⟩
/-- .. its entries, too. -/
structure Lo3 (w W : World) (base bterm : Nat) (cv ev : Value) (c : List Int) (l : List EnIn) : Prop where
  g : Arr W w.heap.size 46 (lgC base bterm cv ev)
  r : Arr W (w.heap.size + 1) 46 #[.int .u64 0, .int .u64 0, .slice none 0 0, .slice none 0 0]
  c : rw.Own noSh W w.heap.size cv c
  l : rw.Own enSh W w.heap.size ev l
  b : Below w.heap.size w W
theorem Lo2.three {w W : World} {base bterm : Nat} {cv ev u : Value} {c : List Int} {l : List EnIn} (h : Lo2 w W base bterm cv ev c l) (o : rw.Own enSh W w.heap.size u l) : Lo3 w (W.setCell ⟨w.heap.size, 3, none⟩ u) base bterm cv u c l := by
  have k : But w.heap.size W (W.setCell ⟨w.heap.size, 3, none⟩ u) := (But.refl _ W).set 3 u
  exact ⟨h.g.set 3 u, k.arr h.r (by omega), own_but h.c h.g (by decide) k, own_but o h.g (by decide) k, h.b.trans (k.below h.b.size (Nat.le_refl _))⟩
theorem Lo3.done {w W : World} {base bterm : Nat} {cv ev : Value} {c : List Int} {l : List EnIn} (h : Lo3 w W base bterm cv ev c l) :
    Arr (layL W (w.heap.size + 1) base bterm cv ev) (w.heap.size + 1) 46 (lgC base bterm cv ev) ∧ LogOut w base bterm c l (.returned (.agg (lgC base bterm cv ev))) (layL W (w.heap.size + 1) base bterm cv ev) := by
  have k := layL_but W (w.heap.size + 1) base bterm cv ev
  exact ⟨layL_arr h.r, _, _, rfl, own_but h.c h.r (by decide) k, own_but h.l h.r (by decide) k, h.b.trans (k.below h.b.size (by omega))⟩
set_option maxHeartbeats 8000000 in
set_option maxRecDepth 100000 in
theorem copyLog_any (base bterm : Nat) (cv ev : Value) (c : List Int) (l : List EnIn) (hc : c.length ≤ 1000000000) (hl : l.length ≤ 1000000000) (hd : ∀ e ∈ l, e.data.length ≤ 281474976710656) (w : World) (h1 : rw.Sl noSh w cv c) (h2 : rw.Sl enSh w ev l) :
    Calls Tryz.prog 126 #[.agg #[.int .u64 (base : Nat), .int .u64 (bterm : Nat), cv, ev]] w (LogOut w base bterm c l) := by
  obtain ⟨ca, cc, rfl⟩ := sl_form h1
  obtain ⟨ea, ec, rfl⟩ := sl_form h2
  have H0 : Hid (Lo w ((w.alloc (.cells #[.int .u64 (base : Nat), .int .u64 (bterm : Nat), .slice ca c.length cc, .slice ea l.length ec] 46)).alloc (.cells #[.int .u64 0, .int .u64 0, .slice none 0 0, .slice none 0 0] 46)) base bterm (.slice ca c.length cc) (.slice ea l.length ec) c l) := by
    have k1 := below_box w (.cells #[.int .u64 (base : Nat), .int .u64 (bterm : Nat), .slice ca c.length cc, .slice ea l.length ec] 46)
    have ho : rw.Off w.heap.size (.slice ea l.length ec) l := rw.Off.new enSh h2 (Nat.le_refl _)
    have a1 := Arr.new w 46 #[.int .u64 (base : Nat), .int .u64 (bterm : Nat), .slice ca c.length cc, .slice ea l.length ec]
    have hs : (w.alloc (.cells #[.int .u64 (base : Nat), .int .u64 (bterm : Nat), .slice ca c.length cc, .slice ea l.length ec] 46)).heap.size = w.heap.size + 1 := by simp
    have h1' := h1.later _ k1
    have h2' := h2.later _ k1
    generalize w.alloc (.cells #[.int .u64 (base : Nat), .int .u64 (bterm : Nat), .slice ca c.length cc, .slice ea l.length ec] 46) = W at *
    have k2 := below_box W (.cells #[.int .u64 0, .int .u64 0, .slice none 0 0, .slice none 0 0] 46)
    have a2 := Arr.new W 46 #[.int .u64 0, .int .u64 0, .slice none 0 0, .slice none 0 0]
    rw [hs] at a2
    exact ⟨ho, a1.below k2, a2, h1'.later _ k2, h2'.later _ k2, k1.trans (k2.mono k1.size)⟩
  have HD := Lib.hid hd
  clear h1 h2 hd
  obtain ⟨n1, hn1⟩ : ∃ n, c.length = n := ⟨_, rfl⟩
  obtain ⟨n2, hn2⟩ : ∃ n, l.length = n := ⟨_, rfl⟩
  have HN : Hid (c.length = n1 ∧ l.length = n2) := ⟨hn1, hn2⟩
  rw [hn1, hn2] at H0 ⊢
  clear hn1 hn2
  go_enter Tryz.func126, Tryz.ntmps126
  go_upto_region 1 with (fail)
  generalize (w.alloc (.cells #[.int .u64 (base : Nat), .int .u64 (bterm : Nat), .slice ca n1 cc, .slice ea n2 ec] 46)).alloc (.cells #[.int .u64 0, .int .u64 0, .slice none 0 0, .slice none 0 0] 46) = W0 at *
  have hC := iclone_any (.slice ca n1 cc) c hc W0 H0.out.c
  obtain ⟨k2, f2⟩ : W0.cell? ⟨w.heap.size, 2, none⟩ = some (.slice ca n1 cc) ∧ W0.frozen? ⟨w.heap.size, 2, none⟩ = false := ⟨H0.out.g.cell rfl, H0.out.g.frozen 2⟩
  go_wp2_with fail
  refine hC.mono ?_
  clear hC k2 f2
  rintro e w2 ⟨u2, rfl, o2, b2⟩
  have H2 := Lib.hid (H0.out.below b2)
  have O2 := own_lower o2 H0.out.b.size
  obtain ⟨k2, f2⟩ : w2.cell? ⟨w.heap.size, 2, none⟩ = some (.slice ca n1 cc) ∧ w2.frozen? ⟨w.heap.size, 2, none⟩ = false := ⟨H2.out.g.cell rfl, H2.out.g.frozen 2⟩
  have H3 := Lib.hid (H2.out.two O2)
  obtain ⟨ca2, cc2, rfl⟩ : ∃ a c', u2 = .slice a c.length c' := o2.form
  rw [HN.out.1] at H3 ⊢
  clear o2 b2 O2 H2 H0
  go_upto_region 2 with (fail)
  clear k2 f2
  generalize w2.setCell ⟨w.heap.size, 2, none⟩ (.slice ca2 n1 cc2) = W3 at *
  have hE := copy_any (.slice ea n2 ec) l hl HD.out W3 H3.out.l
  obtain ⟨k3, f3⟩ : W3.cell? ⟨w.heap.size, 3, none⟩ = some (.slice ea n2 ec) ∧ W3.frozen? ⟨w.heap.size, 3, none⟩ = false := ⟨H3.out.g.cell rfl, H3.out.g.frozen 3⟩
  go_wp2_with fail
  refine hE.mono ?_
  clear hE k3 f3
  rintro e w4 ⟨u4, rfl, o4, b4⟩
  have H4 := Lib.hid (H3.out.below b4)
  have O4 := own_lower o4 H3.out.b.size
  obtain ⟨k3, f3⟩ : w4.cell? ⟨w.heap.size, 3, none⟩ = some (.slice ea n2 ec) ∧ w4.frozen? ⟨w.heap.size, 3, none⟩ = false := ⟨H4.out.g.cell rfl, H4.out.g.frozen 3⟩
  have H5 := Lib.hid (H4.out.three O4)
  obtain ⟨ea4, ec4, rfl⟩ : ∃ a c', u4 = .slice a l.length c' := o4.form
  rw [HN.out.2] at H5 ⊢
  clear o4 b4 O4 H4 H3
  go_upto_region 3 with (fail)
  clear k3 f3
  generalize w4.setCell ⟨w.heap.size, 3, none⟩ (.slice ea4 n2 ec4) = W5 at *
  obtain ⟨x0, x1, x2, x3⟩ : W5.cell? ⟨w.heap.size, 0, none⟩ = some (.int .u64 (base : Nat)) ∧ W5.cell? ⟨w.heap.size, 1, none⟩ = some (.int .u64 (bterm : Nat)) ∧ W5.cell? ⟨w.heap.size, 2, none⟩ = some (.slice ca2 n1 cc2) ∧ W5.cell? ⟨w.heap.size, 3, none⟩ = some (.slice ea4 n2 ec4) := ⟨H5.out.g.cell rfl, H5.out.g.cell rfl, H5.out.g.cell rfl, H5.out.g.cell rfl⟩
  obtain ⟨y0, y1, y2, y3⟩ : W5.cell? ⟨w.heap.size + 1, 0, none⟩ = some (.int .u64 0) ∧ W5.cell? ⟨w.heap.size + 1, 1, none⟩ = some (.int .u64 0) ∧ W5.cell? ⟨w.heap.size + 1, 2, none⟩ = some (.slice none 0 0) ∧ W5.cell? ⟨w.heap.size + 1, 3, none⟩ = some (.slice none 0 0) := ⟨H5.out.r.cell rfl, H5.out.r.cell rfl, H5.out.r.cell rfl, H5.out.r.cell rfl⟩
  obtain ⟨f0, f1, f2, f3⟩ : W5.frozen? ⟨w.heap.size + 1, 0, none⟩ = false ∧ W5.frozen? ⟨w.heap.size + 1, 1, none⟩ = false ∧ W5.frozen? ⟨w.heap.size + 1, 2, none⟩ = false ∧ W5.frozen? ⟨w.heap.size + 1, 3, none⟩ = false := ⟨H5.out.r.frozen 0, H5.out.r.frozen 1, H5.out.r.frozen 2, H5.out.r.frozen 3⟩
  have HE := Lib.hid H5.out.done
  clear H5
  go_wp2_with fail
  exact bodyPost_ret (results_lg rfl rfl HE.out.1) rfl HE.out.2


end Go.Proofs.YtmgmhnohocamfaaGreat.tl
