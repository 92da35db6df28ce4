/-
  Who a log's members are, a log's beginning: the program's ConfAt, Conf, Compact.
-/
import Derived.Test.YtmgmhnohocamfaaGreatTlP6
import Derived.Test.YtmgmhnohocamfaaGreatTlMe
namespace Go.Proofs.YtmgmhnohocamfaaGreat.tl
set_option linter.unusedVariables false
open Go.RowKit
open pk (S S_size S_data)
open qm (Bs noSh)
open rw (Arr But below_box bnext below_drew below_drewN)

/-- Members handed out. -/
def NOut (w : World) (l : List Int) (e : Ending) (w' : World) : Prop := ∃ u, e = .returned u ∧ rw.Own noSh w' w.heap.size u l ∧ Below w.heap.size w w'
set_option maxHeartbeats 2000000 in
set_option maxRecDepth 100000 in
theorem confAt_any (g : Lg) (cv ev : Value) (i : Nat) (hi : i < 18446744073709551616) (hf : Fit g) (w : World) (h : LV w cv ev g) :
    Calls Tryz.prog 110 #[g.v cv ev, .int .u64 (i : Nat)] w (NOut w (g.mem (g.upTo i)).1) := by
  have H0 := Lib.hid h.box
  have HM := Lib.hid fun W b => members_any g cv ev i hi hf W (h.later b)
  obtain ⟨M, hM⟩ : ∃ M, g.mem (g.upTo i) = M := ⟨_, rfl⟩
  rw [hM] at HM ⊢
  obtain ⟨ml, mi⟩ := M
  clear h hf hM
  go_enter Tryz.func110, Tryz.ntmps110
  go_upto_region 1 with (fail)
  generalize w.alloc (.cells #[.int .u64 (g.base : Nat), .int .u64 (g.bt : Nat), cv, ev] 46) = W at *
  obtain ⟨x0, x1, x2, x3⟩ := H0.out.cells
  have hM := HM.out W H0.out.b
  go_wp2_with fail
  with_reducible refine hM.mono ?_
  clear hM x0 x1 x2 x3
  rintro e w2 ⟨u, rfl, o2, b2⟩
  have HE : Hid (rw.Own noSh w2 w.heap.size u ml ∧ Below w.heap.size w w2) := ⟨own_lower o2 H0.out.b.size, H0.out.b.trans (b2.mono H0.out.b.size)⟩
  clear o2 b2
  go_wp2_with fail
  go_ret
  exact ⟨_, rfl, HE.out.1, HE.out.2⟩
set_option maxHeartbeats 2000000 in
set_option maxRecDepth 100000 in
theorem conf_any (g : Lg) (cv ev : Value) (hf : Fit g) (w : World) (h : LV w cv ev g) :
    Calls Tryz.prog 33 #[g.v cv ev] w (MOut w (g.mem g.es.length)) := by
  have H0 := Lib.hid h.box
  have HL := Lib.hid fun W b => last_any g cv ev hf W (h.later b)
  have hb := hf.base
  have he := hf.es
  have HM := Lib.hid fun W b => members_any g cv ev g.last (by unfold Lg.last; omega) hf W (h.later b)
  have hu : g.upTo g.last = g.es.length := by unfold Lg.upTo Lg.last; omega
  rw [hu] at HM
  obtain ⟨M, hM⟩ : ∃ M, g.mem g.es.length = M := ⟨_, rfl⟩
  rw [hM] at HM ⊢
  obtain ⟨la, hla⟩ : ∃ l, g.last = l := ⟨_, rfl⟩
  rw [hla] at HM HL
  obtain ⟨lt, hlt⟩ : ∃ l, g.lastT = l := ⟨_, rfl⟩
  rw [hlt] at HL
  obtain ⟨ml, mi⟩ := M
  clear h hf hM hu hla hlt
  go_enter Tryz.func33, Tryz.ntmps33
  go_upto_region 1 with (fail)
  generalize w.alloc (.cells #[.int .u64 (g.base : Nat), .int .u64 (g.bt : Nat), cv, ev] 46) = W at *
  obtain ⟨x0, x1, x2, x3⟩ := H0.out.cells
  have hL := HL.out W H0.out.b
  go_wp2_with fail
  with_reducible refine hL.mono ?_
  clear hL x0 x1 x2 x3
  rintro e w1 ⟨rfl, b1⟩
  have H1 := Lib.hid (H0.out.below b1)
  clear b1 H0
  obtain ⟨x0, x1, x2, x3⟩ := H1.out.cells
  have hM := HM.out w1 H1.out.b
  go_wp2_with fail
  with_reducible refine hM.mono ?_
  clear hM x0 x1 x2 x3
  rintro e w2 ⟨u, rfl, o2, b2⟩
  have HE : Hid (rw.Own noSh w2 w.heap.size u ml ∧ Below w.heap.size w w2) := ⟨own_lower o2 H1.out.b.size, H1.out.b.trans (b2.mono H1.out.b.size)⟩
  clear o2 b2
  go_wp2_with fail
  go_ret2
  exact ⟨_, rfl, HE.out.1, HE.out.2⟩
theorem mem_len {g : Lg} (hc : g.conf.length ≤ 1000000000) : ∀ n, (g.mem n).1.length ≤ 1000000000
  | 0 => hc
  | n + 1 => by
    unfold Lg.mem
    split
    · rename_i l hl
      unfold says at hl
      split at hl
      · rename_i hk
        cases hl
        have h2 := hk.2
        unfold qm.readS at h2 ⊢
        split
        · rename_i hh
          have h3 := hh.2
          have h4 := qm.text_len ((g.es.getD n e0).data.tail.map qm.toI)
          rw [h3] at h4
          simp only [List.length_map, List.length_tail]
          omega
        · simp
      · cases hl
    · exact mem_len hc n
/-- A log handed out, with an answer. -/
def LbOut (w : World) (g : Lg) (r : Bool) (e : Ending) (w' : World) : Prop :=
  ∃ cv ev, e = .returned (.tuple #[.agg (lgC g.base g.bt cv ev), .bool r]) ∧ rw.Own noSh w' w.heap.size cv g.conf ∧ rw.Own enSh w' w.heap.size ev g.es ∧ Below w.heap.size w w'
theorem results_lgb {w : World} {fn : Func} {tmps : Array Value} {t u rb base bterm : Nat} {cv ev v : Value} (h : fn.results = #[.cell t 46, .tmp u]) (h2 : tmps[t]? = some (.pointer (some ⟨rb, 0, none⟩))) (h3 : tmps[u]? = some v)
    (hC : Arr w rb 46 (lgC base bterm cv ev)) :
    (results fn tmps).run Tryz.prog w = .ok (.tuple #[.agg (lgC base bterm cv ev), v]) w := by
  have z0 := hC.cell (j := 0) rfl
  have z1 := hC.cell (j := 1) rfl
  have z2 := hC.cell (j := 2) rfl
  have z3 := hC.cell (j := 3) rfl
  simp [results, h, h2, h3, go_sem, z0, z1, z2, z3, lgC]
/-- A log that came in, in a box; the result's box, empty. -/
structure In2 (w W : World) (cv ev : Value) (g : Lg) : Prop where
  fg : Arr W w.heap.size 46 (lgC g.base g.bt cv ev)
  fr : Arr W (w.heap.size + 1) 46 #[.int .u64 0, .int .u64 0, .slice none 0 0, .slice none 0 0]
  v : LV W cv ev g
  b : Below w.heap.size w W
theorem In2.below {w W W' : World} {cv ev : Value} {g : Lg} (a : In2 w W cv ev g) (k : Below W.heap.size W W') : In2 w W' cv ev g :=
  ⟨a.fg.below k, a.fr.below k, a.v.later k, a.b.trans (k.mono a.b.size)⟩
theorem In2.drew {w W : World} {cv ev : Value} {g : Lg} (a : In2 w W cv ev g) : In2 w W.drew cv ev g := a.below (below_drew (Below.refl _ _))
theorem In2.cg {w W : World} {cv ev : Value} {g : Lg} (a : In2 w W cv ev g) :
    W.cell? ⟨w.heap.size, 0, none⟩ = some (.int .u64 (g.base : Nat)) ∧ W.cell? ⟨w.heap.size, 1, none⟩ = some (.int .u64 (g.bt : Nat)) ∧ W.cell? ⟨w.heap.size, 2, none⟩ = some cv ∧ W.cell? ⟨w.heap.size, 3, none⟩ = some ev := ⟨a.fg.cell rfl, a.fg.cell rfl, a.fg.cell rfl, a.fg.cell rfl⟩
theorem In2.cr {w W : World} {cv ev : Value} {g : Lg} (a : In2 w W cv ev g) :
    W.cell? ⟨w.heap.size + 1, 0, none⟩ = some (.int .u64 0) ∧ W.cell? ⟨w.heap.size + 1, 1, none⟩ = some (.int .u64 0) ∧ W.cell? ⟨w.heap.size + 1, 2, none⟩ = some (.slice none 0 0) ∧ W.cell? ⟨w.heap.size + 1, 3, none⟩ = some (.slice none 0 0) ∧ W.frozen? ⟨w.heap.size + 1, 0, none⟩ = false ∧ W.frozen? ⟨w.heap.size + 1, 1, none⟩ = false ∧ W.frozen? ⟨w.heap.size + 1, 2, none⟩ = false ∧ W.frozen? ⟨w.heap.size + 1, 3, none⟩ = false := ⟨a.fr.cell rfl, a.fr.cell rfl, a.fr.cell rfl, a.fr.cell rfl, a.fr.frozen 0, a.fr.frozen 1, a.fr.frozen 2, a.fr.frozen 3⟩
theorem In2.start {w : World} {cv ev : Value} {g : Lg} (a : LV w cv ev g) : In2 w ((w.alloc (.cells #[.int .u64 (g.base : Nat), .int .u64 (g.bt : Nat), cv, ev] 46)).alloc (.cells #[.int .u64 0, .int .u64 0, .slice none 0 0, .slice none 0 0] 46)) cv ev g := by
  have b1 := a.box
  have s1 : (w.alloc (.cells #[.int .u64 (g.base : Nat), .int .u64 (g.bt : Nat), cv, ev] 46)).heap.size = w.heap.size + 1 := by simp
  generalize w.alloc (.cells #[.int .u64 (g.base : Nat), .int .u64 (g.bt : Nat), cv, ev] 46) = W1 at *
  have k2 := below_box W1 (.cells #[.int .u64 0, .int .u64 0, .slice none 0 0, .slice none 0 0] 46)
  have a2 := Arr.new W1 46 #[.int .u64 0, .int .u64 0, .slice none 0 0, .slice none 0 0]
  have b2 := b1.below k2
  rw [s1] at a2
  exact ⟨b2.a, a2, b2.v, b2.b⟩
/-- The result is put into its box. -/
structure Done (w F : World) (g : Lg) (cv ev : Value) : Prop where
  r : Arr F (w.heap.size + 1) 46 (lgC g.base g.bt cv ev)
  c : rw.Own noSh F w.heap.size cv g.conf
  l : rw.Own enSh F w.heap.size ev g.es
  b : Below w.heap.size w F
theorem In2.done {w W : World} {cv ev cv2 ev2 : Value} {g k : Lg} (a : In2 w W cv ev g) (h1 : rw.Own noSh W w.heap.size cv2 k.conf) (h2 : rw.Own enSh W w.heap.size ev2 k.es) : Done w (layL W (w.heap.size + 1) k.base k.bt cv2 ev2) k cv2 ev2 := by
  have h := put_out (base := k.base) (bterm := k.bt) a.fr (by omega) h1 h2 a.b
  obtain ⟨h3, _, _, h4, h5, h6, h7⟩ := h
  injection h4 with h4
  injection h4 with h4
  have e2 := congrArg (fun x : Array Value => x[2]?) h4
  have e3 := congrArg (fun x : Array Value => x[3]?) h4
  simp [lgC] at e2 e3
  subst e2 e3
  exact ⟨h3, h5, h6, h7⟩
theorem In2.done2 {w W : World} {cv ev cv2 ev2 : Value} {g k : Lg} {i T : Nat} {M : List Int} (a : In2 w W cv ev g) (hk : k.base = i ∧ k.bt = T ∧ k.conf = M) (h1 : rw.Own noSh W w.heap.size cv2 M) (h2 : rw.Own enSh W w.heap.size ev2 k.es) : Done w (layL W (w.heap.size + 1) i T cv2 ev2) k cv2 ev2 := by
  obtain ⟨rfl, rfl, rfl⟩ := hk
  exact a.done h1 h2
theorem In2.keep {w W : World} {cv ev cv2 ev2 : Value} {g : Lg} (base bt : Nat) (a : In2 w W cv ev g) :
    (layL W (w.heap.size + 1) base bt cv2 ev2).cell? ⟨w.heap.size, 0, none⟩ = some (.int .u64 (g.base : Nat)) ∧ (layL W (w.heap.size + 1) base bt cv2 ev2).cell? ⟨w.heap.size, 1, none⟩ = some (.int .u64 (g.bt : Nat)) ∧ (layL W (w.heap.size + 1) base bt cv2 ev2).cell? ⟨w.heap.size, 2, none⟩ = some cv ∧ (layL W (w.heap.size + 1) base bt cv2 ev2).cell? ⟨w.heap.size, 3, none⟩ = some ev := by
  have k := layL_but W (w.heap.size + 1) base bt cv2 ev2
  have h := k.arr a.fg (by omega)
  exact ⟨h.cell rfl, h.cell rfl, h.cell rfl, h.cell rfl⟩
set_option maxHeartbeats 8000000 in
set_option maxRecDepth 100000 in
theorem compact_any (g : Lg) (cv ev : Value) (i : Nat) (hi : i < 18446744073709551616) (hf : Fit g) (w : World) (h : LV w cv ev g) :
    Calls Tryz.prog 93 #[g.v cv ev, .int .u64 (i : Nat)] w (LbOut w (g.compact i).1 (g.compact i).2) := by
  have H0 := Lib.hid (In2.start h)
  have HT := Lib.hid fun W (b : Below w.heap.size w W) => term_any g cv ev i hi hf W (h.later b)
  have HCo := Lib.hid fun W (b : Below w.heap.size w W) => confAt_any g cv ev i hi hf W (h.later b)
  have HIn := Lib.hid fun W (b : Below w.heap.size w W) (t : Nat) (ht : t < 18446744073709551616) (hv : Value) (conf : List Int) (hc : conf.length ≤ 1000000000) (hh : rw.Sl noSh W hv conf) => install_any g cv ev i t hv conf hi ht hc hf W (h.later b) hh
  have HCp := Lib.hid fun W (b : Below w.heap.size w W) => copyLog_any g.base g.bt cv ev g.conf g.es hf.conf (by have := hf.es; omega) (fun e he => (hf.e e he).2) W (h.later b).c (h.later b).l
  obtain ⟨r, hr⟩ : ∃ r, g.rch i = r := ⟨_, rfl⟩
  cases r with
  | false =>
    have HR : Hid (g.compact i = (g, false)) := by show _ = _; rw [Lg.compact, hr]; rfl
    have ht : g.term i = (0, false) := Lg.term_no hr
    rw [ht] at HT
    rw [HR.out]
    clear h hf hr ht HIn HCo
    go_enter Tryz.func93, Tryz.ntmps93
    go_upto_region 1 with (fail)
    generalize (w.alloc (.cells #[.int .u64 (g.base : Nat), .int .u64 (g.bt : Nat), cv, ev] 46)).alloc (.cells #[.int .u64 0, .int .u64 0, .slice none 0 0, .slice none 0 0] 46) = W0 at *
    have hT := HT.out W0 H0.out.b
    obtain ⟨x0, x1, x2, x3⟩ := H0.out.cg
    go_wp2_with fail
    with_reducible refine hT.mono ?_
    clear hT x0 x1 x2 x3
    rintro e w2 ⟨rfl, b2⟩
    have H2 := Lib.hid (H0.out.below b2)
    clear b2 H0
    obtain ⟨x0, x1, x2, x3⟩ := H2.out.cg
    have hC := HCp.out w2 H2.out.b
    go_wp2_with fail
    with_reducible refine hC.mono ?_
    clear hC x0 x1 x2 x3
    rintro e w3 ⟨cv3, ev3, rfl, o1, o2, b3⟩
    have H3 := Lib.hid (H2.out.below b3)
    have HD := Lib.hid (H3.out.done (k := g) (own_lower o1 H2.out.b.size) (own_lower o2 H2.out.b.size))
    obtain ⟨c6a, c6c, rfl⟩ := o1.form
    obtain ⟨e6a, e6c, rfl⟩ := o2.form
    clear o1 o2 b3
    obtain ⟨y0, y1, y2, y3, f0, f1, f2, f3⟩ := H3.out.cr
    simp only [lgC]
    go_wp2_with fail
    exact bodyPost_ret (results_lgb rfl rfl rfl HD.out.r) rfl ⟨_, _, rfl, HD.out.c, HD.out.l, HD.out.b⟩
  | true =>
    have ht : g.term i = (g.tb (g.upTo i), true) := Lg.term_yes hr
    rw [ht] at HT
    obtain ⟨T, hT⟩ : ∃ T, g.tb (g.upTo i) = T := ⟨_, rfl⟩
    rw [hT] at HT
    obtain ⟨M, hM⟩ : ∃ M, (g.mem (g.upTo i)).1 = M := ⟨_, rfl⟩
    rw [hM] at HCo
    have HR : Hid (g.compact i = (g.install i T M, true)) := by show _ = _; rw [Lg.compact, hr, ht, hT, hM]; rfl
    rw [HR.out]
    have HB : Hid (T < 18446744073709551616 ∧ M.length ≤ 1000000000) := by
      refine ⟨?_, ?_⟩
      · rw [← hT, Lg.tb]
        split
        · exact hf.bt
        · rename_i hne
          have h1 := g.upTo_le i
          rw [List.getD_eq_getElem?_getD, List.getElem?_eq_getElem (by omega), Option.getD_some]
          exact (hf.e _ (List.getElem_mem _)).1
      · rw [← hM]
        exact mem_len hf.conf _
    have HIs : Hid ((g.install i T M).base = i ∧ (g.install i T M).bt = T ∧ (g.install i T M).conf = M) := ⟨rfl, rfl, rfl⟩
    obtain ⟨I, hI⟩ : ∃ I, g.install i T M = I := ⟨_, rfl⟩
    rw [hI] at HIs
    have HIn2 : Hid (∀ W (b : Below w.heap.size w W) (hv : Value) (hh : rw.Sl noSh W hv M), Calls Tryz.prog 127 #[g.v cv ev, .int .u64 (i : Nat), .int .u64 (T : Nat), hv] W fun e w' => ∃ cv5 ev5, e = .returned (.agg #[.int .u64 (i : Nat), .int .u64 (T : Nat), cv5, ev5]) ∧ rw.Own noSh w' W.heap.size cv5 M ∧ rw.Own enSh w' W.heap.size ev5 I.es ∧ Below W.heap.size W w') := fun W b hv hh => by
      have h1 := HIn.out W b T HB.out.1 hv M HB.out.2 hh
      rw [hI] at h1
      exact h1
    rw [hI]
    clear h hf hr ht hT hM HCp HR hI HIn
    go_enter Tryz.func93, Tryz.ntmps93
    go_upto_region 1 with (fail)
    generalize (w.alloc (.cells #[.int .u64 (g.base : Nat), .int .u64 (g.bt : Nat), cv, ev] 46)).alloc (.cells #[.int .u64 0, .int .u64 0, .slice none 0 0, .slice none 0 0] 46) = W0 at *
    have hT := HT.out W0 H0.out.b
    obtain ⟨x0, x1, x2, x3⟩ := H0.out.cg
    go_wp2_with fail
    with_reducible refine hT.mono ?_
    clear hT x0 x1 x2 x3
    rintro e w2 ⟨rfl, b2⟩
    have H2 := Lib.hid (H0.out.below b2)
    clear b2 H0
    go_upto_region 4 with (fail)
    have H3 := Lib.hid H2.out.drew
    clear H2
    obtain ⟨x0, x1, x2, x3⟩ := H3.out.cg
    have hCo : Calls Tryz.prog 110 #[g.v cv ev, .int .u64 (i : Nat)] w2.drew fun e w' => ∃ u, e = .returned u ∧ rw.Own noSh w' w2.drew.heap.size u M ∧ Below w2.drew.heap.size w2.drew w' := HCo.out w2.drew H3.out.b
    go_region_law
      (first
        | (go_simp; go_at_call 110; with_reducible refine hCo.mono ?_; rintro e w4 ⟨u4, rfl, o4, b4⟩; have H4 := Lib.hid (H3.out.below b4); obtain ⟨p0, p1, p2, p3⟩ := H4.out.cg; have hIn := HIn2.out w4 H4.out.b u4 o4.sl; clear o4 b4 hCo)
        | (go_simp; go_at_call 127; with_reducible refine hIn.mono ?_; rintro e w5 ⟨cv5, ev5, rfl, o1, o2, b5⟩; have H5 := Lib.hid (H4.out.below b5); have HD := Lib.hid (H5.out.done2 HIs.out (own_lower o1 H4.out.b.size) (own_lower o2 H4.out.b.size)); obtain ⟨c6a, c6c, rfl⟩ := o1.form; obtain ⟨e6a, e6c, rfl⟩ := o2.form; obtain ⟨y0, y1, y2, y3, f0, f1, f2, f3⟩ := H5.out.cr; clear o1 o2 b5 hIn))
    all_goals go_wp2_with fail
    all_goals refine bodyPost_ret (results_lgb rfl rfl rfl HD.out.r) rfl ⟨_, _, ?_, HD.out.c, HD.out.l, HD.out.b⟩
    all_goals rw [HIs.out.1, HIs.out.2.1]
    all_goals rfl
end Go.Proofs.YtmgmhnohocamfaaGreat.tl
