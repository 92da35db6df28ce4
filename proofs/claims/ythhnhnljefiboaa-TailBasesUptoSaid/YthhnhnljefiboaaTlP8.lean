/-
  Entries taken over: the program's Merge.
-/
import Derived.Test.YthhnhnljefiboaaTlP7
namespace Go.Proofs.Ythhnhnljefiboaa.tl
set_option linter.unusedVariables false
open Go.RowKit
open pk (S S_size S_data)
open qm (Bs noSh)
open rw (Arr But below_box bnext below_drew below_drewN)

/-- A log handed out, with an index and an answer. -/
def LmOut (w : World) (r : Lg × Nat × Bool) (e : Ending) (w' : World) : Prop :=
  ∃ cv ev, e = .returned (.tuple #[.agg (lgC r.1.base r.1.bt cv ev), .int .u64 (r.2.1 : Nat), .bool r.2.2]) ∧ rw.Own noSh w' w.heap.size cv r.1.conf ∧ rw.Own enSh w' w.heap.size ev r.1.es ∧ Below w.heap.size w w'
theorem results_lgm {w : World} {fn : Func} {tmps : Array Value} {t u x rb base bterm : Nat} {cv ev v v2 : Value} (h : fn.results = #[.cell t 26, .tmp u, .tmp x]) (h2 : tmps[t]? = some (.pointer (some ⟨rb, 0, none⟩))) (h3 : tmps[u]? = some v) (h4 : tmps[x]? = some v2)
    (hC : Arr w rb 26 (lgC base bterm cv ev)) :
    (results fn tmps).run Try.prog w = .ok (.tuple #[.agg (lgC base bterm cv ev), v, v2]) w := by
  have z0 := hC.cell (j := 0) rfl
  have z1 := hC.cell (j := 1) rfl
  have z2 := hC.cell (j := 2) rfl
  have z3 := hC.cell (j := 3) rfl
  simp [results, h, h2, h3, h4, go_sem, z0, z1, z2, z3, lgC]
theorem Done.out {w F : World} {g : Lg} {cv ev : Value} {n : Nat} {b : Bool} {r : Lg × Nat × Bool} (h : Done w F g cv ev) (hr : r = (g, n, b)) : LmOut w r (.returned (.tuple #[.agg (lgC g.base g.bt cv ev), .int .u64 (n : Nat), .bool b])) F := by
  subst hr
  exact ⟨cv, ev, rfl, h.c, h.l, h.b⟩
/-- The log's entries are others now. -/
theorem In2.put {w W : World} {cv ev v : Value} {g : Lg} {l : List EnIn} (h0 : LV w cv ev g) (a : In2 w W cv ev g) (o : rw.Own enSh W w.heap.size v l) : In2 w (W.setCell ⟨w.heap.size, 3, none⟩ v) cv v ⟨g.base, g.bt, g.conf, l⟩ := by
  have k : But w.heap.size W (W.setCell ⟨w.heap.size, 3, none⟩ v) := (But.refl _ W).set 3 v
  have b := a.b.trans (k.below a.b.size (Nat.le_refl _))
  exact ⟨a.fg.set 3 v, k.arr a.fr (by omega), ⟨h0.c.later _ b, (own_but o a.fg (by decide) k).sl⟩, b⟩
set_option maxHeartbeats 8000000 in
set_option maxRecDepth 100000 in
theorem merge_any (g : Lg) (cv ev : Value) (prev t : Nat) (lv : Value) (l : List EnIn) (hp : prev < 18446744073709551616) (ht : t < 18446744073709551616) (hl : l.length ≤ 1000000) (hle : ∀ x ∈ l, x.term < 18446744073709551616 ∧ x.data.length ≤ 281474976710656) (hf : Fit g) (w : World) (h : LV w cv ev g) (hlv : rw.Sl enSh w lv l) :
    Calls Try.prog 27 #[g.v cv ev, .int .u64 (prev : Nat), .int .u64 (t : Nat), lv] w (LmOut w (g.merge prev t l)) := by
  obtain ⟨la, lc, rfl⟩ := sl_form hlv
  obtain ⟨a2, k2, rfl⟩ := sl_form h.l
  have H0 := Lib.hid (In2.start h)
  obtain ⟨P, hP⟩ : ∃ P, (if prev < g.base then g.base else prev) = P := ⟨_, rfl⟩
  obtain ⟨T, hT⟩ : ∃ T, (if prev < g.base then g.bt else t) = T := ⟨_, rfl⟩
  obtain ⟨L, hL⟩ : ∃ L, l.drop (g.base - prev) = L := ⟨_, rfl⟩
  obtain ⟨R, hR⟩ : ∃ R, g.merge prev t l = R := ⟨_, rfl⟩
  have hb := hf.base
  have hbt := hf.bt
  have HR : Hid (R = g.behind P T L) := by
    show R = _
    rw [← hR, Lg.merge, ← hP, ← hT, ← hL]
    by_cases c : prev < g.base
    · rw [if_pos c, if_pos c, if_pos c]
    · rw [if_neg c, if_neg c, if_neg c, show g.base - prev = 0 by omega, List.drop_zero]
  have hPl : P < 18446744073709551616 := by rw [← hP]; split <;> omega
  have hTl : T < 18446744073709551616 := by rw [← hT]; split <;> omega
  have HLl : Hid (L.length ≤ 1000000 ∧ ∀ x ∈ L, x.term < 18446744073709551616 ∧ x.data.length ≤ 281474976710656) := by
    refine ⟨by rw [← hL, List.length_drop]; omega, fun x hx => hle x ?_⟩
    rw [← hL] at hx
    exact List.mem_of_mem_drop hx
  have HF := Lib.hid hf
  have HV := Lib.hid h
  have HX := Lib.hid hlv
  obtain ⟨n, hn⟩ : ∃ n, l.length = n := ⟨_, rfl⟩
  obtain ⟨m, hm⟩ : ∃ m, L.length = m := ⟨_, rfl⟩
  obtain ⟨N, hN⟩ : ∃ N, g.es.length = N := ⟨_, rfl⟩
  have HN : Hid (l.length = n ∧ L.length = m ∧ g.es.length = N) := ⟨hn, hm, hN⟩
  have HPT : Hid ((prev < g.base → P = g.base ∧ T = g.bt) ∧ (¬ prev < g.base → P = prev ∧ T = t ∧ L = l)) := by
    refine ⟨fun c => ⟨by rw [← hP, if_pos c], by rw [← hT, if_pos c]⟩, fun c => ⟨by rw [← hP, if_neg c], by rw [← hT, if_neg c], ?_⟩⟩
    rw [← hL, show g.base - prev = 0 by omega, List.drop_zero]
  obtain ⟨d, hd⟩ : ∃ d, min (g.base - prev) n = d := ⟨_, rfl⟩
  have hdm : d + m = l.length := by rw [← hm, ← hL, List.length_drop]; omega
  have HD : Hid (L = l.drop d) := by
    show L = _
    rw [← hL, ← hd]
    by_cases c : g.base - prev ≤ n
    · rw [Nat.min_eq_left c]
    · rw [Nat.min_eq_right (by omega), List.drop_eq_nil_of_le (by omega), List.drop_eq_nil_of_le (by omega)]
  obtain ⟨a3, k3, hs3, hS3⟩ := cut_from .u64 hlv d m hdm
  have HS3 := Lib.hid hS3
  have HDD := Lib.hid hd
  rw [hR]
  rw [hN] at H0 HV ⊢
  rw [hn] at hs3 HS3 HX hl hdm ⊢
  clear h hlv hle hf hP hT hL hR hn hm hN hS3 hd
  go_enter Try.func27, Try.ntmps27
  go_upto_region 1 with (fail)
  generalize (w.alloc (.cells #[.int .u64 (g.base : Nat), .int .u64 (g.bt : Nat), cv, .slice a2 N k2] 26)).alloc (.cells #[.int .u64 0, .int .u64 0, .slice none 0 0, .slice none 0 0] 26) = W0 at *
  obtain ⟨x0, x1, x2, x3⟩ := H0.out.cg
  go_upto_if 18 with (fail)
  go_cut [1, 2, 3] from 15 (fun a b c wx => a = .int .u64 (P : Nat) ∧ b = .int .u64 (T : Nat) ∧ ∃ la lc, c = .slice la m lc ∧ Hid (In2 w wx cv (.slice a2 N k2) g ∧ rw.Sl enSh wx (.slice la m lc) L))
  case first =>
    by_cases c : prev < g.base
    · have q1 : (prev : Int) < (g.base : Int) := by omega
      have f1 : IntKind.u64.wrap ((g.base : Int) - (prev : Int)) = ((g.base - prev : Nat) : Int) := by rw [u64_in _ (by omega)]; omega
      have f2 : IntKind.u64.wrap (n : Int) = (n : Int) := u64_in _ (by omega)
      obtain ⟨D, hDD⟩ : ∃ D, g.base - prev = D := ⟨_, rfl⟩
      rw [hDD] at f1
      have f3 : min (D : Int) (n : Int) = (d : Int) := by have := HDD.out; omega
      have HE : Hid (∀ k, In2 w (W0.drewN k) cv (.slice a2 N k2) g ∧ rw.Sl enSh (W0.drewN k) (.slice a3 m k3) L) := fun k => by
        have b := below_drewN (Below.refl W0.heap.size W0) k
        refine ⟨H0.out.below b, ?_⟩
        rw [HD.out]
        exact HS3.out _ (HX.out.later _ (H0.out.b.trans (b.mono H0.out.b.size)))
      obtain ⟨e1, e2⟩ := HPT.out.1 c
      have HP1 := Lib.hid e1
      have HP2 := Lib.hid e2
      clear H0 hDD e1 e2 c
      go_wp2_with fail
      go_quiet (fail)
      go_wp2_with fail
      go_meet
      rw [HP1.out, HP2.out]
      exact ⟨rfl, rfl, a3, k3, rfl, HE.out _⟩
    · have q1 : ¬ (prev : Int) < (g.base : Int) := by omega
      obtain ⟨e1, e2, e3⟩ := HPT.out.2 c
      have hnm : n = m := by rw [← HN.out.1, ← HN.out.2.1, e3]
      have HE : Hid (In2 w W0 cv (.slice a2 N k2) g ∧ rw.Sl enSh W0 (.slice la n lc) L) := ⟨H0.out, by rw [e3]; exact HX.out.later _ H0.out.b⟩
      have HP1 := Lib.hid e1
      have HP2 := Lib.hid e2
      have HP3 := Lib.hid hnm
      clear H0 e1 e2 e3 hnm c
      go_wp2_with fail
      go_meet
      rw [HP1.out, HP2.out, ← HP3.out]
      exact ⟨rfl, rfl, la, lc, rfl, HE.out⟩
  case rest =>
    obtain ⟨rfl, rfl, la', lc', rfl, HI⟩ := hcut
    have HT := Lib.hid fun W (b : Below w.heap.size w W) => term_any g cv (.slice a2 N k2) P hPl HF.out W (HV.out.later b)
    have HU := Lib.hid fun W (b : Below w.heap.size w W) => upTo_any g cv (.slice a2 N k2) P hPl HF.out W (HV.out.later b)
    obtain ⟨TT, hTT⟩ : ∃ T, g.term P = T := ⟨_, rfl⟩
    rw [hTT] at HT
    obtain ⟨tt, tb⟩ := TT
    have HTT := Lib.hid hTT
    clear HX HS3 hs3 HPT HD HDD x0 x1 x2 x3 H0 hdm hl hp ht hTT
    have hT := HT.out wc HI.out.1.b
    obtain ⟨x0, x1, x2, x3⟩ := HI.out.1.cg
    go_wp2_with fail
    with_reducible refine hT.mono ?_
    clear hT x0 x1 x2 x3 HT
    rintro e w2 ⟨rfl, b2⟩
    have H2 : Hid (In2 w w2 cv (.slice a2 N k2) g) := HI.out.1.below b2
    have HL2 : Hid (rw.Sl enSh w2 (.slice la' m lc') L) := HI.out.2.later _ b2
    clear b2 HI
    by_cases hyes : tb = true ∧ tt = T
    · obtain ⟨rfl, rfl⟩ := hyes
      have q1 : decide (tt = tt) = true := decide_eq_true rfl
      have q2 : ((tt : Int) != (tt : Int)) = false := by simp
      have hu := HU.out w2 H2.out.b
      obtain ⟨u, hue⟩ : ∃ u, g.upTo P = u := ⟨_, rfl⟩
      have hul := g.upTo_le P
      rw [hue] at hu hul
      rw [HN.out.2.2] at hul
      have HUE := Lib.hid hue
      obtain ⟨x0, x1, x2, x3⟩ := H2.out.cg
      clear HU q1 hue
      go_wp2_with fail
      with_reducible refine hu.mono ?_
      clear hu x0 x1 x2 x3 q2
      rintro e w3 ⟨rfl, b3⟩
      have H3 := Lib.hid (H2.out.below b3)
      have HL3 : Hid (rw.Sl enSh w3 (.slice la' m lc') L) := HL2.out.later _ b3
      clear b3 H2 HL2
      obtain ⟨r, hr⟩ : ∃ r, u + r = N := ⟨N - u, by omega⟩
      have hv3 := H3.out.v.l
      obtain ⟨a4, k4, hs4, hS4⟩ := cut_from .i64 hv3 u r (by rw [HN.out.2.2]; exact hr)
      have hA := alike_any (.slice a4 r k4) (.slice la' m lc') (g.es.drop u) L (by rw [List.length_drop, HN.out.2.2]; have := HF.out.es; have := HN.out.2.2; omega) HLl.out.1 w3 (hS4 w3 hv3) HL3.out
      obtain ⟨s, hs⟩ : ∃ s, alike (g.es.drop u) L = s := ⟨_, rfl⟩
      rw [hs] at hA
      have hsl := alike_le (g.es.drop u) L
      rw [hs, List.length_drop, HN.out.2.2, HN.out.2.1] at hsl
      have HS := Lib.hid hs
      obtain ⟨x0, x1, x2, x3⟩ := H3.out.cg
      clear hv3 hS4 hs
      go_wp2_with fail
      with_reducible refine hA.mono ?_
      clear hA x0 x1 x2 x3 hs4
      rintro e w4 ⟨rfl, b4⟩
      have H4 := Lib.hid (H3.out.below b4)
      have HL4 : Hid (rw.Sl enSh w4 (.slice la' m lc') L) := HL3.out.later _ b4
      clear b4 H3 HL3
      by_cases hsm : s = m
      · have HZ : Hid (R = (g, 0, true)) := by
          show R = _
          rw [HR.out, Lg.behind, HTT.out, if_pos rfl]
          simp only [HUE.out, HS.out, HN.out.2.1, hsm, if_true]
        have q3 : ((s : Int) == (m : Int)) = true := beq_iff_eq.2 (by omega)
        have q4 : decide (s = m) = true := decide_eq_true hsm
        clear HR HTT HUE HS hsl hsm hr
        have hC := copyLog_any g.base g.bt cv (.slice a2 N k2) g.conf g.es HF.out.conf (by have := HF.out.es; omega) (fun e he => (HF.out.e e he).2) w4 H4.out.v.c H4.out.v.l
        obtain ⟨x0, x1, x2, x3⟩ := H4.out.cg
        go_wp2_with fail
        with_reducible refine hC.mono ?_
        clear hC x0 x1 x2 x3
        rintro e w9 ⟨cv9, ev9, rfl, o1, o2, b9⟩
        have H9 := Lib.hid (H4.out.below b9)
        have HDn := Lib.hid (H9.out.done (k := g) (own_lower o1 H4.out.b.size) (own_lower o2 H4.out.b.size))
        obtain ⟨c6a, c6c, rfl⟩ := o1.form
        obtain ⟨e6a, e6c, rfl⟩ := o2.form
        clear o1 o2 b9
        obtain ⟨y0, y1, y2, y3, f0, f1, f2, f3⟩ := H9.out.cr
        simp only [lgC]
        go_wp2_with fail
        exact bodyPost_ret (results_lgm rfl rfl rfl rfl HDn.out.r) rfl (HDn.out.out HZ.out)
      · have q3 : ((s : Int) == (m : Int)) = false := beq_eq_false_iff_ne.2 (by omega)
        have q4 : decide (s = m) = false := decide_eq_false hsm
        obtain ⟨q, hq⟩ : ∃ q, u + s = q := ⟨_, rfl⟩
        obtain ⟨m6, hm6⟩ : ∃ m6, s + m6 = m := ⟨m - s, by omega⟩
        obtain ⟨at_, hat⟩ : ∃ x, g.base + q + 1 = x := ⟨_, rfl⟩
        obtain ⟨E, hE⟩ : ∃ E, g.es.take q ++ L.drop s = E := ⟨_, rfl⟩
        have HZ : Hid (R = (⟨g.base, g.bt, g.conf, E⟩, at_, true)) := by
          show R = _
          rw [HR.out, Lg.behind, HTT.out, if_pos rfl]
          simp only [HUE.out, HS.out, HN.out.2.1]
          rw [if_neg hsm, hq, hE, hat]
        have hv4 := H4.out.v.l
        have hqN : q ≤ N := by omega
        obtain ⟨a5, k5, hs5, hS5⟩ := cut_upto .i64 hv4 q (by rw [HN.out.2.2]; exact hqN)
        obtain ⟨a6, k6, hs6, hS6⟩ := cut_from .i64 HL4.out s m6 (by rw [HN.out.2.1]; exact hm6)
        have kX : Below w4.heap.size w4 (w4.alloc (.cells #[.slice a5 q k5, .slice a6 m6 k6] 24)).drew := below_drew (below_box _ _)
        have aX : Arr (w4.alloc (.cells #[.slice a5 q k5, .slice a6 m6 k6] 24)).drew w4.heap.size 24 #[.slice a5 q k5, .slice a6 m6 k6] := Arr.new w4 _ _
        have hK : Calls Try.prog 48 #[.slice (some ⟨w4.heap.size, 0, none⟩) 2 2] (w4.alloc (.cells #[.slice a5 q k5, .slice a6 m6 k6] 24)).drew fun e w' => ∃ v, e = .returned v ∧ rw.Own enSh w' (w4.alloc (.cells #[.slice a5 q k5, .slice a6 m6 k6] 24)).drew.heap.size v E ∧ Below (w4.alloc (.cells #[.slice a5 q k5, .slice a6 m6 k6] 24)).drew.heap.size (w4.alloc (.cells #[.slice a5 q k5, .slice a6 m6 k6] 24)).drew w' := by
          rw [← hE]
          exact concat_any _ _ _ _ w4.heap.size 2 (by rw [List.length_take]; have := HF.out.es; omega) (by rw [List.length_drop]; have := HLl.out.1; omega) _ (hS5 _ (hv4.later _ kX)) (hS6 _ (HL4.out.later _ kX)) (aX.cell rfl) (aX.cell rfl)
        have hbN : N ≤ 1000000 := by have := HF.out.es; have := HN.out.2.2; omega
        have HKX := Lib.hid kX
        have f1 : IntKind.i64.wrap ((u : Int) + (s : Int)) = (q : Int) := by rw [IntWalk.i64_in _ (by omega)]; omega
        have f2 : IntKind.u64.wrap (q : Int) = (q : Int) := u64_in _ (by omega)
        obtain ⟨bq, hbq⟩ : ∃ x, g.base + q = x := ⟨_, rfl⟩
        have f3 : IntKind.u64.wrap ((g.base : Int) + (q : Int)) = (bq : Int) := by rw [u64_in _ (by omega)]; omega
        have f4 : IntKind.u64.wrap ((bq : Int) + 1) = (at_ : Int) := by rw [u64_in _ (by omega)]; omega
        have HEl : Hid (E.length ≤ 1000000000 ∧ ∀ e ∈ E, e.data.length ≤ 281474976710656) := by
          rw [← hE]
          refine ⟨by rw [List.length_append, List.length_take, List.length_drop]; have := HLl.out.1; have := HF.out.es; omega, fun e he => ?_⟩
          rcases List.mem_append.1 he with he | he
          · exact (HF.out.e e (List.mem_of_mem_take he)).2
          · exact (HLl.out.2 e (List.mem_of_mem_drop he)).2
        obtain ⟨x0, x1, x2, x3⟩ := H4.out.drew.cg
        have hqm : q ≤ 9223372036854775807 := by omega
        have hsm2 : s ≤ m := by omega
        clear HR HTT HUE HS hsl hsm hr hv4 hS5 hS6 kX aX hE hat hq hm6 hbq
        go_wp2_with fail
        have p3 : (w4.alloc (.cells #[.slice a5 q k5, .slice a6 m6 k6] 24)).drew.heap.size = w4.heap.size + 1 := by show (w4.alloc _).heap.size = _; simp
        go_region_law
          (first
            | (go_simp; go_at_call 48; with_reducible refine hK.mono ?_; rintro e w5 ⟨v5, rfl, o5, b5⟩; have H5 := Lib.hid ((H4.out.below HKX.out).below b5); have O5 := Lib.hid (own_lower o5 (Nat.le_trans H4.out.b.size HKX.out.size)); obtain ⟨va, vc, rfl⟩ := o5.form; obtain ⟨z0, z1, z2, z3⟩ := H5.out.cg; have zf := H5.out.fg.frozen 3; clear o5 b5 hK))
        all_goals (
          have H6 := Lib.hid (H5.out.put HV.out O5.out)
          clear z0 z1 z2 z3 zf x0 x1 x2 x3 hs5 hs6 p3 H5 O5
          generalize w5.setCell ⟨w.heap.size, 3, none⟩ (.slice va E.length vc) = w6 at *
          have H7 := Lib.hid H6.out.drew
          obtain ⟨x0, x1, x2, x3⟩ := H7.out.cg
          simp only at x0 x1
          have hC : Calls Try.prog 46 #[.agg #[.int .u64 (g.base : Nat), .int .u64 (g.bt : Nat), cv, .slice va E.length vc]] w6.drew fun e w' => ∃ cv9 ev9, e = .returned (.agg #[.int .u64 (g.base : Nat), .int .u64 (g.bt : Nat), cv9, ev9]) ∧ rw.Own noSh w' w6.drew.heap.size cv9 g.conf ∧ rw.Own enSh w' w6.drew.heap.size ev9 E ∧ Below w6.drew.heap.size w6.drew w' :=
            copyLog_any g.base g.bt cv (.slice va E.length vc) g.conf E HF.out.conf HEl.out.1 HEl.out.2 w6.drew H7.out.v.c H7.out.v.l
          go_wp2_with fail
          go_region_law
            (first
              | (go_simp; go_at_call 46; with_reducible refine hC.mono ?_; rintro e w9 ⟨cv9, ev9, rfl, o1, o2, b9⟩; have H9 := Lib.hid (H7.out.below b9); have HDn := Lib.hid (H9.out.done (k := ⟨g.base, g.bt, g.conf, E⟩) (own_lower o1 H7.out.b.size) (own_lower o2 H7.out.b.size)); obtain ⟨c6a, c6c, rfl⟩ := o1.form; obtain ⟨e6a, e6c, rfl⟩ := o2.form; obtain ⟨p0, p1, p2, p3⟩ := H9.out.cg; obtain ⟨y0, y1, y2, y3, r0, r1, r2, r3⟩ := H9.out.cr; simp only at p0 p1; have kp := (H9.out.keep g.base g.bt (cv2 := .slice c6a g.conf.length c6c) (ev2 := .slice e6a E.length e6c)).1; simp only [layL] at kp; clear o1 o2 b9 hC))
          all_goals go_wp2_with fail
          all_goals exact bodyPost_ret (results_lgm rfl rfl rfl rfl HDn.out.r) rfl (HDn.out.out HZ.out))
    · have HZ : Hid (R = (g, 0, false)) := by
        show R = _
        rw [HR.out, Lg.behind, HTT.out, if_neg]
        intro e
        injection e with e1 e2
        exact hyes ⟨e2, e1⟩
      have hq : tb = false ∨ (tb = true ∧ decide (tt = T) = false ∧ ((tt : Int) != (T : Int)) = true) := by
        cases tb with
        | false => exact .inl rfl
        | true => exact .inr ⟨rfl, decide_eq_false (fun e => hyes ⟨rfl, e⟩), bne_iff_ne.2 (fun e => hyes ⟨rfl, by omega⟩)⟩
      clear HR HTT hyes
      rcases hq with rfl | ⟨rfl, q1, q2⟩
      all_goals (
        have hC := copyLog_any g.base g.bt cv (.slice a2 N k2) g.conf g.es HF.out.conf (by have := HF.out.es; omega) (fun e he => (HF.out.e e he).2) w2 H2.out.v.c H2.out.v.l
        obtain ⟨x0, x1, x2, x3⟩ := H2.out.cg
        go_wp2_with fail
        with_reducible refine hC.mono ?_
        clear hC x0 x1 x2 x3
        rintro e w9 ⟨cv9, ev9, rfl, o1, o2, b9⟩
        have H9 := Lib.hid (H2.out.below b9)
        have HDn := Lib.hid (H9.out.done (k := g) (own_lower o1 H2.out.b.size) (own_lower o2 H2.out.b.size))
        obtain ⟨c6a, c6c, rfl⟩ := o1.form
        obtain ⟨e6a, e6c, rfl⟩ := o2.form
        clear o1 o2 b9
        obtain ⟨y0, y1, y2, y3, f0, f1, f2, f3⟩ := H9.out.cr
        simp only [lgC]
        go_wp2_with fail
        exact bodyPost_ret (results_lgm rfl rfl rfl rfl HDn.out.r) rfl (HDn.out.out HZ.out))
end Go.Proofs.Ythhnhnljefiboaa.tl
