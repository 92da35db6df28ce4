/-
  What the law's walk stands on, part 5 of 5: the texts RfAl, RfNwN, RfSam, RfB1, one behind the other.
-/
import Derived.Test.YtmgmhnohocamfaaGreatTlSl
import Derived.Test.YtmgmhnohocamfaaGreatRaftBeginsd
/-! RfAl -/
namespace Go.Proofs.YtmgmhnohocamfaaGreat.rf
set_option linter.unusedVariables false
open Go.RowKit
open pk (S S_size S_data)
open qm (Bs noSh)
open rw (Arr But below_box bnext below_drew below_drewN)
open tl

/-- A mind in a box of the law's. -/
structure Al (w W : World) (sb : Nat) (s : Rs) (cv ev : Value) : Prop where
  a : Arr W sb 49 (rsC s cv ev (.slice none 0 0))
  c : rw.Sl noSh W cv s.g.conf
  e : rw.Sl enSh W ev s.g.es
  b : Below w.heap.size w W
  n : w.heap.size ≤ sb
theorem Al.below {w W W' : World} {sb : Nat} {s : Rs} {cv ev : Value} (h : Al w W sb s cv ev) (b : Below W.heap.size W W') : Al w W' sb s cv ev := ⟨h.a.below b, h.c.later _ b, h.e.later _ b, h.b.trans (b.mono h.b.size), h.n⟩
theorem Al.step {w W W' : World} {sb : Nat} {s s' : Rs} {cv ev cu eu : Value} (h : Al w W sb s cv ev) (o1 : rw.Own noSh W' W.heap.size cu s'.g.conf) (o2 : rw.Own enSh W' W.heap.size eu s'.g.es) (b : Below W.heap.size W W') : Al w (W'.setRow sb (rsC s' cu eu (.slice none 0 0))) sb s' cu eu := by
  have a := h.a.below b
  have k := row_but W' sb (rsC s' cu eu (.slice none 0 0))
  have b2 := h.b.trans (b.mono h.b.size)
  exact ⟨row_arr a, (own_but o1 a (by decide) k).sl, (own_but o2 a (by decide) k).sl, b2.trans (k.below b2.size h.n), h.n⟩
theorem Al.new {w W : World} {s : Rs} {cv ev : Value} (b : Below w.heap.size w W) (o1 : rw.Sl noSh W cv s.g.conf) (o2 : rw.Sl enSh W ev s.g.es) : Al w (W.alloc (.cells (rsC s cv ev (.slice none 0 0)) 49)) W.heap.size s cv ev :=
  have k := below_box W (.cells (rsC s cv ev (.slice none 0 0)) 49)
  ⟨Arr.new _ _ _, o1.later _ k, o2.later _ k, b.trans (k.mono b.size), b.size⟩
def a0 : Rs := began 1 0 0 ⟨0, 0, [1], []⟩ [] 1
def a1 : Rs := a0.led
def a2 : Rs := a1.got [120]
theorem fit0 : Rfit a0 := ⟨by decide, by decide, (by intro x hx; cases hx), by decide, by decide⟩
theorem lone0 : Lone a0 := ⟨⟨by decide, by decide, by decide, by decide, (by intro x hx; cases hx)⟩, rfl, by decide, by decide, by decide, by decide⟩
theorem lone1 : Lone a1 := lone0.app (x := ⟨1, 1, []⟩) (by decide) (by decide) (by decide) rfl rfl (by decide) (by decide) (by decide)
theorem fit1 : Rfit a1 := ⟨by decide, by decide, (by intro x hx; have : x ∈ [(⟨1, 1, []⟩ : EnIn)] := hx; rw [List.mem_singleton] at this; subst this; decide), by decide, by decide⟩
set_option maxHeartbeats 8000000 in
set_option maxRecDepth 100000 in
theorem alive_any (w : World) : Calls Tryz.prog 10 #[] w fun e w' => e = .returned (.bool true) ∧ Below w.heap.size w w' := by
  have HNw := Lib.hid fun W (cv ev : Value) (h1 : rw.Sl noSh W cv [1]) (h2 : rw.Sl enSh W ev []) => new_any 1 0 0 0 ⟨0, 0, [1], []⟩ cv ev [] 1 (by decide) (by decide) fit0 W h1 h2
  have HT : Hid (∀ W (cv ev : Value) (h1 : rw.Sl noSh W cv a0.g.conf) (h2 : rw.Sl enSh W ev a0.g.es), Calls Tryz.prog 18 #[.agg (rsC a0 cv ev (.slice none 0 0)), .agg (evC 1 0 ⟨#[]⟩)] W (StOut W a1 0)) := fun W cv ev h1 h2 => by
    have z := step_tick a0 cv ev fit0 lone0 (by decide) (by decide) rfl (by decide) W h1 h2
    rw [if_pos (by decide)] at z
    exact z
  have HP : Hid (∀ W (cv ev : Value) (h1 : rw.Sl noSh W cv a1.g.conf) (h2 : rw.Sl enSh W ev a1.g.es), Calls Tryz.prog 18 #[.agg (rsC a1 cv ev (.slice none 0 0)), .agg (evC 3 3 ⟨#[120]⟩)] W (StOut W a2 0)) := fun W cv ev h1 h2 => by
    have z := step_prop [120] a1 cv ev fit1 lone1 (by decide) rfl (by decide) W h1 h2
    rw [if_neg (by decide), if_neg (by decide)] at z
    exact z
  go_enter Tryz.func10, Tryz.ntmps10
  have kb := below_box w (.cells #[.int .i64 1] 3)
  have HO : Hid (rw.Sl noSh (w.alloc (.cells #[.int .i64 1] 3)) (.slice (some ⟨w.heap.size, 0, none⟩) 1 1) [1]) := (rw.Own.lit noSh w [1] (by simp) (by simp)).sl
  have HB := Lib.hid kb
  have hN : Calls Tryz.prog 22 #[.int .i64 1, .agg #[.int .u64 0, .int .i64 0, .int .u64 0], .agg #[.int .u64 0, .int .u64 0, .slice (some ⟨w.heap.size, 0, none⟩) 1 1, .slice none 0 0], .string ⟨#[]⟩, .int .i64 1] (w.alloc (.cells #[.int .i64 1] 3)) (NwOut (w.alloc (.cells #[.int .i64 1] 3)) a0 0) := HNw.out _ _ (.slice none 0 0) HO.out (rw.Sl.nil _ _)
  clear kb HNw HO
  go_wp2_with fail
  with_reducible refine hN.mono ?_
  clear hN
  rintro e w2 ⟨cv, ev, rfl, o1, o2, b2⟩
  have HA := Lib.hid (Al.new (HB.out.trans (b2.mono HB.out.size)) o1.sl o2.sl)
  clear HB b2
  obtain ⟨ca, cc, hcu⟩ := o1.form
  obtain ⟨ea, ec, heu⟩ := o2.form
  rw [show a0.g.conf.length = 1 from rfl] at hcu
  rw [show a0.g.es.length = 0 from rfl] at heu
  subst hcu heu
  clear o1 o2
  go_upto_region 2 with (refine wpList_store_row rfl 49 (.tmp 1) (.tmp 9) rfl _ _ rfl rfl 49 _ (Arr.new w2 _ _) (by kernel_rfl) rfl (rs_ones _ _ _ _ _ _ _ _ _ _) ?_)
  rw [alloc_row]
  generalize w2.alloc (.cells (rsC a0 (.slice ca 1 cc) (.slice ea 0 ec) (.slice none 0 0)) 49) = W0 at *
  generalize w2.heap.size = sb at *
  have hT := HT.out W0 _ _ HA.out.c HA.out.e
  simp only [evC] at hT
  go_upto_region 4 with fail
  go_wp2_with (refine wpList_load_row rfl 49 (.tmp 1) rfl _ rfl 49 _ (0, 0) _ HA.out.a Tryz.underlying49 rfl (by kernel_rfl) ?_)
  with_reducible refine hT.mono ?_
  clear hT HT
  rintro e w3 ⟨cu, eu, rfl, o1, o2, b3⟩
  have HA3 := Lib.hid (HA.out.step o1 o2 b3)
  have HR := Lib.hid (HA.out.below b3).a
  clear HA b3
  obtain ⟨ca', cc', hcu⟩ := o1.form
  obtain ⟨ea', ec', heu⟩ := o2.form
  rw [show a1.g.conf.length = 1 from rfl] at hcu
  rw [show a1.g.es.length = 1 from rfl] at heu
  subst hcu heu
  clear o1 o2
  go_upto_region 5 with (refine wpList_store_row rfl 49 (.tmp 1) (.tmp 17) rfl _ _ rfl rfl 49 _ HR.out (by kernel_rfl) rfl (rs_ones _ _ _ _ _ _ _ _ _ _) ?_)
  clear HR
  generalize w3.setRow sb (rsC a1 (.slice ca' 1 cc') (.slice ea' 1 ec') (.slice none 0 0)) = W3 at *
  obtain ⟨y3, y1, y10⟩ : W3.cell? ⟨sb, 3, none⟩ = some (.int .i64 2) ∧ W3.cell? ⟨sb, 1, none⟩ = some (.int .u64 1) ∧ W3.cell? ⟨sb, 10, none⟩ = some (.int .u64 1) := ⟨HA3.out.a.cell rfl, HA3.out.a.cell rfl, HA3.out.a.cell rfl⟩
  go_upto_region 7 with fail
  clear y3 y1 y10
  have hP := HP.out W3 _ _ HA3.out.c HA3.out.e
  simp only [evC] at hP
  go_wp2_with (refine wpList_load_row rfl 49 (.tmp 1) rfl _ rfl 49 _ (0, 0) _ HA3.out.a Tryz.underlying49 rfl (by kernel_rfl) ?_)
  with_reducible refine hP.mono ?_
  clear hP HP
  rintro e w4 ⟨cx, ex, rfl, o1, o2, b4⟩
  have HA5 := Lib.hid (HA3.out.step o1 o2 b4)
  have HR := Lib.hid (HA3.out.below b4).a
  clear HA3 b4
  obtain ⟨cb, cd, hcu⟩ := o1.form
  obtain ⟨eb, ed, heu⟩ := o2.form
  rw [show a2.g.conf.length = 1 from rfl] at hcu
  rw [show a2.g.es.length = 2 from rfl] at heu
  subst hcu heu
  clear o1 o2
  go_upto_region 8 with (refine wpList_store_row rfl 49 (.tmp 1) (.tmp 47) rfl _ _ rfl rfl 49 _ HR.out (by kernel_rfl) rfl (rs_ones _ _ _ _ _ _ _ _ _ _) ?_)
  clear HR
  generalize w4.setRow sb (rsC a2 (.slice cb 1 cd) (.slice eb 2 ed) (.slice none 0 0)) = W5 at *
  obtain ⟨y10, y8⟩ : W5.cell? ⟨sb, 10, none⟩ = some (.int .u64 2) ∧ W5.cell? ⟨sb, 8, none⟩ = some (.slice eb 2 ed) := ⟨HA5.out.a.cell rfl, HA5.out.a.cell rfl⟩
  obtain ⟨p1, q1, d1, e1, g1, k10, k11, k12⟩ := slE_at (j := 1) HA5.out.e (by decide)
  rw [show a2.g.es.length = 2 from rfl] at e1
  injection e1 with e11 e12 e13
  subst e11 e13
  clear e12
  have c10 : W5.cell? ⟨p1, q1 + 1 * 3, none⟩ = some (.int .u64 1) := k10
  have c11 : W5.cell? ⟨p1, q1 + 1 * 3 + 1, none⟩ = some (.int .i64 3) := k11
  have c12 : W5.cell? ⟨p1, q1 + 1 * 3 + 2, none⟩ = some (.string ⟨#[120]⟩) := k12
  clear k10 k11 k12 g1
  have hq : ∀ W, (binOp .eql 51 (.agg #[.int .u64 1, .int .i64 3, .string ⟨#[120]⟩]) (.agg #[.int .u64 1, .int .i64 3, .string ⟨#[120]⟩])).run Tryz.prog W = .ok (.bool true) W := fun W => by
    rw [run_eql_struct]
    have z := eq_ent ⟨1, 3, [120]⟩ ⟨1, 3, [120]⟩ W
    rw [decide_eq_true (by unfold sameE; decide)] at z
    have z : (Op.equalIn 10000 51 (.agg #[.int .u64 1, .int .i64 3, .string ⟨#[120]⟩]) (.agg #[.int .u64 1, .int .i64 3, .string ⟨#[120]⟩])).run Tryz.prog W = .ok true W := z
    rw [z]
    rfl
  go_wp2_with fail
  go_ret
  exact ⟨rfl, HA5.out.b⟩
end Go.Proofs.YtmgmhnohocamfaaGreat.rf
/-! RfNwN -/
namespace Go.Proofs.YtmgmhnohocamfaaGreat.rf
set_option linter.unusedVariables false
set_option linter.unusedSimpArgs false
open Go.RowKit
open pk (S S_size S_data)
open qm (Bs noSh)
open rw (Arr But below_box bnext below_drew below_drewN)
open tl

theorem rs0_ones : rs0.all (·.oneCell') = true := by simp [rs0, Value.oneCell']
/-- No mind. -/
def zr : Rs := ⟨0, 0, 0, 0, 0, ⟨0, 0, [], []⟩, [], 0, 0, 0, [], 0, 0⟩
theorem rs0_eq : rs0 = rsC zr (.slice none 0 0) (.slice none 0 0) (.slice none 0 0) := rfl
/-- Refused. -/
def NoOut (w : World) (x : Value) (e : Ending) (w' : World) : Prop := e = .returned (.tuple #[.agg rs0, x]) ∧ Below w.heap.size w w'
theorem NoOut.of {w W : World} {hc : Array Value} {g : Lg} {cv ev x : Value} (h : Nb w W hc g cv ev) : NoOut w x (.returned (.tuple #[.agg rs0, x])) (W.setRow (w.heap.size + 1 + 1) rs0) :=
  ⟨rfl, h.b.trans ((row_but W (w.heap.size + 1 + 1) rs0).below h.b.size (by omega))⟩
set_option maxHeartbeats 8000000 in
set_option maxRecDepth 100000 in
theorem new_no (id : Int) (t : Nat) (v : Int) (life : Nat) (g : Lg) (cv ev : Value) (img : Bs) (wait : Int) (hno : ¬ ((1 ≤ id ∧ id ≤ 5) ∧ 1 ≤ wait ∧ wait ≤ 1000)) (w : World) (h1 : rw.Sl noSh w cv g.conf) (h2 : rw.Sl enSh w ev g.es) :
    Calls Tryz.prog 22 #[.int .i64 id, .agg #[.int .u64 (t : Nat), .int .i64 v, .int .u64 (life : Nat)], g.v cv ev, .string (S img), .int .i64 wait] w (NoOut w (.int .i64 1)) := by
  have H0 := Lib.hid (Nb.start (w := w) (hc := #[.int .u64 (t : Nat), .int .i64 v, .int .u64 (life : Nat)]) (g := g) (cv := cv) (ev := ev))
  have hI := isNode_any id
  clear h1 h2
  simp only [lgC, rs0] at H0 ⊢
  by_cases c1 : 1 ≤ id ∧ id ≤ 5
  · rw [decide_eq_true c1] at hI
    by_cases c2 : wait < 1
    · have HI := Lib.hid hI
      clear hI c1 hno
      go_enter Tryz.func22, Tryz.ntmps22
      go_upto_region 1 with (fail)
      generalize w.alloc _ = W00 at H0 ⊢
      generalize W00.alloc _ = W01 at H0 ⊢
      generalize W01.alloc _ = W0 at H0 ⊢
      have hI := HI.out W0
      go_wp2_with fail
      with_reducible refine hI.mono ?_
      clear hI HI
      rintro e w1 ⟨rfl, rfl⟩
      go_upto_region 2 with (fail)
      clear c2
      have hz := Lib.hid (row_arr (cs := rs0) H0.out.r)
      go_wp2_with (first | (refine wpList_buildTo rfl 49 _ rfl _ rfl rs0 (by kernel_rfl) ?_) | (refine wpList_store_row rfl 49 (.tmp 10) (.tmp 24) rfl _ _ rfl rfl 49 _ H0.out.r (by kernel_rfl) rfl rs0_ones ?_))
      exact bodyPost_ret (results_rs2 rfl rfl rfl hz.out rfl) rfl (NoOut.of H0.out)
    · have c3 : (1000 : Int) < wait := by omega
      have HI := Lib.hid hI
      clear hI c1 hno
      go_enter Tryz.func22, Tryz.ntmps22
      go_upto_region 1 with (fail)
      generalize w.alloc _ = W00 at H0 ⊢
      generalize W00.alloc _ = W01 at H0 ⊢
      generalize W01.alloc _ = W0 at H0 ⊢
      have hI := HI.out W0
      go_wp2_with fail
      with_reducible refine hI.mono ?_
      clear hI HI
      rintro e w1 ⟨rfl, rfl⟩
      go_upto_region 2 with (fail)
      clear c2 c3
      have hz := Lib.hid (row_arr (cs := rs0) H0.out.r)
      go_wp2_with (first | (refine wpList_buildTo rfl 49 _ rfl _ rfl rs0 (by kernel_rfl) ?_) | (refine wpList_store_row rfl 49 (.tmp 10) (.tmp 24) rfl _ _ rfl rfl 49 _ H0.out.r (by kernel_rfl) rfl rs0_ones ?_))
      exact bodyPost_ret (results_rs2 rfl rfl rfl hz.out rfl) rfl (NoOut.of H0.out)
  · rw [decide_eq_false c1] at hI
    have HI := Lib.hid hI
    clear hI c1 hno
    go_enter Tryz.func22, Tryz.ntmps22
    go_upto_region 1 with (fail)
    generalize w.alloc _ = W00 at H0 ⊢
    generalize W00.alloc _ = W01 at H0 ⊢
    generalize W01.alloc _ = W0 at H0 ⊢
    have hI := HI.out W0
    go_wp2_with fail
    with_reducible refine hI.mono ?_
    clear hI HI
    rintro e w1 ⟨rfl, rfl⟩
    go_upto_region 2 with (fail)
    have hz := Lib.hid (row_arr (cs := rs0) H0.out.r)
    go_wp2_with (first | (refine wpList_buildTo rfl 49 _ rfl _ rfl rs0 (by kernel_rfl) ?_) | (refine wpList_store_row rfl 49 (.tmp 10) (.tmp 24) rfl _ _ rfl rfl 49 _ H0.out.r (by kernel_rfl) rfl rs0_ones ?_))
    exact bodyPost_ret (results_rs2 rfl rfl rfl hz.out rfl) rfl (NoOut.of H0.out)
set_option maxHeartbeats 8000000 in
set_option maxRecDepth 100000 in
theorem rnew_no (id : Int) (t : Nat) (v : Int) (life : Nat) (g : Lg) (cv ev : Value) (img : Bs) (wait : Int) (hno : ¬ ((1 ≤ id ∧ id ≤ 5) ∧ 1 ≤ wait ∧ wait ≤ 1000)) (w : World) (h1 : rw.Sl noSh w cv g.conf) (h2 : rw.Sl enSh w ev g.es) :
    Calls Tryz.prog 23 #[.int .i64 id, .agg #[.int .u64 (t : Nat), .int .i64 v, .int .u64 (life : Nat)], g.v cv ev, .string (S img), .int .i64 wait] w (NoOut w (.bool false)) := by
  have H0 := Lib.hid (Nb.start (w := w) (hc := #[.int .u64 (t : Nat), .int .i64 v, .int .u64 (life : Nat)]) (g := g) (cv := cv) (ev := ev))
  have hc : id < 1 ∨ (¬ id < 1 ∧ (5 : Int) < id) ∨ (¬ id < 1 ∧ ¬ (5 : Int) < id ∧ wait < 1) ∨ (¬ id < 1 ∧ ¬ (5 : Int) < id ∧ ¬ wait < 1 ∧ (1000 : Int) < wait) := by omega
  clear h1 h2 hno
  simp only [lgC, rs0] at H0 ⊢
  rcases hc with c1 | ⟨c1, c2⟩ | ⟨c1, c2, c3⟩ | ⟨c1, c2, c3, c4⟩
  all_goals (
    go_enter Tryz.func23, Tryz.ntmps23
    go_upto_region 1 with (fail)
    generalize w.alloc _ = W00 at H0 ⊢
    generalize W00.alloc _ = W01 at H0 ⊢
    generalize W01.alloc _ = W0 at H0 ⊢
    go_upto_region 2 with (fail)
    have hz := Lib.hid (row_arr (cs := rs0) H0.out.r)
    go_wp2_with (first | (refine wpList_buildTo rfl 49 _ rfl _ rfl rs0 (by kernel_rfl) ?_) | (refine wpList_store_row rfl 49 (.tmp 10) (.tmp 26) rfl _ _ rfl rfl 49 _ H0.out.r (by kernel_rfl) rfl rs0_ones ?_))
    exact bodyPost_ret (results_rs2 rfl rfl rfl hz.out rfl) rfl (NoOut.of H0.out))
set_option maxHeartbeats 8000000 in
set_option maxRecDepth 100000 in
theorem rnew_any (id : Int) (t : Nat) (v : Int) (life : Nat) (g : Lg) (cv ev : Value) (img : Bs) (wait : Int) (hid : 1 ≤ id ∧ id ≤ 5) (hw : 1 ≤ wait ∧ wait ≤ 1000) (w : World) (h1 : rw.Sl noSh w cv g.conf) (h2 : rw.Sl enSh w ev g.es) :
    Calls Tryz.prog 23 #[.int .i64 id, .agg #[.int .u64 (t : Nat), .int .i64 v, .int .u64 (life : Nat)], g.v cv ev, .string (S img), .int .i64 wait] w fun e w' => e = .returned (.tuple #[.agg (rsC (began id t v g img wait) cv ev (.slice none 0 0)), .bool true]) ∧ Below w.heap.size w w' := by
  obtain ⟨ca, cc, rfl⟩ := sl_form h1
  obtain ⟨ea, ec, rfl⟩ := sl_form h2
  obtain ⟨n1, hn1⟩ : ∃ n, g.conf.length = n := ⟨_, rfl⟩
  obtain ⟨N, hN⟩ : ∃ n, g.es.length = n := ⟨_, rfl⟩
  rw [hn1] at h1 ⊢
  rw [hN] at h2 ⊢
  have H0 := Lib.hid (Nb.start (w := w) (hc := #[.int .u64 (t : Nat), .int .i64 v, .int .u64 (life : Nat)]) (g := g) (cv := .slice ca n1 cc) (ev := .slice ea N ec))
  have q1 : ¬ wait < 1 := by omega
  have q2 : ¬ (1000 : Int) < wait := by omega
  have q3 : ¬ id < 1 := by omega
  have q4 : ¬ (5 : Int) < id := by omega
  clear h1 h2 hn1 hN hid hw
  simp only [lgC, rs0] at H0 ⊢
  go_enter Tryz.func23, Tryz.ntmps23
  go_upto_region 1 with (fail)
  generalize w.alloc _ = W00 at H0 ⊢
  generalize W00.alloc _ = W01 at H0 ⊢
  generalize W01.alloc _ = W0 at H0 ⊢
  go_upto_region 3 with (fail)
  clear q1 q2 q3 q4
  obtain ⟨x0, x1⟩ : W0.cell? ⟨w.heap.size, 0, none⟩ = some (.int .u64 (t : Nat)) ∧ W0.cell? ⟨w.heap.size, 1, none⟩ = some (.int .i64 v) := ⟨H0.out.h.cell rfl, H0.out.h.cell rfl⟩
  obtain ⟨y0, y1, y2, y3⟩ : W0.cell? ⟨w.heap.size + 1, 0, none⟩ = some (.int .u64 (g.base : Nat)) ∧ W0.cell? ⟨w.heap.size + 1, 1, none⟩ = some (.int .u64 (g.bt : Nat)) ∧ W0.cell? ⟨w.heap.size + 1, 2, none⟩ = some (.slice ca n1 cc) ∧ W0.cell? ⟨w.heap.size + 1, 3, none⟩ = some (.slice ea N ec) := ⟨H0.out.l.cell rfl, H0.out.l.cell rfl, H0.out.l.cell rfl, H0.out.l.cell rfl⟩
  have hz := Lib.hid (row_arr (cs := (rsC (began id t v g img wait) (.slice ca n1 cc) (.slice ea N ec) (.slice none 0 0))) H0.out.r)
  have HB : Hid (Below w.heap.size w (W0.setRow (w.heap.size + 1 + 1) (rsC (began id t v g img wait) (.slice ca n1 cc) (.slice ea N ec) (.slice none 0 0)))) := H0.out.b.trans ((row_but W0 (w.heap.size + 1 + 1) _).below H0.out.b.size (by omega))
  go_wp2_with (first | (refine wpList_buildTo rfl 49 _ rfl _ rfl (rsC (began id t v g img wait) (.slice ca n1 cc) (.slice ea N ec) (.slice none 0 0)) (by kernel_rfl) ?_) | (refine wpList_store_row rfl 49 (.tmp 10) (.tmp 37) rfl _ _ rfl rfl 49 _ H0.out.r (by kernel_rfl) rfl (rs_ones _ _ _ _ _ _ _ _ _ _) ?_))
  exact bodyPost_ret (results_rs2 rfl rfl rfl hz.out rfl) rfl ⟨rfl, HB.out⟩
end Go.Proofs.YtmgmhnohocamfaaGreat.rf
/-! RfSam -/
namespace Go.Proofs.YtmgmhnohocamfaaGreat.rf
set_option linter.unusedVariables false
set_option linter.unusedSimpArgs false
open Go.RowKit
open pk (S S_size S_data)
open qm (Bs noSh)
open rw (Arr But below_box bnext below_drew below_drewN)
open tl

/-- Two minds in their boxes. -/
structure Sm (w W : World) (s : Rs) (cu eu cv ev : Value) : Prop where
  x : Arr W w.heap.size 49 (rsC s cu eu (.slice none 0 0))
  y : Arr W (w.heap.size + 1) 49 (rsC s cv ev (.slice none 0 0))
  c1 : rw.Sl noSh W cu s.g.conf
  c2 : rw.Sl noSh W cv s.g.conf
  l1 : rw.Sl enSh W eu s.g.es
  l2 : rw.Sl enSh W ev s.g.es
  b : Below w.heap.size w W
theorem Sm.below {w W W' : World} {s : Rs} {cu eu cv ev : Value} (h : Sm w W s cu eu cv ev) (k : Below W.heap.size W W') : Sm w W' s cu eu cv ev :=
  ⟨h.x.below k, h.y.below k, h.c1.later _ k, h.c2.later _ k, h.l1.later _ k, h.l2.later _ k, h.b.trans (k.mono h.b.size)⟩
theorem Sm.start {w : World} {s : Rs} {cu eu cv ev : Value} (g1 : rw.Sl noSh w cu s.g.conf) (g2 : rw.Sl noSh w cv s.g.conf) (g3 : rw.Sl enSh w eu s.g.es) (g4 : rw.Sl enSh w ev s.g.es) :
    Sm w ((w.alloc (.cells (rsC s cu eu (.slice none 0 0)) 49)).alloc (.cells (rsC s cv ev (.slice none 0 0)) 49)) s cu eu cv ev := by
  have j1 := below_box w (.cells (rsC s cu eu (.slice none 0 0)) 49)
  have x1 := Arr.new w 49 (rsC s cu eu (.slice none 0 0))
  have hs : (w.alloc (.cells (rsC s cu eu (.slice none 0 0)) 49)).heap.size = w.heap.size + 1 := by simp
  have g1 := g1.later _ j1
  have g2 := g2.later _ j1
  have g3 := g3.later _ j1
  have g4 := g4.later _ j1
  generalize w.alloc (.cells (rsC s cu eu (.slice none 0 0)) 49) = W at *
  have j2 := below_box W (.cells (rsC s cv ev (.slice none 0 0)) 49)
  have x2 := Arr.new W 49 (rsC s cv ev (.slice none 0 0))
  rw [hs] at x2
  exact ⟨x1.below j2, x2, g1.later _ j2, g2.later _ j2, g3.later _ j2, g4.later _ j2, j1.trans (j2.mono j1.size)⟩
set_option maxHeartbeats 8000000 in
set_option maxRecDepth 100000 in
theorem rsame_any (s : Rs) (cu eu cv ev : Value) (hc : s.g.conf.length ≤ 1000000000) (hl : s.g.es.length ≤ 1000000000) (w : World) (h1 : rw.Sl noSh w cu s.g.conf) (h2 : rw.Sl noSh w cv s.g.conf) (h3 : rw.Sl enSh w eu s.g.es) (h4 : rw.Sl enSh w ev s.g.es) :
    Calls Tryz.prog 20 #[.agg (rsC s cu eu (.slice none 0 0)), .agg (rsC s cv ev (.slice none 0 0))] w fun e w' => e = .returned (.bool true) ∧ Below w.heap.size w w' := by
  have HL : Hid (∀ W (x : rw.Sl noSh W cu s.g.conf) (y : rw.Sl noSh W cv s.g.conf) (z : rw.Sl enSh W eu s.g.es) (u : rw.Sl enSh W ev s.g.es), Calls Tryz.prog 28 #[.agg #[.int .u64 (s.g.base : Nat), .int .u64 (s.g.bt : Nat), cu, eu], .agg #[.int .u64 (s.g.base : Nat), .int .u64 (s.g.bt : Nat), cv, ev]] W fun e w' => e = .returned (.bool true) ∧ Below W.heap.size W w') := fun W x y z u => by
    have q := sameLogs_any s.g.base s.g.bt s.g.base s.g.bt cu eu cv ev s.g.conf s.g.conf s.g.es s.g.es hc hl W x y z u
    rw [decide_eq_true ⟨rfl, rfl, rfl, rfl⟩] at q
    exact q
  have HI : Hid (∀ W, Calls Tryz.prog 14 #[.slice none 0 0, .slice none 0 0] W fun e w' => e = .returned (.bool true) ∧ Below W.heap.size W w') := fun W => by
    have q := sameInts_any (.slice none 0 0) (.slice none 0 0) [] [] (by simp) W (rw.Sl.nil _ _) (rw.Sl.nil _ _)
    rw [decide_eq_true rfl] at q
    exact q
  have H0 := Lib.hid (Sm.start h1 h2 h3 h4)
  obtain ⟨a1, k1, rfl⟩ := sl_form h1
  obtain ⟨a2, k2, rfl⟩ := sl_form h2
  obtain ⟨a3, k3, rfl⟩ := sl_form h3
  obtain ⟨a4, k4, rfl⟩ := sl_form h4
  clear h1 h2 h3 h4 hc hl
  obtain ⟨n1, hn1⟩ : ∃ n, s.g.conf.length = n := ⟨_, rfl⟩
  obtain ⟨n2, hn2⟩ : ∃ n, s.g.es.length = n := ⟨_, rfl⟩
  rw [hn1, hn2] at H0 HL ⊢
  clear hn1 hn2
  go_enter Tryz.func20, Tryz.ntmps20
  go_upto_region 1 with (fail)
  generalize (w.alloc (.cells (rsC s (.slice a1 n1 k1) (.slice a3 n2 k3) (.slice none 0 0)) 49)).alloc (.cells (rsC s (.slice a2 n1 k2) (.slice a4 n2 k4) (.slice none 0 0)) 49) = W0 at H0 ⊢
  obtain ⟨x0, x1, x2, x3, x4, x9, x10, x11, x12, x15, x16, x17⟩ : W0.cell? ⟨w.heap.size, 0, none⟩ = some (.int .i64 s.id) ∧ W0.cell? ⟨w.heap.size, 1, none⟩ = some (.int .u64 (s.term : Nat)) ∧ W0.cell? ⟨w.heap.size, 2, none⟩ = some (.int .i64 s.vote) ∧ W0.cell? ⟨w.heap.size, 3, none⟩ = some (.int .i64 s.role) ∧ W0.cell? ⟨w.heap.size, 4, none⟩ = some (.int .i64 s.leader) ∧ W0.cell? ⟨w.heap.size, 9, none⟩ = some (.string (S s.img)) ∧ W0.cell? ⟨w.heap.size, 10, none⟩ = some (.int .u64 (s.commit : Nat)) ∧ W0.cell? ⟨w.heap.size, 11, none⟩ = some (.int .i64 s.ticks) ∧ W0.cell? ⟨w.heap.size, 12, none⟩ = some (.int .i64 s.wait) ∧ W0.cell? ⟨w.heap.size, 15, none⟩ = some (.string (S s.piece)) ∧ W0.cell? ⟨w.heap.size, 16, none⟩ = some (.int .u64 (s.pidx : Nat)) ∧ W0.cell? ⟨w.heap.size, 17, none⟩ = some (.int .u64 (s.pterm : Nat)) := ⟨H0.out.x.cell rfl, H0.out.x.cell rfl, H0.out.x.cell rfl, H0.out.x.cell rfl, H0.out.x.cell rfl, H0.out.x.cell rfl, H0.out.x.cell rfl, H0.out.x.cell rfl, H0.out.x.cell rfl, H0.out.x.cell rfl, H0.out.x.cell rfl, H0.out.x.cell rfl⟩
  obtain ⟨y0, y1, y2, y3, y4, y9, y10, y11, y12, y15, y16, y17⟩ : W0.cell? ⟨w.heap.size + 1, 0, none⟩ = some (.int .i64 s.id) ∧ W0.cell? ⟨w.heap.size + 1, 1, none⟩ = some (.int .u64 (s.term : Nat)) ∧ W0.cell? ⟨w.heap.size + 1, 2, none⟩ = some (.int .i64 s.vote) ∧ W0.cell? ⟨w.heap.size + 1, 3, none⟩ = some (.int .i64 s.role) ∧ W0.cell? ⟨w.heap.size + 1, 4, none⟩ = some (.int .i64 s.leader) ∧ W0.cell? ⟨w.heap.size + 1, 9, none⟩ = some (.string (S s.img)) ∧ W0.cell? ⟨w.heap.size + 1, 10, none⟩ = some (.int .u64 (s.commit : Nat)) ∧ W0.cell? ⟨w.heap.size + 1, 11, none⟩ = some (.int .i64 s.ticks) ∧ W0.cell? ⟨w.heap.size + 1, 12, none⟩ = some (.int .i64 s.wait) ∧ W0.cell? ⟨w.heap.size + 1, 15, none⟩ = some (.string (S s.piece)) ∧ W0.cell? ⟨w.heap.size + 1, 16, none⟩ = some (.int .u64 (s.pidx : Nat)) ∧ W0.cell? ⟨w.heap.size + 1, 17, none⟩ = some (.int .u64 (s.pterm : Nat)) := ⟨H0.out.y.cell rfl, H0.out.y.cell rfl, H0.out.y.cell rfl, H0.out.y.cell rfl, H0.out.y.cell rfl, H0.out.y.cell rfl, H0.out.y.cell rfl, H0.out.y.cell rfl, H0.out.y.cell rfl, H0.out.y.cell rfl, H0.out.y.cell rfl, H0.out.y.cell rfl⟩
  go_upto_region 3 with (fail)
  clear x0 y0 x1 y1 x2 y2 x3 y3 x4 y4 x9 y9 x10 y10 x11 y11 x12 y12 x15 y15 x16 y16 x17 y17
  obtain ⟨x5, x6, x7, x8, x14⟩ : W0.cell? ⟨w.heap.size, 5, none⟩ = some (.int .u64 (s.g.base : Nat)) ∧ W0.cell? ⟨w.heap.size, 6, none⟩ = some (.int .u64 (s.g.bt : Nat)) ∧ W0.cell? ⟨w.heap.size, 7, none⟩ = some (.slice a1 n1 k1) ∧ W0.cell? ⟨w.heap.size, 8, none⟩ = some (.slice a3 n2 k3) ∧ W0.cell? ⟨w.heap.size, 14, none⟩ = some (.slice none 0 0) := ⟨H0.out.x.cell rfl, H0.out.x.cell rfl, H0.out.x.cell rfl, H0.out.x.cell rfl, H0.out.x.cell rfl⟩
  obtain ⟨y5, y6, y7, y8, y14⟩ : W0.cell? ⟨w.heap.size + 1, 5, none⟩ = some (.int .u64 (s.g.base : Nat)) ∧ W0.cell? ⟨w.heap.size + 1, 6, none⟩ = some (.int .u64 (s.g.bt : Nat)) ∧ W0.cell? ⟨w.heap.size + 1, 7, none⟩ = some (.slice a2 n1 k2) ∧ W0.cell? ⟨w.heap.size + 1, 8, none⟩ = some (.slice a4 n2 k4) ∧ W0.cell? ⟨w.heap.size + 1, 14, none⟩ = some (.slice none 0 0) := ⟨H0.out.y.cell rfl, H0.out.y.cell rfl, H0.out.y.cell rfl, H0.out.y.cell rfl, H0.out.y.cell rfl⟩
  have hL := HL.out W0 H0.out.c1 H0.out.c2 H0.out.l1 H0.out.l2
  go_wp2_with fail
  with_reducible refine hL.mono ?_
  clear hL HL x5 y5 x6 y6 x7 y7 x8 y8 x14 y14
  rintro e w2 ⟨rfl, b2⟩
  have H2 := Lib.hid (H0.out.below b2)
  clear H0 b2
  obtain ⟨x13, x14⟩ : w2.cell? ⟨w.heap.size, 13, none⟩ = some (.slice none 0 0) ∧ w2.cell? ⟨w.heap.size, 14, none⟩ = some (.slice none 0 0) := ⟨H2.out.x.cell rfl, H2.out.x.cell rfl⟩
  have y13 : w2.cell? ⟨w.heap.size + 1, 13, none⟩ = some (.slice none 0 0) := H2.out.y.cell rfl
  have hI := HI.out w2
  go_wp2_with fail
  with_reducible refine hI.mono ?_
  clear hI HI x13 x14 y13
  rintro e w3 ⟨rfl, b3⟩
  have H3 := Lib.hid (H2.out.below b3)
  clear H2 b3
  have x14 : w3.cell? ⟨w.heap.size, 14, none⟩ = some (.slice none 0 0) := H3.out.x.cell rfl
  go_wp2_with fail
  go_loopw [5] (fun i wr => i = .int .i64 0 ∧ wr = w3)
    (fun _ _ => 0)
  case atStart => exact ⟨rfl, rfl⟩
  case round =>
    obtain ⟨rfl, rfl⟩ := hrel
    go_wp2_with fail
    go_ret
    exact ⟨rfl, H3.out.b⟩
end Go.Proofs.YtmgmhnohocamfaaGreat.rf
/-! RfB1 -/
namespace Go.Proofs.YtmgmhnohocamfaaGreat.rf
set_option linter.unusedVariables false
set_option linter.unusedSimpArgs false
open Go.RowKit
open pk (S S_size S_data)
open qm (Bs noSh)
open rw (Arr But below_box bnext below_drew below_drewN)
open tl

/-- The law's own boxes: what lasted, the log. -/
structure Bg (w W : World) (hc : Array Value) (g : Lg) (cv ev : Value) : Prop where
  h : Arr W w.heap.size 65 hc
  l : Arr W (w.heap.size + 1) 46 (lgC g.base g.bt cv ev)
  c : rw.Sl noSh W cv g.conf
  e : rw.Sl enSh W ev g.es
  b : Below w.heap.size w W
theorem Bg.below {w W W' : World} {hc : Array Value} {g : Lg} {cv ev : Value} (h : Bg w W hc g cv ev) (b : Below W.heap.size W W') : Bg w W' hc g cv ev :=
  ⟨h.h.below b, h.l.below b, h.c.later _ b, h.e.later _ b, h.b.trans (b.mono h.b.size)⟩
theorem Bg.start {w : World} {hc : Array Value} {g : Lg} {cv ev : Value} (g1 : rw.Sl noSh w cv g.conf) (g2 : rw.Sl enSh w ev g.es) :
    Bg w ((w.alloc (.cells hc 65)).alloc (.cells (lgC g.base g.bt cv ev) 46)) hc g cv ev := by
  have b1 := below_box w (.cells hc 65)
  have a1 := Arr.new w 65 hc
  have s1 : (w.alloc (.cells hc 65)).heap.size = w.heap.size + 1 := by simp
  have g1 := g1.later _ b1
  have g2 := g2.later _ b1
  generalize w.alloc (.cells hc 65) = W1 at *
  have b2 := below_box W1 (.cells (lgC g.base g.bt cv ev) 46)
  have a2 := Arr.new W1 46 (lgC g.base g.bt cv ev)
  rw [s1] at a2
  exact ⟨a1.below b2, a2, g1.later _ b2, g2.later _ b2, b1.trans (b2.mono b1.size)⟩
/-- What the document's New tells. -/
def RnOut (w : World) (s : Rs) (ok : Bool) (e : Ending) (w' : World) : Prop :=
  ∃ cv ev, e = .returned (.tuple #[.agg (rsC s cv ev (.slice none 0 0)), .bool ok]) ∧ rw.Sl noSh w' cv s.g.conf ∧ rw.Sl enSh w' ev s.g.es ∧ Below w.heap.size w w'
def nArgs (id : Int) (t : Nat) (v : Int) (life : Nat) (g : Lg) (cv ev : Value) (img : Bs) (wait : Int) : Array Value := #[.int .i64 id, .agg #[.int .u64 (t : Nat), .int .i64 v, .int .u64 (life : Nat)], g.v cv ev, .string (S img), .int .i64 wait]
theorem two_news (id : Int) (t : Nat) (v : Int) (life : Nat) (g : Lg) (cv ev : Value) (img : Bs) (wait : Int) (hf : Rfit (began id t v g img wait)) :
    ∃ (s : Rs) (x : Int) (ok : Bool), ((x = 0 ∧ ok = true) ∨ (x = 1 ∧ ok = false)) ∧ s.g.conf.length ≤ 1000000000 ∧ s.g.es.length ≤ 1000000000 ∧
      (∀ W (h1 : rw.Sl noSh W cv g.conf) (h2 : rw.Sl enSh W ev g.es), Calls Tryz.prog 22 (nArgs id t v life g cv ev img wait) W (NwOut W s x)) ∧
      (∀ W (h1 : rw.Sl noSh W cv g.conf) (h2 : rw.Sl enSh W ev g.es), Calls Tryz.prog 23 (nArgs id t v life g cv ev img wait) W (RnOut W s ok)) := by
  by_cases c : (1 ≤ id ∧ id ≤ 5) ∧ 1 ≤ wait ∧ wait ≤ 1000
  · refine ⟨began id t v g img wait, 0, true, .inl ⟨rfl, rfl⟩, Nat.le_trans hf.conf (by decide), Nat.le_trans hf.es (by decide), fun W h1 h2 => new_any id t v life g cv ev img wait c.1 c.2 hf W h1 h2, fun W h1 h2 => (rnew_any id t v life g cv ev img wait c.1 c.2 W h1 h2).mono fun e w' hR => ?_⟩
    obtain ⟨rfl, b⟩ := hR
    exact ⟨cv, ev, rfl, h1.later _ b, h2.later _ b, b⟩
  · refine ⟨zr, 1, false, .inr ⟨rfl, rfl⟩, by decide, by decide, fun W h1 h2 => (new_no id t v life g cv ev img wait c W h1 h2).mono fun e w' hR => ?_, fun W h1 h2 => (rnew_no id t v life g cv ev img wait c W h1 h2).mono fun e w' hR => ?_⟩
    · obtain ⟨rfl, b⟩ := hR
      exact ⟨.slice none 0 0, .slice none 0 0, rfl, rw.Own.nil _ _ _, rw.Own.nil _ _ _, b⟩
    · obtain ⟨rfl, b⟩ := hR
      exact ⟨.slice none 0 0, .slice none 0 0, rfl, rw.Sl.nil _ _, rw.Sl.nil _ _, b⟩
set_option maxHeartbeats 8000000 in
set_option maxRecDepth 100000 in
theorem begins_walk (id : Int) (t : Nat) (v : Int) (life : Nat) (g : Lg) (cv ev : Value) (img : Bs) (wait : Int) (hg : Came g) (w : World) (h1 : rw.Sl noSh w cv g.conf) (h2 : rw.Sl enSh w ev g.es) :
    Calls Tryz.prog 4 #[.int .i64 id, .agg #[.int .u64 (t : Nat), .int .i64 v, .int .u64 (life : Nat)], g.v cv ev, .string (S img), .int .i64 wait] w fun e w' => e = .returned (.bool true) ∧ Below w.heap.size w w' := by
  have H0 := Lib.hid (Bg.start (hc := #[.int .u64 (t : Nat), .int .i64 v, .int .u64 (life : Nat)]) h1 h2)
  have HAl := Lib.hid alive_any
  by_cases c1 : g.es.length ≤ 100 ∧ g.conf.length ≤ 20 ∧ img.length ≤ 1000
  · have hf : Rfit (began id t v g img wait) := ⟨Nat.le_trans c1.2.1 (by decide), Nat.le_trans c1.1 (by decide), fun x hx => (hg.e x hx).2, Nat.le_trans c1.2.2 (by decide), by show (0 : Nat) ≤ _; omega⟩
    obtain ⟨s, x, ok, hx, l1, l2, hN, hR⟩ := two_news id t v life g cv ev img wait hf
    have HN := Lib.hid hN
    have HR := Lib.hid hR
    have HX := Lib.hid hx
    have HS := Lib.hid fun W (cu eu cv ev : Value) (h1 : rw.Sl noSh W cu s.g.conf) (h2 : rw.Sl noSh W cv s.g.conf) (h3 : rw.Sl enSh W eu s.g.es) (h4 : rw.Sl enSh W ev s.g.es) => rsame_any s cu eu cv ev l1 l2 W h1 h2 h3 h4
    obtain ⟨q1, q2, q3⟩ : ¬ (100 : Int) < (g.es.length : Nat) ∧ ¬ (20 : Int) < (g.conf.length : Nat) ∧ ¬ (1000 : Int) < ((S img).size : Nat) := by rw [S_size]; omega
    obtain ⟨ca, cc, rfl⟩ := sl_form h1
    obtain ⟨ea, ec, rfl⟩ := sl_form h2
    clear h1 h2 hg hf hx l1 l2 hN hR c1
    simp only [nArgs] at HN HR
    obtain ⟨n1, hn1⟩ : ∃ n, g.conf.length = n := ⟨_, rfl⟩
    obtain ⟨n2, hn2⟩ : ∃ n, g.es.length = n := ⟨_, rfl⟩
    rw [hn1] at q2
    rw [hn2] at q1
    rw [hn1, hn2] at H0 HN HR ⊢
    clear hn1 hn2
    simp only [lgC, Lg.v] at H0 HN HR ⊢
    go_enter Tryz.func4, Tryz.ntmps4
    go_upto_region 1 with (fail)
    generalize (w.alloc _).alloc _ = W0 at H0 ⊢
    have hA := HAl.out W0
    go_wp2_with fail
    with_reducible refine hA.mono ?_
    clear hA HAl
    rintro e w1 ⟨rfl, b1⟩
    have H1 := Lib.hid (H0.out.below b1)
    clear H0 b1
    obtain ⟨x0, x1, x2⟩ : w1.cell? ⟨w.heap.size, 0, none⟩ = some (.int .u64 (t : Nat)) ∧ w1.cell? ⟨w.heap.size, 1, none⟩ = some (.int .i64 v) ∧ w1.cell? ⟨w.heap.size, 2, none⟩ = some (.int .u64 (life : Nat)) := ⟨H1.out.h.cell rfl, H1.out.h.cell rfl, H1.out.h.cell rfl⟩
    obtain ⟨x3, x4, x5, x6⟩ : w1.cell? ⟨w.heap.size + 1, 0, none⟩ = some (.int .u64 (g.base : Nat)) ∧ w1.cell? ⟨w.heap.size + 1, 1, none⟩ = some (.int .u64 (g.bt : Nat)) ∧ w1.cell? ⟨w.heap.size + 1, 2, none⟩ = some (.slice ca n1 cc) ∧ w1.cell? ⟨w.heap.size + 1, 3, none⟩ = some (.slice ea n2 ec) := ⟨H1.out.l.cell rfl, H1.out.l.cell rfl, H1.out.l.cell rfl, H1.out.l.cell rfl⟩
    clear x0 x1 x2 x3 x4
    go_upto_region 3 with (fail)
    clear x5 x6 q1 q2 q3
    obtain ⟨x0, x1, x2⟩ : w1.cell? ⟨w.heap.size, 0, none⟩ = some (.int .u64 (t : Nat)) ∧ w1.cell? ⟨w.heap.size, 1, none⟩ = some (.int .i64 v) ∧ w1.cell? ⟨w.heap.size, 2, none⟩ = some (.int .u64 (life : Nat)) := ⟨H1.out.h.cell rfl, H1.out.h.cell rfl, H1.out.h.cell rfl⟩
    obtain ⟨x3, x4, x5, x6⟩ : w1.cell? ⟨w.heap.size + 1, 0, none⟩ = some (.int .u64 (g.base : Nat)) ∧ w1.cell? ⟨w.heap.size + 1, 1, none⟩ = some (.int .u64 (g.bt : Nat)) ∧ w1.cell? ⟨w.heap.size + 1, 2, none⟩ = some (.slice ca n1 cc) ∧ w1.cell? ⟨w.heap.size + 1, 3, none⟩ = some (.slice ea n2 ec) := ⟨H1.out.l.cell rfl, H1.out.l.cell rfl, H1.out.l.cell rfl, H1.out.l.cell rfl⟩
    have hN := HN.out w1 H1.out.c H1.out.e
    go_wp2_with fail
    with_reducible refine hN.mono ?_
    clear hN HN x0 x1 x2 x3 x4 x5 x6
    rintro e w2 ⟨cu, eu, rfl, o1, o2, b2⟩
    have H2 := Lib.hid (H1.out.below b2)
    clear H1 b2
    have HA := Lib.hid (Al.new (w := w) H2.out.b o1.sl o2.sl)
    have H3 := Lib.hid (H2.out.below (below_box w2 (.cells (rsC s cu eu (.slice none 0 0)) 49)))
    obtain ⟨ca1, cc1, hcu⟩ := o1.form
    obtain ⟨ea1, ec1, heu⟩ := o2.form
    obtain ⟨m1, hm1⟩ : ∃ n, s.g.conf.length = n := ⟨_, rfl⟩
    obtain ⟨m2, hm2⟩ : ∃ n, s.g.es.length = n := ⟨_, rfl⟩
    have HM := Lib.hid (And.intro hm1 hm2)
    rw [hm1] at hcu
    rw [hm2] at heu
    subst hcu heu
    clear o1 o2 H2 hm1 hm2
    go_upto_region 4 with (refine wpList_store_row rfl 49 (.tmp 11) (.tmp 42) rfl _ _ rfl rfl 49 _ (Arr.new w2 _ _) (by kernel_rfl) rfl (rs_ones _ _ _ _ _ _ _ _ _ _) ?_)
    rw [alloc_row]
    generalize w2.alloc (.cells (rsC s (.slice ca1 m1 cc1) (.slice ea1 m2 ec1) (.slice none 0 0)) 49) = w3 at *
    generalize w2.heap.size = sb at *
    obtain ⟨x0, x1, x2⟩ : w3.cell? ⟨w.heap.size, 0, none⟩ = some (.int .u64 (t : Nat)) ∧ w3.cell? ⟨w.heap.size, 1, none⟩ = some (.int .i64 v) ∧ w3.cell? ⟨w.heap.size, 2, none⟩ = some (.int .u64 (life : Nat)) := ⟨H3.out.h.cell rfl, H3.out.h.cell rfl, H3.out.h.cell rfl⟩
    obtain ⟨x3, x4, x5, x6⟩ : w3.cell? ⟨w.heap.size + 1, 0, none⟩ = some (.int .u64 (g.base : Nat)) ∧ w3.cell? ⟨w.heap.size + 1, 1, none⟩ = some (.int .u64 (g.bt : Nat)) ∧ w3.cell? ⟨w.heap.size + 1, 2, none⟩ = some (.slice ca n1 cc) ∧ w3.cell? ⟨w.heap.size + 1, 3, none⟩ = some (.slice ea n2 ec) := ⟨H3.out.l.cell rfl, H3.out.l.cell rfl, H3.out.l.cell rfl, H3.out.l.cell rfl⟩
    have hR := HR.out w3 H3.out.c H3.out.e
    go_wp2_with fail
    with_reducible refine hR.mono ?_
    clear hR HR x0 x1 x2 x3 x4 x5 x6
    rintro e w4 ⟨cy, ey, rfl, p1, p2, b4⟩
    have HA4 := Lib.hid (HA.out.below b4)
    clear HA b4 H3
    have HB4 := Lib.hid (Al.new (w := w) HA4.out.b p1 p2)
    have HA5 := Lib.hid (HA4.out.below (below_box w4 (.cells (rsC s cy ey (.slice none 0 0)) 49)))
    clear HA4
    obtain ⟨ca2, cc2, hcu⟩ := sl_form p1
    obtain ⟨ea2, ec2, heu⟩ := sl_form p2
    rw [HM.out.1] at hcu
    rw [HM.out.2] at heu
    subst hcu heu
    clear p1 p2 HM
    go_upto_region 5 with (refine wpList_store_row rfl 49 (.tmp 13) (.tmp 51) rfl _ _ rfl rfl 49 _ (Arr.new w4 _ _) (by kernel_rfl) rfl (rs_ones _ _ _ _ _ _ _ _ _ _) ?_)
    rw [alloc_row]
    generalize w4.alloc (.cells (rsC s (.slice ca2 m1 cc2) (.slice ea2 m2 ec2) (.slice none 0 0)) 49) = w5 at *
    generalize w4.heap.size = tb at *
    have hS := HS.out w5 _ _ _ _ HA5.out.c HB4.out.c HA5.out.e HB4.out.e
    go_wp2_with (first | (refine wpList_load_row rfl 49 (.tmp 11) rfl _ rfl 49 _ (0, 0) _ HA5.out.a Tryz.underlying49 rfl (by kernel_rfl) ?_) | (refine wpList_load_row rfl 49 (.tmp 13) rfl _ rfl 49 _ (0, 0) _ HB4.out.a Tryz.underlying49 rfl (by kernel_rfl) ?_))
    with_reducible refine hS.mono ?_
    clear hS HS
    rintro e w6 ⟨rfl, b6⟩
    have HB6 := Lib.hid (HB4.out.below b6).b
    clear HA5 HB4 b6
    obtain ⟨rfl, rfl⟩ | ⟨rfl, rfl⟩ := HX.out
    · clear HX
      go_wp2_with fail
      go_ret
      exact ⟨rfl, HB6.out⟩
    · clear HX
      go_wp2_with fail
      go_ret
      exact ⟨rfl, HB6.out⟩
  · obtain ⟨ca, cc, rfl⟩ := sl_form h1
    obtain ⟨ea, ec, rfl⟩ := sl_form h2
    have hc : (100 : Int) < (g.es.length : Nat) ∨ (¬ (100 : Int) < (g.es.length : Nat) ∧ (20 : Int) < (g.conf.length : Nat)) ∨ (¬ (100 : Int) < (g.es.length : Nat) ∧ ¬ (20 : Int) < (g.conf.length : Nat) ∧ (1000 : Int) < ((S img).size : Nat)) := by rw [S_size]; omega
    obtain ⟨n1, hn1⟩ : ∃ n, g.conf.length = n := ⟨_, rfl⟩
    obtain ⟨n2, hn2⟩ : ∃ n, g.es.length = n := ⟨_, rfl⟩
    rw [hn1, hn2] at hc H0 ⊢
    clear h1 h2 hg c1 hn1 hn2
    simp only [lgC, Lg.v] at H0 ⊢
    rcases hc with q1 | ⟨q1, q2⟩ | ⟨q1, q2, q3⟩
    all_goals (
      go_enter Tryz.func4, Tryz.ntmps4
      go_upto_region 1 with (fail)
      generalize (w.alloc _).alloc _ = W0 at H0 ⊢
      have hA := HAl.out W0
      go_wp2_with fail
      with_reducible refine hA.mono ?_
      clear hA
      rintro e w1 ⟨rfl, b1⟩
      have H1 := Lib.hid (H0.out.below b1)
      clear H0 b1
      obtain ⟨x5, x6⟩ : w1.cell? ⟨w.heap.size + 1, 2, none⟩ = some (.slice ca n1 cc) ∧ w1.cell? ⟨w.heap.size + 1, 3, none⟩ = some (.slice ea n2 ec) := ⟨H1.out.l.cell rfl, H1.out.l.cell rfl⟩
      go_upto_region 2 with (fail)
      clear x5 x6
      have hA := HAl.out w1
      go_wp2_with fail
      with_reducible refine hA.mono ?_
      clear hA HAl
      rintro e w2 ⟨rfl, b2⟩
      have HB := Lib.hid (H1.out.b.trans (b2.mono H1.out.b.size))
      clear H1 b2
      go_wp2_with fail
      go_ret
      exact ⟨rfl, HB.out⟩)
end Go.Proofs.YtmgmhnohocamfaaGreat.rf
