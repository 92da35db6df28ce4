/-
  What the law's walk stands on, part 4 of 5: the texts RfCho, RfWay2, RfSta, RfTic, RfPro, RfEv, RfStepT, RfStepP, RfNew, one behind the other.
-/
import Derived.StillTailTactics
import Derived.Laws.Rows
import Derived.Deep.RegionHeld3
import Derived.Great.BuildSlice
import Derived.Test.YtmgmhnohocamfaaGreatRaftBeginsc
/-! RfCho -/
namespace Go.Proofs.YtmgmhnohocamfaaGreat.rf
set_option linter.unusedVariables false
open Go.RowKit
open pk (S S_size S_data)
open qm (Bs noSh)
open rw (Arr But below_box bnext below_drew below_drewN)
open tl

set_option maxHeartbeats 4000000 in
set_option maxRecDepth 100000 in
theorem isChosen_any (nb B : Nat) (s : Rs) (cv ev vv : Value) (vs : List Int) (hf : Fit s.g) (hv : vs.length ≤ 1000) (w : World) (h : Mi w nb B s cv ev vv vs) :
    Calls Tryz.prog 111 #[.pointer (some ⟨nb, 0, none⟩)] w fun e w' => e = .returned (.bool (qm.most (s.g.mem s.g.es.length).1 vs)) ∧ Below w.heap.size w w' := by
  have H1 : Hid (Mi w.drew nb B s cv ev vv vs ∧ Below w.heap.size w w.drew) := ⟨h.below (below_drew (Below.refl _ _)), below_drew (Below.refl _ _)⟩
  have HMb := Lib.hid fun W (h : Mi W nb B s cv ev vv vs) => members_any s cv ev vv hf W h.lv
  have hml := mem_len hf.conf s.g.es.length
  obtain ⟨M, hM⟩ : ∃ M, (s.g.mem s.g.es.length).1 = M := ⟨_, rfl⟩
  rw [hM] at HMb hml ⊢
  have HMo : Hid (∀ W (u v : Value) (h1 : qm.Ns W u M) (h2 : qm.Ns W v vs), Calls Tryz.prog 137 #[u, v] W fun e w' => e = .returned (.bool (qm.most M vs)) ∧ W = w') := fun W u v h1 h2 => qm.most_any u v M vs (by omega) (by omega) W h1 h2
  have CA : Hid (∀ W (a : Mi W nb B s cv ev vv vs), RC W nb s cv ev vv) := fun W a => ⟨a.a.cell rfl, a.a.cell rfl, a.a.cell rfl, a.a.cell rfl, a.a.cell rfl, a.a.cell rfl, a.a.cell rfl, a.a.cell rfl, a.a.cell rfl, a.a.cell rfl, a.a.cell rfl, a.a.cell rfl, a.a.cell rfl, a.a.cell rfl, a.a.cell rfl, a.a.cell rfl, a.a.cell rfl, a.a.cell rfl⟩
  have kA := CA.out _ H1.out.1
  have h1 := HMb.out _ H1.out.1
  clear h hf hM hml hv
  go_enter Tryz.func111, Tryz.ntmps111
  go_upto_region 1 with (fail)
  simp only [rsC] at h1
  go_region_held3 (fun W => RC W nb s cv ev vv)
    (first | (with_reducible exact kA) | (with_reducible exact kB))
    (first
      | (go_at_call 15; with_reducible refine h1.mono ?_; intro e w2 hR; unfold NOut at hR; obtain ⟨u, e1, o2, b2⟩ := hR; subst e1; have H2 := Lib.hid (And.intro (H1.out.1.below b2) (H1.out.2.trans (b2.mono H1.out.2.size))); have kB := CA.out _ H2.out.1; have h2 := HMo.out w2 u vv o2.sl H2.out.1.v.sl; clear b2 o2 h1)
      | (go_at_call 137; with_reducible refine h2.mono ?_; rintro e w3 ⟨rfl, rfl⟩; clear h2))
  all_goals (
    go_wp2_with fail
    go_ret
    exact ⟨rfl, H2.out.2⟩)
end Go.Proofs.YtmgmhnohocamfaaGreat.rf
/-! RfWay2 -/
namespace Go.Proofs.YtmgmhnohocamfaaGreat.rf
set_option linter.unusedVariables false
open Go.RowKit
open pk (S S_size S_data)
open qm (Bs noSh)
open rw (Arr But below_box bnext below_drew below_drewN)
open tl

/-! ### What of the log follows -/
def Lg.app (g : Lg) (x : EnIn) : Lg := ⟨g.base, g.bt, g.conf, g.es ++ [x]⟩
theorem mem_app (g : Lg) (x : EnIn) : ∀ n, n ≤ g.es.length → (Lg.app g x).mem n = g.mem n
  | 0, _ => rfl
  | n + 1, h => by
    have ih := mem_app g x n (by omega)
    have e : (g.es ++ [x]).getD n e0 = g.es.getD n e0 := by
      rw [List.getD_eq_getElem?_getD, List.getD_eq_getElem?_getD, List.getElem?_append_left (by omega)]
    show (match says ((g.es ++ [x]).getD n e0) with | some l => (l, g.base + n + 1) | none => (Lg.app g x).mem n) = (match says (g.es.getD n e0) with | some l => (l, g.base + n + 1) | none => g.mem n)
    rw [e, ih]
theorem mem_push (g : Lg) (x : EnIn) (hx : x.kind ≠ 2) : (Lg.app g x).mem (Lg.app g x).es.length = g.mem g.es.length := by
  have hl : (Lg.app g x).es.length = g.es.length + 1 := by show (g.es ++ [x]).length = _; simp
  rw [hl, ← mem_app g x g.es.length (Nat.le_refl _)]
  have e : (g.es ++ [x]).getD g.es.length e0 = x := by
    rw [List.getD_eq_getElem?_getD, List.getElem?_append_right (Nat.le_refl _), Nat.sub_self]; rfl
  show (match says ((g.es ++ [x]).getD g.es.length e0) with | some l => (l, g.base + g.es.length + 1) | none => (Lg.app g x).mem g.es.length) = _
  rw [e, says_no_kind hx]
theorem mem_le (g : Lg) : ∀ n, (g.mem n).2 ≤ g.base + n
  | 0 => Nat.le_refl _
  | n + 1 => by
    have ih := mem_le g n
    unfold Lg.mem
    split
    · show g.base + n + 1 ≤ _; omega
    · omega
theorem app_last (g : Lg) (x : EnIn) : (Lg.app g x).last = g.last + 1 ∧ (Lg.app g x).lastT = x.term := by
  have hl : (g.es ++ [x]).length = g.es.length + 1 := by simp
  refine ⟨?_, ?_⟩
  · show g.base + (g.es ++ [x]).length = g.base + g.es.length + 1
    omega
  · show (if (g.es ++ [x]).length = 0 then g.bt else ((g.es ++ [x]).getD ((g.es ++ [x]).length - 1) e0).term) = _
    rw [if_neg (by omega), hl, Nat.add_sub_cancel, List.getD_eq_getElem?_getD, List.getElem?_append_right (Nat.le_refl _), Nat.sub_self]
    rfl
/-- A node alone, as large as it may be. -/
structure Lone (s : Rs) : Prop where
  fit : Fit s.g
  alone : Alone s
  id : 1 ≤ s.id ∧ s.id ≤ 5
  len : s.g.es.length ≤ 1000
  com : s.commit ≤ s.g.last
  term : s.term < 4611686018427387904
theorem Lone.mem {s : Rs} (h : Lone s) : (s.g.mem s.g.es.length).2 ≤ s.g.last := mem_le s.g _
theorem Lone.app {s s' : Rs} {x : EnIn} (h : Lone s) (hx : x.kind ≠ 2) (ht : x.term < 18446744073709551616) (hd : x.data.length ≤ 281474976710656) (hg : s'.g = Lg.app s.g x) (hid : s'.id = s.id) (hc : s'.commit ≤ s'.g.last) (htm : s'.term < 4611686018427387904) (hlen : s.g.es.length < 1000) : Lone s' := by
  have hl : (Lg.app s.g x).es.length = s.g.es.length + 1 := by show (s.g.es ++ [x]).length = _; simp
  refine ⟨?_, ?_, by rw [hid]; exact h.id, by rw [hg, hl]; omega, hc, htm⟩
  · rw [hg]
    refine ⟨h.fit.base, h.fit.bt, h.fit.conf, by rw [hl]; omega, fun y hy => ?_⟩
    have hy2 : y ∈ s.g.es ++ [x] := hy
    rcases List.mem_append.1 hy2 with h1 | h1
    · exact h.fit.e y h1
    · rw [List.mem_singleton] at h1
      subst h1
      exact ⟨ht, hd⟩
  · show (s'.g.mem s'.g.es.length).1 = [s'.id]
    rw [hg, mem_push s.g x hx, hid]
    exact h.alone
set_option maxHeartbeats 4000000 in
set_option maxRecDepth 100000 in
theorem spread_any (nb B : Nat) (s : Rs) (cv ev vv : Value) (vs : List Int) (hL : Lone s) (hl : s.commit < s.g.last) (ht : s.g.lastT = s.term) (hr : s.role = 2) (w : World) (h : Mi w nb B s cv ev vv vs) :
    Calls Tryz.prog 92 #[.pointer (some ⟨nb, 0, none⟩)] w fun e w' => e = .returned (.tuple #[]) ∧ Mi w' nb B { s with commit := s.g.last } cv ev vv vs ∧ Below B w w' := by
  have hC := mcommit_any nb B s cv ev vv vs hL.fit hL.alone hL.id hL.mem hl ht w h
  have HU := Lib.hid fun W (h : Mi W nb B { s with commit := s.g.last } cv ev vv vs) => updateAll_any nb B _ cv ev vv vs W h
  have HR := Lib.hid hr
  clear h hL hl ht hr
  go_enter Tryz.func92, Tryz.ntmps92
  go_wp2_with fail
  with_reducible refine hC.mono ?_
  clear hC
  rintro e w2 ⟨rfl, h2, b2⟩
  have H2 : Hid (Mi w2 nb B { s with commit := s.g.last } cv ev vv vs ∧ Below B w w2) := ⟨h2, b2⟩
  have x3 : w2.cell? ⟨nb, 3, none⟩ = some (.int .i64 2) := by rw [← HR.out]; exact h2.a.cell rfl
  have hU := HU.out w2 h2
  clear h2 b2
  go_wp2_with fail
  with_reducible refine hU.mono ?_
  clear hU x3
  rintro e w3 ⟨rfl, rfl⟩
  go_wp2_with fail
  go_end0
  exact ⟨rfl, H2.out⟩
set_option maxHeartbeats 4000000 in
set_option maxRecDepth 100000 in
theorem lead_any (nb B : Nat) (s : Rs) (cv ev vv : Value) (vs : List Int) (hL : Lone s) (hlen : s.g.es.length < 1000) (w : World) (h : Mi w nb B s cv ev vv vs) :
    Calls Tryz.prog 112 #[.pointer (some ⟨nb, 0, none⟩)] w fun e w' => e = .returned (.tuple #[]) ∧ (∃ eu, Mi w' nb B { s with role := 2, leader := s.id, g := Lg.app s.g ⟨s.term, 1, []⟩, commit := s.g.last + 1 } cv eu (.slice none 0 0) []) ∧ Below B w w' := by
  have x0 : w.cell? ⟨nb, 0, none⟩ = some (.int .i64 s.id) := h.a.cell rfl
  obtain ⟨x3, x4, x13⟩ : w.cell? ⟨nb, 3, none⟩ = some (.int .i64 s.role) ∧ w.cell? ⟨nb, 4, none⟩ = some (.int .i64 s.leader) ∧ w.cell? ⟨nb, 13, none⟩ = some vv := ⟨h.a.cell rfl, h.a.cell rfl, h.a.cell rfl⟩
  have f3 := h.a.frozen 3
  have f4 := h.a.frozen 4
  have f13 := h.a.frozen 13
  have h1 := h.upd 3 (.int .i64 2) { s with role := 2 } rfl rfl
  have h2 := h1.upd 4 (.int .i64 s.id) { s with role := 2, leader := s.id } rfl rfl
  have h3 := h2.vot (rw.Own.nil noSh _ B)
  have b3 := ((h.but 3 (.int .i64 2)).trans (h1.but 4 (.int .i64 s.id))).trans (h2.but 13 (.slice none 0 0))
  have H3 := Lib.hid (And.intro h3 b3)
  have HL := Lib.hid hL
  have HN := Lib.hid hlen
  clear h h1 h2 h3 b3 hL hlen
  go_enter Tryz.func112, Tryz.ntmps112
  go_upto_region 1 with (fail)
  clear x0 x3 x4 x13 f3 f4 f13
  generalize ((w.setCell ⟨nb, 3, none⟩ (.int .i64 2)).setCell ⟨nb, 4, none⟩ (.int .i64 s.id)).setCell ⟨nb, 13, none⟩ (.slice none 0 0) = w3 at *
  have hM := meet_any nb B { s with role := 2, leader := s.id } cv ev (.slice none 0 0) [] HL.out.fit HL.out.alone w3 H3.out.1
  go_wp2_with fail
  with_reducible refine hM.mono ?_
  clear hM
  rintro e w4 ⟨rfl, h4, b4⟩
  have H4 : Hid (Mi w4 nb B { s with role := 2, leader := s.id } cv ev (.slice none 0 0) [] ∧ Below B w w4) := ⟨h4, H3.out.2.trans (b4.mono H3.out.1.size)⟩
  have hE := enter_any 1 [] nb B { s with role := 2, leader := s.id } cv ev (.slice none 0 0) [] (by have := HN.out; show s.g.es.length ≤ _; omega) w4 h4
  rw [show S [] = ⟨#[]⟩ from rfl] at hE
  clear h4 b4 H3
  go_wp2_with fail
  with_reducible refine hE.mono ?_
  clear hE
  rintro e w5 ⟨rfl, ⟨eu, h5⟩, b5, -⟩
  have H5 : Hid (Mi w5 nb B { s with role := 2, leader := s.id, g := Lg.app s.g ⟨s.term, 1, []⟩ } cv eu (.slice none 0 0) [] ∧ Below B w w5) := ⟨h5, H4.out.2.trans b5⟩
  have hl2 := app_last s.g ⟨s.term, 1, []⟩
  have hLo : Lone { s with role := 2, leader := s.id, g := Lg.app s.g ⟨s.term, 1, []⟩ } := HL.out.app (x := ⟨s.term, 1, []⟩) (by show (1 : Int) ≠ 2; decide) (by have := HL.out.term; show s.term < _; omega) (Nat.zero_le _) rfl rfl (by have := HL.out.com; show s.commit ≤ (Lg.app s.g _).last; rw [hl2.1]; omega) HL.out.term HN.out
  have hS := spread_any nb B { s with role := 2, leader := s.id, g := Lg.app s.g ⟨s.term, 1, []⟩ } cv eu (.slice none 0 0) [] hLo (by have := HL.out.com; show s.commit < (Lg.app s.g _).last; rw [hl2.1]; omega) hl2.2 rfl w5 H5.out.1
  rw [show ({ s with role := 2, leader := s.id, g := Lg.app s.g ⟨s.term, 1, []⟩ } : Rs).g.last = s.g.last + 1 from hl2.1] at hS
  clear h5 b5 H4 hl2 hLo
  go_wp2_with fail
  with_reducible refine hS.mono ?_
  clear hS
  rintro e w6 ⟨rfl, h6, b6⟩
  have H6 : Hid (Mi w6 nb B { s with role := 2, leader := s.id, g := Lg.app s.g ⟨s.term, 1, []⟩, commit := s.g.last + 1 } cv eu (.slice none 0 0) [] ∧ Below B w w6) := ⟨h6, H5.out.2.trans b6⟩
  clear h6 b6
  go_wp2_with fail
  go_end0
  exact ⟨rfl, ⟨eu, H6.out.1⟩, H6.out.2⟩
end Go.Proofs.YtmgmhnohocamfaaGreat.rf
/-! RfSta -/
namespace Go.Proofs.YtmgmhnohocamfaaGreat.rf
set_option linter.unusedVariables false
open Go.RowKit
open pk (S S_size S_data)
open qm (Bs noSh)
open rw (Arr But below_box bnext below_drew below_drewN)
open tl

/-- How a node alone is when it leads. -/
def Rs.led (s : Rs) : Rs := { s with term := s.term + 1, vote := s.id, role := 2, leader := s.id, ticks := 0, g := Lg.app s.g ⟨s.term + 1, 1, []⟩, commit := s.g.last + 1 }
def Rs.st1 (s : Rs) : Rs := { s with term := s.term + 1 }
def Rs.st2 (s : Rs) : Rs := { s with term := s.term + 1, vote := s.id }
def Rs.st3 (s : Rs) : Rs := { s with term := s.term + 1, vote := s.id, role := 1, leader := 0, ticks := 0 }
set_option maxHeartbeats 8000000 in
set_option maxRecDepth 100000 in
theorem stand_any (nb B : Nat) (s : Rs) (cv ev vv : Value) (vs : List Int) (hL : Lone s) (hlen : s.g.es.length < 1000) (htm : s.term < 1000) (w : World) (h : Mi w nb B s cv ev vv vs) :
    Calls Tryz.prog 85 #[.pointer (some ⟨nb, 0, none⟩)] w fun e w' => e = .returned (.tuple #[]) ∧ (∃ eu, Mi w' nb B s.led cv eu (.slice none 0 0) []) ∧ Below B w w' := by
  have x1 : w.cell? ⟨nb, 1, none⟩ = some (.int .u64 (s.term : Nat)) := h.a.cell rfl
  have f1 := h.a.frozen 1
  have e1 : IntKind.u64.wrap ((s.term : Int) + 1) = ((s.term + 1 : Nat) : Int) := by rw [u64_in _ (by omega)]; omega
  obtain ⟨tm, htE⟩ : ∃ tm, s.term + 1 = tm := ⟨_, rfl⟩
  rw [htE] at e1
  have H1 : Hid (Mi (w.setCell ⟨nb, 1, none⟩ (.int .u64 (tm : Nat))) nb B s.st1 cv ev vv vs ∧ Below B w (w.setCell ⟨nb, 1, none⟩ (.int .u64 (tm : Nat)))) := ⟨h.upd 1 _ s.st1 rfl (by subst htE; rfl), h.but 1 _⟩
  have HT := Lib.hid htE
  have HL := Lib.hid hL
  have HN := Lib.hid hlen
  have HTm := Lib.hid htm
  clear h hL hlen htE htm
  go_enter Tryz.func85, Tryz.ntmps85
  go_upto_region 1 with (fail)
  clear x1 f1 e1
  generalize w.setCell ⟨nb, 1, none⟩ (.int .u64 (tm : Nat)) = w1 at *
  have kb := below_box w1 (.cells #[.int .i64 s.id] 3)
  have H3 : Hid (Mi (w1.alloc (.cells #[.int .i64 s.id] 3)) nb B s.st1 cv ev vv vs ∧ Below B w (w1.alloc (.cells #[.int .i64 s.id] 3))) := ⟨H1.out.1.below kb, H1.out.2.trans (kb.mono H1.out.1.size)⟩
  have HO : Hid (rw.Own noSh (w1.alloc (.cells #[.int .i64 s.id] 3)) B (.slice (some ⟨w1.heap.size, 0, none⟩) 1 1) [s.id]) := own_lower (rw.Own.lit noSh w1 [s.id] (by simp) (by simp)) H1.out.1.size
  have HA : Hid (Mi ((w1.alloc (.cells #[.int .i64 s.id] 3)).setCell ⟨nb, 2, none⟩ (.int .i64 s.id)) nb B s.st2 cv ev vv vs ∧ Below B w ((w1.alloc (.cells #[.int .i64 s.id] 3)).setCell ⟨nb, 2, none⟩ (.int .i64 s.id))) := ⟨H3.out.1.upd 2 _ s.st2 rfl rfl, H3.out.2.trans (H3.out.1.but 2 _)⟩
  have HB : Hid (Mi ((w1.alloc (.cells #[.int .i64 s.id] 3)).setCell ⟨nb, 13, none⟩ (.slice (some ⟨w1.heap.size, 0, none⟩) 1 1)) nb B s.st1 cv ev (.slice (some ⟨w1.heap.size, 0, none⟩) 1 1) [s.id] ∧ Below B w ((w1.alloc (.cells #[.int .i64 s.id] 3)).setCell ⟨nb, 13, none⟩ (.slice (some ⟨w1.heap.size, 0, none⟩) 1 1))) := ⟨H3.out.1.vot HO.out, H3.out.2.trans (H3.out.1.but 13 _)⟩
  have HC : Hid (Mi (((w1.alloc (.cells #[.int .i64 s.id] 3)).setCell ⟨nb, 2, none⟩ (.int .i64 s.id)).setCell ⟨nb, 13, none⟩ (.slice (some ⟨w1.heap.size, 0, none⟩) 1 1)) nb B s.st2 cv ev (.slice (some ⟨w1.heap.size, 0, none⟩) 1 1) [s.id] ∧ Below B w (((w1.alloc (.cells #[.int .i64 s.id] 3)).setCell ⟨nb, 2, none⟩ (.int .i64 s.id)).setCell ⟨nb, 13, none⟩ (.slice (some ⟨w1.heap.size, 0, none⟩) 1 1))) :=
    ⟨HA.out.1.vot (own_but HO.out H3.out.1.a (by decide) ((But.refl nb _).set 2 _)), HA.out.2.trans (HA.out.1.but 13 _)⟩
  have HD : Hid (Mi (((w1.alloc (.cells #[.int .i64 s.id] 3)).setCell ⟨nb, 13, none⟩ (.slice (some ⟨w1.heap.size, 0, none⟩) 1 1)).setCell ⟨nb, 2, none⟩ (.int .i64 s.id)) nb B s.st2 cv ev (.slice (some ⟨w1.heap.size, 0, none⟩) 1 1) [s.id] ∧ Below B w (((w1.alloc (.cells #[.int .i64 s.id] 3)).setCell ⟨nb, 13, none⟩ (.slice (some ⟨w1.heap.size, 0, none⟩) 1 1)).setCell ⟨nb, 2, none⟩ (.int .i64 s.id))) :=
    ⟨HB.out.1.upd 2 _ s.st2 rfl rfl, HB.out.2.trans (HB.out.1.but 2 _)⟩
  have CA : Hid (∀ W s' cv ev vv vs (a : Mi W nb B s' cv ev vv vs) (h : s'.id = s.id), W.drew.cell? ⟨nb, 0, none⟩ = some (.int .i64 s.id)) := fun W s' cv ev vv vs a h => by rw [← h]; exact a.a.cell rfl
  have kA := CA.out _ _ _ _ _ _ H1.out.1 rfl
  have kB := CA.out _ _ _ _ _ _ H3.out.1 rfl
  have kC := CA.out _ _ _ _ _ _ HA.out.1 rfl
  have kD := CA.out _ _ _ _ _ _ HB.out.1 rfl
  have kE := CA.out _ _ _ _ _ _ HC.out.1 rfl
  have kF := CA.out _ _ _ _ _ _ HD.out.1 rfl
  have x2 : (w1.alloc (.cells #[.int .i64 s.id] 3)).drew.cell? ⟨nb, 2, none⟩ = some (.int .i64 s.vote) := H3.out.1.a.cell rfl
  have x13 : (w1.alloc (.cells #[.int .i64 s.id] 3)).drew.cell? ⟨nb, 13, none⟩ = some vv := H3.out.1.a.cell rfl
  have f2 : (w1.alloc (.cells #[.int .i64 s.id] 3)).drew.frozen? ⟨nb, 2, none⟩ = false := H3.out.1.a.frozen 2
  have f13 : (w1.alloc (.cells #[.int .i64 s.id] 3)).drew.frozen? ⟨nb, 13, none⟩ = false := H3.out.1.a.frozen 13
  have y2 : ((w1.alloc (.cells #[.int .i64 s.id] 3)).setCell ⟨nb, 13, none⟩ (.slice (some ⟨w1.heap.size, 0, none⟩) 1 1)).drew.cell? ⟨nb, 2, none⟩ = some (.int .i64 s.vote) := HB.out.1.a.cell rfl
  have y13 : ((w1.alloc (.cells #[.int .i64 s.id] 3)).setCell ⟨nb, 2, none⟩ (.int .i64 s.id)).drew.cell? ⟨nb, 13, none⟩ = some vv := HA.out.1.a.cell rfl
  have g2 : ((w1.alloc (.cells #[.int .i64 s.id] 3)).setCell ⟨nb, 13, none⟩ (.slice (some ⟨w1.heap.size, 0, none⟩) 1 1)).drew.frozen? ⟨nb, 2, none⟩ = false := HB.out.1.a.frozen 2
  have g13 : ((w1.alloc (.cells #[.int .i64 s.id] 3)).setCell ⟨nb, 2, none⟩ (.int .i64 s.id)).drew.frozen? ⟨nb, 13, none⟩ = false := HA.out.1.a.frozen 13
  have HP : Hid (Mi (w1.setCell ⟨nb, 2, none⟩ (.int .i64 s.id)) nb B s.st2 cv ev vv vs ∧ Below B w (w1.setCell ⟨nb, 2, none⟩ (.int .i64 s.id))) := ⟨H1.out.1.upd 2 _ s.st2 rfl rfl, H1.out.2.trans (H1.out.1.but 2 _)⟩
  have kb2 := below_box (w1.setCell ⟨nb, 2, none⟩ (.int .i64 s.id)) (.cells #[.int .i64 s.id] 3)
  have hps : (w1.setCell ⟨nb, 2, none⟩ (.int .i64 s.id)).heap.size = w1.heap.size := by simp [World.setCell]
  have HPL : Hid (Mi ((w1.setCell ⟨nb, 2, none⟩ (.int .i64 s.id)).alloc (.cells #[.int .i64 s.id] 3)) nb B s.st2 cv ev vv vs ∧ Below B w ((w1.setCell ⟨nb, 2, none⟩ (.int .i64 s.id)).alloc (.cells #[.int .i64 s.id] 3))) := ⟨HP.out.1.below kb2, HP.out.2.trans (kb2.mono HP.out.1.size)⟩
  have HO2 : Hid (rw.Own noSh ((w1.setCell ⟨nb, 2, none⟩ (.int .i64 s.id)).alloc (.cells #[.int .i64 s.id] 3)) B (.slice (some ⟨w1.heap.size, 0, none⟩) 1 1) [s.id]) := by
    have o := rw.Own.lit noSh (w1.setCell ⟨nb, 2, none⟩ (.int .i64 s.id)) [s.id] (by simp) (by simp)
    rw [hps] at o
    exact own_lower o H1.out.1.size
  have HE : Hid (Mi (((w1.setCell ⟨nb, 2, none⟩ (.int .i64 s.id)).alloc (.cells #[.int .i64 s.id] 3)).setCell ⟨nb, 13, none⟩ (.slice (some ⟨w1.heap.size, 0, none⟩) 1 1)) nb B s.st2 cv ev (.slice (some ⟨w1.heap.size, 0, none⟩) 1 1) [s.id] ∧ Below B w (((w1.setCell ⟨nb, 2, none⟩ (.int .i64 s.id)).alloc (.cells #[.int .i64 s.id] 3)).setCell ⟨nb, 13, none⟩ (.slice (some ⟨w1.heap.size, 0, none⟩) 1 1))) := ⟨HPL.out.1.vot HO2.out, HPL.out.2.trans (HPL.out.1.but 13 _)⟩
  have kG := CA.out _ _ _ _ _ _ HP.out.1 rfl
  have kH := CA.out _ _ _ _ _ _ HPL.out.1 rfl
  have kI := CA.out _ _ _ _ _ _ HE.out.1 rfl
  have z2 : w1.drew.cell? ⟨nb, 2, none⟩ = some (.int .i64 s.vote) := H1.out.1.a.cell rfl
  have h2 : w1.drew.frozen? ⟨nb, 2, none⟩ = false := H1.out.1.a.frozen 2
  have z13 : ((w1.setCell ⟨nb, 2, none⟩ (.int .i64 s.id)).alloc (.cells #[.int .i64 s.id] 3)).drew.cell? ⟨nb, 13, none⟩ = some vv := HPL.out.1.a.cell rfl
  have h13 : ((w1.setCell ⟨nb, 2, none⟩ (.int .i64 s.id)).alloc (.cells #[.int .i64 s.id] 3)).drew.frozen? ⟨nb, 13, none⟩ = false := HPL.out.1.a.frozen 13
  clear kb kb2
  go_cut [15] from 15 (fun a wx => Hid (Mi wx nb B s.st2 cv ev (.slice (some ⟨w1.heap.size, 0, none⟩) 1 1) [s.id] ∧ Below B w wx))
  case first =>
    go_region_held3 (fun W => W.cell? ⟨nb, 0, none⟩ = some (.int .i64 s.id))
      (first | (with_reducible exact kA) | (with_reducible exact kB) | (with_reducible exact kC) | (with_reducible exact kD) | (with_reducible exact kE) | (with_reducible exact kF) | (with_reducible exact kG) | (with_reducible exact kH) | (with_reducible exact kI))
      (fail)
    all_goals (
      go_step
      go_step
      go_meet
      first
        | exact ⟨HC.out.1.below (below_drew (Below.refl _ _)), HC.out.2.trans ((below_drew (Below.refl _ _)).mono HC.out.1.size)⟩
        | exact ⟨HD.out.1.below (below_drew (Below.refl _ _)), HD.out.2.trans ((below_drew (Below.refl _ _)).mono HD.out.1.size)⟩
        | exact ⟨HE.out.1.below (below_drew (Below.refl _ _)), HE.out.2.trans ((below_drew (Below.refl _ _)).mono HE.out.1.size)⟩)
  case rest =>
    clear kA kB kC kD kE kF kG kH kI x2 x13 f2 f13 y2 y13 g2 g13 z2 h2 z13 h13 hps CA H1 H3 HO HA HB HC HD HP HPL HO2 HE
    have HI := hcut
    clear hcut
    obtain ⟨rv, hrv⟩ : ∃ v, Value.slice (some ⟨w1.heap.size, 0, none⟩) 1 1 = v := ⟨_, rfl⟩
    rw [hrv] at HI
    clear hrv
    have x3 : wc.cell? ⟨nb, 3, none⟩ = some (.int .i64 s.role) := HI.out.1.a.cell rfl
    have x4 : wc.cell? ⟨nb, 4, none⟩ = some (.int .i64 s.leader) := HI.out.1.a.cell rfl
    have x14 : wc.cell? ⟨nb, 14, none⟩ = some (.slice none 0 0) := HI.out.1.a.cell rfl
    have x11 : wc.cell? ⟨nb, 11, none⟩ = some (.int .i64 s.ticks) := HI.out.1.a.cell rfl
    have f3 := HI.out.1.a.frozen 3
    have f4 := HI.out.1.a.frozen 4
    have f14 := HI.out.1.a.frozen 14
    have f11 := HI.out.1.a.frozen 11
    have h1 := HI.out.1.upd 3 (.int .i64 1) { s.st2 with role := 1 } rfl rfl
    have h2 := h1.upd 4 (.int .i64 0) { s.st2 with role := 1, leader := 0 } rfl rfl
    have h3 := h2.upd 14 (.slice none 0 0) { s.st2 with role := 1, leader := 0 } rfl rfl
    have h4 := h3.upd 11 (.int .i64 0) s.st3 rfl rfl
    have H4 := Lib.hid (And.intro h4 (HI.out.2.trans ((((HI.out.1.but 3 (.int .i64 1)).trans (h1.but 4 (.int .i64 0))).trans (h2.but 14 (.slice none 0 0))).trans (h3.but 11 (.int .i64 0)))))
    clear h1 h2 h3 h4 HI
    go_upto_region 4 with (fail)
    clear x3 x4 x14 x11 f3 f4 f14 f11
    generalize (((wc.setCell ⟨nb, 3, none⟩ (.int .i64 1)).setCell ⟨nb, 4, none⟩ (.int .i64 0)).setCell ⟨nb, 14, none⟩ (.slice none 0 0)).setCell ⟨nb, 11, none⟩ (.int .i64 0) = w4 at *
    have hLs : Lone s.st3 := ⟨HL.out.fit, HL.out.alone, HL.out.id, HL.out.len, HL.out.com, by have := HTm.out; show s.term + 1 < _; omega⟩
    have hI := isChosen_any nb B s.st3 cv ev rv [s.id] HL.out.fit (by simp) w4 H4.out.1
    rw [show (s.st3.g.mem s.st3.g.es.length).1 = [s.id] from HL.out.alone, most_one HL.out.id] at hI
    go_wp2_with fail
    with_reducible refine hI.mono ?_
    clear hI
    rintro e w5 ⟨rfl, b5⟩
    have H5 : Hid (Mi w5 nb B s.st3 cv ev rv [s.id] ∧ Below B w w5) := ⟨H4.out.1.below b5, H4.out.2.trans (b5.mono H4.out.1.size)⟩
    have hLe := lead_any nb B s.st3 cv ev rv [s.id] hLs HN.out w5 H5.out.1
    clear b5 H4 hLs
    go_wp2_with fail
    with_reducible refine hLe.mono ?_
    clear hLe
    rintro e w6 ⟨rfl, ⟨eu, h6⟩, b6⟩
    have H6 : Hid ((∃ eu, Mi w6 nb B s.led cv eu (.slice none 0 0) []) ∧ Below B w w6) := ⟨⟨eu, h6⟩, H5.out.2.trans b6⟩
    clear h6 b6
    go_wp2_with fail
    exact bodyPost_ret (v := .tuple #[]) (by simp [results, Tryz.results85]) rfl ⟨rfl, H6.out⟩
end Go.Proofs.YtmgmhnohocamfaaGreat.rf
/-! RfTic -/
namespace Go.Proofs.YtmgmhnohocamfaaGreat.rf
set_option linter.unusedVariables false
open Go.RowKit
open pk (S S_size S_data)
open qm (Bs noSh)
open rw (Arr But below_box bnext below_drew below_drewN)
open tl

/-- An event of a kind, with an entry; its message is empty. -/
def evC (k ek : Int) (d : ByteArray) : Array Value :=
  #[.int .i64 k, .int .i64 0, .int .i64 0, .int .i64 0, .int .u64 0, .int .u64 0, .int .u64 0, .int .u64 0, .bool false, .slice none 0 0, .slice none 0 0, .int .i64 0, .int .i64 0, .string ⟨#[]⟩, .int .u64 0, .int .i64 ek, .string d, .int .u64 0, .string ⟨#[]⟩]
def Rs.ticked (s : Rs) : Rs := { s with ticks := s.ticks + 1 }
theorem led_ticked (s : Rs) : s.ticked.led = s.led := rfl
set_option maxHeartbeats 8000000 in
set_option maxRecDepth 100000 in
theorem tick_any (nb B : Nat) (s : Rs) (cv ev : Value) (hL : Lone s) (hlen : s.g.es.length < 1000) (htm : s.term < 1000) (hr : s.role = 0) (ht : 0 ≤ s.ticks ∧ s.ticks ≤ 100000) (w : World) (h : Mi w nb B s cv ev (.slice none 0 0) []) :
    Calls Tryz.prog 56 #[.pointer (some ⟨nb, 0, none⟩), .agg (evC 1 0 ⟨#[]⟩)] w fun e w' => e = .returned (.int .i64 0) ∧ (∃ eu, Mi w' nb B (if s.wait ≤ s.ticks + 1 then s.led else s.ticked) cv eu (.slice none 0 0) []) ∧ Below B w w' := by
  have kb := below_box w (.cells (evC 1 0 ⟨#[]⟩) 53)
  have H1 : Hid (Mi (w.alloc (.cells (evC 1 0 ⟨#[]⟩) 53)) nb B s cv ev (.slice none 0 0) [] ∧ Below B w (w.alloc (.cells (evC 1 0 ⟨#[]⟩) 53))) := ⟨h.below kb, kb.mono h.size⟩
  have HL := Lib.hid hL
  have HN := Lib.hid hlen
  have HTm := Lib.hid htm
  have HR := Lib.hid hr
  obtain ⟨tk, htk⟩ : ∃ tk, s.ticks + 1 = tk := ⟨_, rfl⟩
  have HTk := Lib.hid htk
  have e1 : IntKind.i64.wrap (s.ticks + 1) = tk := by rw [IntKind.wrap_i64]; omega
  rw [htk]
  obtain ⟨sx, hsx⟩ : ∃ sx, (if s.wait ≤ tk then s.led else s.ticked) = sx := ⟨_, rfl⟩
  rw [hsx]
  have HX : Hid ((s.wait ≤ tk → sx = s.led) ∧ (¬ s.wait ≤ tk → sx = s.ticked)) := ⟨fun c => by rw [← hsx, if_pos c], fun c => by rw [← hsx, if_neg c]⟩
  clear hsx
  clear h hL hlen htm hr htk kb
  simp only [evC] at H1 ⊢
  go_enter Tryz.func56, Tryz.ntmps56
  go_upto_region 1 with (fail)
  generalize w.alloc _ = w1 at H1 ⊢
  have x3 : w1.cell? ⟨nb, 3, none⟩ = some (.int .i64 0) := by rw [← HR.out]; exact H1.out.1.a.cell rfl
  have x11 : w1.cell? ⟨nb, 11, none⟩ = some (.int .i64 s.ticks) := H1.out.1.a.cell rfl
  have f11 := H1.out.1.a.frozen 11
  have H2 : Hid (Mi (w1.setCell ⟨nb, 11, none⟩ (.int .i64 tk)) nb B s.ticked cv ev (.slice none 0 0) [] ∧ Below B w (w1.setCell ⟨nb, 11, none⟩ (.int .i64 tk))) := ⟨H1.out.1.upd 11 _ s.ticked rfl (by rw [← HTk.out]; rfl), H1.out.2.trans (H1.out.1.but 11 _)⟩
  go_upto_region 5 with (fail)
  clear x3 x11 f11 e1 H1
  generalize w1.setCell ⟨nb, 11, none⟩ (.int .i64 tk) = w2 at *
  have H3 : Hid (Mi w2.drew nb B s.ticked cv ev (.slice none 0 0) [] ∧ Below B w w2.drew) := ⟨H2.out.1.below (below_drew (Below.refl _ _)), H2.out.2.trans ((below_drew (Below.refl _ _)).mono H2.out.1.size)⟩
  have CA : Hid (∀ W (a : Mi W nb B s.ticked cv ev (.slice none 0 0) []), W.cell? ⟨nb, 11, none⟩ = some (.int .i64 tk) ∧ W.cell? ⟨nb, 12, none⟩ = some (.int .i64 s.wait) ∧ W.cell? ⟨nb, 1, none⟩ = some (.int .u64 (s.term : Nat))) := fun W a => ⟨by rw [← HTk.out]; exact a.a.cell rfl, a.a.cell rfl, a.a.cell rfl⟩
  have kA := CA.out _ H3.out.1
  by_cases c : s.wait ≤ tk
  · have q1 : decide (s.wait ≤ tk) = true := decide_eq_true c
    have q2 : (s.term : Int) < 4611686018427387904 := by have := HTm.out; omega
    have h1 := mayStand_any nb B s.ticked cv ev (.slice none 0 0) [] HL.out.fit HL.out.alone w2.drew H3.out.1
    have HX2 := Lib.hid (HX.out.1 c)
    clear c
    go_region_held3 (fun W => W.cell? ⟨nb, 11, none⟩ = some (.int .i64 tk) ∧ W.cell? ⟨nb, 12, none⟩ = some (.int .i64 s.wait) ∧ W.cell? ⟨nb, 1, none⟩ = some (.int .u64 (s.term : Nat)))
      (first | (with_reducible exact kA) | (with_reducible exact kB))
      (first
        | (go_at_call 84; with_reducible refine h1.mono ?_; rintro e w3 ⟨rfl, b3⟩; have H4 := Lib.hid (And.intro (H3.out.1.below b3) (H3.out.2.trans (b3.mono H3.out.1.size))); have kB := CA.out _ H4.out.1; clear b3 h1))
    all_goals (
      clear kA kB q1 q2
      have hS := stand_any nb B s.ticked cv ev (.slice none 0 0) [] ⟨HL.out.fit, HL.out.alone, HL.out.id, HL.out.len, HL.out.com, HL.out.term⟩ HN.out HTm.out w3 H4.out.1
      rw [led_ticked] at hS
      go_wp2_with fail
      with_reducible refine hS.mono ?_
      clear hS
      rintro e w4 ⟨rfl, ⟨eu, h4⟩, b4⟩
      have H5 : Hid ((∃ eu, Mi w4 nb B sx cv eu (.slice none 0 0) []) ∧ Below B w w4) := ⟨⟨eu, by rw [HX2.out]; exact h4⟩, H4.out.2.trans b4⟩
      clear h4 b4
      go_wp2_with fail
      go_ret
      exact ⟨rfl, H5.out⟩)
  · have q1 : decide (s.wait ≤ tk) = false := decide_eq_false c
    have HX2 := Lib.hid (HX.out.2 c)
    obtain ⟨x11, x12, x1⟩ := CA.out _ H2.out.1
    clear c kA H3
    go_quiet (fail)
    have H3 : Hid (Mi (w2.drewN nq) nb B s.ticked cv ev (.slice none 0 0) [] ∧ Below B w (w2.drewN nq)) := ⟨H2.out.1.below (below_drewN (Below.refl _ _) nq), H2.out.2.trans ((below_drewN (Below.refl _ _) nq).mono H2.out.1.size)⟩
    clear q1 x11 x12 x1
    go_wp2_with fail
    go_ret
    exact ⟨rfl, ⟨ev, by rw [HX2.out]; exact H3.out.1⟩, H3.out.2⟩
end Go.Proofs.YtmgmhnohocamfaaGreat.rf
/-! RfPro -/
namespace Go.Proofs.YtmgmhnohocamfaaGreat.rf
set_option linter.unusedVariables false
open Go.RowKit
open pk (S S_size S_data)
open qm (Bs noSh)
open rw (Arr But below_box bnext below_drew below_drewN)
open tl

set_option maxHeartbeats 4000000 in
set_option maxRecDepth 100000 in
theorem mayEnter_any (t : Nat) (d : Bs) (nb B : Nat) (s : Rs) (cv ev vv : Value) (vs : List Int) (hl : s.g.es.length < 1024) (hr : s.role = 2) (hd : d.length ≤ 140737488355328) (w : World) (h : Mi w nb B s cv ev vv vs) :
    Calls Tryz.prog 89 #[.pointer (some ⟨nb, 0, none⟩), .agg #[.int .u64 (t : Nat), .int .i64 3, .string (S d)]] w fun e w' => e = .returned (.int .i64 (if 2048 < d.length then 2 else 0)) ∧ Below w.heap.size w w' := by
  have kb := below_box w (.cells #[.int .u64 (t : Nat), .int .i64 3, .string (S d)] 51)
  have H1 : Hid (Mi (w.alloc (.cells #[.int .u64 (t : Nat), .int .i64 3, .string (S d)] 51)) nb B s cv ev vv vs ∧ Below w.heap.size w (w.alloc (.cells #[.int .u64 (t : Nat), .int .i64 3, .string (S d)] 51))) := ⟨h.below kb, kb⟩
  have HA := Lib.hid (Arr.new w 51 #[.int .u64 (t : Nat), .int .i64 3, .string (S d)])
  obtain ⟨ea, ec, rfl⟩ := h.e.form
  obtain ⟨N, hN⟩ : ∃ N, s.g.es.length = N := ⟨_, rfl⟩
  obtain ⟨dn, hdn⟩ : ∃ n, d.length = n := ⟨_, rfl⟩
  have hsz := S_size d
  rw [hdn] at hsz hd ⊢
  rw [hN] at H1 hl
  have HR := Lib.hid hr
  obtain ⟨rx, hrx⟩ : ∃ rx : Int, (if 2048 < dn then 2 else 0) = rx := ⟨_, rfl⟩
  rw [hrx]
  have HX : Hid ((2048 < dn → rx = 2) ∧ (¬ 2048 < dn → rx = 0)) := ⟨fun c => by rw [← hrx, if_pos c], fun c => by rw [← hrx, if_neg c]⟩
  clear h hN hdn hr hrx kb
  go_enter Tryz.func89, Tryz.ntmps89
  go_upto_region 1 with (fail)
  generalize w.alloc (.cells #[.int .u64 (t : Nat), .int .i64 3, .string (S d)] 51) = w1 at *
  have x3 : w1.cell? ⟨nb, 3, none⟩ = some (.int .i64 2) := by rw [← HR.out]; exact H1.out.1.a.cell rfl
  have x8 : w1.cell? ⟨nb, 8, none⟩ = some (.slice ea N ec) := H1.out.1.a.cell rfl
  obtain ⟨y1, y2⟩ : w1.cell? ⟨w.heap.size, 1, none⟩ = some (.int .i64 3) ∧ w1.cell? ⟨w.heap.size, 2, none⟩ = some (.string (S d)) := ⟨HA.out.cell rfl, HA.out.cell rfl⟩
  by_cases c : 2048 < dn
  · have q1 : (2048 : Int) < (dn : Int) := by omega
    have HX2 := Lib.hid (HX.out.1 c)
    clear c
    go_wp2_with fail
    go_ret
    rw [HX2.out]
    exact ⟨rfl, H1.out.2⟩
  · have q1 : ¬ (2048 : Int) < (dn : Int) := by omega
    have q2 : ¬ (1024 : Int) ≤ (N : Int) := by omega
    have HX2 := Lib.hid (HX.out.2 c)
    clear c
    go_wp2_with fail
    go_ret
    rw [HX2.out]
    exact ⟨rfl, H1.out.2⟩
/-- What a node alone becomes that is asked to append. -/
def Rs.got (s : Rs) (d : Bs) : Rs := { s with g := Lg.app s.g ⟨s.term, 3, d⟩, commit := s.g.last + 1 }
set_option maxHeartbeats 8000000 in
set_option maxRecDepth 100000 in
theorem propose_any (d : Bs) (nb B : Nat) (s : Rs) (cv ev vv : Value) (vs : List Int) (hL : Lone s) (hlen : s.g.es.length < 1000) (hr : s.role = 2) (hd : d.length ≤ 140737488355328) (w : World) (h : Mi w nb B s cv ev vv vs) :
    Calls Tryz.prog 58 #[.pointer (some ⟨nb, 0, none⟩), .agg (evC 3 3 (S d))] w fun e w' => e = .returned (.int .i64 (if 2048 < d.length then 2 else 0)) ∧ (∃ eu, Mi w' nb B (if 2048 < d.length then s else s.got d) cv eu vv vs) ∧ Below B w w' := by
  have kb := below_box w (.cells (evC 3 3 (S d)) 53)
  have H1 : Hid (Mi (w.alloc (.cells (evC 3 3 (S d)) 53)) nb B s cv ev vv vs ∧ Below B w (w.alloc (.cells (evC 3 3 (S d)) 53))) := ⟨h.below kb, kb.mono h.size⟩
  have HA := Lib.hid (Arr.new w 53 (evC 3 3 (S d)))
  have hnb : w.heap.size ≠ nb := by have := h.a.lt; omega
  have HM := Lib.hid fun W (h : Mi W nb B s cv ev vv vs) => mayEnter_any 0 d nb B s cv ev vv vs (by omega) hr hd W h
  have HE := Lib.hid fun W (h : Mi W nb B s cv ev vv vs) => enter_any 3 d nb B s cv ev vv vs (by omega) W h
  have HCl := Lib.hid fun W => sclone_any d (by omega) W
  have hl2 := app_last s.g ⟨s.term, 3, d⟩
  have hLo : Lone { s with g := Lg.app s.g ⟨s.term, 3, d⟩ } := hL.app (x := ⟨s.term, 3, d⟩) (by show (3 : Int) ≠ 2; decide) (by have := hL.term; show s.term < _; omega) (by show d.length ≤ _; omega) rfl rfl (by have := hL.com; show s.commit ≤ (Lg.app s.g _).last; rw [hl2.1]; omega) hL.term hlen
  have HS : Hid (∀ W eu (h : Mi W nb B { s with g := Lg.app s.g ⟨s.term, 3, d⟩ } cv eu vv vs), Calls Tryz.prog 92 #[.pointer (some ⟨nb, 0, none⟩)] W fun e w' => e = .returned (.tuple #[]) ∧ Mi w' nb B (s.got d) cv eu vv vs ∧ Below B W w') := fun W eu h => by
    have z := spread_any nb B { s with g := Lg.app s.g ⟨s.term, 3, d⟩ } cv eu vv vs hLo (by have := hL.com; show s.commit < (Lg.app s.g _).last; rw [hl2.1]; omega) hl2.2 hr W h
    rw [show ({ s with g := Lg.app s.g ⟨s.term, 3, d⟩ } : Rs).g.last = s.g.last + 1 from hl2.1] at z
    exact z
  obtain ⟨dn, hdn⟩ : ∃ n, d.length = n := ⟨_, rfl⟩
  rw [hdn] at HM ⊢
  obtain ⟨sx, hsx⟩ : ∃ sx, (if 2048 < dn then s else s.got d) = sx := ⟨_, rfl⟩
  obtain ⟨rx, hrx⟩ : ∃ rx : Int, (if 2048 < dn then 2 else 0) = rx := ⟨_, rfl⟩
  rw [hrx] at HM
  rw [hsx, hrx]
  have HX : Hid ((2048 < dn → rx = 2 ∧ sx = s) ∧ (¬ 2048 < dn → rx = 0 ∧ sx = s.got d)) := ⟨fun c => ⟨by rw [← hrx, if_pos c], by rw [← hsx, if_pos c]⟩, fun c => ⟨by rw [← hrx, if_neg c], by rw [← hsx, if_neg c]⟩⟩
  clear h hL hlen hr hd kb hl2 hLo hdn hsx hrx
  simp only [evC] at H1 HA ⊢
  go_enter Tryz.func58, Tryz.ntmps58
  go_upto_region 1 with (fail)
  generalize w.alloc _ = w1 at H1 HA ⊢
  generalize w.heap.size = eb at *
  obtain ⟨y14, y15, y16⟩ : w1.cell? ⟨eb, 14, none⟩ = some (.int .u64 0) ∧ w1.cell? ⟨eb, 15, none⟩ = some (.int .i64 3) ∧ w1.cell? ⟨eb, 16, none⟩ = some (.string (S d)) := ⟨HA.out.cell rfl, HA.out.cell rfl, HA.out.cell rfl⟩
  have hM : Calls Tryz.prog 89 #[.pointer (some ⟨nb, 0, none⟩), .agg #[.int .u64 0, .int .i64 3, .string (S d)]] w1 fun e w' => e = .returned (.int .i64 rx) ∧ Below w1.heap.size w1 w' := HM.out w1 H1.out.1
  go_wp2_with fail
  with_reducible refine hM.mono ?_
  clear hM y14 y15 y16 HM
  rintro e w2 ⟨rfl, b2⟩
  have H2 : Hid (Mi w2 nb B s cv ev vv vs ∧ Below B w w2) := ⟨H1.out.1.below b2, H1.out.2.trans (b2.mono H1.out.1.size)⟩
  have HA2 := Lib.hid (HA.out.below b2)
  clear b2 H1 HA
  by_cases c : 2048 < dn
  · obtain ⟨rfl, rfl⟩ := HX.out.1 c
    clear c
    go_wp2_with fail
    go_ret
    exact ⟨rfl, ⟨ev, H2.out.1⟩, H2.out.2⟩
  · obtain ⟨rfl, hsx⟩ := HX.out.2 c
    have HX2 := Lib.hid hsx
    clear c hsx
    go_upto_region 4 with (fail)
    have H3 : Hid (Mi w2.drew nb B s cv ev vv vs ∧ Below B w w2.drew) := ⟨H2.out.1.below (below_drew (Below.refl _ _)), H2.out.2.trans ((below_drew (Below.refl _ _)).mono H2.out.1.size)⟩
    have HA3 := Lib.hid (HA2.out.below (below_drew (Below.refl _ _)))
    have kA : w2.drew.cell? ⟨eb, 15, none⟩ = some (.int .i64 3) ∧ w2.drew.cell? ⟨eb, 16, none⟩ = some (.string (S d)) := ⟨HA3.out.cell rfl, HA3.out.cell rfl⟩
    have h1 := HCl.out w2.drew
    clear H2 HA2
    go_region_held3 (fun W => W.cell? ⟨eb, 15, none⟩ = some (.int .i64 3) ∧ W.cell? ⟨eb, 16, none⟩ = some (.string (S d)))
      (first | (with_reducible exact kA) | (with_reducible exact kB) | (with_reducible exact kC))
      (first
        | (go_at_call 54; with_reducible refine h1.mono ?_; intro e w3 hR; have b3 := hR.2; obtain ⟨rfl, _⟩ := hR; have H4 := Lib.hid (And.intro (H3.out.1.below b3) (H3.out.2.trans (b3.mono H3.out.1.size))); have HA4 := Lib.hid (HA3.out.below b3); have kB : w3.cell? ⟨eb, 15, none⟩ = some (.int .i64 3) ∧ w3.cell? ⟨eb, 16, none⟩ = some (.string (S d)) := And.intro (HA4.out.cell rfl) (HA4.out.cell rfl); have h2 := HE.out w3 H4.out.1; clear b3 h1)
        | (go_at_call 90; with_reducible refine h2.mono ?_; rintro e w4 ⟨rfl, ⟨eu, h4⟩, b4, k4⟩; have H5 := Lib.hid (And.intro h4 (H4.out.2.trans b4)); have HA5 := Lib.hid (k4 _ _ _ HA4.out hnb (by decide)); have kC : w4.cell? ⟨eb, 15, none⟩ = some (.int .i64 3) ∧ w4.cell? ⟨eb, 16, none⟩ = some (.string (S d)) := And.intro (HA5.out.cell rfl) (HA5.out.cell rfl); clear h4 b4 k4 h2))
    all_goals (
      obtain ⟨y15, y16⟩ := kC
      have hS := HS.out w4 eu H5.out.1
      clear kA kB
      go_wp2_with fail
      with_reducible refine hS.mono ?_
      clear hS y15 y16
      rintro e w5 ⟨rfl, h5, b5⟩
      have H6 : Hid ((∃ eu, Mi w5 nb B sx cv eu vv vs) ∧ Below B w w5) := ⟨⟨eu, by rw [HX2.out]; exact h5⟩, H5.out.2.trans b5⟩
      clear h5 b5
      go_wp2_with fail
      go_ret
      exact ⟨rfl, H6.out⟩)
end Go.Proofs.YtmgmhnohocamfaaGreat.rf
/-! RfEv -/
namespace Go.Proofs.YtmgmhnohocamfaaGreat.rf
set_option linter.unusedVariables false
open Go.RowKit
open pk (S S_size S_data)
open qm (Bs noSh)
open rw (Arr But below_box bnext below_drew below_drewN)
open tl

theorem wpStill_load_row {P : Program} {ops : Array Oper} {w : World} {rest : List Oper} {o : Oper} {a : Act} {Q : Act → Prop} (hgd : o.guard = none) (ty : TypeId) (x : Operand) (ho : o.op = .load ty x)
    (g : Nat) (hx : a.eval x = .pointer (some ⟨g, 0, none⟩)) (t : TypeId) (cs : Array Value) (fr : Nat × Nat) (d : TypeDesc) (hg : w.heap[g]? = some (.cells cs t fr))
    (hu : P.underlying ty = some d) (hd : (match d with | .struct _ | .array _ _ => true | _ => false) = true) (hi : (P.info? ty).map (·.size) = some cs.size)
    (h : wpStill P ops w Q rest (a.put o.dst (.agg cs))) : wpStill P ops w Q (o :: rest) a := by
  refine wpStill_step fun K hK => ?_
  have hw : Region.wanted o (yielded ops a.tmps) = true := by simp [Region.wanted, hgd]
  rw [if_pos hw]
  unfold Oper.still execOp
  simp only [ho, hx, Instr.loadAt, Instr.sureAddr, Sem.run_bind, Sem.run_pure, Result.andThen_ok, run_loadVar_row w g t ty cs fr d hg hu hd hi]
  exact ⟨rfl, hK _ h⟩
theorem wpStill_load_mid {P : Program} {ops : Array Oper} {w : World} {rest : List Oper} {o : Oper} {a : Act} {Q : Act → Prop} (hgd : o.guard = none) (ty : TypeId) (x : Operand) (ho : o.op = .load ty x)
    (b off : Nat) (hx : a.eval x = .pointer (some ⟨b, off, none⟩)) (cs : List Value) (d : TypeDesc) (hc : w.rangeAt b off cs)
    (hu : P.underlying ty = some d) (hd : d.isRow = true) (hi : (P.info? ty).map (·.size) = some cs.length)
    (h : wpStill P ops w Q rest (a.put o.dst (.agg cs.toArray))) : wpStill P ops w Q (o :: rest) a := by
  refine wpStill_step fun K hK => ?_
  have hw : Region.wanted o (yielded ops a.tmps) = true := by simp [Region.wanted, hgd]
  rw [if_pos hw]
  unfold Oper.still execOp
  simp only [ho, hx, Instr.loadAt, Instr.sureAddr, Sem.run_bind, Sem.run_pure, Result.andThen_ok, run_loadVar_mid w b off ty cs d hc hu hd hi]
  exact ⟨rfl, hK _ h⟩
theorem step_load_mid {P : Program} {ops : Array Oper} {o : Oper} {a : Act} {w : World} {K : Act → World → Prop} {Q : Exit → Act → World → Prop} {E : Prop} (hgd : o.guard = none) (ty : TypeId) (x : Operand) (ho : o.op = .load ty x)
    (b off : Nat) (hx : a.eval x = .pointer (some ⟨b, off, none⟩)) (cs : List Value) (d : TypeDesc) (hc : w.rangeAt b off cs)
    (hu : P.underlying ty = some d) (hd : d.isRow = true) (hi : (P.info? ty).map (·.size) = some cs.length)
    (h : K (a.put o.dst (.agg cs.toArray)) w) : if Region.wanted o (yielded ops a.tmps) = true then Oper.wp P o a w K Q else E := by
  have hw : Region.wanted o (yielded ops a.tmps) = true := by simp [Region.wanted, hgd]
  rw [if_pos hw]
  exact wp_load_mid ty x ho b off hx cs d hc hu hd hi h
theorem exec_load_mid {P : Program} {o : Oper} {ρ : Operand → Value} {w : World} (ty : TypeId) (x : Operand) (ho : o.op = .load ty x)
    (b off : Nat) (hx : ρ x = .pointer (some ⟨b, off, none⟩)) (cs : List Value) (d : TypeDesc) (hc : w.rangeAt b off cs)
    (hu : P.underlying ty = some d) (hd : d.isRow = true) (hi : (P.info? ty).map (·.size) = some cs.length) : (execOp ρ o).run P w = .ok (.value (.agg cs.toArray)) w := by
  unfold execOp
  simp only [ho, hx, Instr.loadAt, Instr.sureAddr, Sem.run_bind, Sem.run_pure, Result.andThen_ok, run_loadVar_mid w b off ty cs d hc hu hd hi]
theorem step_store_row {P : Program} {ops : Array Oper} {o : Oper} {a : Act} {w : World} {K : Act → World → Prop} {Q : Exit → Act → World → Prop} {E : Prop} (hgd : o.guard = none) (ty : TypeId) (x y : Operand) (ho : o.op = .store ty x y)
    (g : Nat) (cells : Array Value) (hx : a.eval x = .pointer (some ⟨g, 0, none⟩)) (hy : a.eval y = .agg cells)
    (t : TypeId) (old : Array Value) (hg : w.heap[g]? = some (.cells old t (0, 0))) (hi : (P.info? ty).map (·.size) = some cells.size)
    (hold : old.size = cells.size) (h1 : cells.all (·.oneCell') = true)
    (h : K (a.put o.dst undef) (w.setRow g cells)) : if Region.wanted o (yielded ops a.tmps) = true then Oper.wp P o a w K Q else E := by
  have hw : Region.wanted o (yielded ops a.tmps) = true := by simp [Region.wanted, hgd]
  rw [if_pos hw]
  exact wp_store_row ty x y ho g cells hx hy t old hg hi hold h1 h
def evTab : Array Value := #[.nilFunc, .func (.func 56) #[] #[], .func (.func 57) #[] #[], .func (.func 58) #[] #[], .func (.func 59) #[] #[]]
set_option maxHeartbeats 4000000 in
set_option maxRecDepth 100000 in
theorem events_any (w : World) :
    Calls Tryz.prog 39 #[] w fun e w' => e = .returned (.agg evTab) ∧ Below w.heap.size w w' := by
  go_enter Tryz.func39, Tryz.ntmps39
  go_wp2_with fail
  exact bodyPost_ret (results_cell_row (P := Tryz.prog) (ty := 97) rfl _ _ w.heap.size 97 evTab (0, 0) _ rfl (Arr.new w _ _) Tryz.underlying97 rfl (by kernel_rfl)) rfl ⟨rfl, below_box _ _⟩
end Go.Proofs.YtmgmhnohocamfaaGreat.rf
/-! RfStepT -/
namespace Go.Proofs.YtmgmhnohocamfaaGreat.rf
set_option linter.unusedVariables false
set_option linter.unusedSimpArgs false
open Go.RowKit
open pk (S S_size S_data)
open qm (Bs noSh)
open rw (Arr But below_box bnext below_drew below_drewN)
open tl

/-- Step under way: the event's box, the result's. -/
structure Sb (w W : World) (ev_ : Array Value) : Prop where
  e : Arr W (w.heap.size + 1) 53 ev_
  r : Arr W (w.heap.size + 1 + 1) 49 rs0
  b : Below w.heap.size w W
  n : w.heap.size + 1 + 1 < W.heap.size
theorem Sb.below {w W W' : World} {ev_ : Array Value} {B : Nat} (h : Sb w W ev_) (hB : w.heap.size + 1 + 1 < B) (b : Below B W W') : Sb w W' ev_ :=
  ⟨h.e.of (b.block _ (by omega)), h.r.of (b.block _ (by omega)), h.b.trans (b.mono (by omega)), Nat.lt_of_lt_of_le h.n b.size⟩
/-- A mind handed out, with nothing said, and an answer. -/
def StOut (w : World) (s : Rs) (x : Int) (e : Ending) (w' : World) : Prop :=
  ∃ cv ev, e = .returned (.tuple #[.agg (rsC s cv ev (.slice none 0 0)), .slice none 0 0, .int .i64 x]) ∧ rw.Own noSh w' w.heap.size cv s.g.conf ∧ rw.Own enSh w' w.heap.size ev s.g.es ∧ Below w.heap.size w w'
theorem Sb.start {w : World} {s : Rs} {cv ev : Value} {x : Array Value} (h1 : rw.Sl noSh w cv s.g.conf) (h2 : rw.Sl enSh w ev s.g.es) :
    Sb w (((w.alloc (.cells (rsC s cv ev (.slice none 0 0)) 49)).alloc (.cells x 53)).alloc (.cells rs0 49)) x ∧
    Arr (((w.alloc (.cells (rsC s cv ev (.slice none 0 0)) 49)).alloc (.cells x 53)).alloc (.cells rs0 49)) w.heap.size 49 (rsC s cv ev (.slice none 0 0)) := by
  have b1 := below_box w (.cells (rsC s cv ev (.slice none 0 0)) 49)
  have a1 := Arr.new w 49 (rsC s cv ev (.slice none 0 0))
  have s1 : (w.alloc (.cells (rsC s cv ev (.slice none 0 0)) 49)).heap.size = w.heap.size + 1 := by simp
  generalize w.alloc (.cells (rsC s cv ev (.slice none 0 0)) 49) = W1 at *
  have b2 := below_box W1 (.cells x 53)
  have a2 := Arr.new W1 53 x
  have s2 : (W1.alloc (.cells x 53)).heap.size = w.heap.size + 1 + 1 := by simp [s1]
  rw [s1] at a2
  have a1' := a1.below b2
  generalize W1.alloc (.cells x 53) = W2 at *
  have b3 := below_box W2 (.cells rs0 49)
  have a3 := Arr.new W2 49 rs0
  have s3 : (W2.alloc (.cells rs0 49)).heap.size = w.heap.size + 1 + 1 + 1 := by simp [s2]
  rw [s2] at a3
  exact ⟨⟨a2.below b3, a3, (b1.trans (b2.mono (by omega))).trans (b3.mono (by omega)), by omega⟩, a1'.below b3⟩
/-- A mind is laid into its box. -/
theorem Mi.new {W : World} {B : Nat} {s : Rs} {cv ev : Value} (hB : B ≤ W.heap.size) (c : rw.Own noSh W B cv s.g.conf) (e : rw.Own enSh W B ev s.g.es) : Mi (W.alloc (.cells (miC s cv ev (.slice none 0 0)) 95)) W.heap.size B s cv ev (.slice none 0 0) [] :=
  have b := below_box W (.cells (miC s cv ev (.slice none 0 0)) 95)
  ⟨Arr.new W _ _, c.below _ b, e.below _ b, rw.Own.nil _ _ _, hB⟩
theorem mi_ones (s : Rs) (a1 a2 a3 : Option Addr) (n1 c1 n2 c2 n3 c3 : Nat) : (miC s (.slice a1 n1 c1) (.slice a2 n2 c2) (.slice a3 n3 c3)).all (·.oneCell') = true := by simp [miC, Value.oneCell']
theorem alloc_row (W : World) (z cs : Array Value) (t : TypeId) : (W.alloc (.cells z t)).setRow W.heap.size cs = W.alloc (.cells cs t) := by
  unfold World.setRow World.alloc
  congr 1
  apply Array.ext_getElem?
  intro k
  simp only [Array.getElem?_modify, Array.getElem?_push]
  by_cases h : W.heap.size = k
  · subst h
    simp
  · have h2 : ¬ k = W.heap.size := fun e => h e.symm
    simp [h, h2]
/-- What is told. -/
theorem StOut.told {w W : World} {nb B : Nat} {s : Rs} {cv ev : Value} {x : Array Value} {z : Int} (h : Sb w W x) (m : Mi W nb B s cv ev (.slice none 0 0) []) (hB : w.heap.size ≤ B) :
    StOut w s z (.returned (.tuple #[.agg (rsC s cv ev (.slice none 0 0)), .slice none 0 0, .int .i64 z])) (W.setRow (w.heap.size + 1 + 1) (rsC s cv ev (.slice none 0 0))) := by
  have k := row_but W (w.heap.size + 1 + 1) (rsC s cv ev (.slice none 0 0))
  exact ⟨cv, ev, rfl, own_lower (own_but m.c h.r (by decide) k) hB, own_lower (own_but m.e h.r (by decide) k) hB, h.b.trans (k.below h.b.size (by omega))⟩
set_option maxHeartbeats 8000000 in
set_option maxRecDepth 100000 in
theorem step_tick (s : Rs) (cv ev : Value) (hfit : Rfit s) (hL : Lone s) (hlen : s.g.es.length < 1000) (htm : s.term < 1000) (hr : s.role = 0) (ht : 0 ≤ s.ticks ∧ s.ticks ≤ 100000) (w : World) (h1 : rw.Sl noSh w cv s.g.conf) (h2 : rw.Sl enSh w ev s.g.es) :
    Calls Tryz.prog 18 #[.agg (rsC s cv ev (.slice none 0 0)), .agg (evC 1 0 ⟨#[]⟩)] w (StOut w (if s.wait ≤ s.ticks + 1 then s.led else s.ticked) (0)) := by
  obtain ⟨ca, cc, rfl⟩ := sl_form h1
  obtain ⟨ea, ec, rfl⟩ := sl_form h2
  obtain ⟨n1, hn1⟩ : ∃ n, s.g.conf.length = n := ⟨_, rfl⟩
  obtain ⟨N, hN⟩ : ∃ n, s.g.es.length = n := ⟨_, rfl⟩
  rw [hn1] at h1 ⊢
  rw [hN] at h2 ⊢
  have HN := Lib.hid (And.intro hn1 hN)
  obtain ⟨q0, q0'⟩ := Sb.start (x := evC 1 0 ⟨#[]⟩) h1 h2
  have H0 : Hid (Sb w (((w.alloc (.cells (rsC s (.slice ca n1 cc) (.slice ea N ec) (.slice none 0 0)) 49)).alloc (.cells (evC 1 0 ⟨#[]⟩) 53)).alloc (.cells rs0 49)) (evC 1 0 ⟨#[]⟩)) := q0
  have HA : Hid (Arr (((w.alloc (.cells (rsC s (.slice ca n1 cc) (.slice ea N ec) (.slice none 0 0)) 49)).alloc (.cells (evC 1 0 ⟨#[]⟩) 53)).alloc (.cells rs0 49)) w.heap.size 49 (rsC s (.slice ca n1 cc) (.slice ea N ec) (.slice none 0 0))) := q0'
  have HX : Hid (rw.Sl noSh w (.slice ca n1 cc) s.g.conf ∧ rw.Sl enSh w (.slice ea N ec) s.g.es) := ⟨h1, h2⟩
  have HCp := Lib.hid fun W (b : Below w.heap.size w W) => copy_any s (.slice ca n1 cc) (.slice ea N ec) hfit W (HX.out.1.later _ b) (HX.out.2.later _ b)
  have HCall : Hid (∀ W nb B cv ev (h : Mi W nb B s cv ev (.slice none 0 0) []), Calls Tryz.prog 56 #[.pointer (some ⟨nb, 0, none⟩), .agg (evC 1 0 ⟨#[]⟩)] W fun e w' => e = .returned (.int .i64 0) ∧ (∃ eu, Mi w' nb B (if s.wait ≤ s.ticks + 1 then s.led else s.ticked) cv eu (.slice none 0 0) []) ∧ Below B W w') := fun W nb B cv ev h => tick_any nb B s cv ev hL hlen htm hr ht W h
  obtain ⟨s2, hs2⟩ : ∃ x, (if s.wait ≤ s.ticks + 1 then s.led else s.ticked) = x := ⟨_, rfl⟩
  rw [hs2]
  rw [hs2] at HCall
  clear h1 h2 q0 q0' hn1 hN hs2 hL hlen htm hr ht
  simp only [rsC, evC, rs0] at H0 HA ⊢
  go_enter Tryz.func18, Tryz.ntmps18
  go_upto_region 1 with (fail)
  generalize w.alloc _ = W00 at H0 HA ⊢
  generalize W00.alloc _ = W01 at H0 HA ⊢
  generalize W01.alloc _ = W0 at H0 HA ⊢
  have hC := HCp.out W0 H0.out.b
  simp only [rsC] at hC
  go_wp2_with (refine wpList_load_row rfl 49 (.tmp 2) rfl _ rfl 49 _ (0, 0) _ HA.out Tryz.underlying49 rfl (by kernel_rfl) ?_)
  with_reducible refine hC.mono ?_
  clear hC HCp HA HX
  rintro e w2 ⟨cv, ev, rfl, o1, o2, b2⟩
  have HB := Lib.hid H0.out.n
  have H2 := Lib.hid (H0.out.below H0.out.n b2)
  have HM := Lib.hid (Mi.new (s := s) b2.size o1 o2)
  have kb := below_box w2 (.cells (miC s cv ev (.slice none 0 0)) 95)
  have H3 := Lib.hid (H2.out.below H2.out.n kb)
  obtain ⟨ca', cc', rfl⟩ := o1.form
  obtain ⟨ea', ec', rfl⟩ := o2.form
  rw [HN.out.1, HN.out.2] at HM H3
  rw [HN.out.1, HN.out.2]
  clear o1 o2 b2 kb H2 H0
  go_upto_region 2 with (first | (refine wpList_buildTo rfl 95 #[(0, .tmp 11)] rfl _ rfl (miC s (.slice ca' n1 cc') (.slice ea' N ec') (.slice none 0 0)) (by kernel_rfl) ?_) | (refine wpList_store_row rfl 95 (.tmp 7) (.tmp 12) rfl _ _ rfl rfl 95 _ (Arr.new w2 _ _) (by kernel_rfl) rfl (mi_ones _ _ _ _ _ _ _ _ _ _) ?_))
  rw [alloc_row]
  simp only [evC] at HCall
  generalize w2.alloc (.cells (miC s (.slice ca' n1 cc') (.slice ea' N ec') (.slice none 0 0)) 95) = w3 at *
  generalize w2.heap.size = nb at *
  have hE := events_any w3
  go_wp2_with fail
  with_reducible refine hE.mono ?_
  clear hE
  rintro e w4 ⟨rfl, b4⟩
  have kb := below_box w4 (.cells evTab 97)
  have HM4 := Lib.hid ((HM.out.below b4).below kb)
  have H4 := Lib.hid ((H3.out.below H3.out.n b4).below (H3.out.below H3.out.n b4).n kb)
  have HT := Lib.hid (Arr.new w4 97 evTab)
  clear b4 kb HM H3
  simp only [evTab] at HM4 H4 HT ⊢
  go_upto_region 3 with (fail)
  generalize w4.alloc _ = w5 at HM4 H4 HT ⊢
  generalize w4.heap.size = tb at *
  have y0 : w5.cell? ⟨w.heap.size + 1, 0, none⟩ = some (.int .i64 1) := H4.out.e.cell rfl
  go_upto_region 5 with (fail)
  clear y0
  have HM5 := Lib.hid (HM4.out.below (below_drew (Below.refl _ _)))
  have H5 := Lib.hid (H4.out.below H4.out.n (below_drew (Below.refl _ _)))
  have HT5 := Lib.hid (HT.out.below (below_drew (Below.refl _ _)))
  clear HM4 H4 HT
  refine wp_region_still_tail 5 (by kernel_rfl) (by kernel_rfl) ?_
  change wpStill _ _ w5.drew (fun a' => wpList _ _ _ _ a' w5.drew) _ _
  generalize w5.drew = w6 at *
  simp only [List.take_succ_cons, List.take_zero, List.drop_succ_cons, List.drop_zero]
  have y0 : w6.cell? ⟨w.heap.size + 1, 0, none⟩ = some (.int .i64 1) := H5.out.e.cell rfl
  have yk : w6.cell? ⟨tb, 1, none⟩ = some (.func (.func 56) #[] #[]) := HT5.out.cell rfl
  still_step
  still_step
  still_step
  still_step
  refine wpStill_load_row rfl 53 (.tmp 3) rfl (w.heap.size + 1) rfl 53 _ (0, 0) _ H5.out.e Tryz.underlying53 rfl (by kernel_rfl) ?_
  refine wpStill_nil ?_
  clear y0 yk HT5
  have hCall := HCall.out w6 nb _ _ _ HM5.out
  go_wp2_with fail
  with_reducible refine hCall.mono ?_
  clear hCall HCall
  rintro e w7 ⟨rfl, ⟨eu, h7⟩, b7⟩
  have H7 := Lib.hid (H5.out.below HB.out b7)
  have HM7 := Lib.hid h7
  clear h7 b7 H5 HM5
  go_upto_region 6 with (fail)
  have HM8 := Lib.hid (HM7.out.below (below_drew (Below.refl _ _)))
  have H8 := Lib.hid (H7.out.below H7.out.n (below_drew (Below.refl _ _)))
  have z18 : w7.drew.cell? ⟨nb, 18, none⟩ = some (.slice none 0 0) := HM8.out.a.cell rfl
  obtain ⟨da, dc, rfl⟩ := HM8.out.e.form
  have HO := Lib.hid (StOut.told (z := 0) H8.out HM8.out (by have := HB.out; omega))
  have hz := Lib.hid (row_arr (cs := rsC s2 (.slice ca' n1 cc') (.slice da s2.g.es.length dc) (.slice none 0 0)) H8.out.r)
  have hne : nb ≠ w.heap.size + 1 + 1 := by have := HM8.out.n; have := HB.out; omega
  have z18' : (w7.drew.setRow (w.heap.size + 1 + 1) (rsC s2 (.slice ca' n1 cc') (.slice da s2.g.es.length dc) (.slice none 0 0))).cell? ⟨nb, 18, none⟩ = some (.slice none 0 0) := (row_but _ _ _).cell z18 hne
  have z18s : (w7.setRow (w.heap.size + 1 + 1) (rsC s2 (.slice ca' n1 cc') (.slice da s2.g.es.length dc) (.slice none 0 0))).drew.cell? ⟨nb, 18, none⟩ = some (.slice none 0 0) := z18'
  have hr := HM8.out.range
  have hq := H8.out.r
  clear HM7 H7
  refine wp_region_held (S := fun W => W.rangeAt nb 0 (rsC s2 (.slice ca' n1 cc') (.slice da s2.g.es.length dc) (.slice none 0 0)).toList ∧ W.cell? ⟨nb, 18, none⟩ = some (.slice none 0 0)) (by kernel_rfl) ?_
  change wpAnyH _ _ _ _ _ _ _ _ (World.drew _)
  have hS : w7.drew.rangeAt nb 0 (rsC s2 (.slice ca' n1 cc') (.slice da s2.g.es.length dc) (.slice none 0 0)).toList ∧ w7.drew.cell? ⟨nb, 18, none⟩ = some (.slice none 0 0) := ⟨hr, z18⟩
  refine wpAnyH_take (i := 0) (v := .pointer (some ⟨nb, 0, none⟩)) rfl (by kernel_rfl) (by kernel_rfl) (by kernel_rfl) (fun _ _ _ h => h) (Or.inl ⟨by rfl, fun w _ => ?_⟩) hS ?_
  · go_simp
  simp only [List.getElem_toArray, List.getElem_cons_succ, List.getElem_cons_zero, Act.put, List.setIfInBounds_toArray, List.set_cons_zero, List.set_cons_succ]
  refine wpAnyH_take (i := 1) (v := .agg (rsC s2 (.slice ca' n1 cc') (.slice da s2.g.es.length dc) (.slice none 0 0))) rfl (by kernel_rfl) (by kernel_rfl) (by kernel_rfl) (fun _ _ _ h => h) (Or.inl ⟨by rfl, fun W hh => ?_⟩) hS ?_
  · exact exec_load_mid 49 (.tmp 30) rfl nb 0 (by kernel_rfl) (rsC s2 (.slice ca' n1 cc') (.slice da s2.g.es.length dc) (.slice none 0 0)).toList _ hh.1 Tryz.underlying49 rfl (by kernel_rfl)
  simp only [List.getElem_toArray, List.getElem_cons_succ, List.getElem_cons_zero, Act.put, List.setIfInBounds_toArray, List.set_cons_zero, List.set_cons_succ]
  refine wpAnyH_take (i := 2) (v := .pointer (some ⟨nb, 18, none⟩)) rfl (by kernel_rfl) (by kernel_rfl) (by kernel_rfl) (fun _ _ _ h => h) (Or.inl ⟨by rfl, fun w _ => ?_⟩) hS ?_
  · go_simp
  simp only [List.getElem_toArray, List.getElem_cons_succ, List.getElem_cons_zero, Act.put, List.setIfInBounds_toArray, List.set_cons_zero, List.set_cons_succ]
  refine wpAnyH_take (i := 3) (v := .slice none 0 0) rfl (by kernel_rfl) (by kernel_rfl) (by kernel_rfl) (fun _ _ _ h => h) (Or.inl ⟨by rfl, fun W hh => ?_⟩) hS ?_
  · obtain ⟨h1, h2⟩ := hh
    clear h1
    go_simp
  simp only [List.getElem_toArray, List.getElem_cons_succ, List.getElem_cons_zero, Act.put, List.setIfInBounds_toArray, List.set_cons_zero, List.set_cons_succ]
  refine wpAnyH_take (i := 4) (v := .int .i64 0) rfl (by kernel_rfl) (by kernel_rfl) (by kernel_rfl) (fun _ _ _ h => h) (Or.inl ⟨by rfl, fun w _ => ?_⟩) hS ?_
  · go_simp
  simp only [List.getElem_toArray, List.getElem_cons_succ, List.getElem_cons_zero, Act.put, List.setIfInBounds_toArray, List.set_cons_zero, List.set_cons_succ]
  refine wpAnyH_ready (rs := [5]) (by kernel_rfl) (by simp) ?_
  refine AllReadyH.cons rfl (fun K hK => ?_) AllReadyH.nil
  refine step_store_row rfl 49 (.tmp 4) (.tmp 31) rfl (w.heap.size + 1 + 1) (rsC s2 (.slice ca' n1 cc') (.slice da s2.g.es.length dc) (.slice none 0 0)) rfl rfl 49 _ hq (by kernel_rfl) rfl (rs_ones _ _ _ _ _ _ _ _ _ _) ?_
  have hS2 : (w7.drew.setRow (w.heap.size + 1 + 1) (rsC s2 (.slice ca' n1 cc') (.slice da s2.g.es.length dc) (.slice none 0 0))).rangeAt nb 0 (rsC s2 (.slice ca' n1 cc') (.slice da s2.g.es.length dc) (.slice none 0 0)).toList ∧ (w7.drew.setRow (w.heap.size + 1 + 1) (rsC s2 (.slice ca' n1 cc') (.slice da s2.g.es.length dc) (.slice none 0 0))).cell? ⟨nb, 18, none⟩ = some (.slice none 0 0) := ⟨fun j v hv => (row_but _ _ _).cell (hr j v hv) hne, z18'⟩
  refine hK.out _ _ hS2 (fun _ => ?_)
  clear hK K
  simp only [List.getElem_toArray, List.getElem_cons_succ, List.getElem_cons_zero, Act.put, List.setIfInBounds_toArray, List.set_cons_zero, List.set_cons_succ]
  refine wpAnyH_take (i := 6) (v := .slice none 0 0) rfl (by kernel_rfl) (by kernel_rfl) (by kernel_rfl) (fun _ _ _ h => h) (Or.inl ⟨by rfl, fun w _ => ?_⟩) hS2 ?_
  · go_simp
  simp only [List.getElem_toArray, List.getElem_cons_succ, List.getElem_cons_zero, Act.put, List.setIfInBounds_toArray, List.set_cons_zero, List.set_cons_succ]
  refine wpAnyH_take (i := 7) (v := .int .i64 0) rfl (by kernel_rfl) (by kernel_rfl) (by kernel_rfl) (fun _ _ _ h => h) (Or.inl ⟨by rfl, fun w _ => ?_⟩) hS2 ?_
  · go_simp
  simp only [List.getElem_toArray, List.getElem_cons_succ, List.getElem_cons_zero, Act.put, List.setIfInBounds_toArray, List.set_cons_zero, List.set_cons_succ]
  refine wpAnyH_done (by kernel_rfl) ?_ _
  go_wp2_with fail
  exact bodyPost_ret (results_rs3 rfl rfl rfl rfl hz.out rfl) rfl HO.out
end Go.Proofs.YtmgmhnohocamfaaGreat.rf
/-! RfStepP -/
namespace Go.Proofs.YtmgmhnohocamfaaGreat.rf
set_option linter.unusedVariables false
set_option linter.unusedSimpArgs false
open Go.RowKit
open pk (S S_size S_data)
open qm (Bs noSh)
open rw (Arr But below_box bnext below_drew below_drewN)
open tl

set_option maxHeartbeats 8000000 in
set_option maxRecDepth 100000 in
theorem step_prop (d : Bs) (s : Rs) (cv ev : Value) (hfit : Rfit s) (hL : Lone s) (hlen : s.g.es.length < 1000) (hr : s.role = 2) (hd : d.length ≤ 140737488355328) (w : World) (h1 : rw.Sl noSh w cv s.g.conf) (h2 : rw.Sl enSh w ev s.g.es) :
    Calls Tryz.prog 18 #[.agg (rsC s cv ev (.slice none 0 0)), .agg (evC 3 3 (S d))] w (StOut w (if 2048 < d.length then s else s.got d) (if 2048 < d.length then 2 else 0)) := by
  obtain ⟨ca, cc, rfl⟩ := sl_form h1
  obtain ⟨ea, ec, rfl⟩ := sl_form h2
  obtain ⟨n1, hn1⟩ : ∃ n, s.g.conf.length = n := ⟨_, rfl⟩
  obtain ⟨N, hN⟩ : ∃ n, s.g.es.length = n := ⟨_, rfl⟩
  rw [hn1] at h1 ⊢
  rw [hN] at h2 ⊢
  have HN := Lib.hid (And.intro hn1 hN)
  obtain ⟨q0, q0'⟩ := Sb.start (x := evC 3 3 (S d)) h1 h2
  have H0 : Hid (Sb w (((w.alloc (.cells (rsC s (.slice ca n1 cc) (.slice ea N ec) (.slice none 0 0)) 49)).alloc (.cells (evC 3 3 (S d)) 53)).alloc (.cells rs0 49)) (evC 3 3 (S d))) := q0
  have HA : Hid (Arr (((w.alloc (.cells (rsC s (.slice ca n1 cc) (.slice ea N ec) (.slice none 0 0)) 49)).alloc (.cells (evC 3 3 (S d)) 53)).alloc (.cells rs0 49)) w.heap.size 49 (rsC s (.slice ca n1 cc) (.slice ea N ec) (.slice none 0 0))) := q0'
  have HX : Hid (rw.Sl noSh w (.slice ca n1 cc) s.g.conf ∧ rw.Sl enSh w (.slice ea N ec) s.g.es) := ⟨h1, h2⟩
  have HCp := Lib.hid fun W (b : Below w.heap.size w W) => copy_any s (.slice ca n1 cc) (.slice ea N ec) hfit W (HX.out.1.later _ b) (HX.out.2.later _ b)
  have HCall : Hid (∀ W nb B cv ev (h : Mi W nb B s cv ev (.slice none 0 0) []), Calls Tryz.prog 58 #[.pointer (some ⟨nb, 0, none⟩), .agg (evC 3 3 (S d))] W fun e w' => e = .returned (.int .i64 (if 2048 < d.length then 2 else 0)) ∧ (∃ eu, Mi w' nb B (if 2048 < d.length then s else s.got d) cv eu (.slice none 0 0) []) ∧ Below B W w') := fun W nb B cv ev h => propose_any d nb B s cv ev (.slice none 0 0) [] hL hlen hr hd W h
  obtain ⟨s2, hs2⟩ : ∃ x, (if 2048 < d.length then s else s.got d) = x := ⟨_, rfl⟩
  rw [hs2]
  rw [hs2] at HCall
  obtain ⟨z2, hz2⟩ : ∃ x : Int, (if 2048 < d.length then 2 else 0) = x := ⟨_, rfl⟩
  rw [hz2]
  rw [hz2] at HCall
  clear hz2
  clear h1 h2 q0 q0' hn1 hN hs2 hL hlen hr hd
  simp only [rsC, evC, rs0] at H0 HA ⊢
  go_enter Tryz.func18, Tryz.ntmps18
  go_upto_region 1 with (fail)
  generalize w.alloc _ = W00 at H0 HA ⊢
  generalize W00.alloc _ = W01 at H0 HA ⊢
  generalize W01.alloc _ = W0 at H0 HA ⊢
  have hC := HCp.out W0 H0.out.b
  simp only [rsC] at hC
  go_wp2_with (refine wpList_load_row rfl 49 (.tmp 2) rfl _ rfl 49 _ (0, 0) _ HA.out Tryz.underlying49 rfl (by kernel_rfl) ?_)
  with_reducible refine hC.mono ?_
  clear hC HCp HA HX
  rintro e w2 ⟨cv, ev, rfl, o1, o2, b2⟩
  have HB := Lib.hid H0.out.n
  have H2 := Lib.hid (H0.out.below H0.out.n b2)
  have HM := Lib.hid (Mi.new (s := s) b2.size o1 o2)
  have kb := below_box w2 (.cells (miC s cv ev (.slice none 0 0)) 95)
  have H3 := Lib.hid (H2.out.below H2.out.n kb)
  obtain ⟨ca', cc', rfl⟩ := o1.form
  obtain ⟨ea', ec', rfl⟩ := o2.form
  rw [HN.out.1, HN.out.2] at HM H3
  rw [HN.out.1, HN.out.2]
  clear o1 o2 b2 kb H2 H0
  go_upto_region 2 with (first | (refine wpList_buildTo rfl 95 #[(0, .tmp 11)] rfl _ rfl (miC s (.slice ca' n1 cc') (.slice ea' N ec') (.slice none 0 0)) (by kernel_rfl) ?_) | (refine wpList_store_row rfl 95 (.tmp 7) (.tmp 12) rfl _ _ rfl rfl 95 _ (Arr.new w2 _ _) (by kernel_rfl) rfl (mi_ones _ _ _ _ _ _ _ _ _ _) ?_))
  rw [alloc_row]
  simp only [evC] at HCall
  generalize w2.alloc (.cells (miC s (.slice ca' n1 cc') (.slice ea' N ec') (.slice none 0 0)) 95) = w3 at *
  generalize w2.heap.size = nb at *
  have hE := events_any w3
  go_wp2_with fail
  with_reducible refine hE.mono ?_
  clear hE
  rintro e w4 ⟨rfl, b4⟩
  have kb := below_box w4 (.cells evTab 97)
  have HM4 := Lib.hid ((HM.out.below b4).below kb)
  have H4 := Lib.hid ((H3.out.below H3.out.n b4).below (H3.out.below H3.out.n b4).n kb)
  have HT := Lib.hid (Arr.new w4 97 evTab)
  clear b4 kb HM H3
  simp only [evTab] at HM4 H4 HT ⊢
  go_upto_region 3 with (fail)
  generalize w4.alloc _ = w5 at HM4 H4 HT ⊢
  generalize w4.heap.size = tb at *
  have y0 : w5.cell? ⟨w.heap.size + 1, 0, none⟩ = some (.int .i64 3) := H4.out.e.cell rfl
  go_upto_region 5 with (fail)
  clear y0
  have HM5 := Lib.hid (HM4.out.below (below_drew (Below.refl _ _)))
  have H5 := Lib.hid (H4.out.below H4.out.n (below_drew (Below.refl _ _)))
  have HT5 := Lib.hid (HT.out.below (below_drew (Below.refl _ _)))
  clear HM4 H4 HT
  refine wp_region_still_tail 5 (by kernel_rfl) (by kernel_rfl) ?_
  change wpStill _ _ w5.drew (fun a' => wpList _ _ _ _ a' w5.drew) _ _
  generalize w5.drew = w6 at *
  simp only [List.take_succ_cons, List.take_zero, List.drop_succ_cons, List.drop_zero]
  have y0 : w6.cell? ⟨w.heap.size + 1, 0, none⟩ = some (.int .i64 3) := H5.out.e.cell rfl
  have yk : w6.cell? ⟨tb, 3, none⟩ = some (.func (.func 58) #[] #[]) := HT5.out.cell rfl
  still_step
  still_step
  still_step
  still_step
  refine wpStill_load_row rfl 53 (.tmp 3) rfl (w.heap.size + 1) rfl 53 _ (0, 0) _ H5.out.e Tryz.underlying53 rfl (by kernel_rfl) ?_
  refine wpStill_nil ?_
  clear y0 yk HT5
  have hCall := HCall.out w6 nb _ _ _ HM5.out
  go_wp2_with fail
  with_reducible refine hCall.mono ?_
  clear hCall HCall
  rintro e w7 ⟨rfl, ⟨eu, h7⟩, b7⟩
  have H7 := Lib.hid (H5.out.below HB.out b7)
  have HM7 := Lib.hid h7
  clear h7 b7 H5 HM5
  go_upto_region 6 with (fail)
  have HM8 := Lib.hid (HM7.out.below (below_drew (Below.refl _ _)))
  have H8 := Lib.hid (H7.out.below H7.out.n (below_drew (Below.refl _ _)))
  have z18 : w7.drew.cell? ⟨nb, 18, none⟩ = some (.slice none 0 0) := HM8.out.a.cell rfl
  obtain ⟨da, dc, rfl⟩ := HM8.out.e.form
  have HO := Lib.hid (StOut.told (z := z2) H8.out HM8.out (by have := HB.out; omega))
  have hz := Lib.hid (row_arr (cs := rsC s2 (.slice ca' n1 cc') (.slice da s2.g.es.length dc) (.slice none 0 0)) H8.out.r)
  have hne : nb ≠ w.heap.size + 1 + 1 := by have := HM8.out.n; have := HB.out; omega
  have z18' : (w7.drew.setRow (w.heap.size + 1 + 1) (rsC s2 (.slice ca' n1 cc') (.slice da s2.g.es.length dc) (.slice none 0 0))).cell? ⟨nb, 18, none⟩ = some (.slice none 0 0) := (row_but _ _ _).cell z18 hne
  have z18s : (w7.setRow (w.heap.size + 1 + 1) (rsC s2 (.slice ca' n1 cc') (.slice da s2.g.es.length dc) (.slice none 0 0))).drew.cell? ⟨nb, 18, none⟩ = some (.slice none 0 0) := z18'
  have hr := HM8.out.range
  have hq := H8.out.r
  clear HM7 H7
  refine wp_region_held (S := fun W => W.rangeAt nb 0 (rsC s2 (.slice ca' n1 cc') (.slice da s2.g.es.length dc) (.slice none 0 0)).toList ∧ W.cell? ⟨nb, 18, none⟩ = some (.slice none 0 0)) (by kernel_rfl) ?_
  change wpAnyH _ _ _ _ _ _ _ _ (World.drew _)
  have hS : w7.drew.rangeAt nb 0 (rsC s2 (.slice ca' n1 cc') (.slice da s2.g.es.length dc) (.slice none 0 0)).toList ∧ w7.drew.cell? ⟨nb, 18, none⟩ = some (.slice none 0 0) := ⟨hr, z18⟩
  refine wpAnyH_take (i := 0) (v := .pointer (some ⟨nb, 0, none⟩)) rfl (by kernel_rfl) (by kernel_rfl) (by kernel_rfl) (fun _ _ _ h => h) (Or.inl ⟨by rfl, fun w _ => ?_⟩) hS ?_
  · go_simp
  simp only [List.getElem_toArray, List.getElem_cons_succ, List.getElem_cons_zero, Act.put, List.setIfInBounds_toArray, List.set_cons_zero, List.set_cons_succ]
  refine wpAnyH_take (i := 1) (v := .agg (rsC s2 (.slice ca' n1 cc') (.slice da s2.g.es.length dc) (.slice none 0 0))) rfl (by kernel_rfl) (by kernel_rfl) (by kernel_rfl) (fun _ _ _ h => h) (Or.inl ⟨by rfl, fun W hh => ?_⟩) hS ?_
  · exact exec_load_mid 49 (.tmp 30) rfl nb 0 (by kernel_rfl) (rsC s2 (.slice ca' n1 cc') (.slice da s2.g.es.length dc) (.slice none 0 0)).toList _ hh.1 Tryz.underlying49 rfl (by kernel_rfl)
  simp only [List.getElem_toArray, List.getElem_cons_succ, List.getElem_cons_zero, Act.put, List.setIfInBounds_toArray, List.set_cons_zero, List.set_cons_succ]
  refine wpAnyH_take (i := 2) (v := .pointer (some ⟨nb, 18, none⟩)) rfl (by kernel_rfl) (by kernel_rfl) (by kernel_rfl) (fun _ _ _ h => h) (Or.inl ⟨by rfl, fun w _ => ?_⟩) hS ?_
  · go_simp
  simp only [List.getElem_toArray, List.getElem_cons_succ, List.getElem_cons_zero, Act.put, List.setIfInBounds_toArray, List.set_cons_zero, List.set_cons_succ]
  refine wpAnyH_take (i := 3) (v := .slice none 0 0) rfl (by kernel_rfl) (by kernel_rfl) (by kernel_rfl) (fun _ _ _ h => h) (Or.inl ⟨by rfl, fun W hh => ?_⟩) hS ?_
  · obtain ⟨h1, h2⟩ := hh
    clear h1
    go_simp
  simp only [List.getElem_toArray, List.getElem_cons_succ, List.getElem_cons_zero, Act.put, List.setIfInBounds_toArray, List.set_cons_zero, List.set_cons_succ]
  refine wpAnyH_take (i := 4) (v := .int .i64 z2) rfl (by kernel_rfl) (by kernel_rfl) (by kernel_rfl) (fun _ _ _ h => h) (Or.inl ⟨by rfl, fun w _ => ?_⟩) hS ?_
  · go_simp
  simp only [List.getElem_toArray, List.getElem_cons_succ, List.getElem_cons_zero, Act.put, List.setIfInBounds_toArray, List.set_cons_zero, List.set_cons_succ]
  refine wpAnyH_ready (rs := [5]) (by kernel_rfl) (by simp) ?_
  refine AllReadyH.cons rfl (fun K hK => ?_) AllReadyH.nil
  refine step_store_row rfl 49 (.tmp 4) (.tmp 31) rfl (w.heap.size + 1 + 1) (rsC s2 (.slice ca' n1 cc') (.slice da s2.g.es.length dc) (.slice none 0 0)) rfl rfl 49 _ hq (by kernel_rfl) rfl (rs_ones _ _ _ _ _ _ _ _ _ _) ?_
  have hS2 : (w7.drew.setRow (w.heap.size + 1 + 1) (rsC s2 (.slice ca' n1 cc') (.slice da s2.g.es.length dc) (.slice none 0 0))).rangeAt nb 0 (rsC s2 (.slice ca' n1 cc') (.slice da s2.g.es.length dc) (.slice none 0 0)).toList ∧ (w7.drew.setRow (w.heap.size + 1 + 1) (rsC s2 (.slice ca' n1 cc') (.slice da s2.g.es.length dc) (.slice none 0 0))).cell? ⟨nb, 18, none⟩ = some (.slice none 0 0) := ⟨fun j v hv => (row_but _ _ _).cell (hr j v hv) hne, z18'⟩
  refine hK.out _ _ hS2 (fun _ => ?_)
  clear hK K
  simp only [List.getElem_toArray, List.getElem_cons_succ, List.getElem_cons_zero, Act.put, List.setIfInBounds_toArray, List.set_cons_zero, List.set_cons_succ]
  refine wpAnyH_take (i := 6) (v := .slice none 0 0) rfl (by kernel_rfl) (by kernel_rfl) (by kernel_rfl) (fun _ _ _ h => h) (Or.inl ⟨by rfl, fun w _ => ?_⟩) hS2 ?_
  · go_simp
  simp only [List.getElem_toArray, List.getElem_cons_succ, List.getElem_cons_zero, Act.put, List.setIfInBounds_toArray, List.set_cons_zero, List.set_cons_succ]
  refine wpAnyH_take (i := 7) (v := .int .i64 z2) rfl (by kernel_rfl) (by kernel_rfl) (by kernel_rfl) (fun _ _ _ h => h) (Or.inl ⟨by rfl, fun w _ => ?_⟩) hS2 ?_
  · go_simp
  simp only [List.getElem_toArray, List.getElem_cons_succ, List.getElem_cons_zero, Act.put, List.setIfInBounds_toArray, List.set_cons_zero, List.set_cons_succ]
  refine wpAnyH_done (by kernel_rfl) ?_ _
  go_wp2_with fail
  exact bodyPost_ret (results_rs3 rfl rfl rfl rfl hz.out rfl) rfl HO.out
end Go.Proofs.YtmgmhnohocamfaaGreat.rf
/-! RfNew -/
namespace Go.Proofs.YtmgmhnohocamfaaGreat.rf
set_option linter.unusedVariables false
open Go.RowKit
open pk (S S_size S_data)
open qm (Bs noSh)
open rw (Arr But below_box bnext below_drew below_drewN)
open tl

set_option maxHeartbeats 2000000 in
set_option maxRecDepth 100000 in
theorem isNode_any (x : Int) (w : World) : Calls Tryz.prog 45 #[.int .i64 x] w fun e w' => e = .returned (.bool (decide (1 ≤ x ∧ x ≤ 5))) ∧ w = w' := by
  by_cases c1 : 1 ≤ x
  · by_cases c2 : x ≤ 5
    · have q : decide (1 ≤ x ∧ x ≤ 5) = true := decide_eq_true ⟨c1, c2⟩
      rw [q]
      clear q
      have q1 : decide (1 ≤ x) = true := decide_eq_true c1
      have q2 : decide (x ≤ 5) = true := decide_eq_true c2
      go_enter Tryz.func45, Tryz.ntmps45
      go_wp2_with fail
      go_ret
      exact ⟨by first | rfl | simp [c1, c2] | (simp; omega), rfl⟩
    · have q : decide (1 ≤ x ∧ x ≤ 5) = false := decide_eq_false fun h => c2 h.2
      rw [q]
      clear q
      have q1 : decide (1 ≤ x) = true := decide_eq_true c1
      have q2 : decide (x ≤ 5) = false := decide_eq_false c2
      go_enter Tryz.func45, Tryz.ntmps45
      go_wp2_with fail
      go_ret
      exact ⟨by first | rfl | simp [c1, c2] | (simp; omega), rfl⟩
  · have q : decide (1 ≤ x ∧ x ≤ 5) = false := decide_eq_false fun h => c1 h.1
    rw [q]
    clear q
    have q1 : decide (1 ≤ x) = false := decide_eq_false c1
    go_enter Tryz.func45, Tryz.ntmps45
    go_wp2_with fail
    go_ret
    exact ⟨by first | rfl | simp [c1] | (simp; omega), rfl⟩
/-- How it begins. -/
def began (id : Int) (t : Nat) (v : Int) (g : Lg) (img : Bs) (wait : Int) : Rs := ⟨id, t, v, 0, 0, g, img, g.base, 0, wait, [], 0, 0⟩
/-- New under way. -/
structure Nb (w W : World) (hc : Array Value) (g : Lg) (cv ev : Value) : Prop where
  h : Arr W w.heap.size 65 hc
  l : Arr W (w.heap.size + 1) 46 (lgC g.base g.bt cv ev)
  r : Arr W (w.heap.size + 1 + 1) 49 rs0
  b : Below w.heap.size w W
  n : w.heap.size + 1 + 1 < W.heap.size
theorem Nb.below {w W W' : World} {hc : Array Value} {g : Lg} {cv ev : Value} (h : Nb w W hc g cv ev) (b : Below W.heap.size W W') : Nb w W' hc g cv ev :=
  ⟨h.h.below b, h.l.below b, h.r.below b, h.b.trans (b.mono h.b.size), Nat.lt_of_lt_of_le h.n b.size⟩
theorem Nb.start {w : World} {hc : Array Value} {g : Lg} {cv ev : Value} :
    Nb w (((w.alloc (.cells hc 65)).alloc (.cells (lgC g.base g.bt cv ev) 46)).alloc (.cells rs0 49)) hc g cv ev := by
  have b1 := below_box w (.cells hc 65)
  have a1 := Arr.new w 65 hc
  have s1 : (w.alloc (.cells hc 65)).heap.size = w.heap.size + 1 := by simp
  generalize w.alloc (.cells hc 65) = W1 at *
  have b2 := below_box W1 (.cells (lgC g.base g.bt cv ev) 46)
  have a2 := Arr.new W1 46 (lgC g.base g.bt cv ev)
  have s2 : (W1.alloc (.cells (lgC g.base g.bt cv ev) 46)).heap.size = w.heap.size + 1 + 1 := by simp [s1]
  rw [s1] at a2
  have a1' := a1.below b2
  generalize W1.alloc (.cells (lgC g.base g.bt cv ev) 46) = W2 at *
  have b3 := below_box W2 (.cells rs0 49)
  have a3 := Arr.new W2 49 rs0
  have s3 : (W2.alloc (.cells rs0 49)).heap.size = w.heap.size + 1 + 1 + 1 := by simp [s2]
  rw [s2] at a3
  exact ⟨a1'.below b3, a2.below b3, a3, (b1.trans (b2.mono (by omega))).trans (b3.mono (by omega)), by omega⟩
/-- A mind handed out, with an answer. -/
def NwOut (w : World) (s : Rs) (x : Int) (e : Ending) (w' : World) : Prop :=
  ∃ cv ev, e = .returned (.tuple #[.agg (rsC s cv ev (.slice none 0 0)), .int .i64 x]) ∧ rw.Own noSh w' w.heap.size cv s.g.conf ∧ rw.Own enSh w' w.heap.size ev s.g.es ∧ Below w.heap.size w w'
set_option maxHeartbeats 8000000 in
set_option maxRecDepth 100000 in
theorem new_any (id : Int) (t : Nat) (v : Int) (life : Nat) (g : Lg) (cv ev : Value) (img : Bs) (wait : Int) (hid : 1 ≤ id ∧ id ≤ 5) (hw : 1 ≤ wait ∧ wait ≤ 1000) (hfit : Rfit (began id t v g img wait)) (w : World) (h1 : rw.Sl noSh w cv g.conf) (h2 : rw.Sl enSh w ev g.es) :
    Calls Tryz.prog 22 #[.int .i64 id, .agg #[.int .u64 (t : Nat), .int .i64 v, .int .u64 (life : Nat)], g.v cv ev, .string (S img), .int .i64 wait] w (NwOut w (began id t v g img wait) 0) := by
  obtain ⟨ca, cc, rfl⟩ := sl_form h1
  obtain ⟨ea, ec, rfl⟩ := sl_form h2
  obtain ⟨n1, hn1⟩ : ∃ n, g.conf.length = n := ⟨_, rfl⟩
  obtain ⟨N, hN⟩ : ∃ n, g.es.length = n := ⟨_, rfl⟩
  rw [hn1] at h1 ⊢
  rw [hN] at h2 ⊢
  have HN := Lib.hid (And.intro hn1 hN)
  have H0 := Lib.hid (Nb.start (w := w) (hc := #[.int .u64 (t : Nat), .int .i64 v, .int .u64 (life : Nat)]) (g := g) (cv := .slice ca n1 cc) (ev := .slice ea N ec))
  have HCp := Lib.hid fun W (b : Below w.heap.size w W) => copy_any (began id t v g img wait) (.slice ca n1 cc) (.slice ea N ec) hfit W (h1.later _ b) (h2.later _ b)
  have hI := isNode_any id
  rw [decide_eq_true hid] at hI
  have HI := Lib.hid hI
  have q1 : ¬ wait < 1 := by omega
  have q2 : ¬ (1000 : Int) < wait := by omega
  clear h1 h2 hn1 hN hI hid hw hfit
  simp only [lgC, rs0] at H0 ⊢
  go_enter Tryz.func22, Tryz.ntmps22
  go_upto_region 1 with (fail)
  generalize w.alloc _ = W00 at H0 ⊢
  generalize W00.alloc _ = W01 at H0 ⊢
  generalize W01.alloc _ = W0 at H0 ⊢
  have hI := HI.out W0
  go_wp2_with fail
  with_reducible refine hI.mono ?_
  clear hI HI
  rintro e w1 ⟨rfl, rfl⟩
  go_upto_region 3 with (fail)
  clear q1 q2
  obtain ⟨x0, x1⟩ : W0.cell? ⟨w.heap.size, 0, none⟩ = some (.int .u64 (t : Nat)) ∧ W0.cell? ⟨w.heap.size, 1, none⟩ = some (.int .i64 v) := ⟨H0.out.h.cell rfl, H0.out.h.cell rfl⟩
  obtain ⟨y0, y1, y2, y3⟩ : W0.cell? ⟨w.heap.size + 1, 0, none⟩ = some (.int .u64 (g.base : Nat)) ∧ W0.cell? ⟨w.heap.size + 1, 1, none⟩ = some (.int .u64 (g.bt : Nat)) ∧ W0.cell? ⟨w.heap.size + 1, 2, none⟩ = some (.slice ca n1 cc) ∧ W0.cell? ⟨w.heap.size + 1, 3, none⟩ = some (.slice ea N ec) := ⟨H0.out.l.cell rfl, H0.out.l.cell rfl, H0.out.l.cell rfl, H0.out.l.cell rfl⟩
  have kb := below_box W0 (.cells (rsC (began id t v g img wait) (.slice ca n1 cc) (.slice ea N ec) (.slice none 0 0)) 49)
  have H2 := Lib.hid (H0.out.below kb)
  have HA := Lib.hid (Arr.new W0 49 (rsC (began id t v g img wait) (.slice ca n1 cc) (.slice ea N ec) (.slice none 0 0)))
  go_upto_region 4 with (first | (refine wpList_buildTo rfl 49 _ rfl _ rfl (rsC (began id t v g img wait) (.slice ca n1 cc) (.slice ea N ec) (.slice none 0 0)) (by kernel_rfl) ?_) | (refine wpList_store_row rfl 49 (.tmp 12) (.tmp 35) rfl _ _ rfl rfl 49 _ (Arr.new W0 _ _) (by kernel_rfl) rfl (rs_ones _ _ _ _ _ _ _ _ _ _) ?_))
  rw [alloc_row]
  clear kb x0 x1 y0 y1 y2 y3 H0
  generalize W0.alloc (.cells (rsC (began id t v g img wait) (.slice ca n1 cc) (.slice ea N ec) (.slice none 0 0)) 49) = w2 at *
  generalize W0.heap.size = sb at *
  have hC := HCp.out w2 H2.out.b
  go_wp2_with (refine wpList_load_row rfl 49 (.tmp 12) rfl _ rfl 49 _ (0, 0) _ HA.out Tryz.underlying49 rfl (by kernel_rfl) ?_)
  with_reducible refine hC.mono ?_
  clear hC HCp HA
  rintro e w3 ⟨cu, eu, rfl, o1, o2, b3⟩
  have H3 := Lib.hid (H2.out.below b3)
  have HO : Hid (NwOut w (began id t v g img wait) 0 (.returned (.tuple #[.agg (rsC (began id t v g img wait) cu eu (.slice none 0 0)), .int .i64 0])) (w3.setRow (w.heap.size + 1 + 1) (rsC (began id t v g img wait) cu eu (.slice none 0 0)))) := by
    have k := row_but w3 (w.heap.size + 1 + 1) (rsC (began id t v g img wait) cu eu (.slice none 0 0))
    have hs := H2.out.b.size
    exact ⟨cu, eu, rfl, own_lower (own_but o1 H3.out.r (by decide) k) hs, own_lower (own_but o2 H3.out.r (by decide) k) hs, H3.out.b.trans (k.below H3.out.b.size (by omega))⟩
  obtain ⟨ca', cc', hcu⟩ := o1.form
  obtain ⟨ea', ec', heu⟩ := o2.form
  rw [show (began id t v g img wait).g.conf.length = n1 from HN.out.1] at hcu
  rw [show (began id t v g img wait).g.es.length = N from HN.out.2] at heu
  subst hcu heu
  clear o1 o2 b3 H2
  have hz := Lib.hid (row_arr (cs := (rsC (began id t v g img wait) (.slice ca' n1 cc') (.slice ea' N ec') (.slice none 0 0))) H3.out.r)
  go_wp2_with (refine wpList_store_row rfl 49 (.tmp 10) (.tmp 37) rfl _ _ rfl rfl 49 _ H3.out.r (by kernel_rfl) rfl (rs_ones _ _ _ _ _ _ _ _ _ _) ?_)
  exact bodyPost_ret (results_rs2 rfl rfl rfl hz.out rfl) rfl HO.out
end Go.Proofs.YtmgmhnohocamfaaGreat.rf
