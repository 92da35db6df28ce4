/-
  What stands where: the program's reaches, upTo, termBehind.
-/
import Derived.Test.YtmgmhnohocamfaaGreatTlSpec
import Derived.Test.YtmgmhnohocamfaaGreatTlLg
namespace Go.Proofs.YtmgmhnohocamfaaGreat.tl
set_option linter.unusedVariables false
open Go.RowKit
open pk (S S_size S_data)
open qm (Bs noSh)
open rw (Arr But below_box bnext below_drew below_drewN)

theorem u64_in (x : Int) (h : 0 ≤ x ∧ x ≤ 18446744073709551615) : IntKind.u64.wrap x = x := by rw [IntKind.wrap_u64]; omega
set_option maxHeartbeats 2000000 in
set_option maxRecDepth 100000 in
theorem reaches_any (g : Lg) (cv ev : Value) (i : Nat) (hi : i < 18446744073709551616) (hf : Fit g) (w : World) (h : LV w cv ev g) :
    Calls Tryz.prog 151 #[g.v cv ev, .int .u64 (i : Nat)] w fun e w' => e = .returned (.bool (g.rch i)) ∧ Below w.heap.size w w' := by
  have hbx := h.box
  obtain ⟨a2, k2, rfl⟩ := sl_form h.l
  have hb := hf.base
  have hn := hf.es
  obtain ⟨r, hr⟩ : ∃ r, g.rch i = r := ⟨_, rfl⟩
  rw [hr]
  have HR := Lib.hid hr
  obtain ⟨n, hnn⟩ : ∃ n, g.es.length = n := ⟨_, rfl⟩
  have HN := Lib.hid hnn
  rw [hnn] at hn hbx
  obtain ⟨base, hbb⟩ : ∃ b, g.base = b := ⟨_, rfl⟩
  have HB := Lib.hid hbb
  rw [hbb] at hb hbx
  rw [hnn]
  simp only [Lg.v, hbb]
  have H0 := Lib.hid hbx
  clear h hr hbx hnn hbb hf
  go_enter Tryz.func151, Tryz.ntmps151
  go_upto_region 1 with (fail)
  generalize w.alloc (.cells #[.int .u64 (base : Nat), .int .u64 (g.bt : Nat), cv, .slice a2 n k2] 46) = W at *
  obtain ⟨x0, x1, x2, x3⟩ := H0.out.cells
  rw [HB.out] at x0
  have f2 : IntKind.u64.wrap (n : Int) = (n : Int) := u64_in _ (by omega)
  by_cases c1 : base ≤ i
  · have q1 : (i : Int) ≥ (base : Int) := by omega
    have q1' : decide ((i : Int) ≥ (base : Int)) = true := decide_eq_true q1
    have f1 : IntKind.u64.wrap ((i : Int) - (base : Int)) = ((i - base : Nat) : Int) := by
      rw [u64_in _ (by omega)]; omega
    obtain ⟨k, hk⟩ : ∃ k, i - base = k := ⟨_, rfl⟩
    rw [hk] at f1
    have HK : Hid (r = decide (k ≤ n)) := by show r = _; rw [← HR.out, Lg.rch, HB.out, HN.out, hk, decide_eq_true c1, Bool.true_and]
    clear HR hk
    go_wp2_with fail
    go_ret
    refine ⟨?_, H0.out.b⟩
    rw [HK.out]
    congr 2
  · have q1' : decide ((i : Int) ≥ (base : Int)) = false := decide_eq_false (by omega)
    have HK : Hid (r = false) := by show r = _; rw [← HR.out, Lg.rch, HB.out, decide_eq_false c1, Bool.false_and]
    clear HR
    go_wp2_with fail
    go_ret
    rw [HK.out]
    exact ⟨rfl, H0.out.b⟩
set_option maxHeartbeats 2000000 in
set_option maxRecDepth 100000 in
theorem upTo_any (g : Lg) (cv ev : Value) (i : Nat) (hi : i < 18446744073709551616) (hf : Fit g) (w : World) (h : LV w cv ev g) :
    Calls Tryz.prog 103 #[g.v cv ev, .int .u64 (i : Nat)] w fun e w' => e = .returned (.int .i64 (g.upTo i : Nat)) ∧ Below w.heap.size w w' := by
  have hbx := h.box
  obtain ⟨a2, k2, rfl⟩ := sl_form h.l
  have hb := hf.base
  have hn := hf.es
  obtain ⟨r, hr⟩ : ∃ r, g.upTo i = r := ⟨_, rfl⟩
  rw [hr]
  have HR := Lib.hid hr
  obtain ⟨n, hnn⟩ : ∃ n, g.es.length = n := ⟨_, rfl⟩
  have HN := Lib.hid hnn
  rw [hnn] at hn hbx
  obtain ⟨base, hbb⟩ : ∃ b, g.base = b := ⟨_, rfl⟩
  have HB := Lib.hid hbb
  rw [hbb] at hb hbx
  rw [hnn]
  simp only [Lg.v, hbb]
  have H0 := Lib.hid hbx
  clear h hr hbx hnn hbb hf
  go_enter Tryz.func103, Tryz.ntmps103
  go_upto_region 1 with (fail)
  generalize w.alloc (.cells #[.int .u64 (base : Nat), .int .u64 (g.bt : Nat), cv, .slice a2 n k2] 46) = W at *
  obtain ⟨x0, x1, x2, x3⟩ := H0.out.cells
  rw [HB.out] at x0
  have f2 : IntKind.u64.wrap (n : Int) = (n : Int) := u64_in _ (by omega)
  by_cases c1 : base ≤ i
  · have q1 : ¬ (i : Int) < (base : Int) := by omega
    have f1 : IntKind.u64.wrap ((i : Int) - (base : Int)) = ((i - base : Nat) : Int) := by
      rw [u64_in _ (by omega)]; omega
    obtain ⟨k, hk⟩ : ∃ k, i - base = k := ⟨_, rfl⟩
    rw [hk] at f1
    have HK : Hid (r = min k n) := by show r = _; rw [← HR.out, Lg.upTo, HB.out, HN.out, hk]
    have f3 : IntKind.i64.wrap (k : Int) = (k : Int) ∨ n < k := by
      by_cases hkn : n < k
      · exact .inr hkn
      · exact .inl (IntWalk.i64_in _ (by omega))
    have f4 : IntKind.i64.wrap (n : Int) = (n : Int) := IntWalk.i64_in _ (by omega)
    clear HR hk
    by_cases hkn : k ≤ n
    · have g1 : (k : Int) ≤ (n : Int) := by omega
      have f3 : IntKind.i64.wrap (k : Int) = (k : Int) := IntWalk.i64_in _ (by omega)
      have f5 : min (k : Int) (n : Int) = (k : Int) := by omega
      go_wp2_with fail
      go_ret
      rw [HK.out, Nat.min_eq_left hkn]
      exact ⟨rfl, H0.out.b⟩
    · have g1 : ¬ (k : Int) ≤ (n : Int) := by omega
      have f5 : min (k : Int) (n : Int) = (n : Int) := by omega
      go_wp2_with fail
      go_ret
      rw [HK.out, Nat.min_eq_right (by omega)]
      exact ⟨rfl, H0.out.b⟩
  · have q1 : (i : Int) < (base : Int) := by omega
    have HK : Hid (r = 0) := by show r = _; rw [← HR.out, Lg.upTo, HB.out]; omega
    clear HR
    go_wp2_with fail
    go_ret
    refine ⟨?_, H0.out.b⟩
    rw [HK.out]; rfl
set_option maxHeartbeats 2000000 in
set_option maxRecDepth 100000 in
theorem tb_any (g : Lg) (cv ev : Value) (n : Nat) (hn : n ≤ g.es.length) (hf : Fit g) (w : World) (h : LV w cv ev g) :
    Calls Tryz.prog 79 #[g.v cv ev, .int .i64 (n : Nat)] w fun e w' => e = .returned (.int .u64 (g.tb n : Nat)) ∧ Below w.heap.size w w' := by
  have hbx := h.box
  have hes := hf.es
  by_cases c : n = 0
  · subst c
    have HK : Hid (g.tb 0 = g.bt) := rfl
    have H0 := Lib.hid hbx
    clear h hbx
    go_enter Tryz.func79, Tryz.ntmps79
    go_upto_region 1 with (fail)
    generalize w.alloc (.cells #[.int .u64 (g.base : Nat), .int .u64 (g.bt : Nat), cv, ev] 46) = W at *
    obtain ⟨x0, x1, x2, x3⟩ := H0.out.cells
    go_wp2_with fail
    go_ret
    exact ⟨rfl, H0.out.b⟩
  · obtain ⟨m, rfl⟩ : ∃ m, n = m + 1 := ⟨n - 1, by omega⟩
    have hm : m < g.es.length := by omega
    obtain ⟨b, off, cc, e, hlt, c0, c1, c2⟩ := slE_at hbx.v.l hm
    obtain ⟨t, ht⟩ : ∃ t, g.tb (m + 1) = t := ⟨_, rfl⟩
    have ht2 : g.es[m].term = t := by
      rw [← ht, Lg.tb, if_neg (by omega), Nat.add_sub_cancel, List.getD_eq_getElem?_getD, List.getElem?_eq_getElem hm, Option.getD_some]
    rw [ht2] at c0
    rw [ht]
    obtain ⟨len, hlen⟩ : ∃ n, g.es.length = n := ⟨_, rfl⟩
    rw [hlen] at e hm
    subst e
    have H0 := Lib.hid hbx
    have q : (((m + 1 : Nat) : Int) == 0) = false := beq_eq_false_iff_ne.2 (by omega)
    have f1 : IntKind.i64.wrap (((m + 1 : Nat) : Int) - 1) = (m : Int) := by
      have : ((m + 1 : Nat) : Int) - 1 = (m : Int) := by omega
      rw [this]; exact IntWalk.i64_in _ (by omega)
    obtain ⟨M, hM⟩ : ∃ M, m + 1 = M := ⟨_, rfl⟩
    rw [hM] at q f1 ⊢
    have q1 : (m : Int) < (len : Int) := by omega
    clear h hbx c1 c2 ht ht2 hn hM hlen
    go_enter Tryz.func79, Tryz.ntmps79
    go_upto_region 1 with (fail)
    generalize w.alloc (.cells #[.int .u64 (g.base : Nat), .int .u64 (g.bt : Nat), cv, .slice (some ⟨b, off, none⟩) len cc] 46) = W at *
    obtain ⟨x0, x1, x2, x3⟩ := H0.out.cells
    go_wp2_with fail
    go_ret
    exact ⟨rfl, H0.out.b⟩
end Go.Proofs.YtmgmhnohocamfaaGreat.tl
