/-
  What stands where: the program's Slice.
-/
import Derived.Test.YtmgmhnohocamfaaGreatTlP3
namespace Go.Proofs.YtmgmhnohocamfaaGreat.tl
set_option linter.unusedVariables false
open Go.RowKit
open pk (S S_size S_data)
open qm (Bs noSh)
open rw (Arr But below_box bnext below_drew below_drewN)

/-- Entries handed out: a new row. -/
def EOut (w : World) (l : List EnIn) (e : Ending) (w' : World) : Prop := ∃ v, e = .returned v ∧ rw.Own enSh w' w.heap.size v l ∧ Below w.heap.size w w'
theorem EOut.none {w w' : World} {l : List EnIn} (h : l = []) (b : Below w.heap.size w w') : EOut w l (.returned (.slice .none 0 0)) w' := by subst h; exact ⟨_, rfl, rw.Own.nil _ _ _, b⟩
set_option maxHeartbeats 4000000 in
set_option maxRecDepth 100000 in
theorem slice_any (g : Lg) (cv ev : Value) (f : Nat) (most : Int) (hi : f < 18446744073709551616) (hm : -9223372036854775808 ≤ most ∧ most ≤ 9223372036854775807) (hf : Fit g) (w : World) (h : LV w cv ev g) :
    Calls Tryz.prog 135 #[g.v cv ev, .int .u64 (f : Nat), .int .i64 most] w (EOut w (g.slice f most)) := by
  obtain ⟨a2, k2, rfl⟩ := sl_form h.l
  have H0 := Lib.hid h.box
  have HR := Lib.hid fun W b => reaches_any g cv (.slice a2 g.es.length k2) f hi hf W (h.later b)
  have HU := Lib.hid fun W b => upTo_any g cv (.slice a2 g.es.length k2) f hi hf W (h.later b)
  obtain ⟨r, hr⟩ : ∃ r, g.rch f = r := ⟨_, rfl⟩
  rw [hr] at HR
  have HE := Lib.hid hf.e
  have hes := hf.es
  obtain ⟨R, hRR⟩ : ∃ R, g.slice f most = R := ⟨_, rfl⟩
  rw [hRR]
  have HG := Lib.hid hRR
  clear hRR
  obtain ⟨N, hN⟩ : ∃ n, g.es.length = n := ⟨_, rfl⟩
  have HN := Lib.hid hN
  have HF := Lib.hid h.l
  rw [hN] at H0 HR HU HF ⊢
  rw [hN] at hes
  cases r with
  | false =>
    have HX : Hid (R = []) := by
      show R = []
      rw [← HG.out, Lg.slice, if_neg]
      intro hc
      have : g.rch f = true := Lg.rch_iff.2 ⟨by omega, hc.2.1⟩
      rw [hr] at this; cases this
    clear h hf hr hN
    go_enter Tryz.func135, Tryz.ntmps135
    go_upto_region 1 with (fail)
    generalize w.alloc (.cells #[.int .u64 (g.base : Nat), .int .u64 (g.bt : Nat), cv, .slice a2 N k2] 46) = W at *
    obtain ⟨x0, x1, x2, x3⟩ := H0.out.cells
    have hR := HR.out W H0.out.b
    go_wp2_with fail
    refine hR.mono ?_
    clear hR
    rintro e w2 ⟨rfl, b2⟩
    have B2 := Lib.hid (H0.out.b.trans (b2.mono H0.out.b.size))
    clear b2
    go_wp2_with fail
    go_ret
    exact EOut.none HX.out B2.out
  | true =>
    have hri := Lg.rch_iff.1 hr
    have hbm := hf.base
    by_cases c1 : f = g.base
    · have HX : Hid (R = []) := by
        show R = []
        rw [← HG.out, Lg.slice, if_neg]
        omega
      have q1 : ((f : Int) == (g.base : Int)) = true := beq_iff_eq.2 (by omega)
      have q1' : decide (f = g.base) = true := decide_eq_true c1
      clear h hf hr hN c1 hri
      go_enter Tryz.func135, Tryz.ntmps135
      go_upto_region 1 with (fail)
      generalize w.alloc (.cells #[.int .u64 (g.base : Nat), .int .u64 (g.bt : Nat), cv, .slice a2 N k2] 46) = W at *
      obtain ⟨x0, x1, x2, x3⟩ := H0.out.cells
      have hR := HR.out W H0.out.b
      go_wp2_with fail
      refine hR.mono ?_
      clear hR x0 x1 x2 x3
      rintro e w2 ⟨rfl, b2⟩
      have H2 := Lib.hid (H0.out.below b2)
      clear b2
      obtain ⟨x0, x1, x2, x3⟩ := H2.out.cells
      go_wp2_with fail
      go_ret
      exact EOut.none HX.out H2.out.b
    · have q1 : ((f : Int) == (g.base : Int)) = false := beq_eq_false_iff_ne.2 (by omega)
      have q1' : decide (f = g.base) = false := decide_eq_false c1
      by_cases c2 : most < 1
      · have HX : Hid (R = []) := by
          show R = []
          rw [← HG.out, Lg.slice, if_neg]
          omega
        have q2' : decide (most < 1) = true := decide_eq_true c2
        clear h hf hr hN c1 hri c2
        go_enter Tryz.func135, Tryz.ntmps135
        go_upto_region 1 with (fail)
        generalize w.alloc (.cells #[.int .u64 (g.base : Nat), .int .u64 (g.bt : Nat), cv, .slice a2 N k2] 46) = W at *
        obtain ⟨x0, x1, x2, x3⟩ := H0.out.cells
        have hR := HR.out W H0.out.b
        go_wp2_with fail
        refine hR.mono ?_
        clear hR x0 x1 x2 x3
        rintro e w2 ⟨rfl, b2⟩
        have H2 := Lib.hid (H0.out.below b2)
        clear b2
        obtain ⟨x0, x1, x2, x3⟩ := H2.out.cells
        go_wp2_with fail
        go_ret
        exact EOut.none HX.out H2.out.b
      · have q2' : decide (most < 1) = false := decide_eq_false c2
        obtain ⟨m, hmm⟩ : ∃ m, f = g.base + m + 1 := ⟨f - g.base - 1, by omega⟩
        have hup : g.upTo f = m + 1 := by rw [Lg.upTo_of hr]; omega
        rw [hup] at HU
        have hlast : g.base + m + 1 ≤ g.base + N := by have := hri.2; rw [Lg.last, hN] at this; omega
        obtain ⟨n, hn⟩ : ∃ n, m + n = N := ⟨N - m, by omega⟩
        obtain ⟨a3, k3, hs3, hS3⟩ := cut_from .i64 h.l m n (by omega)
        rw [hN] at hs3 hS3
        have f1 : IntKind.i64.wrap (((m + 1 : Nat) : Int) - 1) = (m : Int) := by
          have : ((m + 1 : Nat) : Int) - 1 = (m : Int) := by omega
          rw [this]; exact IntWalk.i64_in _ (by omega)
        obtain ⟨M, hM⟩ : ∃ M, m + 1 = M := ⟨_, rfl⟩
        rw [hM] at HU f1
        obtain ⟨z, hz⟩ : ∃ z : Nat, z = min most.toNat n := ⟨_, rfl⟩
        have hzl : z ≤ (g.es.drop m).length := by rw [List.length_drop]; omega
        have hdl : (g.es.drop m).length = n := by rw [List.length_drop]; omega
        have h4 := hS3 w HF.out
        rw [← hdl] at h4
        obtain ⟨a4, k4, hs4, hS4⟩ := cut_upto .i64 h4 z hzl
        rw [hdl] at hs4 hS4
        have HX : Hid (R = (g.es.drop m).take z) := by
          show R = _
          rw [← HG.out, Lg.slice, if_pos ⟨by omega, hri.2, by omega⟩, show f - g.base - 1 = m by omega]
          by_cases hc : most.toNat ≤ n
          · rw [show z = most.toNat by omega]
          · rw [List.take_of_length_le (by omega), List.take_of_length_le (by omega)]
        have HS3 := Lib.hid hS3
        have HS4 := Lib.hid hS4
        have HC := Lib.hid fun W v => copy_any v ((g.es.drop m).take z) (by rw [List.length_take]; omega) (fun x hx => (HE.out x (List.mem_of_mem_drop (List.mem_of_mem_take hx))).2) W
        have HD : Hid (((g.es.drop m).take z).length = z) := by show _ = _; rw [List.length_take]; omega
        have f5 : min most (n : Int) = (z : Int) := by omega
        clear h hf hr hN c1 hri c2 hup hmm hM hlast h4 hdl hzl hz hS3 hS4 hn HG
        go_enter Tryz.func135, Tryz.ntmps135
        go_upto_region 1 with (fail)
        generalize w.alloc (.cells #[.int .u64 (g.base : Nat), .int .u64 (g.bt : Nat), cv, .slice a2 N k2] 46) = W at *
        obtain ⟨x0, x1, x2, x3⟩ := H0.out.cells
        have hR := HR.out W H0.out.b
        go_wp2_with fail
        refine hR.mono ?_
        clear hR x0 x1 x2 x3
        rintro e w2 ⟨rfl, b2⟩
        have H2 := Lib.hid (H0.out.below b2)
        clear b2
        obtain ⟨x0, x1, x2, x3⟩ := H2.out.cells
        go_upto_region 3 with (fail)
        clear x0 x1 x2 x3
        have H3 := Lib.hid H2.out.drew
        have kx := H3.out.cells
        have hU := HU.out w2.drew H3.out.b
        go_region_held3 (fun W => W.cell? ⟨w.heap.size, 0, none⟩ = some (.int .u64 (g.base : Nat)) ∧ W.cell? ⟨w.heap.size, 1, none⟩ = some (.int .u64 (g.bt : Nat)) ∧ W.cell? ⟨w.heap.size, 2, none⟩ = some cv ∧ W.cell? ⟨w.heap.size, 3, none⟩ = some (.slice a2 N k2))
          (first | (with_reducible exact kx) | (with_reducible exact ky))
          (first
            | (go_at_call 103; with_reducible refine hU.mono ?_; rintro e w4 ⟨rfl, b4⟩; have H4 := Lib.hid (H3.out.below b4); have ky := H4.out.cells; clear b4 hU))
        clear kx ky
        go_upto_region 4 with (fail)
        have hC := HC.out w4 _ (HS4.out w4 (HS3.out w4 (HF.out.later _ H4.out.b)))
        go_wp2_with fail
        with_reducible refine hC.mono ?_
        clear hC
        rintro e w5 ⟨v, rfl, o5, b5⟩
        have O5 := Lib.hid (own_lower o5 H4.out.b.size)
        have B5 := Lib.hid (H4.out.b.trans (b5.mono H4.out.b.size))
        clear o5 b5
        go_wp2_with fail
        go_ret
        rw [HX.out]
        exact ⟨_, rfl, O5.out, B5.out⟩
end Go.Proofs.YtmgmhnohocamfaaGreat.tl
