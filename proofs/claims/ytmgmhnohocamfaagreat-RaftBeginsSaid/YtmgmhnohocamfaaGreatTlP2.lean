/-
  What stands where: the program's Term, Last, Newer.
-/
import Derived.Test.YtmgmhnohocamfaaGreatTlP1
namespace Go.Proofs.YtmgmhnohocamfaaGreat.tl
set_option linter.unusedVariables false
open Go.RowKit
open pk (S S_size S_data)
open qm (Bs noSh)
open rw (Arr But below_box bnext below_drew below_drewN)

theorem Bx.drew {w W : World} {b : Nat} {cv ev : Value} {g : Lg} (h : Bx w W b cv ev g) : Bx w W.drew b cv ev g := h.below (below_drew (Below.refl _ _))
set_option maxHeartbeats 2000000 in
set_option maxRecDepth 100000 in
theorem term_any (g : Lg) (cv ev : Value) (i : Nat) (hi : i < 18446744073709551616) (hf : Fit g) (w : World) (h : LV w cv ev g) :
    Calls Tryz.prog 125 #[g.v cv ev, .int .u64 (i : Nat)] w fun e w' => e = .returned (.tuple #[.int .u64 ((g.term i).1 : Nat), .bool (g.term i).2]) ∧ Below w.heap.size w w' := by
  have H0 := Lib.hid h.box
  have HR := Lib.hid fun W b => reaches_any g cv ev i hi hf W (h.later b)
  have HU := Lib.hid fun W b => upTo_any g cv ev i hi hf W (h.later b)
  have HT := Lib.hid fun W b => tb_any g cv ev (g.upTo i) (g.upTo_le i) hf W (h.later b)
  obtain ⟨r, hr⟩ : ∃ r, g.rch i = r := ⟨_, rfl⟩
  rw [hr] at HR
  obtain ⟨u, hu⟩ : ∃ u, g.upTo i = u := ⟨_, rfl⟩
  rw [hu] at HU HT
  obtain ⟨t, ht⟩ : ∃ t, g.tb u = t := ⟨_, rfl⟩
  rw [ht] at HT
  have HA : Hid (g.term i = if r then (t, true) else (0, false)) := by show _ = _; rw [Lg.term, hr, hu, ht]
  clear h hr hu ht hf
  go_enter Tryz.func125, Tryz.ntmps125
  go_upto_region 1 with (fail)
  generalize w.alloc (.cells #[.int .u64 (g.base : Nat), .int .u64 (g.bt : Nat), cv, ev] 46) = W at *
  obtain ⟨x0, x1, x2, x3⟩ := H0.out.cells
  have hR := HR.out W H0.out.b
  cases r with
  | false =>
    go_wp2_with fail
    refine hR.mono ?_
    clear hR
    rintro e w2 ⟨rfl, b2⟩
    have B2 := Lib.hid (H0.out.b.trans (b2.mono H0.out.b.size))
    clear b2
    go_wp2_with fail
    go_ret2
    rw [HA.out]
    exact ⟨rfl, B2.out⟩
  | true =>
    go_upto_region 1 with (fail)
    go_wp2_with fail
    refine hR.mono ?_
    clear hR x0 x1 x2 x3
    rintro e w2 ⟨rfl, b2⟩
    have H2 := Lib.hid (H0.out.below b2).drew
    clear b2 H0
    obtain ⟨x0, x1, x2, x3⟩ := H2.out.cells
    go_upto_region 3 with (fail)
    have hU := HU.out w2.drew H2.out.b
    go_region_law
      (first
        | (go_simp; go_at_call 103; refine hU.mono ?_; rintro e w3 ⟨rfl, b3⟩; have H3 := Lib.hid (H2.out.below b3); have hT := HT.out w3 H3.out.b; obtain ⟨z0, z1, z2, z3⟩ := H3.out.cells; clear b3 hU)
        | (go_simp; go_at_call 79; refine hT.mono ?_; rintro e w4 ⟨rfl, b4⟩; have B4 := Lib.hid (H3.out.b.trans (b4.mono H3.out.b.size)); clear b4 hT))
    all_goals go_wp2_with fail
    all_goals go_ret2
    all_goals rw [HA.out]
    all_goals exact ⟨rfl, B4.out⟩
set_option maxHeartbeats 2000000 in
set_option maxRecDepth 100000 in
theorem last_any (g : Lg) (cv ev : Value) (hf : Fit g) (w : World) (h : LV w cv ev g) :
    Calls Tryz.prog 47 #[g.v cv ev] w fun e w' => e = .returned (.tuple #[.int .u64 (g.last : Nat), .int .u64 (g.lastT : Nat)]) ∧ Below w.heap.size w w' := by
  obtain ⟨a2, k2, rfl⟩ := sl_form h.l
  have H0 := Lib.hid h.box
  have HT := Lib.hid fun W b => tb_any g cv (.slice a2 g.es.length k2) g.es.length (Nat.le_refl _) hf W (h.later b)
  have hb := hf.base
  have hn := hf.es
  obtain ⟨t, ht⟩ : ∃ t, g.tb g.es.length = t := ⟨_, rfl⟩
  rw [ht] at HT
  obtain ⟨n, hnn⟩ : ∃ n, g.es.length = n := ⟨_, rfl⟩
  rw [hnn] at HT H0 hn
  obtain ⟨s, hs⟩ : ∃ s, g.base + n = s := ⟨_, rfl⟩
  have HA : Hid (g.last = s ∧ g.lastT = t) := ⟨by rw [Lg.last, hnn, hs], by rw [Lg.lastT, ht]⟩
  have f1 : IntKind.u64.wrap (n : Int) = (n : Int) := u64_in _ (by omega)
  have f2 : IntKind.u64.wrap ((g.base : Int) + (n : Int)) = (s : Int) := by rw [u64_in _ (by omega)]; omega
  rw [hnn]
  clear h ht hf hs hnn
  go_enter Tryz.func47, Tryz.ntmps47
  go_upto_region 1 with (fail)
  generalize w.alloc (.cells #[.int .u64 (g.base : Nat), .int .u64 (g.bt : Nat), cv, .slice a2 n k2] 46) = W at *
  have H2 := Lib.hid H0.out.drew
  clear H0
  obtain ⟨x0, x1, x2, x3⟩ := H2.out.cells
  have hT := HT.out W.drew H2.out.b
  have kx := H2.out.cells
  go_region_held3 (fun W => W.cell? ⟨w.heap.size, 0, none⟩ = some (.int .u64 (g.base : Nat)) ∧ W.cell? ⟨w.heap.size, 1, none⟩ = some (.int .u64 (g.bt : Nat)) ∧ W.cell? ⟨w.heap.size, 2, none⟩ = some cv ∧ W.cell? ⟨w.heap.size, 3, none⟩ = some (.slice a2 n k2))
    (first | (with_reducible exact kx) | (with_reducible exact ky))
    (first
      | (go_at_call 79; with_reducible refine hT.mono ?_; rintro e w4 ⟨rfl, b4⟩; have H4 := Lib.hid (H2.out.below b4); have ky := H4.out.cells; clear b4 hT))
  go_wp2_with fail
  go_ret2
  rw [HA.out.1, HA.out.2]
  exact ⟨rfl, H4.out.b⟩
end Go.Proofs.YtmgmhnohocamfaaGreat.tl
