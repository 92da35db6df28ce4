/-
  The document's own comparisons: logs.
-/
import Derived.Test.YtmgmhnohocamfaaGreatTlSa
namespace Go.Proofs.YtmgmhnohocamfaaGreat.tl
set_option linter.unusedVariables false
set_option linter.unusedSimpArgs false
open Go.RowKit
open pk (S S_size S_data)
open qm (Bs noSh)
open rw (Arr But below_box bnext below_drew below_drewN)

/-- Two logs in their boxes. -/
structure Lb (w W : World) (x y : Nat) (b1 t1 b2 t2 : Nat) (cu eu cv ev : Value) (c1 c2 : List Int) (l1 l2 : List EnIn) : Prop where
  x : Arr W x 46 (lgC b1 t1 cu eu)
  y : Arr W y 46 (lgC b2 t2 cv ev)
  c1 : rw.Sl noSh W cu c1
  c2 : rw.Sl noSh W cv c2
  l1 : rw.Sl enSh W eu l1
  l2 : rw.Sl enSh W ev l2
  b : Below w.heap.size w W
theorem Lb.below {w W W' : World} {x y : Nat} {b1 t1 b2 t2 : Nat} {cu eu cv ev : Value} {c1 c2 : List Int} {l1 l2 : List EnIn} (h : Lb w W x y b1 t1 b2 t2 cu eu cv ev c1 c2 l1 l2) (k : Below W.heap.size W W') : Lb w W' x y b1 t1 b2 t2 cu eu cv ev c1 c2 l1 l2 :=
  ⟨h.x.below k, h.y.below k, h.c1.later _ k, h.c2.later _ k, h.l1.later _ k, h.l2.later _ k, h.b.trans (k.mono h.b.size)⟩
set_option maxHeartbeats 8000000 in
set_option maxRecDepth 100000 in
theorem sameLogs_any (b1 t1 b2 t2 : Nat) (cu eu cv ev : Value) (c1 c2 : List Int) (l1 l2 : List EnIn) (hc : c1.length ≤ 1000000000) (hl : l1.length ≤ 1000000000) (w : World) (h1 : rw.Sl noSh w cu c1) (h2 : rw.Sl noSh w cv c2) (h3 : rw.Sl enSh w eu l1) (h4 : rw.Sl enSh w ev l2) :
    Calls Tryz.prog 28 #[.agg #[.int .u64 (b1 : Nat), .int .u64 (t1 : Nat), cu, eu], .agg #[.int .u64 (b2 : Nat), .int .u64 (t2 : Nat), cv, ev]] w fun e w' => e = .returned (.bool (decide (b1 = b2 ∧ t1 = t2 ∧ c1 = c2 ∧ l1 = l2))) ∧ Below w.heap.size w w' := by
  obtain ⟨a1, k1, rfl⟩ := sl_form h1
  obtain ⟨a2, k2, rfl⟩ := sl_form h2
  obtain ⟨a3, k3, rfl⟩ := sl_form h3
  obtain ⟨a4, k4, rfl⟩ := sl_form h4
  obtain ⟨n1, hn1⟩ : ∃ n, c1.length = n := ⟨_, rfl⟩
  obtain ⟨n2, hn2⟩ : ∃ n, c2.length = n := ⟨_, rfl⟩
  obtain ⟨n3, hn3⟩ : ∃ n, l1.length = n := ⟨_, rfl⟩
  obtain ⟨n4, hn4⟩ : ∃ n, l2.length = n := ⟨_, rfl⟩
  rw [hn1] at h1
  rw [hn2] at h2
  rw [hn3] at h3
  rw [hn4] at h4
  rw [hn1, hn2, hn3, hn4]
  obtain ⟨r, hr⟩ : ∃ r, decide (b1 = b2 ∧ t1 = t2 ∧ c1 = c2 ∧ l1 = l2) = r := ⟨_, rfl⟩
  rw [hr]
  have HR := Lib.hid hr
  have HI := Lib.hid fun W (x : rw.Sl noSh W (.slice a1 n1 k1) c1) (y : rw.Sl noSh W (.slice a2 n2 k2) c2) => sameInts_any _ _ c1 c2 hc W x y
  have HE := Lib.hid fun W (x : rw.Sl enSh W (.slice a3 n3 k3) l1) (y : rw.Sl enSh W (.slice a4 n4 k4) l2) => sameEntries_any _ _ l1 l2 hl W x y
  obtain ⟨q, hq⟩ : ∃ q, w.heap.size = q := ⟨_, rfl⟩
  have H0 : Hid (Lb w ((w.alloc (.cells #[.int .u64 (b1 : Nat), .int .u64 (t1 : Nat), .slice a1 n1 k1, .slice a3 n3 k3] 46)).alloc (.cells #[.int .u64 (b2 : Nat), .int .u64 (t2 : Nat), .slice a2 n2 k2, .slice a4 n4 k4] 46)) w.heap.size (w.heap.size + 1) b1 t1 b2 t2 (.slice a1 n1 k1) (.slice a3 n3 k3) (.slice a2 n2 k2) (.slice a4 n4 k4) c1 c2 l1 l2) := by
    have j1 := below_box w (.cells #[.int .u64 (b1 : Nat), .int .u64 (t1 : Nat), .slice a1 n1 k1, .slice a3 n3 k3] 46)
    have x1 := Arr.new w 46 #[.int .u64 (b1 : Nat), .int .u64 (t1 : Nat), .slice a1 n1 k1, .slice a3 n3 k3]
    have hs : (w.alloc (.cells #[.int .u64 (b1 : Nat), .int .u64 (t1 : Nat), .slice a1 n1 k1, .slice a3 n3 k3] 46)).heap.size = w.heap.size + 1 := by simp
    have g1 := h1.later _ j1
    have g2 := h2.later _ j1
    have g3 := h3.later _ j1
    have g4 := h4.later _ j1
    generalize w.alloc (.cells #[.int .u64 (b1 : Nat), .int .u64 (t1 : Nat), .slice a1 n1 k1, .slice a3 n3 k3] 46) = W at *
    have j2 := below_box W (.cells #[.int .u64 (b2 : Nat), .int .u64 (t2 : Nat), .slice a2 n2 k2, .slice a4 n4 k4] 46)
    have x2 := Arr.new W 46 #[.int .u64 (b2 : Nat), .int .u64 (t2 : Nat), .slice a2 n2 k2, .slice a4 n4 k4]
    rw [hs] at x2
    exact ⟨x1.below j2, x2, g1.later _ j2, g2.later _ j2, g3.later _ j2, g4.later _ j2, j1.trans (j2.mono j1.size)⟩
  clear h1 h2 h3 h4 hr hn1 hn2 hn3 hn4 hq hc hl
  go_enter Tryz.func28, Tryz.ntmps28
  go_upto_region 1 with (fail)
  generalize (w.alloc (.cells #[.int .u64 (b1 : Nat), .int .u64 (t1 : Nat), .slice a1 n1 k1, .slice a3 n3 k3] 46)).alloc (.cells #[.int .u64 (b2 : Nat), .int .u64 (t2 : Nat), .slice a2 n2 k2, .slice a4 n4 k4] 46) = W0 at *
  obtain ⟨x0, x1, x2, x3⟩ : W0.cell? ⟨w.heap.size, 0, none⟩ = some (.int .u64 (b1 : Nat)) ∧ W0.cell? ⟨w.heap.size, 1, none⟩ = some (.int .u64 (t1 : Nat)) ∧ W0.cell? ⟨w.heap.size, 2, none⟩ = some (.slice a1 n1 k1) ∧ W0.cell? ⟨w.heap.size, 3, none⟩ = some (.slice a3 n3 k3) := ⟨H0.out.x.cell rfl, H0.out.x.cell rfl, H0.out.x.cell rfl, H0.out.x.cell rfl⟩
  obtain ⟨y0, y1, y2, y3⟩ : W0.cell? ⟨w.heap.size + 1, 0, none⟩ = some (.int .u64 (b2 : Nat)) ∧ W0.cell? ⟨w.heap.size + 1, 1, none⟩ = some (.int .u64 (t2 : Nat)) ∧ W0.cell? ⟨w.heap.size + 1, 2, none⟩ = some (.slice a2 n2 k2) ∧ W0.cell? ⟨w.heap.size + 1, 3, none⟩ = some (.slice a4 n4 k4) := ⟨H0.out.y.cell rfl, H0.out.y.cell rfl, H0.out.y.cell rfl, H0.out.y.cell rfl⟩
  by_cases e1 : b1 = b2
  · have e1i : ((b1 : Int) == (b2 : Int)) = true := beq_iff_eq.2 (by omega)
    by_cases e2 : t1 = t2
    · have e2i : ((t1 : Int) == (t2 : Int)) = true := beq_iff_eq.2 (by omega)
      have hI := HI.out W0 H0.out.c1 H0.out.c2
      by_cases e3 : c1 = c2
      · rw [decide_eq_true e3] at hI
        have HT : Hid (decide (l1 = l2) = r) := Lib.hid (by rw [← HR.out]; simp [e1, e2, e3])
        clear HR e1 e2 e3
        go_wp2_with fail
        refine hI.mono ?_
        clear hI x0 x1 x2 x3 y0 y1 y2 y3
        rintro e w2 ⟨rfl, b2'⟩
        have H2 := Lib.hid (H0.out.below b2')
        have hE := HE.out w2 H2.out.l1 H2.out.l2
        rw [HT.out] at hE
        have x3 : w2.cell? ⟨w.heap.size, 3, none⟩ = some (.slice a3 n3 k3) := H2.out.x.cell rfl
        have y3 : w2.cell? ⟨w.heap.size + 1, 3, none⟩ = some (.slice a4 n4 k4) := H2.out.y.cell rfl
        clear b2' H0
        go_wp2_with fail
        refine hE.mono ?_
        clear hE x3 y3
        rintro e w3 ⟨rfl, b3'⟩
        have B3 := Lib.hid (H2.out.below b3').b
        clear b3' H2 HT
        go_wp2_with fail
        go_ret
        exact ⟨rfl, B3.out⟩
      · rw [decide_eq_false e3] at hI
        have HT : Hid (false = r) := Lib.hid (by rw [← HR.out]; simp [e3])
        clear HR e1 e2 e3
        go_wp2_with fail
        refine hI.mono ?_
        clear hI x0 x1 x2 x3 y0 y1 y2 y3
        rintro e w2 ⟨rfl, b2'⟩
        have B2 := Lib.hid (H0.out.below b2').b
        clear b2' H0
        go_wp2_with fail
        go_ret
        rw [← HT.out]
        exact ⟨rfl, B2.out⟩
    · have e2i : ((t1 : Int) == (t2 : Int)) = false := beq_eq_false_iff_ne.2 (by omega)
      have HT : Hid (false = r) := Lib.hid (by rw [← HR.out]; simp [e2])
      clear HR e1 e2
      go_wp2_with fail
      go_ret
      rw [← HT.out]
      exact ⟨rfl, H0.out.b⟩
  · have e1i : ((b1 : Int) == (b2 : Int)) = false := beq_eq_false_iff_ne.2 (by omega)
    have HT : Hid (false = r) := Lib.hid (by rw [← HR.out]; simp [e1])
    clear HR e1
    go_wp2_with fail
    go_ret
    rw [← HT.out]
    exact ⟨rfl, H0.out.b⟩


end Go.Proofs.YtmgmhnohocamfaaGreat.tl
