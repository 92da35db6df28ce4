/-
  What stands where: the document's Entry, Term, Last.
-/
import Derived.Test.YthhnhnljefiboaaTlP9
namespace Go.Proofs.Ythhnhnljefiboaa.tl
set_option linter.unusedVariables false
open Go.RowKit
open pk (S S_size S_data)
open qm (Bs noSh)
open rw (Arr But below_box bnext below_drew below_drewN)

/-- The entry at an index. -/
def Lg.ent (g : Lg) (i : Nat) : EnIn × Bool := if g.base < i ∧ i ≤ g.last then (g.es.getD (i - g.base - 1) e0, true) else (e0, false)
theorem Lg.ent_at {g : Lg} {k : Nat} (h : k < g.es.length) : g.ent (g.base + 1 + k) = (g.es[k], true) := by
  unfold Lg.ent Lg.last
  rw [if_pos ⟨by omega, by omega⟩, show g.base + 1 + k - g.base - 1 = k by omega, getD_at h]
theorem Lg.ent_no {g : Lg} {i : Nat} (h : ∀ j, j < g.es.length → g.base + 1 + j ≠ i) : g.ent i = (e0, false) := by
  unfold Lg.ent Lg.last
  refine if_neg fun hh => ?_
  exact h (i - g.base - 1) (by omega) (by omega)
theorem Lg.term_ent (g : Lg) (i : Nat) : g.term i = if i = g.base then (g.bt, true) else ((g.ent i).1.term, (g.ent i).2) := by
  by_cases h : i = g.base
  · rw [if_pos h, Lg.term_yes (Lg.rch_iff.2 ⟨by omega, by unfold Lg.last; omega⟩)]
    have : g.upTo i = 0 := by unfold Lg.upTo; omega
    rw [this]; rfl
  · rw [if_neg h]
    by_cases h2 : g.base < i ∧ i ≤ g.last
    · have hr : g.rch i = true := Lg.rch_iff.2 ⟨by omega, h2.2⟩
      rw [Lg.term_yes hr, Lg.ent, if_pos h2, Lg.upTo_of hr]
      unfold Lg.tb
      rw [if_neg (by omega)]
    · have hr : g.rch i = false := by rw [← Bool.not_eq_true, Lg.rch_iff]; omega
      rw [Lg.term_no hr, Lg.ent, if_neg h2]; rfl
def enC (x : EnIn) : Array Value := #[.int .u64 (x.term : Nat), .int .i64 x.kind, .string (S x.data)]
/-- An entry handed out, with an answer. -/
def EnOut (w : World) (r : EnIn × Bool) (e : Ending) (w' : World) : Prop := e = .returned (.tuple #[.agg #[.int .u64 (r.1.term : Nat), .int .i64 r.1.kind, .string (S r.1.data)], .bool r.2]) ∧ Below w.heap.size w w'
theorem results_en {w : World} {fn : Func} {tmps : Array Value} {t u rb : Nat} {x : EnIn} {v : Value} (h : fn.results = #[.cell t 54, .tmp u]) (h2 : tmps[t]? = some (.pointer (some ⟨rb, 0, none⟩))) (h3 : tmps[u]? = some v)
    (hC : Arr w rb 54 (enC x)) :
    (results fn tmps).run Try.prog w = .ok (.tuple #[.agg (enC x), v]) w := by
  have z0 := hC.cell (j := 0) rfl
  have z1 := hC.cell (j := 1) rfl
  have z2 := hC.cell (j := 2) rfl
  simp [results, h, h2, h3, go_sem, z0, z1, z2, enC]
/-- A log in its box; the result's box, empty. -/
structure En (w W : World) (cv ev : Value) (g : Lg) : Prop where
  fg : Arr W w.heap.size 26 (lgC g.base g.bt cv ev)
  fr : Arr W (w.heap.size + 1) 54 #[.int .u64 0, .int .i64 0, .string ⟨#[]⟩]
  v : LV W cv ev g
  b : Below w.heap.size w W
theorem En.cg {w W : World} {cv ev : Value} {g : Lg} (a : En w W cv ev g) :
    W.cell? ⟨w.heap.size, 0, none⟩ = some (.int .u64 (g.base : Nat)) ∧ W.cell? ⟨w.heap.size, 1, none⟩ = some (.int .u64 (g.bt : Nat)) ∧ W.cell? ⟨w.heap.size, 2, none⟩ = some cv ∧ W.cell? ⟨w.heap.size, 3, none⟩ = some ev := ⟨a.fg.cell rfl, a.fg.cell rfl, a.fg.cell rfl, a.fg.cell rfl⟩
theorem En.cr {w W : World} {cv ev : Value} {g : Lg} (a : En w W cv ev g) :
    W.cell? ⟨w.heap.size + 1, 0, none⟩ = some (.int .u64 0) ∧ W.cell? ⟨w.heap.size + 1, 1, none⟩ = some (.int .i64 0) ∧ W.cell? ⟨w.heap.size + 1, 2, none⟩ = some (.string ⟨#[]⟩) ∧ W.frozen? ⟨w.heap.size + 1, 0, none⟩ = false ∧ W.frozen? ⟨w.heap.size + 1, 1, none⟩ = false ∧ W.frozen? ⟨w.heap.size + 1, 2, none⟩ = false := ⟨a.fr.cell rfl, a.fr.cell rfl, a.fr.cell rfl, a.fr.frozen 0, a.fr.frozen 1, a.fr.frozen 2⟩
theorem En.start {w : World} {cv ev : Value} {g : Lg} (a : LV w cv ev g) : En w ((w.alloc (.cells #[.int .u64 (g.base : Nat), .int .u64 (g.bt : Nat), cv, ev] 26)).alloc (.cells #[.int .u64 0, .int .i64 0, .string ⟨#[]⟩] 54)) cv ev g := by
  have b1 := a.box
  have s1 : (w.alloc (.cells #[.int .u64 (g.base : Nat), .int .u64 (g.bt : Nat), cv, ev] 26)).heap.size = w.heap.size + 1 := by simp
  generalize w.alloc (.cells #[.int .u64 (g.base : Nat), .int .u64 (g.bt : Nat), cv, ev] 26) = W1 at *
  have k2 := below_box W1 (.cells #[.int .u64 0, .int .i64 0, .string ⟨#[]⟩] 54)
  have a2 := Arr.new W1 54 #[.int .u64 0, .int .i64 0, .string ⟨#[]⟩]
  have b2 := b1.below k2
  rw [s1] at a2
  exact ⟨b2.a, a2, b2.v, b2.b⟩
def layEn (W : World) (rb : Nat) (x : EnIn) : World := ((W.setCell ⟨rb, 0, none⟩ (.int .u64 (x.term : Nat))).setCell ⟨rb, 1, none⟩ (.int .i64 x.kind)).setCell ⟨rb, 2, none⟩ (.string (S x.data))
theorem En.done {w W : World} {cv ev : Value} {g : Lg} (a : En w W cv ev g) (x : EnIn) : Arr (layEn W (w.heap.size + 1) x) (w.heap.size + 1) 54 (enC x) ∧ Below w.heap.size w (layEn W (w.heap.size + 1) x) := by
  have k : But (w.heap.size + 1) W (layEn W (w.heap.size + 1) x) := (((But.refl _ W).set 0 _).set 1 _).set 2 _
  exact ⟨((a.fr.set 0 _).set 1 _).set 2 _, a.b.trans (k.below a.b.size (by omega))⟩
set_option maxHeartbeats 4000000 in
set_option maxRecDepth 100000 in
theorem entry_any (g : Lg) (cv ev : Value) (i : Nat) (hi : i < 18446744073709551616) (hf : Fit g) (w : World) (h : LV w cv ev g) :
    Calls Try.prog 40 #[g.v cv ev, .int .u64 (i : Nat)] w (EnOut w (g.ent i)) := by
  obtain ⟨a2, k2, rfl⟩ := sl_form h.l
  have H0 := Lib.hid (En.start h)
  have hb := hf.base
  have hn := hf.es
  obtain ⟨R, hR⟩ : ∃ R, g.ent i = R := ⟨_, rfl⟩
  rw [hR]
  have HR := Lib.hid hR
  obtain ⟨N, hN⟩ : ∃ N, g.es.length = N := ⟨_, rfl⟩
  have HN := Lib.hid hN
  rw [hN] at H0 hn ⊢
  obtain ⟨b1, hb1⟩ : ∃ b, g.base + 1 = b := ⟨_, rfl⟩
  have HB1 := Lib.hid hb1
  have f1 : IntKind.u64.wrap ((g.base : Int) + 1) = (b1 : Int) := by rw [u64_in _ (by omega)]; omega
  have hb1l : b1 ≤ 4611686018427387904 + 1000001 := by omega
  clear h hf hR hN hb1
  go_enter Try.func40, Try.ntmps40
  go_upto_region 1 with (fail)
  generalize (w.alloc (.cells #[.int .u64 (g.base : Nat), .int .u64 (g.bt : Nat), cv, .slice a2 N k2] 26)).alloc (.cells #[.int .u64 0, .int .i64 0, .string ⟨#[]⟩] 54) = W at *
  obtain ⟨x0, x1, x2, x3⟩ := H0.out.cg
  obtain ⟨y0, y1, y2, r0, r1, r2⟩ := H0.out.cr
  go_wp2_with fail
  go_loopw [6] (fun iv wr => ∃ k : Nat, iv = .int .i64 (k : Nat) ∧ k ≤ N ∧ wr = W ∧ Hid (∀ j, j < k → g.base + 1 + j ≠ i))
    (fun iv _ => N - (intOf iv).toNat)
  case atStart => exact ⟨0, rfl, Nat.zero_le _, rfl, fun j hj => absurd hj (Nat.not_lt_zero _)⟩
  case round =>
    obtain ⟨k, rfl, hk, rfl, HI⟩ := hrel
    by_cases hlt : k < N
    · have hki : (k : Int) < (N : Int) := by omega
      have hkl : k < g.es.length := by rw [HN.out]; exact hlt
      have f2 : IntKind.u64.wrap (k : Int) = (k : Int) := u64_in _ (by omega)
      obtain ⟨z, hz⟩ : ∃ z, b1 + k = z := ⟨_, rfl⟩
      have f3 : IntKind.u64.wrap ((b1 : Int) + (k : Int)) = (z : Int) := by rw [u64_in _ (by omega)]; omega
      by_cases he : z = i
      · have q1 : ((z : Int) == (i : Int)) = true := beq_iff_eq.2 (by omega)
        have q2 : decide (z = i) = true := decide_eq_true he
        have HX : Hid (R = (g.es[k], true)) := by
          show R = _
          rw [← HR.out, ← Lg.ent_at hkl]
          congr 1
          have := HB1.out
          omega
        obtain ⟨b, off, c, e, hbw, c0, c1, c2⟩ := slE_at H0.out.v.l hkl
        rw [HN.out] at e
        injection e with e1 e2 e3
        subst e1 e3
        clear e2 q2
        have HD := Lib.hid (H0.out.done g.es[k])
        generalize g.es[k] = x at *
        obtain ⟨xt, xk, xd⟩ := x
        simp only at c0 c1 c2
        clear HI he hbw hkl hz
        go_wp2_with fail
        rw [HX.out]
        exact bodyPost_ret (results_en rfl rfl rfl HD.out.1) rfl ⟨rfl, HD.out.2⟩
      · have q1 : ((z : Int) == (i : Int)) = false := beq_eq_false_iff_ne.2 (by omega)
        have q2 : decide (z = i) = false := decide_eq_false he
        have HI2 : Hid (∀ j, j < k + 1 → g.base + 1 + j ≠ i) := fun j hj => by
          by_cases e : j = k
          · have := HB1.out; omega
          · exact HI.out j (by omega)
        clear HI he hkl hz
        go_wp2_with fail
        exact ⟨⟨k + 1, by rw [Int.natCast_add]; rfl, by omega, by first | rfl | trivial, HI2⟩, by simp only [intOf]; omega⟩
    · obtain rfl : k = N := by omega
      have hki : ¬ (k : Int) < (k : Int) := by omega
      have HX : Hid (R = (e0, false)) := by
        show R = _
        rw [← HR.out]
        exact Lg.ent_no fun j hj => HI.out j (by rw [← HN.out]; exact hj)
      have HD := Lib.hid (H0.out.done e0)
      clear HI
      go_wp2_with fail
      rw [HX.out]
      exact bodyPost_ret (results_en rfl rfl rfl HD.out.1) rfl ⟨rfl, HD.out.2⟩
end Go.Proofs.Ythhnhnljefiboaa.tl
