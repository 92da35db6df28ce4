/-
  Right logs: the program's Right.
-/
import Derived.Test.YthhnhnljefiboaaTlP2
namespace Go.Proofs.Ythhnhnljefiboaa.tl
set_option linter.unusedVariables false
open Go.RowKit
open pk (S S_size S_data)
open qm (Bs noSh)
open rw (Arr But below_box bnext below_drew below_drewN)

/-- What stands at a place is right. -/
def Good (g : Lg) (j : Nat) : Prop := 1 ≤ (g.es.getD j e0).kind ∧ (g.es.getD j e0).kind ≤ 3 ∧ g.tb j ≤ (g.es.getD j e0).term
theorem getD_at {l : List EnIn} {j : Nat} (h : j < l.length) : l.getD j e0 = l[j] := by rw [List.getD_eq_getElem?_getD, List.getElem?_eq_getElem h, Option.getD_some]
theorem rises_good (g : Lg) : rises g.bt g.es = true ↔ ∀ j, j < g.es.length → Good g j := by
  rw [rises_iff]
  constructor
  · intro h j hj
    have := h j hj
    unfold Good Lg.tb
    rw [getD_at hj]
    exact this
  · intro h k hk
    have := h k hk
    unfold Good Lg.tb at this
    rw [getD_at hk] at this
    exact this
theorem tb_succ (g : Lg) {k : Nat} (h : k < g.es.length) : g.tb (k + 1) = g.es[k].term := by
  unfold Lg.tb
  rw [if_neg (by omega), Nat.add_sub_cancel, getD_at h]
set_option maxHeartbeats 4000000 in
set_option maxRecDepth 100000 in
theorem right_any (g : Lg) (cv ev : Value) (hb : g.base < 18446744073709551616) (hbt : g.bt < 18446744073709551616) (hc : g.conf.length ≤ 140737488355328) (hl : g.es.length ≤ 140737488355328) (ht : ∀ x ∈ g.es, x.term < 18446744073709551616) (w : World) (h : LV w cv ev g) :
    Calls Try.prog 10 #[g.v cv ev] w fun e w' => e = .returned (.bool g.right) ∧ Below w.heap.size w w' := by
  have hbx := h.box
  obtain ⟨a1, k1, rfl⟩ := sl_form h.c
  obtain ⟨a2, k2, rfl⟩ := sl_form h.l
  have HQ := Lib.hid fun W (b : Below w.heap.size w W) => qm.right_any (.slice a1 g.conf.length k1) g.conf hc W (h.c.later _ b)
  obtain ⟨R, hR⟩ : ∃ R, g.right = R := ⟨_, rfl⟩
  rw [hR]
  have HR : Hid (R = (decide (g.base ≤ 4611686018427387904) && decide (g.es.length ≤ 1024) && confOk g.conf && rises g.bt g.es)) := hR.symm
  obtain ⟨N, hN⟩ : ∃ N, g.es.length = N := ⟨_, rfl⟩
  obtain ⟨C, hC⟩ : ∃ C, g.conf.length = C := ⟨_, rfl⟩
  have HN : Hid (g.es.length = N ∧ g.conf.length = C) := ⟨hN, hC⟩
  have HT := Lib.hid ht
  have HV := Lib.hid h
  rw [hN] at hbx HR hl HV ⊢
  rw [hC] at hbx HQ HV hc ⊢
  have H0 := Lib.hid hbx
  clear h hbx hR hN hC ht
  go_enter Try.func10, Try.ntmps10
  go_upto_region 1 with (fail)
  generalize w.alloc (.cells #[.int .u64 (g.base : Nat), .int .u64 (g.bt : Nat), .slice a1 C k1, .slice a2 N k2] 26) = W at *
  obtain ⟨x0, x1, x2, x3⟩ := H0.out.cells
  by_cases c1 : g.base ≤ 4611686018427387904
  · have q1 : decide ((g.base : Int) > 4611686018427387904) = false := decide_eq_false (by omega)
    by_cases c2 : N ≤ 1024
    · have q2 : decide ((N : Int) > 1024) = false := decide_eq_false (by omega)
      have hQ := HQ.out W H0.out.b
      obtain ⟨r, hr⟩ : ∃ r, qm.right g.conf = r := ⟨_, rfl⟩
      rw [hr] at hQ
      by_cases c3 : confOk g.conf = true
      · have HR2 : Hid (R = rises g.bt g.es) := by show R = _; rw [HR.out, decide_eq_true c1, decide_eq_true c2, c3]; rfl
        have hcc : (C = 0 ∧ decide ((C : Int) > 0) = false ∧ decide (0 < C) = false) ∨ (C ≠ 0 ∧ r = true ∧ decide ((C : Int) > 0) = true ∧ decide (0 < C) = true) := by
          unfold confOk at c3
          rw [HN.out.2, hr] at c3
          by_cases hC0 : C = 0
          · exact .inl ⟨hC0, decide_eq_false (by omega), decide_eq_false (by omega)⟩
          · refine .inr ⟨hC0, ?_, decide_eq_true (by omega), decide_eq_true (by omega)⟩
            rw [decide_eq_false hC0] at c3
            simpa using c3
        clear HR c3 hr
        rcases hcc with ⟨d0, d1, d2⟩ | ⟨d0, rfl, d1, d2⟩
        · clear hQ HQ
          go_wp2_with fail
          go_loopw [3, 30] (fun tv iv wr => ∃ (k t : Nat), tv = .int .u64 (t : Nat) ∧ iv = .int .i64 (k : Nat) ∧ k ≤ N ∧ Hid (t = g.tb k ∧ (∀ j, j < k → Good g j) ∧ Below w.heap.size w wr))
            (fun _ iv _ => N - (intOf iv).toNat)
          case atStart => exact ⟨0, g.bt, rfl, rfl, Nat.zero_le _, rfl, fun j hj => absurd hj (Nat.not_lt_zero _), H0.out.b⟩
          case round =>
            obtain ⟨k, t, rfl, rfl, hk, HI⟩ := hrel
            by_cases hlt : k < N
            · have hki : (k : Int) < (N : Int) := by omega
              have hkl : k < g.es.length := by rw [HN.out.1]; exact hlt
              have hv := HV.out.l.later _ HI.out.2.2
              obtain ⟨b, off, c, e, hbw, y0, y1, y2⟩ := slE_at hv hkl
              rw [HN.out.1] at e
              injection e with e1 e2 e3
              subst e1 e3
              clear e2 hv
              obtain ⟨x, hx⟩ : ∃ x, g.es[k] = x := ⟨_, rfl⟩
              rw [hx] at y0 y1 y2
              have hxt := HT.out x (hx ▸ List.getElem_mem hkl)
              obtain ⟨xt, xk, xd⟩ := x
              simp only at y0 y1 y2 hxt
              have HB : Hid (∀ o, Below w.heap.size w (wr.alloc o)) := fun o => HI.out.2.2.trans ((below_box wr o).mono HI.out.2.2.size)
              by_cases hg : Good g k
              · have hg2 := hg
                unfold Good at hg2
                rw [getD_at hkl, hx, ← HI.out.1] at hg2
                simp only at hg2
                have z1 : decide (xk < 1) = false := decide_eq_false (by omega)
                have z2 : decide (xk > 3) = false := decide_eq_false (by omega)
                have z3 : decide (xt < t) = false := decide_eq_false (by omega)
                have HI2 : Hid (xt = g.tb (k + 1) ∧ ∀ j, j < k + 1 → Good g j) := by
                  refine ⟨by rw [tb_succ g hkl, hx], fun j hj => ?_⟩
                  by_cases e : j = k
                  · exact e ▸ hg
                  · exact HI.out.2.1 j (by omega)
                clear hg hg2 hx hbw HI hkl
                go_wp2_with fail
                exact ⟨⟨k + 1, xt, rfl, by rw [Int.natCast_add]; rfl, by omega, HI2.out.1, HI2.out.2, HB.out _⟩, by simp only [intOf]; omega⟩
              · have HF : Hid (R = false) := by
                  show R = _
                  rw [HR2.out, ← Bool.not_eq_true, rises_good]
                  exact fun h => hg (h k hkl)
                have hg2 := hg
                unfold Good at hg2
                rw [getD_at hkl, hx, ← HI.out.1] at hg2
                simp only at hg2
                have hcs : (decide (xk < 1) = true) ∨ (decide (xk < 1) = false ∧ decide (xk > 3) = true) ∨ (decide (xk < 1) = false ∧ decide (xk > 3) = false ∧ decide (xt < t) = true) := by
                  by_cases d1 : xk < 1
                  · exact .inl (decide_eq_true d1)
                  · by_cases d2 : xk > 3
                    · exact .inr (.inl ⟨decide_eq_false d1, decide_eq_true d2⟩)
                    · exact .inr (.inr ⟨decide_eq_false d1, decide_eq_false d2, decide_eq_true (by omega)⟩)
                clear hg hg2 hx hbw HI hkl
                rcases hcs with z1 | ⟨z1, z2⟩ | ⟨z1, z2, z3⟩
                all_goals (
                  go_wp2_with fail
                  go_ret
                  rw [HF.out]
                  exact ⟨rfl, HB.out _⟩)
            · obtain rfl : k = N := by omega
              have hki : ¬ (k : Int) < (k : Int) := by omega
              have HF : Hid (R = true) := by
                show R = _
                rw [HR2.out, rises_good]
                intro j hj
                exact HI.out.2.1 j (by rw [← HN.out.1]; exact hj)
              have HB := Lib.hid HI.out.2.2
              clear HI
              go_wp2_with fail
              go_ret
              rw [HF.out]
              exact ⟨rfl, HB.out⟩
        · clear HQ
          go_wp2_with fail
          refine hQ.mono ?_
          clear hQ
          rintro e w2 ⟨rfl, rfl⟩
          go_wp2_with fail
          go_loopw [3, 30] (fun tv iv wr => ∃ (k t : Nat), tv = .int .u64 (t : Nat) ∧ iv = .int .i64 (k : Nat) ∧ k ≤ N ∧ Hid (t = g.tb k ∧ (∀ j, j < k → Good g j) ∧ Below w.heap.size w wr))
            (fun _ iv _ => N - (intOf iv).toNat)
          case atStart => exact ⟨0, g.bt, rfl, rfl, Nat.zero_le _, rfl, fun j hj => absurd hj (Nat.not_lt_zero _), H0.out.b⟩
          case round =>
            obtain ⟨k, t, rfl, rfl, hk, HI⟩ := hrel
            by_cases hlt : k < N
            · have hki : (k : Int) < (N : Int) := by omega
              have hkl : k < g.es.length := by rw [HN.out.1]; exact hlt
              have hv := HV.out.l.later _ HI.out.2.2
              obtain ⟨b, off, c, e, hbw, y0, y1, y2⟩ := slE_at hv hkl
              rw [HN.out.1] at e
              injection e with e1 e2 e3
              subst e1 e3
              clear e2 hv
              obtain ⟨x, hx⟩ : ∃ x, g.es[k] = x := ⟨_, rfl⟩
              rw [hx] at y0 y1 y2
              have hxt := HT.out x (hx ▸ List.getElem_mem hkl)
              obtain ⟨xt, xk, xd⟩ := x
              simp only at y0 y1 y2 hxt
              have HB : Hid (∀ o, Below w.heap.size w (wr.alloc o)) := fun o => HI.out.2.2.trans ((below_box wr o).mono HI.out.2.2.size)
              by_cases hg : Good g k
              · have hg2 := hg
                unfold Good at hg2
                rw [getD_at hkl, hx, ← HI.out.1] at hg2
                simp only at hg2
                have z1 : decide (xk < 1) = false := decide_eq_false (by omega)
                have z2 : decide (xk > 3) = false := decide_eq_false (by omega)
                have z3 : decide (xt < t) = false := decide_eq_false (by omega)
                have HI2 : Hid (xt = g.tb (k + 1) ∧ ∀ j, j < k + 1 → Good g j) := by
                  refine ⟨by rw [tb_succ g hkl, hx], fun j hj => ?_⟩
                  by_cases e : j = k
                  · exact e ▸ hg
                  · exact HI.out.2.1 j (by omega)
                clear hg hg2 hx hbw HI hkl
                go_wp2_with fail
                exact ⟨⟨k + 1, xt, rfl, by rw [Int.natCast_add]; rfl, by omega, HI2.out.1, HI2.out.2, HB.out _⟩, by simp only [intOf]; omega⟩
              · have HF : Hid (R = false) := by
                  show R = _
                  rw [HR2.out, ← Bool.not_eq_true, rises_good]
                  exact fun h => hg (h k hkl)
                have hg2 := hg
                unfold Good at hg2
                rw [getD_at hkl, hx, ← HI.out.1] at hg2
                simp only at hg2
                have hcs : (decide (xk < 1) = true) ∨ (decide (xk < 1) = false ∧ decide (xk > 3) = true) ∨ (decide (xk < 1) = false ∧ decide (xk > 3) = false ∧ decide (xt < t) = true) := by
                  by_cases d1 : xk < 1
                  · exact .inl (decide_eq_true d1)
                  · by_cases d2 : xk > 3
                    · exact .inr (.inl ⟨decide_eq_false d1, decide_eq_true d2⟩)
                    · exact .inr (.inr ⟨decide_eq_false d1, decide_eq_false d2, decide_eq_true (by omega)⟩)
                clear hg hg2 hx hbw HI hkl
                rcases hcs with z1 | ⟨z1, z2⟩ | ⟨z1, z2, z3⟩
                all_goals (
                  go_wp2_with fail
                  go_ret
                  rw [HF.out]
                  exact ⟨rfl, HB.out _⟩)
            · obtain rfl : k = N := by omega
              have hki : ¬ (k : Int) < (k : Int) := by omega
              have HF : Hid (R = true) := by
                show R = _
                rw [HR2.out, rises_good]
                intro j hj
                exact HI.out.2.1 j (by rw [← HN.out.1]; exact hj)
              have HB := Lib.hid HI.out.2.2
              clear HI
              go_wp2_with fail
              go_ret
              rw [HF.out]
              exact ⟨rfl, HB.out⟩
      · have c3' : C ≠ 0 ∧ r = false := by
          unfold confOk at c3
          rw [HN.out.2, hr] at c3
          by_cases hC0 : C = 0
          · simp [hC0] at c3
          · rw [decide_eq_false hC0] at c3
            exact ⟨hC0, by simpa using c3⟩
        obtain ⟨hC0, rfl⟩ := c3'
        have d1 : decide ((C : Int) > 0) = true := decide_eq_true (by omega)
        have d2 : decide (0 < C) = true := decide_eq_true (by omega)
        have HX : Hid (R = false) := by show R = _; rw [HR.out, Bool.not_eq_true _ |>.mp c3]; simp
        clear HR c3 hr HQ
        go_wp2_with fail
        refine hQ.mono ?_
        clear hQ
        rintro e w2 ⟨rfl, rfl⟩
        go_wp2_with fail
        go_ret
        rw [HX.out]
        exact ⟨rfl, H0.out.b⟩
    · have q2 : decide ((N : Int) > 1024) = true := decide_eq_true (by omega)
      have HX : Hid (R = false) := by show R = _; rw [HR.out, decide_eq_false c2]; simp
      clear HR c2 c1
      go_wp2_with fail
      go_ret
      rw [HX.out]
      exact ⟨rfl, H0.out.b⟩
  · have q1 : decide ((g.base : Int) > 4611686018427387904) = true := decide_eq_true (by omega)
    have HX : Hid (R = false) := by show R = _; rw [HR.out, decide_eq_false c1]; simp
    clear HR c1
    go_wp2_with fail
    go_ret
    rw [HX.out]
    exact ⟨rfl, H0.out.b⟩
end Go.Proofs.Ythhnhnljefiboaa.tl
