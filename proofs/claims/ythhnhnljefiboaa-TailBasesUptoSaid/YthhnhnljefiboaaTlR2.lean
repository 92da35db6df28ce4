/-
  What stands where: the document's Term, Last, Right.
-/
import Derived.Test.YthhnhnljefiboaaTlR1
namespace Go.Proofs.Ythhnhnljefiboaa.tl
set_option linter.unusedVariables false
open Go.RowKit
open pk (S S_size S_data)
open qm (Bs noSh)
open rw (Arr But below_box bnext below_drew below_drewN)

set_option maxHeartbeats 2000000 in
set_option maxRecDepth 100000 in
theorem rterm_any (g : Lg) (cv ev : Value) (i : Nat) (hi : i < 18446744073709551616) (hf : Fit g) (w : World) (h : LV w cv ev g) :
    Calls Try.prog 14 #[g.v cv ev, .int .u64 (i : Nat)] w fun e w' => e = .returned (.tuple #[.int .u64 ((g.term i).1 : Nat), .bool (g.term i).2]) ∧ Below w.heap.size w w' := by
  have H0 := Lib.hid h.box
  have HE := Lib.hid fun W b => entry_any g cv ev i hi hf W (h.later b)
  rw [Lg.term_ent]
  obtain ⟨E, hE⟩ : ∃ E, g.ent i = E := ⟨_, rfl⟩
  rw [hE] at HE ⊢
  obtain ⟨⟨xt, xk, xd⟩, xb⟩ := E
  simp only
  by_cases c : i = g.base
  · rw [if_pos c]
    have q1 : decide (i = g.base) = true := decide_eq_true c
    have q2 : ((i : Int) == (g.base : Int)) = true := beq_iff_eq.2 (by omega)
    clear h hf hE HE c q1
    go_enter Try.func14, Try.ntmps14
    go_upto_region 1 with (fail)
    generalize w.alloc (.cells #[.int .u64 (g.base : Nat), .int .u64 (g.bt : Nat), cv, ev] 26) = W at *
    obtain ⟨x0, x1, x2, x3⟩ := H0.out.cells
    go_wp2_with fail
    go_ret2
    exact ⟨rfl, H0.out.b⟩
  · rw [if_neg c]
    have q1 : decide (i = g.base) = false := decide_eq_false c
    have q2 : ((i : Int) == (g.base : Int)) = false := beq_eq_false_iff_ne.2 (by omega)
    clear h hf hE c
    go_enter Try.func14, Try.ntmps14
    go_upto_region 1 with (fail)
    generalize w.alloc (.cells #[.int .u64 (g.base : Nat), .int .u64 (g.bt : Nat), cv, ev] 26) = W at *
    obtain ⟨x0, x1, x2, x3⟩ := H0.out.cells
    have hE := HE.out W H0.out.b
    go_wp2_with fail
    with_reducible refine hE.mono ?_
    clear hE x0 x1 x2 x3
    rintro e w2 ⟨rfl, b2⟩
    have B2 := Lib.hid (H0.out.b.trans ((b2.trans ((below_box w2 (.cells #[.int .u64 (xt : Nat), .int .i64 xk, .string (S xd)] 54)).mono b2.size)).mono H0.out.b.size))
    clear b2
    go_wp2_with fail
    go_ret2
    exact ⟨rfl, B2.out⟩
set_option maxHeartbeats 2000000 in
set_option maxRecDepth 100000 in
theorem rlast_any (g : Lg) (cv ev : Value) (hf : Fit g) (w : World) (h : LV w cv ev g) :
    Calls Try.prog 15 #[g.v cv ev] w fun e w' => e = .returned (.int .u64 (g.last : Nat)) ∧ Below w.heap.size w w' := by
  obtain ⟨a2, k2, rfl⟩ := sl_form h.l
  have H0 := Lib.hid h.box
  have hb := hf.base
  have hn := hf.es
  obtain ⟨n, hnn⟩ : ∃ n, g.es.length = n := ⟨_, rfl⟩
  obtain ⟨s, hs⟩ : ∃ s, g.last = s := ⟨_, rfl⟩
  have hs2 : g.base + n = s := by rw [← hs, Lg.last, hnn]
  rw [hnn] at H0 hn ⊢
  rw [hs]
  have f1 : IntKind.u64.wrap (n : Int) = (n : Int) := u64_in _ (by omega)
  have f2 : IntKind.u64.wrap ((g.base : Int) + (n : Int)) = (s : Int) := by rw [u64_in _ (by omega)]; omega
  clear h hf hs hs2 hnn
  go_enter Try.func15, Try.ntmps15
  go_upto_region 1 with (fail)
  generalize w.alloc (.cells #[.int .u64 (g.base : Nat), .int .u64 (g.bt : Nat), cv, .slice a2 n k2] 26) = W at *
  obtain ⟨x0, x1, x2, x3⟩ := H0.out.cells
  go_wp2_with fail
  go_ret
  exact ⟨rfl, H0.out.b⟩
set_option maxHeartbeats 4000000 in
set_option maxRecDepth 100000 in
theorem rright_any (g : Lg) (cv ev : Value) (hb : g.base < 18446744073709551616) (hbt : g.bt < 18446744073709551616) (hc : g.conf.length ≤ 140737488355328) (hl : g.es.length ≤ 140737488355328) (ht : ∀ x ∈ g.es, x.term < 18446744073709551616) (w : World) (h : LV w cv ev g) :
    Calls Try.prog 11 #[g.v cv ev] w fun e w' => e = .returned (.bool g.right) ∧ Below w.heap.size w w' := by
  have hbx := h.box
  obtain ⟨a1, k1, rfl⟩ := sl_form h.c
  obtain ⟨a2, k2, rfl⟩ := sl_form h.l
  have HQ := Lib.hid fun W (b : Below w.heap.size w W) => qm.rright_any (.slice a1 g.conf.length k1) g.conf hc W (h.c.later _ b)
  obtain ⟨R, hR⟩ : ∃ R, g.right = R := ⟨_, rfl⟩
  rw [hR]
  have HR : Hid (R = (decide (g.base ≤ 4611686018427387904) && decide (g.es.length ≤ 1024) && confOk g.conf && rises g.bt g.es)) := hR.symm
  obtain ⟨N, hN⟩ : ∃ N, g.es.length = N := ⟨_, rfl⟩
  obtain ⟨C, hC⟩ : ∃ C, g.conf.length = C := ⟨_, rfl⟩
  have HN : Hid (g.es.length = N ∧ g.conf.length = C) := ⟨hN, hC⟩
  have HT := Lib.hid ht
  have HV := Lib.hid h
  rw [hN] at hbx HR hl HV ⊢
  rw [hC] at hbx HQ HV hc ⊢
  have H0 := Lib.hid hbx
  clear h hbx hR hN hC ht
  obtain ⟨r, hr⟩ : ∃ r, qm.right g.conf = r := ⟨_, rfl⟩
  rw [hr] at HQ
  have hcc : (C = 0 ∧ decide ((C : Int) > 0) = false ∧ decide (0 < C) = false) ∨ (C ≠ 0 ∧ decide ((C : Int) > 0) = true ∧ decide (0 < C) = true) := by
    by_cases hC0 : C = 0
    · exact .inl ⟨hC0, decide_eq_false (by omega), decide_eq_false (by omega)⟩
    · exact .inr ⟨hC0, decide_eq_true (by omega), decide_eq_true (by omega)⟩
  have hco : confOk g.conf = (decide (C = 0) || r) := by unfold confOk; rw [HN.out.2, hr]
  have HCO := Lib.hid hco
  clear hr hco
  go_enter Try.func11, Try.ntmps11
  go_upto_region 1 with (fail)
  generalize w.alloc (.cells #[.int .u64 (g.base : Nat), .int .u64 (g.bt : Nat), .slice a1 C k1, .slice a2 N k2] 26) = W at *
  obtain ⟨x0, x1, x2, x3⟩ := H0.out.cells
  have hQ := HQ.out W H0.out.b
  clear HQ
  rcases hcc with ⟨d0, d1, d2⟩ | ⟨d0, d1, d2⟩
  · have HC1 : Hid (confOk g.conf = true) := by show _ = _; rw [HCO.out, decide_eq_true d0]; rfl
    by_cases c1 : g.base ≤ 4611686018427387904
    · have q1 : decide ((g.base : Int) > 4611686018427387904) = false := decide_eq_false (by omega)
      by_cases c2 : N ≤ 1024
      · have q2 : decide ((N : Int) > 1024) = false := decide_eq_false (by omega)
        have HR2 : Hid (R = rises g.bt g.es) := by show R = _; rw [HR.out, decide_eq_true c1, decide_eq_true c2, HC1.out]; rfl
        clear HR c1 c2
        clear hQ
        go_wp2_with fail
        go_loopw [3] (fun iv wr => ∃ k : Nat, iv = .int .i64 (k : Nat) ∧ k ≤ N ∧ wr = W ∧ Hid (∀ j, j < k → Good g j))
          (fun iv _ => N - (intOf iv).toNat)
        case atStart => exact ⟨0, rfl, Nat.zero_le _, rfl, fun j hj => absurd hj (Nat.not_lt_zero _)⟩
        case round =>
          obtain ⟨k, rfl, hk, rfl, HI⟩ := hrel
          by_cases hlt : k < N
          · have hki : (k : Int) < (N : Int) := by omega
            have hkl : k < g.es.length := by rw [HN.out.1]; exact hlt
            obtain ⟨b, off, c, e, hbw, y0, y1, y2⟩ := slE_at (HV.out.l.later _ H0.out.b) hkl
            rw [HN.out.1] at e
            injection e with e1 e2 e3
            subst e1 e3
            clear e2
            have hpre : k = 0 ∨ ∃ m, k = m + 1 := by
              cases k with
              | zero => exact .inl rfl
              | succ m => exact .inr ⟨m, rfl⟩
            obtain ⟨x, hx⟩ : ∃ x, g.es[k] = x := ⟨_, rfl⟩
            rw [hx] at y0 y1 y2
            have hgd : Good g k ↔ (1 ≤ x.kind ∧ x.kind ≤ 3 ∧ g.tb k ≤ x.term) := by unfold Good; rw [getD_at hkl, hx]
            obtain ⟨t, htt⟩ : ∃ t, g.tb k = t := ⟨_, rfl⟩
            rw [htt] at hgd
            have hxt := HT.out x (hx ▸ List.getElem_mem hkl)
            obtain ⟨xt, xk, xd⟩ := x
            simp only at y0 y1 y2 hxt hgd
            have hcs : (Good g k ∧ decide (xk < 1) = false ∧ decide (xk > 3) = false ∧ decide (xt < t) = false) ∨ (¬ Good g k ∧ decide (xk < 1) = true) ∨ (¬ Good g k ∧ decide (xk < 1) = false ∧ decide (xk > 3) = true) ∨ (¬ Good g k ∧ decide (xk < 1) = false ∧ decide (xk > 3) = false ∧ decide (xt < t) = true) := by
              rw [hgd]
              by_cases d1 : xk < 1
              · exact .inr (.inl ⟨by omega, decide_eq_true d1⟩)
              · by_cases d2 : xk > 3
                · exact .inr (.inr (.inl ⟨by omega, decide_eq_false d1, decide_eq_true d2⟩))
                · by_cases d3 : xt < t
                  · exact .inr (.inr (.inr ⟨by omega, decide_eq_false d1, decide_eq_false d2, decide_eq_true d3⟩))
                  · exact .inl ⟨by omega, decide_eq_false d1, decide_eq_false d2, decide_eq_false d3⟩
            have HGo : Hid (Good g k → ∀ j, j < k + 1 → Good g j) := fun hg j hj => by
              by_cases e : j = k
              · exact e ▸ hg
              · exact HI.out j (by omega)
            have HGn : Hid (¬ Good g k → R = false) := fun hg => by
              rw [HR2.out, ← Bool.not_eq_true, rises_good]
              exact fun h => hg (h k hkl)
            rcases hpre with rfl | ⟨m, rfl⟩
            · simp only [Nat.zero_mul, Nat.add_zero] at y0 y1 y2
              have q1 : ¬ ((0 : Nat) : Int) > 0 := by omega
              obtain rfl : g.bt = t := htt
              rcases hcs with ⟨hg, z1, z2, z3⟩ | ⟨hg, z1⟩ | ⟨hg, z1, z2⟩ | ⟨hg, z1, z2, z3⟩
              · have HI2 := Lib.hid (HGo.out hg)
                clear HGo HGn hg hgd hx hbw HI hkl
                go_wp2_with fail
                exact ⟨⟨1, rfl, by omega, by first | rfl | trivial, HI2⟩, by simp only [intOf]; omega⟩
              all_goals (
                have HX := Lib.hid (HGn.out hg)
                clear HGo HGn hg hgd hx hbw HI hkl
                go_wp2_with fail
                go_ret
                rw [HX.out]
                exact ⟨rfl, H0.out.b⟩)
            · have hml : m < g.es.length := by omega
              obtain ⟨b', off', c', e', hbw', v0, v1, v2⟩ := slE_at (HV.out.l.later _ H0.out.b) hml
              rw [HN.out.1] at e'
              injection e' with e1 e2 e3
              injection e1 with e1
              injection e1 with e1 e4
              subst e1 e3 e4
              clear e2
              rw [tb_succ g hml] at htt
              rw [htt] at v0
              clear v1 v2
              obtain ⟨K, hK⟩ : ∃ K, m + 1 = K := ⟨_, rfl⟩
              have q1 : ((m + 1 : Nat) : Int) > 0 := by omega
              have f1 : IntKind.i64.wrap (((m + 1 : Nat) : Int) - 1) = (m : Int) := by
                have : ((m + 1 : Nat) : Int) - 1 = (m : Int) := by omega
                rw [this]; exact IntWalk.i64_in _ (by omega)
              have hmi : (m : Int) < (N : Int) := by omega
              rw [hK] at q1 f1 hki y0 y1 y2 HGo HGn hgd hcs hk ⊢
              rcases hcs with ⟨hg, z1, z2, z3⟩ | ⟨hg, z1⟩ | ⟨hg, z1, z2⟩ | ⟨hg, z1, z2, z3⟩
              · have HI2 := Lib.hid (HGo.out hg)
                clear HGo HGn hg hgd hx hbw HI htt
                go_wp2_with fail
                exact ⟨⟨K + 1, by rw [Int.natCast_add]; rfl, by omega, by first | rfl | trivial, HI2⟩, by simp only [intOf]; omega⟩
              all_goals (
                have HX := Lib.hid (HGn.out hg)
                clear HGo HGn hg hgd hx hbw HI htt
                go_wp2_with fail
                go_ret
                rw [HX.out]
                exact ⟨rfl, H0.out.b⟩)
          · obtain rfl : k = N := by omega
            have hki : ¬ (k : Int) < (k : Int) := by omega
            have HX : Hid (R = true) := by
              show R = _
              rw [HR2.out, rises_good]
              intro j hj
              exact HI.out j (by rw [← HN.out.1]; exact hj)
            clear HI
            go_wp2_with fail
            go_ret
            rw [HX.out]
            exact ⟨rfl, H0.out.b⟩
      · have q2 : decide ((N : Int) > 1024) = true := decide_eq_true (by omega)
        have HX : Hid (R = false) := by show R = _; rw [HR.out, decide_eq_false c2]; simp
        clear HR c1 c2
        go_wp2_with fail
        go_ret
        rw [HX.out]
        exact ⟨rfl, H0.out.b⟩
    · have q1 : decide ((g.base : Int) > 4611686018427387904) = true := decide_eq_true (by omega)
      have HX : Hid (R = false) := by show R = _; rw [HR.out, decide_eq_false c1]; simp
      clear HR c1
      go_wp2_with fail
      go_ret
      rw [HX.out]
      exact ⟨rfl, H0.out.b⟩
  · cases r with
    | false =>
      have HX : Hid (R = false) := by show R = _; rw [HR.out, HCO.out, decide_eq_false d0]; simp
      clear HR
      go_wp2_with fail
      refine hQ.mono ?_
      clear hQ x0 x1 x2 x3
      rintro e w2 ⟨rfl, b2⟩
      have H2 := Lib.hid (H0.out.below b2)
      clear b2 H0
      obtain ⟨x0, x1, x2, x3⟩ := H2.out.cells
      go_wp2_with fail
      go_ret
      rw [HX.out]
      exact ⟨rfl, H2.out.b⟩
    | true =>
      have HC1 : Hid (confOk g.conf = true) := by show _ = _; rw [HCO.out]; simp
      by_cases c1 : g.base ≤ 4611686018427387904
      · have q1 : decide ((g.base : Int) > 4611686018427387904) = false := decide_eq_false (by omega)
        by_cases c2 : N ≤ 1024
        · have q2 : decide ((N : Int) > 1024) = false := decide_eq_false (by omega)
          have HR2 : Hid (R = rises g.bt g.es) := by show R = _; rw [HR.out, decide_eq_true c1, decide_eq_true c2, HC1.out]; rfl
          clear HR c1 c2
          go_wp2_with fail
          refine hQ.mono ?_
          clear hQ x0 x1 x2 x3
          rintro e w2 ⟨rfl, b2⟩
          have H2 := Lib.hid (H0.out.below b2)
          clear b2 H0
          obtain ⟨x0, x1, x2, x3⟩ := H2.out.cells
          go_wp2_with fail
          go_loopw [3] (fun iv wr => ∃ k : Nat, iv = .int .i64 (k : Nat) ∧ k ≤ N ∧ wr = w2 ∧ Hid (∀ j, j < k → Good g j))
            (fun iv _ => N - (intOf iv).toNat)
          case atStart => exact ⟨0, rfl, Nat.zero_le _, rfl, fun j hj => absurd hj (Nat.not_lt_zero _)⟩
          case round =>
            obtain ⟨k, rfl, hk, rfl, HI⟩ := hrel
            by_cases hlt : k < N
            · have hki : (k : Int) < (N : Int) := by omega
              have hkl : k < g.es.length := by rw [HN.out.1]; exact hlt
              obtain ⟨b, off, c, e, hbw, y0, y1, y2⟩ := slE_at (HV.out.l.later _ H2.out.b) hkl
              rw [HN.out.1] at e
              injection e with e1 e2 e3
              subst e1 e3
              clear e2
              have hpre : k = 0 ∨ ∃ m, k = m + 1 := by
                cases k with
                | zero => exact .inl rfl
                | succ m => exact .inr ⟨m, rfl⟩
              obtain ⟨x, hx⟩ : ∃ x, g.es[k] = x := ⟨_, rfl⟩
              rw [hx] at y0 y1 y2
              have hgd : Good g k ↔ (1 ≤ x.kind ∧ x.kind ≤ 3 ∧ g.tb k ≤ x.term) := by unfold Good; rw [getD_at hkl, hx]
              obtain ⟨t, htt⟩ : ∃ t, g.tb k = t := ⟨_, rfl⟩
              rw [htt] at hgd
              have hxt := HT.out x (hx ▸ List.getElem_mem hkl)
              obtain ⟨xt, xk, xd⟩ := x
              simp only at y0 y1 y2 hxt hgd
              have hcs : (Good g k ∧ decide (xk < 1) = false ∧ decide (xk > 3) = false ∧ decide (xt < t) = false) ∨ (¬ Good g k ∧ decide (xk < 1) = true) ∨ (¬ Good g k ∧ decide (xk < 1) = false ∧ decide (xk > 3) = true) ∨ (¬ Good g k ∧ decide (xk < 1) = false ∧ decide (xk > 3) = false ∧ decide (xt < t) = true) := by
                rw [hgd]
                by_cases d1 : xk < 1
                · exact .inr (.inl ⟨by omega, decide_eq_true d1⟩)
                · by_cases d2 : xk > 3
                  · exact .inr (.inr (.inl ⟨by omega, decide_eq_false d1, decide_eq_true d2⟩))
                  · by_cases d3 : xt < t
                    · exact .inr (.inr (.inr ⟨by omega, decide_eq_false d1, decide_eq_false d2, decide_eq_true d3⟩))
                    · exact .inl ⟨by omega, decide_eq_false d1, decide_eq_false d2, decide_eq_false d3⟩
              have HGo : Hid (Good g k → ∀ j, j < k + 1 → Good g j) := fun hg j hj => by
                by_cases e : j = k
                · exact e ▸ hg
                · exact HI.out j (by omega)
              have HGn : Hid (¬ Good g k → R = false) := fun hg => by
                rw [HR2.out, ← Bool.not_eq_true, rises_good]
                exact fun h => hg (h k hkl)
              rcases hpre with rfl | ⟨m, rfl⟩
              · simp only [Nat.zero_mul, Nat.add_zero] at y0 y1 y2
                have q1 : ¬ ((0 : Nat) : Int) > 0 := by omega
                obtain rfl : g.bt = t := htt
                rcases hcs with ⟨hg, z1, z2, z3⟩ | ⟨hg, z1⟩ | ⟨hg, z1, z2⟩ | ⟨hg, z1, z2, z3⟩
                · have HI2 := Lib.hid (HGo.out hg)
                  clear HGo HGn hg hgd hx hbw HI hkl
                  go_wp2_with fail
                  exact ⟨⟨1, rfl, by omega, by first | rfl | trivial, HI2⟩, by simp only [intOf]; omega⟩
                all_goals (
                  have HX := Lib.hid (HGn.out hg)
                  clear HGo HGn hg hgd hx hbw HI hkl
                  go_wp2_with fail
                  go_ret
                  rw [HX.out]
                  exact ⟨rfl, H2.out.b⟩)
              · have hml : m < g.es.length := by omega
                obtain ⟨b', off', c', e', hbw', v0, v1, v2⟩ := slE_at (HV.out.l.later _ H2.out.b) hml
                rw [HN.out.1] at e'
                injection e' with e1 e2 e3
                injection e1 with e1
                injection e1 with e1 e4
                subst e1 e3 e4
                clear e2
                rw [tb_succ g hml] at htt
                rw [htt] at v0
                clear v1 v2
                obtain ⟨K, hK⟩ : ∃ K, m + 1 = K := ⟨_, rfl⟩
                have q1 : ((m + 1 : Nat) : Int) > 0 := by omega
                have f1 : IntKind.i64.wrap (((m + 1 : Nat) : Int) - 1) = (m : Int) := by
                  have : ((m + 1 : Nat) : Int) - 1 = (m : Int) := by omega
                  rw [this]; exact IntWalk.i64_in _ (by omega)
                have hmi : (m : Int) < (N : Int) := by omega
                rw [hK] at q1 f1 hki y0 y1 y2 HGo HGn hgd hcs hk ⊢
                rcases hcs with ⟨hg, z1, z2, z3⟩ | ⟨hg, z1⟩ | ⟨hg, z1, z2⟩ | ⟨hg, z1, z2, z3⟩
                · have HI2 := Lib.hid (HGo.out hg)
                  clear HGo HGn hg hgd hx hbw HI htt
                  go_wp2_with fail
                  exact ⟨⟨K + 1, by rw [Int.natCast_add]; rfl, by omega, by first | rfl | trivial, HI2⟩, by simp only [intOf]; omega⟩
                all_goals (
                  have HX := Lib.hid (HGn.out hg)
                  clear HGo HGn hg hgd hx hbw HI htt
                  go_wp2_with fail
                  go_ret
                  rw [HX.out]
                  exact ⟨rfl, H2.out.b⟩)
            · obtain rfl : k = N := by omega
              have hki : ¬ (k : Int) < (k : Int) := by omega
              have HX : Hid (R = true) := by
                show R = _
                rw [HR2.out, rises_good]
                intro j hj
                exact HI.out j (by rw [← HN.out.1]; exact hj)
              clear HI
              go_wp2_with fail
              go_ret
              rw [HX.out]
              exact ⟨rfl, H2.out.b⟩
        · have q2 : decide ((N : Int) > 1024) = true := decide_eq_true (by omega)
          have HX : Hid (R = false) := by show R = _; rw [HR.out, decide_eq_false c2]; simp
          clear HR c1 c2
          go_wp2_with fail
          refine hQ.mono ?_
          clear hQ x0 x1 x2 x3
          rintro e w2 ⟨rfl, b2⟩
          have H2 := Lib.hid (H0.out.below b2)
          clear b2 H0
          obtain ⟨x0, x1, x2, x3⟩ := H2.out.cells
          go_wp2_with fail
          go_ret
          rw [HX.out]
          exact ⟨rfl, H2.out.b⟩
      · have q1 : decide ((g.base : Int) > 4611686018427387904) = true := decide_eq_true (by omega)
        have HX : Hid (R = false) := by show R = _; rw [HR.out, decide_eq_false c1]; simp
        clear HR c1
        go_wp2_with fail
        refine hQ.mono ?_
        clear hQ x0 x1 x2 x3
        rintro e w2 ⟨rfl, b2⟩
        have H2 := Lib.hid (H0.out.below b2)
        clear b2 H0
        obtain ⟨x0, x1, x2, x3⟩ := H2.out.cells
        go_wp2_with fail
        go_ret
        rw [HX.out]
        exact ⟨rfl, H2.out.b⟩
end Go.Proofs.Ythhnhnljefiboaa.tl
