/-
  The law QuorumMeets: the walk.
-/
import Derived.Test.YtnodgpbahlaccaaQmL1
namespace Go.Proofs.Ytnodgpbahlaccaa.qm
set_option linter.unusedVariables false
open Go.RowKit
open rw (Arr But Own bnext below_box below_drew below_drewN)
open pk (S S_size S_data)

/-- Four lists of nodes. -/
structure Four (w W : World) (u0 u1 u2 u3 : Value) (l m x y : List Int) : Prop where
  a : Ns W u0 l
  b : Ns W u1 m
  c : Ns W u2 x
  d : Ns W u3 y
  w : Below w.heap.size w W
theorem Four.later {w W W' : World} {u0 u1 u2 u3 : Value} {l m x y : List Int} (h : Four w W u0 u1 u2 u3 l m x y) (k : Below W.heap.size W W') : Four w W' u0 u1 u2 u3 l m x y :=
  ⟨h.a.later _ k, h.b.later _ k, h.c.later _ k, h.d.later _ k, h.w.trans (k.mono h.w.size)⟩
set_option maxHeartbeats 4000000 in
set_option maxRecDepth 100000 in
theorem meets_walk (a b c d : Int) (w : World) :
    Calls Try.prog 7 #[.int .i64 a, .int .i64 b, .int .i64 c, .int .i64 d] w fun e w' => e = .returned (.bool true) ∧ Below w.heap.size w w' := by
  have hA := alive_any w
  have HMb := Lib.hid fun n W => members_any n W
  have HM := Lib.hid fun u v (l k : List Int) (hl : l.length ≤ 5) (hk : k.length ≤ 5) W x y => most_any u v l k (by omega) (by omega) W x y
  have HSa := Lib.hid fun u v (l k : List Int) (hl : l.length ≤ 5) (hk : k.length ≤ 5) W x y => same_any u v l k (by omega) (by omega) W x y
  have HSt := Lib.hid fun u v (l k : List Int) (hl : l.length ≤ 5) (hk : k.length ≤ 5) W x y => step_any u v l k (by omega) (by omega) W x y
  have HIn := Lib.hid fun u (l : List Int) n (hl : l.length ≤ 5) W x => in_any u l n (by omega) W x
  go_enter Try.func7, Try.ntmps7
  go_wp2_with fail
  with_reducible refine hA.mono ?_
  clear hA
  rintro e w1 ⟨rfl, b1⟩
  have h0 := HMb.out a w1
  have B1 := Lib.hid b1
  clear b1
  go_wp2_with fail
  with_reducible refine h0.mono ?_
  clear h0
  rintro e w2 ⟨u0, rfl, l, k2, l2⟩
  have h0 := HMb.out b w2
  have K2 : Hid (Ns w2 u0 l ∧ Below w.heap.size w w2) := ⟨k2.1.sl, B1.out.trans (k2.2.mono B1.out.size)⟩
  clear k2 B1
  go_wp2_with fail
  with_reducible refine h0.mono ?_
  clear h0
  rintro e w3 ⟨u1, rfl, m, k3, l3⟩
  have h0 := HMb.out c w3
  have K3 : Hid (Ns w3 u0 l ∧ Ns w3 u1 m ∧ Below w.heap.size w w3) := ⟨K2.out.1.later _ k3.2, k3.1.sl, K2.out.2.trans (k3.2.mono K2.out.2.size)⟩
  clear k3 K2
  go_wp2_with fail
  with_reducible refine h0.mono ?_
  clear h0
  rintro e w4 ⟨u2, rfl, x, k4, l4⟩
  have h0 := HMb.out d w4
  have K4 : Hid (Ns w4 u0 l ∧ Ns w4 u1 m ∧ Ns w4 u2 x ∧ Below w.heap.size w w4) := ⟨K3.out.1.later _ k4.2, K3.out.2.1.later _ k4.2, k4.1.sl, K3.out.2.2.trans (k4.2.mono K3.out.2.2.size)⟩
  clear k4 K3
  go_wp2_with fail
  with_reducible refine h0.mono ?_
  clear h0
  rintro e w5 ⟨u3, rfl, y, k5, l5⟩
  have K5 : Hid (Four w w5 u0 u1 u2 u3 l m x y) := ⟨K4.out.1.later _ k5.2, K4.out.2.1.later _ k5.2, K4.out.2.2.1.later _ k5.2, k5.1.sl, K4.out.2.2.2.trans (k5.2.mono K4.out.2.2.2.size)⟩
  have HL := Lib.hid (And.intro l2 (And.intro l3 (And.intro l4 l5)))
  clear k5 K4 l2 l3 l4 l5 HMb
  have hm1 := HM.out u0 u2 l x HL.out.1 HL.out.2.2.1 w5 K5.out.a K5.out.c
  obtain ⟨r1, hr1⟩ : ∃ r, most l x = r := ⟨_, rfl⟩
  rw [hr1] at hm1
  have hm2 := HM.out u1 u3 m y HL.out.2.1 HL.out.2.2.2 w5 K5.out.b K5.out.d
  obtain ⟨r2, hr2⟩ : ∃ r, most m y = r := ⟨_, rfl⟩
  rw [hr2] at hm2
  have hs := HSa.out u0 u1 l m HL.out.1 HL.out.2.1 w5 K5.out.a K5.out.b
  obtain ⟨r3, hr3⟩ : ∃ r, decide (l = m) = r := ⟨_, rfl⟩
  rw [hr3] at hs
  have HQ := Lib.hid (And.intro hr1 (And.intro hr2 hr3))
  clear hr1 hr2 hr3
  cases r1 with
  | false =>
    go_wp2_with fail
    with_reducible refine hm1.mono ?_
    clear hm1
    rintro e w6 ⟨rfl, rfl⟩
    go_wp2_with fail
    go_ret
    exact ⟨rfl, K5.out.w⟩
  | true =>
    cases r2 with
    | false =>
      go_wp2_with fail
      with_reducible refine hm1.mono ?_
      clear hm1
      rintro e w6 ⟨rfl, rfl⟩
      go_wp2_with fail
      with_reducible refine hm2.mono ?_
      clear hm2
      rintro e w6 ⟨rfl, rfl⟩
      go_wp2_with fail
      go_ret
      exact ⟨rfl, K5.out.w⟩
    | true =>
      cases r3 with
      | true =>
        have HX : Hid (∃ z, z ∈ x ∧ z ∈ y) := meets HQ.out.1 HQ.out.2.1 (.inl (of_decide_eq_true HQ.out.2.2))
        go_wp2_with fail
        with_reducible refine hm1.mono ?_
        clear hm1
        rintro e w6 ⟨rfl, rfl⟩
        go_wp2_with fail
        with_reducible refine hm2.mono ?_
        clear hm2
        rintro e w6 ⟨rfl, rfl⟩
        go_wp2_with fail
        with_reducible refine hs.mono ?_
        clear hs
        rintro e w6 ⟨rfl, b6⟩
        have K6 := Lib.hid (K5.out.later b6)
        clear b6 K5
        obtain ⟨ad, cp, rfl⟩ := sl_form K6.out.c
        obtain ⟨N, hN⟩ : ∃ n, x.length = n := ⟨_, rfl⟩
        have HN := Lib.hid hN
        rw [hN] at K6 HL ⊢
        have hN5 : N ≤ 5 := HL.out.2.2.1
        clear hN
        go_wp2_with fail
        go_loopw [13] (fun i wr => ∃ (k : Nat), i = .int .i64 k ∧ k ≤ N ∧ Hid (∀ j (h : j < x.length), j < k → y.contains x[j] = false) ∧ Hid (Four w wr u0 u1 (.slice ad N cp) u3 l m x y))
          (fun i _ => N - (intOf i).toNat)
        case atStart => exact ⟨0, rfl, Nat.zero_le _, Lib.hid (fun j _ h => absurd h (by omega)), K6⟩
        case round =>
          obtain ⟨k, rfl, hk, HA, HF⟩ := hrel
          by_cases hlt : k < N
          · have hki : (k : Int) < (N : Int) := by omega
            have hkl : k < x.length := by rw [HN.out]; exact hlt
            have HS2 := HF.out.c
            rw [← HN.out] at HS2
            obtain ⟨bb, off, c3, e, hb3, c0⟩ := slN_at HS2 hkl
            injection e with e1 e2 e3
            subst e1 e3
            clear e2
            have hI := HIn.out u3 y (x[k]'hkl) HL.out.2.2.2 wr HF.out.d
            obtain ⟨q, hq⟩ : ∃ q, y.contains (x[k]'hkl) = q := ⟨_, rfl⟩
            rw [hq] at hI
            cases q with
            | true =>
              obtain ⟨z, hz⟩ : ∃ z, x[k]'hkl = z := ⟨_, rfl⟩
              rw [hz] at c0 hI
              clear hz hq HA HS2 hb3 hkl
              go_wp2_with fail
              with_reducible refine hI.mono ?_
              clear hI
              rintro e w8 ⟨rfl, rfl⟩
              go_wp2_with fail
              go_ret
              exact ⟨rfl, HF.out.w⟩
            | false =>
              have HA2 : Hid (∀ j (h : j < x.length), j < k + 1 → y.contains x[j] = false) := fun j h hj => by
                by_cases h2 : j < k
                · exact HA.out j h h2
                · obtain rfl : j = k := by omega
                  exact hq
              obtain ⟨z, hz⟩ : ∃ z, x[k]'hkl = z := ⟨_, rfl⟩
              rw [hz] at c0 hI
              clear hz hq HA HS2 hb3 hkl
              go_wp2_with fail
              with_reducible refine hI.mono ?_
              clear hI
              rintro e w8 ⟨rfl, rfl⟩
              go_wp2_with fail
              exact ⟨⟨k + 1, by rw [Int.natCast_add]; rfl, by omega, HA2.out, HF.out⟩, by simp only [intOf]; omega⟩
          · exfalso
            obtain ⟨z, hz1, hz2⟩ := HX.out
            obtain ⟨j, hj, rfl⟩ := List.mem_iff_getElem.1 hz1
            have := HA.out j hj (by have := HN.out; omega)
            rw [List.contains_iff_mem.2 hz2] at this
            cases this
      | false =>
        go_wp2_with fail
        with_reducible refine hm1.mono ?_
        clear hm1
        rintro e w6 ⟨rfl, rfl⟩
        go_wp2_with fail
        with_reducible refine hm2.mono ?_
        clear hm2
        rintro e w6 ⟨rfl, rfl⟩
        go_wp2_with fail
        with_reducible refine hs.mono ?_
        clear hs
        rintro e w6 ⟨rfl, b6⟩
        have K6 := Lib.hid (K5.out.later b6)
        clear b6 K5
        have ht := HSt.out u0 u1 l m HL.out.1 HL.out.2.1 w6 K6.out.a K6.out.b
        obtain ⟨r4, hr4⟩ : ∃ r, stepR l m = r := ⟨_, rfl⟩
        rw [hr4] at ht
        have HQ4 := Lib.hid hr4
        clear hr4
        cases r4 with
        | true =>
          have HX : Hid (∃ z, z ∈ x ∧ z ∈ y) := meets HQ.out.1 HQ.out.2.1 (.inr HQ4.out)
          go_wp2_with fail
          with_reducible refine ht.mono ?_
          clear ht
          rintro e w7 ⟨rfl, b7⟩
          have K7 := Lib.hid (K6.out.later b7)
          clear b7 K6
          obtain ⟨ad, cp, rfl⟩ := sl_form K7.out.c
          obtain ⟨N, hN⟩ : ∃ n, x.length = n := ⟨_, rfl⟩
          have HN := Lib.hid hN
          rw [hN] at K7 HL ⊢
          have hN5 : N ≤ 5 := HL.out.2.2.1
          clear hN
          go_wp2_with fail
          go_loopw [13] (fun i wr => ∃ (k : Nat), i = .int .i64 k ∧ k ≤ N ∧ Hid (∀ j (h : j < x.length), j < k → y.contains x[j] = false) ∧ Hid (Four w wr u0 u1 (.slice ad N cp) u3 l m x y))
            (fun i _ => N - (intOf i).toNat)
          case atStart => exact ⟨0, rfl, Nat.zero_le _, Lib.hid (fun j _ h => absurd h (by omega)), K7⟩
          case round =>
            obtain ⟨k, rfl, hk, HA, HF⟩ := hrel
            by_cases hlt : k < N
            · have hki : (k : Int) < (N : Int) := by omega
              have hkl : k < x.length := by rw [HN.out]; exact hlt
              have HS2 := HF.out.c
              rw [← HN.out] at HS2
              obtain ⟨bb, off, c3, e, hb3, c0⟩ := slN_at HS2 hkl
              injection e with e1 e2 e3
              subst e1 e3
              clear e2
              have hI := HIn.out u3 y (x[k]'hkl) HL.out.2.2.2 wr HF.out.d
              obtain ⟨q, hq⟩ : ∃ q, y.contains (x[k]'hkl) = q := ⟨_, rfl⟩
              rw [hq] at hI
              cases q with
              | true =>
                obtain ⟨z, hz⟩ : ∃ z, x[k]'hkl = z := ⟨_, rfl⟩
                rw [hz] at c0 hI
                clear hz hq HA HS2 hb3 hkl
                go_wp2_with fail
                with_reducible refine hI.mono ?_
                clear hI
                rintro e w8 ⟨rfl, rfl⟩
                go_wp2_with fail
                go_ret
                exact ⟨rfl, HF.out.w⟩
              | false =>
                have HA2 : Hid (∀ j (h : j < x.length), j < k + 1 → y.contains x[j] = false) := fun j h hj => by
                  by_cases h2 : j < k
                  · exact HA.out j h h2
                  · obtain rfl : j = k := by omega
                    exact hq
                obtain ⟨z, hz⟩ : ∃ z, x[k]'hkl = z := ⟨_, rfl⟩
                rw [hz] at c0 hI
                clear hz hq HA HS2 hb3 hkl
                go_wp2_with fail
                with_reducible refine hI.mono ?_
                clear hI
                rintro e w8 ⟨rfl, rfl⟩
                go_wp2_with fail
                exact ⟨⟨k + 1, by rw [Int.natCast_add]; rfl, by omega, HA2.out, HF.out⟩, by simp only [intOf]; omega⟩
            · exfalso
              obtain ⟨z, hz1, hz2⟩ := HX.out
              obtain ⟨j, hj, rfl⟩ := List.mem_iff_getElem.1 hz1
              have := HA.out j hj (by have := HN.out; omega)
              rw [List.contains_iff_mem.2 hz2] at this
              cases this
        | false =>
          go_wp2_with fail
          with_reducible refine ht.mono ?_
          clear ht
          rintro e w7 ⟨rfl, b7⟩
          have K7 := Lib.hid (K6.out.later b7)
          clear b7 K6
          go_wp2_with fail
          go_ret
          exact ⟨rfl, K7.out.w⟩
end Go.Proofs.Ytnodgpbahlaccaa.qm
