/-
  A majority, and the same lists: the document's way.
-/
import Derived.Test.YtmgmhnohocamfaaGreatQmR1
namespace Go.Proofs.YtmgmhnohocamfaaGreat.qm
set_option linter.unusedVariables false
open Go.RowKit
open rw (Arr But Own bnext below_box below_drew below_drewN)

set_option maxHeartbeats 4000000 in
set_option maxRecDepth 100000 in
theorem rmost_any (u v : Value) (l who : List Int) (hl : l.length ≤ 140737488355328) (hw : who.length ≤ 140737488355328) (w : World) (h : Ns w u l) (h2 : Ns w v who) :
    Calls Tryz.prog 62 #[u, v] w fun e w' => e = .returned (.bool (most l who)) ∧ Below w.heap.size w w' := by
  have hR := rright_any u l hl w h
  obtain ⟨a, c, rfl⟩ := sl_form h
  obtain ⟨a2, c2, rfl⟩ := sl_form h2
  have hC := fun n => in_any _ who n hw w h2
  obtain ⟨N, hN⟩ : ∃ n, l.length = n := ⟨_, rfl⟩
  obtain ⟨M, hM⟩ : ∃ n, who.length = n := ⟨_, rfl⟩
  have HN := Lib.hid hN
  have HS := Lib.hid h
  rw [hN] at HS hl hR ⊢
  rw [hM] at hC ⊢
  obtain ⟨R, hR0⟩ : ∃ r, most l who = r := ⟨_, rfl⟩
  rw [hR0]
  have HR := Lib.hid hR0
  have HC := Lib.hid hC
  have HRR := Lib.hid hR
  clear hR0 h h2 hN hM hC hw hR
  go_enter Tryz.func62, Tryz.ntmps62
  go_wp2
  go_loopw [5, 6, 7] (fun p q i wr => ∃ (k z y : Nat), i = .int .i64 k ∧ p = .int .i64 z ∧ q = .int .i64 y ∧ k ≤ N ∧ z ≤ k ∧ y ≤ k ∧ Hid (cnt (l.take k) who = z ∧ z + y = k) ∧ wr = w)
    (fun _ _ i _ => N - (intOf i).toNat)
  case atStart => exact ⟨0, 0, 0, rfl, rfl, rfl, Nat.zero_le _, Nat.zero_le _, Nat.zero_le _, Lib.hid ⟨by rfl, by rfl⟩, rfl⟩
  case round =>
    obtain ⟨k, z, y, rfl, rfl, rfl, hk, hz, hy, HA, rfl⟩ := hrel
    by_cases hlt : k < N
    · have hkl : k < l.length := by rw [HN.out]; exact hlt
      have HS2 := HS.out
      rw [← HN.out] at HS2
      obtain ⟨b, off, c3, e, hb, c0⟩ := slN_at HS2 hkl
      injection e with e1 e2 e3
      subst e1 e3
      clear e2
      have hki : (k : Int) < (N : Int) := by omega
      obtain ⟨x, hx⟩ : ∃ x, l[k]'hkl = x := ⟨_, rfl⟩
      rw [hx] at c0
      have hC := HC.out x
      have hn := cnt_next (who := who) hkl
      rw [HA.out.1, hx] at hn
      obtain ⟨r, hr⟩ : ∃ r, who.contains x = r := ⟨_, rfl⟩
      rw [hr] at hC hn
      have hzy := HA.out.2
      clear hr hx HA HS2 hb
      cases r with
      | true =>
        have HA2 : Hid (cnt (l.take (k + 1)) who = z + 1 ∧ z + 1 + y = k + 1) := ⟨hn, by omega⟩
        clear hn hzy
        go_wp2_with fail
        refine hC.mono ?_
        clear hC
        rintro e w2 ⟨rfl, rfl⟩
        go_wp2_with fail
        go_roundw
        case rel => exact ⟨k + 1, z + 1, y, by go_num, by go_num, rfl, by omega, by omega, by omega, HA2, by first | rfl | trivial⟩
        case measure => simp [intOf]; omega
      | false =>
        have HA2 : Hid (cnt (l.take (k + 1)) who = z ∧ z + (y + 1) = k + 1) := ⟨hn, by omega⟩
        clear hn hzy
        go_wp2_with fail
        refine hC.mono ?_
        clear hC
        rintro e w2 ⟨rfl, rfl⟩
        go_wp2_with fail
        go_roundw
        case rel => exact ⟨k + 1, z, y + 1, by go_num, rfl, by go_num, by omega, by omega, by omega, HA2, by first | rfl | trivial⟩
        case measure => simp [intOf]; omega
    · obtain rfl : k = N := by omega
      have HZ : Hid (cnt l who = z ∧ z + y = k) := by have h := HA.out; rw [← HN.out, List.take_length, HN.out] at h; exact h
      have hki : ¬ (k : Int) < (k : Int) := by omega
      have hR := HRR.out
      obtain ⟨r, hr⟩ : ∃ r, right l = r := ⟨_, rfl⟩
      rw [hr] at hR
      clear HA
      cases r with
      | true =>
        by_cases hd : (z : Int) > (y : Int)
        · have HT : Hid (R = true) := HR.out.symm.trans <| by
            have := HZ.out
            have hl2 := HN.out
            simp only [most, hr, Bool.true_and, decide_eq_true_eq]; omega
          clear HZ hr
          go_wp2_with fail
          refine hR.mono ?_
          clear hR
          rintro e w2 ⟨rfl, b2⟩
          have B2 := Lib.hid b2
          clear b2
          go_wp2_with fail
          go_ret
          obtain rfl := HT.out
          exact ⟨rfl, B2.out⟩
        · have HT : Hid (R = false) := HR.out.symm.trans <| by
            have := HZ.out
            have hl2 := HN.out
            simp only [most, hr, Bool.true_and, decide_eq_false_iff_not]; omega
          clear HZ hr
          go_wp2_with fail
          refine hR.mono ?_
          clear hR
          rintro e w2 ⟨rfl, b2⟩
          have B2 := Lib.hid b2
          clear b2
          go_wp2_with fail
          go_ret
          obtain rfl := HT.out
          refine ⟨?_, B2.out⟩
          show Ending.returned (Value.bool (decide (y < z))) = _
          rw [decide_eq_false (by omega)]
      | false =>
        have HT : Hid (R = false) := HR.out.symm.trans <| by simp [most, hr]
        clear HZ hr
        go_wp2_with fail
        refine hR.mono ?_
        clear hR
        rintro e w2 ⟨rfl, b2⟩
        have B2 := Lib.hid b2
        clear b2
        go_wp2_with fail
        go_ret
        obtain rfl := HT.out
        exact ⟨rfl, B2.out⟩
set_option maxHeartbeats 4000000 in
set_option maxRecDepth 100000 in
theorem same_any (u v : Value) (a b : List Int) (hl : a.length ≤ 140737488355328) (hl2 : b.length ≤ 140737488355328) (w : World) (h1 : Ns w u a) (h2 : Ns w v b) :
    Calls Tryz.prog 100 #[u, v] w fun e w' => e = .returned (.bool (decide (a = b))) ∧ Below w.heap.size w w' := by
  obtain ⟨r, hr⟩ : ∃ r, decide (a = b) = r := ⟨_, rfl⟩
  rw [hr]
  have HR := Lib.hid hr
  clear hr
  obtain ⟨ua, uc, rfl⟩ := sl_form h1
  obtain ⟨va, vc, rfl⟩ := sl_form h2
  obtain ⟨na, hna⟩ : ∃ n, a.length = n := ⟨_, rfl⟩
  obtain ⟨nb, hnb⟩ : ∃ n, b.length = n := ⟨_, rfl⟩
  have HN : Hid (a.length = na ∧ b.length = nb) := ⟨hna, hnb⟩
  have H1 := Lib.hid h1
  have H2 := Lib.hid h2
  rw [hna] at H1 hl ⊢
  rw [hnb] at H2 hl2 ⊢
  clear h1 h2 hna hnb
  by_cases hn : na = nb
  · have hni : (na : Int) = (nb : Int) := by omega
    subst hn
    clear hni
    go_enter Tryz.func100, Tryz.ntmps100
    go_wp2_with fail
    go_loopw [5] (fun i wr => ∃ k : Nat, i = .int .i64 (k : Nat) ∧ k ≤ na ∧ Hid (Below w.heap.size w wr ∧ a.take k = b.take k))
      (fun i _ => na - (intOf i).toNat)
    case atStart => exact ⟨0, rfl, Nat.zero_le _, Below.refl _ _, rfl⟩
    case round =>
      obtain ⟨k, rfl, hk, HI⟩ := hrel
      by_cases hlt : k < na
      · have hki : (k : Int) < (na : Int) := by omega
        have hka : k < a.length := by rw [HN.out.1]; exact hlt
        have hkb : k < b.length := by rw [HN.out.2]; exact hlt
        have G1 := H1.out.later _ HI.out.1
        have G2 := H2.out.later _ HI.out.1
        rw [← HN.out.1] at G1
        rw [← HN.out.2] at G2
        obtain ⟨p1, o1, d1, e1, g1, c10⟩ := slN_at G1 hka
        obtain ⟨p2, o2, d2, e2, g2, c20⟩ := slN_at G2 hkb
        injection e1 with e11 e12 e13
        injection e2 with e21 e22 e23
        subst e11 e13 e21 e23
        clear e12 e22 G1 G2
        obtain ⟨x, hx⟩ : ∃ x, a[k]'hka = x := ⟨_, rfl⟩
        obtain ⟨y, hy⟩ : ∃ y, b[k]'hkb = y := ⟨_, rfl⟩
        rw [hx] at c10
        rw [hy] at c20
        have hs1 : a.take (k + 1) = a.take k ++ [x] := by rw [List.take_succ_eq_append_getElem hka, hx]
        have hs2 : b.take (k + 1) = b.take k ++ [y] := by rw [List.take_succ_eq_append_getElem hkb, hy]
        have HB : Hid (∀ n, Below w.heap.size w (wr.drewN n)) := fun n => below_drewN HI.out.1 n
        by_cases hxy : x = y
        · have hq : (x != y) = false := by simpa using hxy
          have HT : Hid (a.take (k + 1) = b.take (k + 1)) := by
            rw [hs1, hs2, HI.out.2, hxy]
            exact rfl
          clear HI hs1 hs2 hx hy hxy g1 g2 hka hkb
          go_upto_region 6 with (fail)
          go_quiet (fail)
          go_wp2_with fail
          exact ⟨⟨k + 1, by rw [Int.natCast_add]; rfl, by omega, HB.out _, HT.out⟩, by simp only [intOf]; omega⟩
        · have hq : (x != y) = true := by simpa using hxy
          have HT : Hid (r = false) := HR.out.symm.trans <| decide_eq_false fun e => hxy (by
            subst e
            rw [← hx, ← hy])
          clear HI hs1 hs2 hx hy hxy g1 g2 hka hkb
          go_upto_region 6 with (fail)
          go_quiet (fail)
          go_wp2_with fail
          go_ret
          obtain rfl := HT.out
          exact ⟨rfl, HB.out _⟩
      · obtain rfl : k = na := by omega
        have hki : ¬ (k : Int) < (k : Int) := by omega
        have HT : Hid (r = true ∧ Below w.heap.size w wr) := by
          have h := HI.out.2
          rw [List.take_of_length_le (by rw [HN.out.1]; exact Nat.le_refl _), List.take_of_length_le (by rw [HN.out.2]; exact Nat.le_refl _)] at h
          exact ⟨HR.out.symm.trans (decide_eq_true h), HI.out.1⟩
        clear HI
        go_wp2_with fail
        go_ret
        obtain rfl := HT.out.1
        exact ⟨rfl, HT.out.2⟩
  · have hni : ¬ (na : Int) = (nb : Int) := by omega
    have hnb2 : ((na : Int) != (nb : Int)) = true := bne_iff_ne.2 (by omega)
    have HT : Hid (r = false) := HR.out.symm.trans <| decide_eq_false fun e => hn (by rw [← HN.out.1, ← HN.out.2, e])
    go_enter Tryz.func100, Tryz.ntmps100
    go_wp2_with fail
    go_ret
    obtain rfl := HT.out
    exact ⟨rfl, Below.refl _ _⟩
end Go.Proofs.YtmgmhnohocamfaaGreat.qm
