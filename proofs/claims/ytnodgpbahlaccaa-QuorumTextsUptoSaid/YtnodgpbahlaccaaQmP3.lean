/-
  A majority: the program's way.
-/
import Derived.Test.YtnodgpbahlaccaaQmP2
namespace Go.Proofs.Ytnodgpbahlaccaa.qm
set_option linter.unusedVariables false
open Go.RowKit
open rw (Arr But Own bnext below_box below_drew below_drewN)

set_option maxHeartbeats 4000000 in
set_option maxRecDepth 100000 in
theorem most_any (u v : Value) (l who : List Int) (hl : l.length ≤ 140737488355328) (hw : who.length ≤ 140737488355328) (w : World) (h : Ns w u l) (h2 : Ns w v who) :
    Calls Try.prog 13 #[u, v] w fun e w' => e = .returned (.bool (most l who)) ∧ w = w' := by
  have hR := right_any u l hl w h
  obtain ⟨a, c, rfl⟩ := sl_form h
  obtain ⟨a2, c2, rfl⟩ := sl_form h2
  have hC := fun n => contains_any _ who n hw w h2
  obtain ⟨N, hN⟩ : ∃ n, l.length = n := ⟨_, rfl⟩
  obtain ⟨M, hM⟩ : ∃ n, who.length = n := ⟨_, rfl⟩
  have HN := Lib.hid hN
  have HS := Lib.hid h
  rw [hN] at HS hl hR ⊢
  rw [hM] at hC ⊢
  obtain ⟨R, hR0⟩ : ∃ r, most l who = r := ⟨_, rfl⟩
  rw [hR0]
  have HR := Lib.hid hR0
  clear hR0
  have HC := Lib.hid hC
  clear h h2 hN hM hC hw
  by_cases hr : right l = true
  · have hlen := right_len hr
    rw [HN.out] at hlen
    have HM : Hid (R = decide (N < 2 * cnt l who)) := HR.out.symm.trans <| by
      simp only [most, hr, Bool.true_and, HN.out]
    rw [hr] at hR
    clear hr
    go_enter Try.func13, Try.ntmps13
    go_wp2_with fail
    refine hR.mono ?_
    clear hR
    rintro e w2 ⟨rfl, rfl⟩
    go_wp2_with fail
    go_loopw [5, 7, 13] (fun p _ i wr => ∃ (k z : Nat), i = .int .i64 k ∧ p = .int .i64 z ∧ k ≤ N ∧ z ≤ k ∧ Hid (cnt (l.take k) who = z) ∧ wr = w)
      (fun _ _ i _ => N - (intOf i).toNat)
    case atStart => exact ⟨0, 0, rfl, rfl, Nat.zero_le _, Nat.zero_le _, Lib.hid (by rfl), rfl⟩
    case round =>
      obtain ⟨k, z, rfl, rfl, hk, hz, HA, rfl⟩ := hrel
      by_cases hlt : k < N
      · have hkl : k < l.length := by rw [HN.out]; exact hlt
        have HS2 := HS.out
        rw [← HN.out] at HS2
        obtain ⟨b, off, c3, e, hb, c0⟩ := slN_at HS2 hkl
        injection e with e1 e2 e3
        subst e1 e3
        clear e2
        have hki : (k : Int) < (N : Int) := by omega
        obtain ⟨x, hx⟩ : ∃ x, l[k]'hkl = x := ⟨_, rfl⟩
        rw [hx] at c0
        have hC := HC.out x
        have hn := cnt_next (who := who) hkl
        rw [HA.out, hx] at hn
        obtain ⟨r, hr⟩ : ∃ r, who.contains x = r := ⟨_, rfl⟩
        rw [hr] at hC hn
        clear hr hx HA HS2 hb
        cases r with
        | true =>
          have HA2 : Hid (cnt (l.take (k + 1)) who = z + 1) := hn
          clear hn
          go_wp2_with fail
          refine hC.mono ?_
          clear hC
          rintro e w2 ⟨rfl, rfl⟩
          go_wp2_with fail
          go_roundw
          case rel => exact ⟨k + 1, z + 1, by go_num, by go_num, by omega, by omega, HA2, by first | rfl | trivial⟩
          case measure => simp [intOf]; omega
        | false =>
          have HA2 : Hid (cnt (l.take (k + 1)) who = z) := hn
          clear hn
          go_wp2_with fail
          refine hC.mono ?_
          clear hC
          rintro e w2 ⟨rfl, rfl⟩
          go_wp2_with fail
          go_roundw
          case rel => exact ⟨k + 1, z, by go_num, rfl, by omega, by omega, HA2, by first | rfl | trivial⟩
          case measure => simp [intOf]; omega
      · obtain rfl : k = N := by omega
        have HZ : Hid (cnt l who = z) := by have h := HA.out; rw [← HN.out, List.take_length] at h; exact h
        have hki : ¬ (k : Int) < (k : Int) := by omega
        rw [HZ.out] at HM
        clear HA HZ
        have hd : IntKind.i64.wrap (Int.tdiv (k : Int) 2) = ((k / 2 : Nat) : Int) := by
          have : Int.tdiv (k : Int) 2 = ((k / 2 : Nat) : Int) := by rw [Int.tdiv_eq_ediv_of_nonneg (by omega)]; rfl
          rw [this]
          exact IntWalk.i64_in _ (by omega)
        by_cases hd2 : k < 2 * z
        · have hg : (z : Int) > ((k / 2 : Nat) : Int) := by omega
          rw [decide_eq_true hd2] at HM
          go_wp2
          go_ret
          obtain rfl := HM.out
          refine ⟨?_, rfl⟩
          show Ending.returned (Value.bool (decide ((k : Int) / 2 < (z : Int)))) = _
          rw [decide_eq_true (by omega)]
        · have hg : ¬ (z : Int) > ((k / 2 : Nat) : Int) := by omega
          rw [decide_eq_false hd2] at HM
          go_wp2
          go_ret
          obtain rfl := HM.out
          refine ⟨?_, rfl⟩
          show Ending.returned (Value.bool (decide ((k : Int) / 2 < (z : Int)))) = _
          rw [decide_eq_false (by omega)]
  · rw [Bool.not_eq_true] at hr
    have HM : Hid (R = false) := HR.out.symm.trans <| by simp [most, hr]
    rw [hr] at hR
    clear hr
    go_enter Try.func13, Try.ntmps13
    go_wp2_with fail
    refine hR.mono ?_
    clear hR
    rintro e w2 ⟨rfl, rfl⟩
    go_wp2_with fail
    go_ret
    obtain rfl := HM.out
    exact ⟨rfl, rfl⟩
end Go.Proofs.Ytnodgpbahlaccaa.qm
