/-
  Members, and majorities: the document's way.
-/
import Derived.Test.YtmgmhnohocamfaaGreatQmP2
namespace Go.Proofs.YtmgmhnohocamfaaGreat.qm
set_option linter.unusedVariables false
open Go.RowKit
open rw (Arr But Own bnext below_box below_drew below_drewN)

set_option maxHeartbeats 8000000 in
set_option maxRecDepth 100000 in
theorem rright_any (v : Value) (l : List Int) (hl : l.length ≤ 140737488355328) (w : World) (h : Ns w v l) :
    Calls Tryz.prog 51 #[v] w fun e w' => e = .returned (.bool (right l)) ∧ Below w.heap.size w w' := by
  obtain ⟨a, c, rfl⟩ := sl_form h
  obtain ⟨N, hN⟩ : ∃ n, l.length = n := ⟨_, rfl⟩
  obtain ⟨r, hr⟩ : ∃ r, right l = r := ⟨_, rfl⟩
  have HN := Lib.hid hN
  have HR := Lib.hid hr
  have HS := Lib.hid h
  rw [hN] at HS hl ⊢
  rw [hr]
  clear h hN hr
  go_enter Tryz.func51, Tryz.ntmps51
  go_wp2
  go_loopw [3] (fun i wr => ∃ (k : Nat), i = .int .i64 k ∧ k ≤ N ∧ Hid (rises 0 (l.take k) = true) ∧ Hid (Below w.heap.size w wr))
    (fun i _ => N - (intOf i).toNat)
  case atStart => exact ⟨0, rfl, Nat.zero_le _, Lib.hid (by rfl), Below.refl _ _⟩
  case round =>
    obtain ⟨k, rfl, hk, HA, HB⟩ := hrel
    by_cases hlt : k < N
    · have hkl : k < l.length := by rw [HN.out]; exact hlt
      have HS2 := HS.out.later _ HB.out
      rw [← HN.out] at HS2
      obtain ⟨b, off, c2, e, hb, c0⟩ := slN_at HS2 hkl
      have hki : (k : Int) < (N : Int) := by omega
      obtain ⟨x, hx⟩ : ∃ x, l[k]'hkl = x := ⟨_, rfl⟩
      rw [hx] at c0
      have HB2 : Hid (∀ n, Below w.heap.size w (wr.drewN n)) := fun n => below_drewN HB.out n
      have h0k : k = 0 ∨ ∃ m, k = m + 1 := by cases k <;> simp
      rcases h0k with h0 | ⟨m, rfl⟩
      · injection e with e1 e2 e3
        subst e1 e3
        clear e2
        have q0 : decide ((k : Int) > 0) = false := decide_eq_false (by omega)
        have q0b : decide (0 < k) = false := decide_eq_false (by omega)
        have q3 : decide ((k : Int) < (N : Int)) = true := decide_eq_true hki
        have HZ : (l.take k).getLastD 0 = 0 := by rw [h0]; rfl
        clear h0
        by_cases h1 : x < 1
        · have HT : Hid (r = false) := HR.out.symm.trans <| right_no hkl (by rw [hx, HZ]; omega)
          have q1 : decide (x < 1) = true := decide_eq_true h1
          clear HA hx HS2 hb HZ h1
          go_upto_region 4 with (fail)
          go_quiet (fail)
          go_wp2
          go_ret
          obtain rfl := HT.out
          exact ⟨rfl, HB2.out _⟩
        · have q1 : decide (x < 1) = false := decide_eq_false h1
          by_cases h2 : x > 5
          · have HT : Hid (r = false) := HR.out.symm.trans <| right_no hkl (by rw [hx]; omega)
            have q2 : decide (x > 5) = true := decide_eq_true h2
            clear HA hx HS2 hb HZ h1 h2
            go_upto_region 4 with (fail)
            go_quiet (fail)
            go_wp2
            go_ret
            obtain rfl := HT.out
            exact ⟨rfl, HB2.out _⟩
          · have q2 : decide (x > 5) = false := decide_eq_false h2
            have HA2 : Hid (rises 0 (l.take (k + 1)) = true) := rises_next hkl HA.out (by rw [hx, HZ]; omega) (by rw [hx]; omega)
            clear HA hx HS2 hb HZ h1 h2
            go_upto_region 4 with (fail)
            go_quiet (fail)
            go_wp2
            go_roundw
            case rel => exact ⟨k + 1, by go_num, by omega, HA2, HB2.out _⟩
            case measure => simp [intOf]; omega
      · have hml : m < l.length := by omega
        obtain ⟨b', off', c2', e', hb', d0⟩ := slN_at HS2 hml
        injection e with e1 e2 e3
        injection e' with g1 g2 g3
        subst e1 e3
        injection g1 with g1
        injection g1 with g1 g4 g5
        subst g1 g4
        clear e2 g2 g3 g5
        obtain ⟨y, hy⟩ : ∃ y, l[m]'hml = y := ⟨_, rfl⟩
        rw [hy] at d0
        have hy1 : 0 < y ∧ y ≤ 5 := by
          have hm : l[m]'hml ∈ l.take (m + 1) := by rw [take_one hml]; exact List.mem_append_right _ List.mem_cons_self
          have := rises_mem HA.out _ hm
          rw [hy] at this; exact this
        have hz : (l.take (m + 1)).getLastD 0 = y := by rw [last_next hml, hy]
        have hk0 : (((m + 1 : Nat) : Int)) > 0 := by omega
        have hw : IntKind.i64.wrap (((m + 1 : Nat) : Int) - 1) = (m : Int) := by
          have : ((m + 1 : Nat) : Int) - 1 = (m : Int) := by omega
          rw [this]; exact IntWalk.i64_in _ (by omega)
        have q0 : decide (((m + 1 : Nat) : Int) > 0) = true := decide_eq_true hk0
        have q3 : decide (((m + 1 : Nat) : Int) < (N : Int)) = true := decide_eq_true hki
        have q4 : decide ((m : Int) < (N : Int)) = true := decide_eq_true (by omega)
        by_cases h1 : x < 1
        · have HT : Hid (r = false) := HR.out.symm.trans <| right_no hkl (by rw [hx, hz]; omega)
          have q1 : decide (x < 1) = true := decide_eq_true h1
          clear HA hx HS2 hb h1 hz hy hb' q4 hw q0 d0
          go_upto_region 4 with (fail)
          go_quiet (fail)
          go_wp2
          go_ret
          obtain rfl := HT.out
          exact ⟨rfl, HB2.out _⟩
        · have q1 : decide (x < 1) = false := decide_eq_false h1
          by_cases h2 : x > 5
          · have HT : Hid (r = false) := HR.out.symm.trans <| right_no hkl (by rw [hx]; omega)
            have q2 : decide (x > 5) = true := decide_eq_true h2
            clear HA hx HS2 hb h1 h2 hz hy hb' q4 hw q0 d0
            go_upto_region 4 with (fail)
            go_quiet (fail)
            go_wp2
            go_ret
            obtain rfl := HT.out
            exact ⟨rfl, HB2.out _⟩
          · have q2 : decide (x > 5) = false := decide_eq_false h2
            by_cases h3 : x ≤ y
            · have q5 : decide (x ≤ y) = true := decide_eq_true h3
              have HT : Hid (r = false) := HR.out.symm.trans <| right_no hkl (by rw [hx, hz]; omega)
              clear HA hx HS2 hb h1 h2 h3 hz hy hb'
              go_upto_region 4 with (fail)
              go_quiet (fail)
              go_wp2
              go_ret
              obtain rfl := HT.out
              exact ⟨rfl, HB2.out _⟩
            · have q5 : decide (x ≤ y) = false := decide_eq_false h3
              have HA2 : Hid (rises 0 (l.take (m + 1 + 1)) = true) := rises_next hkl HA.out (by rw [hx, hz]; omega) (by rw [hx]; omega)
              clear HA hx HS2 hb h1 h2 h3 hz hy hb'
              go_upto_region 4 with (fail)
              go_quiet (fail)
              go_wp2
              go_roundw
              case rel => exact ⟨m + 1 + 1, by go_num, by omega, HA2, HB2.out _⟩
              case measure => simp [intOf]; omega
    · obtain rfl : k = N := by omega
      have HT : Hid (r = decide (0 < k)) := HR.out.symm.trans <| by have h := HA.out; rw [← HN.out] at h; have := right_yes h; rw [HN.out] at this; exact this
      have hki : ¬ (k : Int) < (k : Int) := by omega
      clear HA
      by_cases h0 : 0 < k
      · have h0i : (k : Int) > 0 := by omega
        rw [decide_eq_true h0] at HT
        go_wp2
        go_ret
        obtain rfl := HT.out
        exact ⟨rfl, HB.out⟩
      · have h0i : ¬ (k : Int) > 0 := by omega
        rw [decide_eq_false h0] at HT
        go_wp2
        go_ret
        obtain rfl := HT.out
        exact ⟨rfl, HB.out⟩
end Go.Proofs.YtmgmhnohocamfaaGreat.qm
