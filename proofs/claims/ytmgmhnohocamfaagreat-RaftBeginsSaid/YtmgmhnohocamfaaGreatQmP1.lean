/-
  Does a number stand in a list: the program's way, the document's way.
-/
import Derived.Test.YtmgmhnohocamfaaGreatQmMem
namespace Go.Proofs.YtmgmhnohocamfaaGreat.qm
set_option linter.unusedVariables false
open Go.RowKit
open rw (Arr But Own bnext below_box below_drew below_drewN)

theorem in_no {l : List Int} {n : Int} (h : ∀ j (h : j < l.length), j < l.length → l[j] ≠ n) : l.contains n = false := by
  rw [Bool.eq_false_iff]
  intro hc
  obtain ⟨j, hj, e⟩ := List.mem_iff_getElem.1 (List.contains_iff_mem.1 hc)
  exact h j hj hj e
theorem in_yes {l : List Int} {n : Int} {k : Nat} (hk : k < l.length) (h : l[k] = n) : l.contains n = true := by
  rw [List.contains_iff_mem, ← h]; exact List.getElem_mem hk
theorem in_next {l : List Int} {n : Int} {k : Nat} (hk : k < l.length) (h : ∀ j (h : j < l.length), j < k → l[j] ≠ n) (hn : l[k] ≠ n) : ∀ j (h : j < l.length), j < k + 1 → l[j] ≠ n := fun j hj h2 => by
  by_cases h3 : j < k
  · exact h j hj h3
  · obtain rfl : j = k := by omega
    exact hn
set_option maxHeartbeats 2000000 in
set_option maxRecDepth 100000 in
theorem in_any (v : Value) (l : List Int) (n : Int) (hl : l.length ≤ 140737488355328) (w : World) (h : Ns w v l) :
    Calls Tryz.prog 50 #[v, .int .i64 n] w fun e w' => e = .returned (.bool (l.contains n)) ∧ w = w' := by
  obtain ⟨a, c, rfl⟩ := sl_form h
  obtain ⟨N, hN⟩ : ∃ n, l.length = n := ⟨_, rfl⟩
  obtain ⟨r, hr⟩ : ∃ r, l.contains n = r := ⟨_, rfl⟩
  have HN := Lib.hid hN
  have HR := Lib.hid hr
  have HS := Lib.hid h
  rw [hN] at HS hl ⊢
  rw [hr]
  clear h hN hr
  go_enter Tryz.func50, Tryz.ntmps50
  go_wp2
  go_loopw [5] (fun i wr => ∃ k : Nat, i = .int .i64 k ∧ k ≤ N ∧ Hid (∀ j (h : j < l.length), j < k → l[j] ≠ n) ∧ wr = w)
    (fun i _ => N - (intOf i).toNat)
  case atStart => exact ⟨0, rfl, Nat.zero_le _, Lib.hid (fun j _ h => absurd h (by omega)), rfl⟩
  case round =>
    obtain ⟨k, rfl, hk, HA, rfl⟩ := hrel
    by_cases hlt : k < N
    · have hkl : k < l.length := by rw [HN.out]; exact hlt
      have HS2 := HS.out
      rw [← HN.out] at HS2
      obtain ⟨b, off, c2, e, hb, c0⟩ := slN_at HS2 hkl
      injection e with e1 e2 e3
      subst e1 e3
      clear e2
      have hki : (k : Int) < (N : Int) := by omega
      obtain ⟨x, hx⟩ : ∃ x, l[k]'hkl = x := ⟨_, rfl⟩
      rw [hx] at c0
      by_cases he : x = n
      · have hq : (x == n) = true := by simpa using he
        have HT : Hid (r = true) := HR.out.symm.trans <| in_yes hkl (hx.trans he)
        clear HA he hx HS2 hb
        go_wp2
        go_ret
        obtain rfl := HT.out
        exact ⟨rfl, rfl⟩
      · have hq : (x == n) = false := by simpa using he
        have HA2 : Hid (∀ j (h : j < l.length), j < k + 1 → l[j] ≠ n) := in_next hkl HA.out (by rw [hx]; exact he)
        clear HA he hx HS2 hb
        go_wp2
        go_roundw
        case rel => exact ⟨k + 1, by go_num, by omega, HA2, by first | rfl | trivial⟩
        case measure => simp [intOf]; omega
    · obtain rfl : k = N := by omega
      have HT : Hid (r = false) := HR.out.symm.trans <| in_no (fun j hj _ => HA.out j hj (by have := HN.out; omega))
      have hki : ¬ (k : Int) < (k : Int) := by omega
      clear HA
      go_wp2
      go_ret
      obtain rfl := HT.out
      exact ⟨rfl, rfl⟩
set_option maxHeartbeats 2000000 in
set_option maxRecDepth 100000 in
theorem index_any (v : Value) (l : List Int) (n : Int) (hl : l.length ≤ 140737488355328) (w : World) (h : Ns w v l) :
    Calls Tryz.prog 136 #[v, .int .i64 n] w fun e w' => (∃ z : Int, e = .returned (.int .i64 z) ∧ decide (0 ≤ z) = l.contains n) ∧ w = w' := by
  obtain ⟨a, c, rfl⟩ := sl_form h
  obtain ⟨N, hN⟩ : ∃ n, l.length = n := ⟨_, rfl⟩
  obtain ⟨r, hr⟩ : ∃ r, l.contains n = r := ⟨_, rfl⟩
  have HN := Lib.hid hN
  have HR := Lib.hid hr
  have HS := Lib.hid h
  rw [hN] at HS hl ⊢
  rw [hr]
  clear h hN hr
  go_enter Tryz.func136, Tryz.ntmps136
  go_wp2
  go_loopw [5, 8] (fun _ i wr => ∃ k : Nat, i = .int .i64 k ∧ k ≤ N ∧ Hid (∀ j (h : j < l.length), j < k → l[j] ≠ n) ∧ wr = w)
    (fun _ i _ => N - (intOf i).toNat)
  case atStart => exact ⟨0, rfl, Nat.zero_le _, Lib.hid (fun j _ h => absurd h (by omega)), rfl⟩
  case round =>
    obtain ⟨k, rfl, hk, HA, rfl⟩ := hrel
    by_cases hlt : k < N
    · have hkl : k < l.length := by rw [HN.out]; exact hlt
      have HS2 := HS.out
      rw [← HN.out] at HS2
      obtain ⟨b, off, c2, e, hb, c0⟩ := slN_at HS2 hkl
      injection e with e1 e2 e3
      subst e1 e3
      clear e2
      have hki : (k : Int) < (N : Int) := by omega
      obtain ⟨x, hx⟩ : ∃ x, l[k]'hkl = x := ⟨_, rfl⟩
      rw [hx] at c0
      by_cases he : x = n
      · have hq : (n == x) = true := by simpa using he.symm
        have HT : Hid (r = true) := HR.out.symm.trans <| in_yes hkl (hx.trans he)
        clear HA he hx HS2 hb
        go_wp2
        go_ret
        obtain rfl := HT.out
        exact ⟨⟨_, rfl, decide_eq_true (by omega)⟩, rfl⟩
      · have hq : (n == x) = false := by simpa using fun e => he (e.symm)
        have HA2 : Hid (∀ j (h : j < l.length), j < k + 1 → l[j] ≠ n) := in_next hkl HA.out (by rw [hx]; exact he)
        clear HA he hx HS2 hb
        go_wp2
        go_roundw
        case rel => exact ⟨k + 1, by go_num, by omega, HA2, by first | rfl | trivial⟩
        case measure => simp [intOf]; omega
    · obtain rfl : k = N := by omega
      have HT : Hid (r = false) := HR.out.symm.trans <| in_no (fun j hj _ => HA.out j hj (by have := HN.out; omega))
      have hki : ¬ (k : Int) < (k : Int) := by omega
      clear HA
      go_wp2
      go_ret
      obtain rfl := HT.out
      exact ⟨⟨-1, rfl, rfl⟩, rfl⟩
set_option maxHeartbeats 2000000 in
set_option maxRecDepth 100000 in
theorem contains_any (v : Value) (l : List Int) (n : Int) (hl : l.length ≤ 140737488355328) (w : World) (h : Ns w v l) :
    Calls Tryz.prog 109 #[v, .int .i64 n] w fun e w' => e = .returned (.bool (l.contains n)) ∧ w = w' := by
  obtain ⟨a, c, rfl⟩ := sl_form h
  have hI := index_any _ l n hl w h
  clear h
  obtain ⟨r, hr⟩ : ∃ r, l.contains n = r := ⟨_, rfl⟩
  rw [hr] at hI ⊢
  clear hr
  go_enter Tryz.func109, Tryz.ntmps109
  go_wp2_with fail
  refine hI.mono ?_
  clear hI
  rintro e w2 ⟨⟨z, rfl, hz⟩, rfl⟩
  have HZ := Lib.hid hz
  clear hz
  go_wp2_with fail
  go_ret
  exact ⟨by rw [← HZ.out]; simp, rfl⟩
end Go.Proofs.YtmgmhnohocamfaaGreat.qm
