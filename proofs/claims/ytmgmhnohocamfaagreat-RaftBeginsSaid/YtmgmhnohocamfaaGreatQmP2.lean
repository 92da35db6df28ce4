/-
  Members, and majorities: the program's way, the document's way.
-/
import Derived.Test.YtmgmhnohocamfaaGreatQmP1
namespace Go.Proofs.YtmgmhnohocamfaaGreat.qm
set_option linter.unusedVariables false
open Go.RowKit
open rw (Arr But Own bnext below_box below_drew below_drewN)

theorem take_one {l : List Int} {k : Nat} (hk : k < l.length) : l.take (k + 1) = l.take k ++ [l[k]] := List.take_succ_eq_append_getElem hk
theorem last_next {l : List Int} {k : Nat} (hk : k < l.length) : (l.take (k + 1)).getLastD 0 = l[k] := by rw [take_one hk, List.getLastD_concat]
theorem rises_next {l : List Int} {k : Nat} (hk : k < l.length) (h : rises 0 (l.take k) = true) (h1 : (l.take k).getLastD 0 < l[k]) (h2 : l[k] ≤ 5) : rises 0 (l.take (k + 1)) = true := by
  rw [take_one hk, rises_append]
  exact ⟨h, by simp only [rises, Bool.and_true, Bool.and_eq_true, decide_eq_true_eq]; exact ⟨h1, h2⟩⟩
theorem right_no {l : List Int} {k : Nat} (hk : k < l.length) (h : ¬ ((l.take k).getLastD 0 < l[k] ∧ l[k] ≤ 5)) : right l = false := by
  rw [Bool.eq_false_iff]
  intro hr
  simp only [right, Bool.and_eq_true] at hr
  have e : l = l.take k ++ (l[k] :: l.drop (k + 1)) := by rw [List.getElem_cons_drop, List.take_append_drop]
  have h1 := hr.1
  rw [e, rises_append] at h1
  have h2 := h1.2
  simp only [rises, Bool.and_eq_true, decide_eq_true_eq] at h2
  exact h h2.1
theorem right_yes {l : List Int} (h : rises 0 (l.take l.length) = true) : right l = decide (0 < l.length) := by
  rw [List.take_length] at h
  simp only [right, h, Bool.true_and]
  cases l <;> simp
theorem cnt_next {l who : List Int} {k : Nat} (hk : k < l.length) : cnt (l.take (k + 1)) who = cnt (l.take k) who + if who.contains l[k] then 1 else 0 := by
  unfold cnt
  rw [take_one hk, List.filter_append, List.length_append]
  congr 1
  cases h : who.contains l[k] with
  | true => rw [List.filter_cons_of_pos (by simpa using h)]; simp
  | false => rw [List.filter_cons_of_neg (by simpa using h)]; simp
theorem cnt_le (l who : List Int) : cnt l who ≤ l.length := List.length_filter_le _ _

set_option maxHeartbeats 4000000 in
set_option maxRecDepth 100000 in
theorem right_any (v : Value) (l : List Int) (hl : l.length ≤ 140737488355328) (w : World) (h : Ns w v l) :
    Calls Tryz.prog 107 #[v] w fun e w' => e = .returned (.bool (right l)) ∧ w = w' := by
  obtain ⟨a, c, rfl⟩ := sl_form h
  obtain ⟨N, hN⟩ : ∃ n, l.length = n := ⟨_, rfl⟩
  obtain ⟨r, hr⟩ : ∃ r, right l = r := ⟨_, rfl⟩
  have HN := Lib.hid hN
  have HR := Lib.hid hr
  have HS := Lib.hid h
  rw [hN] at HS hl ⊢
  rw [hr]
  clear h hN hr
  go_enter Tryz.func107, Tryz.ntmps107
  go_wp2
  go_loopw [3, 5, 8] (fun p _ i wr => ∃ (k : Nat) (z : Int), i = .int .i64 k ∧ p = .int .i64 z ∧ k ≤ N ∧ Hid (rises 0 (l.take k) = true ∧ (l.take k).getLastD 0 = z) ∧ wr = w)
    (fun _ _ i _ => N - (intOf i).toNat)
  case atStart => exact ⟨0, 0, rfl, rfl, Nat.zero_le _, Lib.hid ⟨by rfl, by rfl⟩, rfl⟩
  case round =>
    obtain ⟨k, z, rfl, rfl, hk, HA, rfl⟩ := hrel
    by_cases hlt : k < N
    · have hkl : k < l.length := by rw [HN.out]; exact hlt
      have HS2 := HS.out
      rw [← HN.out] at HS2
      obtain ⟨b, off, c2, e, hb, c0⟩ := slN_at HS2 hkl
      injection e with e1 e2 e3
      subst e1 e3
      clear e2
      have hki : (k : Int) < (N : Int) := by omega
      obtain ⟨x, hx⟩ : ∃ x, l[k]'hkl = x := ⟨_, rfl⟩
      rw [hx] at c0
      by_cases h1 : x ≤ z
      · have HT : Hid (r = false) := HR.out.symm.trans <| right_no hkl (by rw [HA.out.2, hx]; omega)
        clear HA hx HS2 hb
        go_wp2
        go_ret
        obtain rfl := HT.out
        exact ⟨rfl, rfl⟩
      · by_cases h2 : x > 5
        · have HT : Hid (r = false) := HR.out.symm.trans <| right_no hkl (by rw [HA.out.2, hx]; omega)
          clear HA hx HS2 hb
          go_wp2
          go_ret
          obtain rfl := HT.out
          exact ⟨rfl, rfl⟩
        · have HA2 : Hid (rises 0 (l.take (k + 1)) = true ∧ (l.take (k + 1)).getLastD 0 = x) := ⟨rises_next hkl HA.out.1 (by rw [HA.out.2, hx]; omega) (by rw [hx]; omega), by rw [last_next hkl, hx]⟩
          clear HA hx HS2 hb
          go_wp2
          go_roundw
          case rel => exact ⟨k + 1, x, by go_num, rfl, by omega, HA2, by first | rfl | trivial⟩
          case measure => simp [intOf]; omega
    · obtain rfl : k = N := by omega
      have HT : Hid (r = decide (0 < k)) := HR.out.symm.trans <| by have h := HA.out.1; rw [← HN.out] at h; have := right_yes h; rw [HN.out] at this; exact this
      have hki : ¬ (k : Int) < (k : Int) := by omega
      clear HA
      by_cases h0 : 0 < k
      · have h0i : (k : Int) > 0 := by omega
        rw [decide_eq_true h0] at HT
        go_wp2
        go_ret
        obtain rfl := HT.out
        exact ⟨rfl, rfl⟩
      · have h0i : ¬ (k : Int) > 0 := by omega
        rw [decide_eq_false h0] at HT
        go_wp2
        go_ret
        obtain rfl := HT.out
        exact ⟨rfl, rfl⟩
end Go.Proofs.YtmgmhnohocamfaaGreat.qm
