/-
  Members with one more, with one less: the document's way.
-/
import Derived.Test.YtnodgpbahlaccaaQmR3
import Derived.Test.YtnodgpbahlaccaaQmSpec
namespace Go.Proofs.Ytnodgpbahlaccaa.qm
set_option linter.unusedVariables false
open Go.RowKit
open rw (Arr But Own bnext below_box below_drew below_drewN)

theorem with_next (l : List Int) (n : Int) {k z : Nat} (hz : z = k + 1) (hk : k < 5) : (five.take (k + 1)).filter (fun m => l.contains m || m == n) = (five.take k).filter (fun m => l.contains m || m == n) ++ (if l.contains (z : Int) || (z : Int) == n then [(z : Int)] else []) := by
  have h5 : k < five.length := hk
  have e : five[k] = (z : Int) := by
    subst hz
    have : k = 0 ∨ k = 1 ∨ k = 2 ∨ k = 3 ∨ k = 4 := by omega
    rcases this with rfl | rfl | rfl | rfl | rfl <;> rfl
  rw [List.take_succ_eq_append_getElem h5, List.filter_append, e]
  congr 1
  cases h : (l.contains (z : Int) || (z : Int) == n) with
  | true => simp only [List.filter, h]; rfl
  | false => simp only [List.filter, h]; rfl
theorem filter5_len (p : Int → Bool) (k : Nat) : ((five.take k).filter p).length ≤ 5 := by
  refine Nat.le_trans (List.length_filter_le _ _) ?_
  rw [List.length_take]
  exact Nat.min_le_right _ _
/-- A new row of members. -/
def NewN (w w' : World) (u : Value) (l : List Int) : Prop := Own noSh w' w.heap.size u l ∧ Below w.heap.size w w'
set_option maxHeartbeats 4000000 in
set_option maxRecDepth 100000 in
theorem with_any (v : Value) (l : List Int) (n : Int) (hl : l.length ≤ 140737488355328) (w : World) (h : Ns w v l) :
    Calls Try.prog 35 #[v, .int .i64 n] w fun e w' => ∃ u, e = .returned u ∧ NewN w w' u (withL l n) := by
  have HI := Lib.hid fun m W (x : Ns W v l) => in_any v l m hl W x
  obtain ⟨a, c, rfl⟩ := sl_form h
  obtain ⟨N, hN⟩ : ∃ n, l.length = n := ⟨_, rfl⟩
  rw [hN] at HI h ⊢
  have HS := Lib.hid h
  clear h hN hl
  go_enter Try.func35, Try.ntmps35
  go_wp2
  go_loopw [5, 6] (fun o i wr => ∃ (k z : Nat), i = .int .i64 z ∧ z = k + 1 ∧ k ≤ 5 ∧ Hid (NewN w wr o ((five.take k).filter fun m => l.contains m || m == n)))
    (fun _ i _ => 6 - (intOf i).toNat)
  case atStart => exact ⟨0, 1, rfl, rfl, by omega, ⟨Own.nil _ _ _, Below.refl _ _⟩⟩
  case round =>
    obtain ⟨k, z, rfl, hz, hk, HO⟩ := hrel
    have HZ := Lib.hid hz
    by_cases hlt : k < 5
    · have hki : (z : Int) ≤ 5 := by omega
      have hI := HI.out z wr (HS.out.later _ HO.out.2)
      have hnx := with_next l n hz hlt
      have hz5 : z ≤ 5 := by omega
      clear hz
      by_cases hin : (l.contains (z : Int) || (z : Int) == n) = true
      · rw [if_pos hin] at hnx
        obtain ⟨o', w', h1, h2, h3⟩ := rw.append_one noSh w.heap.size _ _ (z : Int) (by have := filter5_len (fun m => l.contains m || m == n) k; omega) wr HO.out.1 HO.out.2.size
        rw [← hnx] at h2
        have HR := Lib.hid h1
        have HO3 : Hid (NewN w w' o' ((five.take (k + 1)).filter fun m => l.contains m || m == n)) := ⟨h2, HO.out.2.trans h3⟩
        clear HO h1 h2 h3 hnx
        cases hc : l.contains (z : Int) with
        | true =>
          rw [hc] at hI
          clear hin hc
          go_wp2_with fail
          with_reducible refine hI.mono ?_
          clear hI
          rintro e w2 ⟨rfl, rfl⟩
          go_wp2_with (at_builtin; refine rw.wpList_append_at _ _ _ rfl rfl _ _ _ _ rfl rfl HR.out ?_)
          exact ⟨⟨k + 1, z + 1, by rw [Int.natCast_add]; rfl, by rw [HZ.out], by omega, HO3.out⟩, by simp only [intOf]; omega⟩
        | false =>
          rw [hc] at hI hin
          have hq : ((z : Int) == n) = true := by simpa using hin
          clear hin hc
          go_wp2_with fail
          with_reducible refine hI.mono ?_
          clear hI
          rintro e w2 ⟨rfl, rfl⟩
          go_wp2_with (at_builtin; refine rw.wpList_append_at _ _ _ rfl rfl _ _ _ _ rfl rfl HR.out ?_)
          exact ⟨⟨k + 1, z + 1, by rw [Int.natCast_add]; rfl, by rw [HZ.out], by omega, HO3.out⟩, by simp only [intOf]; omega⟩
      · rw [Bool.not_eq_true] at hin
        rw [if_neg (by rw [hin]; simp), List.append_nil] at hnx
        have HO2 := HO.out
        rw [← hnx] at HO2
        have HO3 := Lib.hid HO2
        rw [Bool.or_eq_false_iff] at hin
        obtain ⟨hc, hq⟩ := hin
        rw [hc] at hI
        clear HO HO2 hnx hc
        go_wp2_with fail
        with_reducible refine hI.mono ?_
        clear hI
        rintro e w2 ⟨rfl, rfl⟩
        go_wp2_with fail
        exact ⟨⟨k + 1, z + 1, by rw [Int.natCast_add]; rfl, by rw [HZ.out], by omega, HO3.out⟩, by simp only [intOf]; omega⟩
    · obtain rfl : k = 5 := by omega
      have hki : ¬ (z : Int) ≤ 5 := by omega
      clear hz
      go_wp2
      go_ret
      exact ⟨_, rfl, HO.out⟩
theorem without_next (l : List Int) (n : Int) {k : Nat} (hk : k < l.length) : withoutL (l.take (k + 1)) n = withoutL (l.take k) n ++ (if l[k] != n then [l[k]] else []) := by
  unfold withoutL
  rw [List.take_succ_eq_append_getElem hk, List.filter_append]
  congr 1
  cases h : (l[k] != n) with
  | true => simp only [List.filter, h]; rfl
  | false => simp only [List.filter, h]; rfl
set_option maxHeartbeats 4000000 in
set_option maxRecDepth 100000 in
theorem without_any (v : Value) (l : List Int) (n : Int) (hl : l.length ≤ 1000) (w : World) (h : Ns w v l) :
    Calls Try.prog 36 #[v, .int .i64 n] w fun e w' => ∃ u, e = .returned u ∧ NewN w w' u (withoutL l n) := by
  obtain ⟨a, c, rfl⟩ := sl_form h
  obtain ⟨N, hN⟩ : ∃ n, l.length = n := ⟨_, rfl⟩
  rw [hN] at hl h ⊢
  have HN := Lib.hid hN
  have HS := Lib.hid h
  clear h hN
  go_enter Try.func36, Try.ntmps36
  go_wp2
  go_loopw [5, 6] (fun o i wr => ∃ (k : Nat), i = .int .i64 k ∧ k ≤ N ∧ Hid (NewN w wr o (withoutL (l.take k) n)))
    (fun _ i _ => N - (intOf i).toNat)
  case atStart => exact ⟨0, rfl, Nat.zero_le _, ⟨Own.nil _ _ _, Below.refl _ _⟩⟩
  case round =>
    obtain ⟨k, rfl, hk, HO⟩ := hrel
    by_cases hlt : k < N
    · have hki : (k : Int) < (N : Int) := by omega
      have hkl : k < l.length := by rw [HN.out]; exact hlt
      have HS2 := HS.out.later _ HO.out.2
      rw [← HN.out] at HS2
      obtain ⟨b, off, c3, e, hb3, c0⟩ := slN_at HS2 hkl
      injection e with e1 e2 e3
      subst e1 e3
      clear e2
      have hnx := without_next l n hkl
      obtain ⟨x, hx⟩ : ∃ x, l[k]'hkl = x := ⟨_, rfl⟩
      rw [hx] at c0 hnx
      clear HS2 hb3 hx hkl
      cases hq : (x != n) with
      | true =>
        rw [if_pos hq] at hnx
        obtain ⟨o', w', h1, h2, h3⟩ := rw.append_one noSh w.heap.size _ _ x (by
          have : (withoutL (l.take k) n).length ≤ (l.take k).length := List.length_filter_le _ _
          rw [List.length_take] at this
          omega) wr HO.out.1 HO.out.2.size
        rw [← hnx] at h2
        have HR := Lib.hid h1
        have HO3 : Hid (NewN w w' o' (withoutL (l.take (k + 1)) n)) := ⟨h2, HO.out.2.trans h3⟩
        clear HO h1 h2 h3 hnx
        go_wp2_with (at_builtin; refine rw.wpList_append_at _ _ _ rfl rfl _ _ _ _ rfl rfl HR.out ?_)
        exact ⟨⟨k + 1, by rw [Int.natCast_add]; rfl, by omega, HO3.out⟩, by simp only [intOf]; omega⟩
      | false =>
        rw [if_neg (by rw [hq]; simp), List.append_nil] at hnx
        have HO2 := HO.out
        rw [← hnx] at HO2
        have HO3 := Lib.hid HO2
        clear HO HO2 hnx
        go_wp2
        exact ⟨⟨k + 1, by rw [Int.natCast_add]; rfl, by omega, HO3.out⟩, by simp only [intOf]; omega⟩
    · obtain rfl : k = N := by omega
      have hki : ¬ (k : Int) < (k : Int) := by omega
      have HT : Hid (NewN w wr u5 (withoutL l n)) := by have h := HO.out; rw [← HN.out, List.take_length] at h; exact h
      clear HO
      go_wp2
      go_ret
      exact ⟨_, rfl, HT.out⟩
end Go.Proofs.Ytnodgpbahlaccaa.qm
