/-
  What a majority has: the document's way.
-/
import Derived.Test.YtnodgpbahlaccaaQmR2
import Derived.Test.YtnodgpbahlaccaaQmH7
namespace Go.Proofs.Ytnodgpbahlaccaa.qm
set_option linter.unusedVariables false
open Go.RowKit
open rw (Arr But Own bnext below_box below_drew below_drewN)

theorem has_next {hv : List Ix} {k : Nat} (hk : k < hv.length) (x : Int) : has (hv.take (k + 1)) x = if x ≤ (hv[k]).idx then has (hv.take k) x ++ [(hv[k]).node] else has (hv.take k) x := by
  unfold has
  rw [List.take_succ_eq_append_getElem hk, List.filter_append, List.map_append]
  by_cases h : x ≤ (hv[k]).idx
  · rw [if_pos h, List.filter_cons_of_pos (by simpa using h)]; simp
  · rw [if_neg h, List.filter_cons_of_neg (by simpa using h)]; simp
theorem has_len (hv : List Ix) (x : Int) : (has hv x).length ≤ hv.length := by
  unfold has; rw [List.length_map]; exact List.length_filter_le _ _
theorem bestOf_snoc (l : List Int) (hv : List Ix) : ∀ (a : List Ix) (x : Ix) (b : Int), bestOf l hv (a ++ [x]) b = if bestOf l hv a b < x.idx ∧ most l (has hv x.idx) = true then x.idx else bestOf l hv a b
  | [], x, b => rfl
  | y :: a, x, b => by
    rw [List.cons_append, bestOf, bestOf_snoc l hv a x]
    rfl
set_option maxHeartbeats 4000000 in
set_option maxRecDepth 100000 in
theorem rcommit_any (u v : Value) (l : List Int) (hv : List Ix) (hl : l.length ≤ 140737488355328) (hh : hv.length ≤ 100000) (w : World) (h : Ns w u l) (h2 : Is w v hv) :
    Calls Try.prog 16 #[u, v] w fun e w' => e = .returned (.int .u64 (commit l hv)) ∧ Below w.heap.size w w' := by
  have HM := Lib.hid fun who wl (hw : wl.length ≤ 140737488355328) W (a : Ns W u l) (b : Ns W who wl) => rmost_any u who l wl hl hw W a b
  obtain ⟨a, c, rfl⟩ := sl_form h
  obtain ⟨a2, c2, rfl⟩ := sl_form h2
  obtain ⟨C, hC⟩ : ∃ C, commit l hv = C := ⟨_, rfl⟩
  rw [hC]
  obtain ⟨N, hN⟩ : ∃ n, hv.length = n := ⟨_, rfl⟩
  obtain ⟨M, hMm⟩ : ∃ n, l.length = n := ⟨_, rfl⟩
  rw [hN] at hh h2 ⊢
  rw [hMm] at HM hl h ⊢
  have HC : Hid (commit l hv = C) := hC
  have HN := Lib.hid hN
  have H1 := Lib.hid h
  have H2 := Lib.hid h2
  clear h h2 hC hN hMm
  go_enter Try.func16, Try.ntmps16
  go_wp2
  go_loopw [5, 6, 7, 8, 9] (fun bv i _ _ _ wr => ∃ (k : Nat) (z : Int), i = .int .i64 k ∧ bv = .int .u64 z ∧ k ≤ N ∧ Hid (bestOf l hv (hv.take k) 0 = z) ∧ Hid (Below w.heap.size w wr))
    (fun _ i _ _ _ _ => N - (intOf i).toNat)
  case atStart => exact ⟨0, 0, rfl, rfl, Nat.zero_le _, Lib.hid (by rfl), Below.refl _ _⟩
  case round =>
    obtain ⟨k, z, rfl, rfl, hk, HZ, HB⟩ := hrel
    by_cases hlt : k < N
    · have hki : (k : Int) < (N : Int) := by omega
      have hkl : k < hv.length := by rw [HN.out]; exact hlt
      have HS2 := H2.out.later _ HB.out
      rw [← HN.out] at HS2
      obtain ⟨b, off, c3, e, hb3, c0, c1⟩ := slI_at HS2 hkl
      injection e with e1 e2 e3
      subst e1 e3
      clear e2 c0
      have hbs := bestOf_snoc l hv (hv.take k) (hv[k]'hkl) 0
      rw [← List.take_succ_eq_append_getElem hkl, HZ.out] at hbs
      obtain ⟨x, hx⟩ : ∃ x, (hv[k]'hkl).idx = x := ⟨_, rfl⟩
      rw [hx] at c1 hbs
      have HBs := Lib.hid hbs
      clear HS2 hb3 hx hbs HZ hkl
      rename World => wo
      go_wp2
      go_loopw [8, 9] (fun who i wq => ∃ j : Nat, i = .int .i64 j ∧ j ≤ N ∧ Hid (Own noSh wq w.heap.size who (has (hv.take j) x)) ∧ Hid (Below w.heap.size w wq))
        (fun _ i _ => N - (intOf i).toNat)
      case atStart => exact ⟨0, rfl, Nat.zero_le _, Lib.hid (Own.nil _ _ _), HB⟩
      case round =>
        obtain ⟨j, rfl, hj, HO, HB2⟩ := hrel
        by_cases hjt : j < N
        · have hji : (j : Int) < (N : Int) := by omega
          have hjl : j < hv.length := by rw [HN.out]; exact hjt
          have HS2 := H2.out.later _ HB2.out
          rw [← HN.out] at HS2
          obtain ⟨b2, off2, c32, e, hb32, d0, d1⟩ := slI_at HS2 hjl
          injection e with e1 e2 e3
          injection e1 with e1
          injection e1 with e1 e4 e5
          subst e1 e4
          clear e2 e3 e5
          have hnx := has_next hjl x
          obtain ⟨y, hy⟩ : ∃ y, (hv[j]'hjl) = y := ⟨_, rfl⟩
          rw [hy] at d0 d1 hnx
          obtain ⟨yn, yi⟩ := y
          simp only at d0 d1 hnx
          clear HS2 hb32 hy hjl
          by_cases hxy : x ≤ yi
          · have hge : yi ≥ x := hxy
            rw [if_pos hxy] at hnx
            obtain ⟨o', w', h1, h2, h3⟩ := rw.append_one noSh w.heap.size _ (has (hv.take j) x) yn (by
              have := has_len (hv.take j) x
              rw [List.length_take] at this
              omega) wr HO.out HB2.out.size
            rw [← hnx] at h2
            have HR := Lib.hid h1
            have HO3 := Lib.hid h2
            have HB3 := Lib.hid (HB2.out.trans h3)
            clear HO HB2 h1 h2 h3 hnx hxy
            go_wp2_with (at_builtin; refine rw.wpList_append_at _ _ _ rfl rfl _ _ _ _ rfl rfl HR.out ?_)
            go_roundw
            case rel => exact ⟨j + 1, by go_num, by omega, HO3, HB3⟩
            case measure => simp [intOf]; omega
          · have hge : ¬ yi ≥ x := hxy
            rw [if_neg hxy] at hnx
            have HO3 := HO.out
            rw [← hnx] at HO3
            have HO3 := Lib.hid HO3
            clear HO hnx hxy
            go_wp2
            go_roundw
            case rel => exact ⟨j + 1, by go_num, by omega, HO3, HB2⟩
            case measure => simp [intOf]; omega
        · obtain rfl : j = N := by omega
          have hji : ¬ (j : Int) < (j : Int) := by omega
          have HO3 := HO.out
          rw [← HN.out, List.take_length] at HO3
          have hm := HM.out u8 (has hv x) (by have := has_len hv x; have := HN.out; omega) wr (H1.out.later _ HB2.out) HO3.sl
          obtain ⟨s, hs⟩ : ∃ s, most l (has hv x) = s := ⟨_, rfl⟩
          rw [hs] at hm
          have hbs := HBs.out
          rw [hs] at hbs
          clear HO HO3 HBs HB hs
          by_cases hxz : z < x
          · have hgt : x > z := hxz
            cases s with
            | true =>
              rw [if_pos ⟨hxz, rfl⟩] at hbs
              have HZ2 := Lib.hid hbs
              clear hbs hxz
              go_wp2_with fail
              with_reducible refine hm.mono ?_
              clear hm
              rintro e w3 ⟨rfl, b3⟩
              have HB3 := Lib.hid (HB2.out.trans (b3.mono HB2.out.size))
              clear b3 HB2
              go_wp2_with fail
              exact ⟨⟨k + 1, x, by rw [Int.natCast_add]; rfl, rfl, by omega, HZ2, HB3⟩, by simp only [intOf]; omega⟩
            | false =>
              rw [if_neg (by simp)] at hbs
              have HZ2 := Lib.hid hbs
              clear hbs hxz
              go_wp2_with fail
              with_reducible refine hm.mono ?_
              clear hm
              rintro e w3 ⟨rfl, b3⟩
              have HB3 := Lib.hid (HB2.out.trans (b3.mono HB2.out.size))
              clear b3 HB2
              go_wp2_with fail
              exact ⟨⟨k + 1, z, by rw [Int.natCast_add]; rfl, rfl, by omega, HZ2, HB3⟩, by simp only [intOf]; omega⟩
          · have hgt : ¬ x > z := hxz
            rw [if_neg (fun h => hxz h.1)] at hbs
            have HZ2 := Lib.hid hbs
            clear hbs hxz hm
            go_wp2_with fail
            exact ⟨⟨k + 1, z, by rw [Int.natCast_add]; rfl, rfl, by omega, HZ2, HB2⟩, by simp only [intOf]; omega⟩
    · obtain rfl : k = N := by omega
      have hki : ¬ (k : Int) < (k : Int) := by omega
      have HT : Hid (C = z) := by
        have h := HZ.out
        rw [← HN.out, List.take_length] at h
        exact HC.out.symm.trans h
      obtain rfl := HT.out
      clear HZ
      go_wp2
      go_ret
      exact ⟨rfl, HB.out⟩
end Go.Proofs.Ytnodgpbahlaccaa.qm
