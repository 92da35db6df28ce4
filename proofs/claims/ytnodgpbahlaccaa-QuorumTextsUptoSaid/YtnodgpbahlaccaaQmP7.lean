/-
  How members may change: the program's Apply.
-/
import Derived.Test.YtnodgpbahlaccaaQmP6
import Derived.Test.YtnodgpbahlaccaaShelf
namespace Go.Proofs.Ytnodgpbahlaccaa.qm
set_option linter.unusedVariables false
open Go.RowKit
open rw (Arr But Own bnext below_box below_drew below_drewN)

theorem rises_pw : ∀ {l : List Int} {a : Int}, rises a l = true → l.Pairwise (· ≤ ·)
  | [], _, _ => List.Pairwise.nil
  | x :: l, a, h => by
    simp only [rises, Bool.and_eq_true, decide_eq_true_eq] at h
    exact List.Pairwise.cons (fun y hy => by have := rises_mem h.2 y hy; omega) (rises_pw h.2)
theorem search_any (v : Value) (l : List Int) (n : Int) (hr : right l = true) (w : World) (h : Ns w v l) :
    Calls Try.prog 33 #[v, .int .i64 n] w fun e w' => e = .returned (.tuple #[.int .i64 (at_ l n : Nat), .bool (l.contains n)]) ∧ Below w.heap.size w w' := by
  have hlen := right_len hr
  obtain ⟨b, off, c, rfl, hb, _⟩ := slN_at h (j := 0) hlen.1
  have hc : ∀ j, j < l.length → w.cell? ⟨b, off + j, none⟩ = some (.int .i64 (l.getD j 0)) := fun j hj => by
    obtain ⟨b2, off2, c2, e, _, hc⟩ := slN_at h hj
    injection e with e1 e2 e3
    injection e1 with e1
    injection e1 with e1 e4
    subst e1 e4
    rw [hc, List.getD_eq_getElem?_getD, List.getElem?_eq_getElem hj]; rfl
  have hp : (l.take l.length).Pairwise (· ≤ ·) := by
    rw [List.take_length]
    simp only [right, Bool.and_eq_true] at hr
    exact rises_pw hr.1
  refine (Try.slices_BinarySearch_int b off l.length c l n w (Nat.le_refl _) (by omega) hc hp).mono ?_
  rintro e w' ⟨rfl, q, rfl⟩
  rw [List.take_length]
  exact ⟨rfl, below_drewN (Below.refl _ _) q⟩
theorem at_le (l : List Int) (n : Int) : at_ l n ≤ l.length := List.countP_le_length
theorem size_1' (w : World) (o : Obj) : (w.alloc o).heap.size = w.heap.size + 1 := by simp
/-- Cut in two. -/
theorem cut_lo {w : World} {b off c : Nat} {l : List Int} (h : Ns w (.slice (some ⟨b, off, none⟩) l.length c) l) (hc : l.length ≤ c) {k : Nat} (hk : k ≤ l.length) : Ns w (.slice (some ⟨b, off, none⟩) k c) (l.take k) := by
  obtain ⟨a, c', e, h2, h3, h4⟩ := h
  injection e with e1 e2 e3
  subst e1 e3
  refine ⟨_, _, by rw [List.length_take, Nat.min_eq_left hk], by rw [List.length_take]; omega, ?_, fun e => by cases e⟩
  rcases h3 with h3 | ⟨b', off', e, hb, hcl⟩
  · exact .inl (by rw [h3]; simp)
  · refine .inr ⟨b', off', e, hb, fun j hj i hi => ?_⟩
    rw [List.length_take] at hj
    rw [hcl j (by omega) i hi, List.getElem_take]
theorem cut_hi {w : World} {b off c : Nat} {l : List Int} (h : Ns w (.slice (some ⟨b, off, none⟩) l.length c) l) (hc : l.length ≤ c) {k : Nat} (hk : k ≤ l.length) : Ns w (.slice (if c = k then some ⟨b, off, none⟩ else some ⟨b, off + k, none⟩) (l.length - k) (c - k)) (l.drop k) := by
  by_cases hck : c = k
  · rw [if_pos hck]
    have hn : l.drop k = [] := List.drop_eq_nil_of_le (by omega)
    rw [hn]
    exact ⟨_, _, by rw [show l.length - k = 0 by omega]; rfl, Nat.zero_le _, .inl rfl, fun e => by cases e⟩
  rw [if_neg hck]
  obtain ⟨a, c', e, h2, h3, h4⟩ := h
  injection e with e1 e2 e3
  subst e1 e3
  refine ⟨_, _, by rw [List.length_drop], by rw [List.length_drop]; omega, ?_, fun e => by cases e⟩
  rcases h3 with h3 | ⟨b', off', e, hb, hcl⟩
  · exact .inl (by rw [h3]; simp)
  · injection e with e
    injection e with e1 e2
    subst e1 e2
    refine .inr ⟨b, off + k, rfl, hb, fun j hj i hi => ?_⟩
    rw [List.length_drop] at hj
    have := hcl (k + j) (by omega) i hi
    rw [List.getElem_drop]
    rw [← this]
    congr 2
    show off + k + j * 1 + i = off + (k + j) * 1 + i
    omega
set_option maxHeartbeats 2000000 in
set_option maxRecDepth 100000 in
theorem apply_any (v : Value) (l : List Int) (add : Bool) (n : Int) (hl : l.length ≤ 140737488355328) (w : World) (h : Ns w v l) :
    Calls Try.prog 17 #[v, .bool add, .int .i64 n] w fun e w' => ApOut w w' l add n e := by
  have hR := right_any v l hl w h
  obtain ⟨r, hr⟩ : ∃ r, right l = r := ⟨_, rfl⟩
  cases r with
  | false =>
    rw [hr] at hR
    have HT : Hid (mayR l add n = false) := by show _ = _; simp [mayR, hr]
    obtain ⟨a, c, rfl⟩ := sl_form h
    clear hr h
    go_enter Try.func17, Try.ntmps17
    go_wp2_with fail
    with_reducible refine hR.mono ?_
    clear hR
    rintro e w2 ⟨rfl, rfl⟩
    go_wp2_with fail
    go_ret2
    exact ap_no HT.out (Below.refl _ _)
  | true =>
    have hB := search_any v l n hr w h
    have hlen := right_len hr
    have hm := may_eq l add n
    rw [hr] at hR
    obtain ⟨b, off, c, rfl, hb, _⟩ := slN_at h (j := 0) hlen.1
    have hcap : l.length ≤ c := by
      obtain ⟨_, _, e, h2, _⟩ := h
      injection e with _ _ e3
      omega
    have hat := at_le l n
    have HS := Lib.hid h
    obtain ⟨ci, hc⟩ : ∃ ci, l.contains n = ci := ⟨_, rfl⟩
    rw [hc] at hB
    obtain ⟨N, hN⟩ : ∃ n, l.length = n := ⟨_, rfl⟩
    rw [hN] at hR hB hcap hat hlen ⊢
    have HN := Lib.hid hN
    obtain ⟨k, hk⟩ : ∃ k, at_ l n = k := ⟨_, rfl⟩
    rw [hk] at hat hB
    have HK := Lib.hid hk
    by_cases hca : ci = add
    · have HT : Hid (mayR l add n = false) := by show _ = _; rw [← hm.1]; simp only [mayP, hc, hca]; simp
      subst hca
      clear hr hc hm hk hN h
      cases ci with
      | true =>
        go_enter Try.func17, Try.ntmps17
        go_wp2_with fail
        with_reducible refine hR.mono ?_
        clear hR
        rintro e w2 ⟨rfl, rfl⟩
        go_wp2_with fail
        with_reducible refine hB.mono ?_
        clear hB
        rintro e w3 ⟨rfl, b3⟩
        have B3 := Lib.hid b3
        clear b3
        go_wp2_with fail
        go_ret2
        exact ap_no HT.out B3.out
      | false =>
        go_enter Try.func17, Try.ntmps17
        go_wp2_with fail
        with_reducible refine hR.mono ?_
        clear hR
        rintro e w2 ⟨rfl, rfl⟩
        go_wp2_with fail
        with_reducible refine hB.mono ?_
        clear hB
        rintro e w3 ⟨rfl, b3⟩
        have B3 := Lib.hid b3
        clear b3
        go_wp2_with fail
        go_ret2
        exact ap_no HT.out B3.out
    · have HM : Hid (mayR l add n = right (nextP l add n) ∧ (mayR l add n = true → nextP l add n = thenR l add n)) := by
        refine ⟨?_, hm.2⟩
        rw [← hm.1]
        simp only [mayP, hr, hc, Bool.true_and]
        cases ci <;> cases add <;> simp_all
      have HX : Hid (nextP l add n = if add then l.take k ++ [n] ++ l.drop k else l.take k ++ l.drop (k + 1)) := by show _ = _; simp only [nextP, hk]
      have HC : Hid (l.contains n = ci) := hc
      clear hr hm hc hk hN h
      cases add with
      | true =>
        obtain rfl : ci = false := by cases ci <;> simp_all
        have HX2 : Hid (nextP l true n = l.take k ++ [n] ++ l.drop k) := HX.out
        clear hca HX
        go_enter Try.func17, Try.ntmps17
        go_wp2_with fail
        with_reducible refine hR.mono ?_
        clear hR
        rintro e w2 ⟨rfl, rfl⟩
        go_wp2_with fail
        with_reducible refine hB.mono ?_
        clear hB
        rintro e w3 ⟨rfl, b3⟩
        have B3 := Lib.hid b3
        clear b3
        by_cases hck : c = k
        · have e1 : c = k := hck
          have e2 : N = k := by omega
          subst e1
          subst e2
          have hki : (N : Int) ≤ (N : Int) := by omega
          have hkn : (N : Int) ≤ (N : Int) := by omega
          have hS3 := HS.out.later _ B3.out
          have hcl : l.length ≤ N := by have := HN.out; omega
          have hkl : N ≤ l.length := by have := HN.out; omega
          have u0 := cut_lo hS3 hcl hkl
          have u2 : Ns w3 (.slice (some ⟨b, off, none⟩) 0 0) (l.drop N) := by
            rw [List.drop_eq_nil_of_le (by have := HN.out; omega)]
            exact ⟨_, _, rfl, Nat.le_refl _, .inl rfl, fun e => by cases e⟩
          have k1 := below_box w3 (.cells #[.int .i64 n] 3)
          have u1 := lit_at noSh w3 n
          have x2 := Arr.new (w3.alloc (.cells #[.int .i64 n] 3)) 22 #[(.slice (some ⟨b, off, none⟩) N N), (.slice (some ⟨w3.heap.size, 0, none⟩) 1 1), (.slice (some ⟨b, off, none⟩) 0 0)]
          have k2 := below_box (w3.alloc (.cells #[.int .i64 n] 3)) (.cells #[(.slice (some ⟨b, off, none⟩) N N), (.slice (some ⟨w3.heap.size, 0, none⟩) 1 1), (.slice (some ⟨b, off, none⟩) 0 0)] 22)
          rw [size_1'] at x2
          have hW : ∀ X : World, Below X.heap.size X X.drew := fun X => below_drew (Below.refl _ X)
          have hC := concat3_any _ _ _ (l.take N) [n] (l.drop N) (w3.heap.size + 1) 3 (by rw [List.length_take]; omega) (by simp) (by rw [List.length_drop]; omega) ((w3.alloc (.cells #[.int .i64 n] 3)).alloc (.cells #[(.slice (some ⟨b, off, none⟩) N N), (.slice (some ⟨w3.heap.size, 0, none⟩) 1 1), (.slice (some ⟨b, off, none⟩) 0 0)] 22)).drew
            (((u0.later _ k1).later _ k2).later _ (hW _)) ((u1.later _ k2).later _ (hW _)) (((u2.later _ k1).later _ k2).later _ (hW _)) (x2.cell rfl) (x2.cell rfl) (x2.cell rfl)
          have KB : Hid (Below w.heap.size w ((w3.alloc (.cells #[.int .i64 n] 3)).alloc (.cells #[(.slice (some ⟨b, off, none⟩) N N), (.slice (some ⟨w3.heap.size, 0, none⟩) 1 1), (.slice (some ⟨b, off, none⟩) 0 0)] 22)).drew) := below_drew ((B3.out.trans (k1.mono B3.out.size)).trans (k2.mono (by have := B3.out.size; simp; omega)))
          have HCC := Lib.hid hC
          clear u0 u1 u2 k1 k2 x2 hW hS3 hC
          go_upto_region 8 with (fail)
          go_region_with (go_at_call 34; with_reducible refine HCC.out.mono ?_; rintro e w4 ⟨u, rfl, k4⟩)
          have HA := Lib.hid (k4.after KB.out)
          have hlen4 : (l.take N ++ [n] ++ l.drop N).length ≤ 140737488355328 := by have h5 := HN.out; simp; omega
          have hq := right_any u _ hlen4 w4 k4.1.sl
          rw [← HX2.out, ← HM.out.1] at hq
          rw [← HX2.out] at HA
          obtain ⟨q, hq0⟩ : ∃ q, mayR l true n = q := ⟨_, rfl⟩
          rw [hq0] at hq
          have HQ := Lib.hid hq0
          clear k4 KB HCC hlen4 hq0
          cases q with
          | true =>
            go_wp2_with fail
            with_reducible refine hq.mono ?_
            clear hq
            rintro e w5 ⟨rfl, rfl⟩
            go_wp2_with fail
            go_ret2
            have h := HA.out
            rw [HM.out.2 HQ.out] at h
            exact ap_yes HQ.out h
          | false =>
            go_wp2_with fail
            with_reducible refine hq.mono ?_
            clear hq
            rintro e w5 ⟨rfl, rfl⟩
            go_wp2_with fail
            go_ret2
            exact ap_no HQ.out HA.out.2
        · have hki : (k : Int) ≤ (c : Int) := by omega
          have hkn : (k : Int) ≤ (N : Int) := by omega
          have hS3 := HS.out.later _ B3.out
          have hcl : l.length ≤ c := by have := HN.out; omega
          have hkl : k ≤ l.length := by have := HN.out; omega
          have u0 := cut_lo hS3 hcl hkl
          have u2 := cut_hi hS3 hcl hkl
          rw [HN.out, if_neg hck] at u2
          have k1 := below_box w3 (.cells #[.int .i64 n] 3)
          have u1 := lit_at noSh w3 n
          have x2 := Arr.new (w3.alloc (.cells #[.int .i64 n] 3)) 22 #[(.slice (some ⟨b, off, none⟩) k c), (.slice (some ⟨w3.heap.size, 0, none⟩) 1 1), (.slice (some ⟨b, off + k, none⟩) (N - k) (c - k))]
          have k2 := below_box (w3.alloc (.cells #[.int .i64 n] 3)) (.cells #[(.slice (some ⟨b, off, none⟩) k c), (.slice (some ⟨w3.heap.size, 0, none⟩) 1 1), (.slice (some ⟨b, off + k, none⟩) (N - k) (c - k))] 22)
          rw [size_1'] at x2
          have hW : ∀ X : World, Below X.heap.size X X.drew := fun X => below_drew (Below.refl _ X)
          have hC := concat3_any _ _ _ (l.take k) [n] (l.drop k) (w3.heap.size + 1) 3 (by rw [List.length_take]; omega) (by simp) (by rw [List.length_drop]; omega) ((w3.alloc (.cells #[.int .i64 n] 3)).alloc (.cells #[(.slice (some ⟨b, off, none⟩) k c), (.slice (some ⟨w3.heap.size, 0, none⟩) 1 1), (.slice (some ⟨b, off + k, none⟩) (N - k) (c - k))] 22)).drew
            (((u0.later _ k1).later _ k2).later _ (hW _)) ((u1.later _ k2).later _ (hW _)) (((u2.later _ k1).later _ k2).later _ (hW _)) (x2.cell rfl) (x2.cell rfl) (x2.cell rfl)
          have KB : Hid (Below w.heap.size w ((w3.alloc (.cells #[.int .i64 n] 3)).alloc (.cells #[(.slice (some ⟨b, off, none⟩) k c), (.slice (some ⟨w3.heap.size, 0, none⟩) 1 1), (.slice (some ⟨b, off + k, none⟩) (N - k) (c - k))] 22)).drew) := below_drew ((B3.out.trans (k1.mono B3.out.size)).trans (k2.mono (by have := B3.out.size; simp; omega)))
          have HCC := Lib.hid hC
          clear u0 u1 u2 k1 k2 x2 hW hS3 hC
          go_upto_region 8 with (fail)
          go_region_with (go_at_call 34; with_reducible refine HCC.out.mono ?_; rintro e w4 ⟨u, rfl, k4⟩)
          have HA := Lib.hid (k4.after KB.out)
          have hlen4 : (l.take k ++ [n] ++ l.drop k).length ≤ 140737488355328 := by have h5 := HN.out; simp; omega
          have hq := right_any u _ hlen4 w4 k4.1.sl
          rw [← HX2.out, ← HM.out.1] at hq
          rw [← HX2.out] at HA
          obtain ⟨q, hq0⟩ : ∃ q, mayR l true n = q := ⟨_, rfl⟩
          rw [hq0] at hq
          have HQ := Lib.hid hq0
          clear k4 KB HCC hlen4 hq0
          cases q with
          | true =>
            go_wp2_with fail
            with_reducible refine hq.mono ?_
            clear hq
            rintro e w5 ⟨rfl, rfl⟩
            go_wp2_with fail
            go_ret2
            have h := HA.out
            rw [HM.out.2 HQ.out] at h
            exact ap_yes HQ.out h
          | false =>
            go_wp2_with fail
            with_reducible refine hq.mono ?_
            clear hq
            rintro e w5 ⟨rfl, rfl⟩
            go_wp2_with fail
            go_ret2
            exact ap_no HQ.out HA.out.2
      | false =>
        obtain rfl : ci = true := by cases ci <;> simp_all
        have HX2 : Hid (nextP l false n = l.take k ++ l.drop (k + 1)) := HX.out
        clear HX
        have hkN : k + 1 ≤ N := by
          have := HN.out
          have hh := HK.out
          have hmem : n ∈ l := by have := HC.out; simpa using this
          have hne : at_ l n ≠ l.length := fun e => by
            have := (List.countP_eq_length.1 (show l.countP (· < n) = l.length from e)) n hmem
            simp at this
          have := at_le l n
          omega
        clear hca
        go_enter Try.func17, Try.ntmps17
        go_wp2_with fail
        with_reducible refine hR.mono ?_
        clear hR
        rintro e w2 ⟨rfl, rfl⟩
        go_wp2_with fail
        with_reducible refine hB.mono ?_
        clear hB
        rintro e w3 ⟨rfl, b3⟩
        have B3 := Lib.hid b3
        clear b3
        obtain ⟨j, hj⟩ : ∃ j, k + 1 = j := ⟨_, rfl⟩
        rw [hj] at HX2 hkN
        have f1 : IntKind.i64.wrap ((k : Int) + 1) = (j : Int) := by
          rw [show (k : Int) + 1 = (j : Int) by omega]; exact IntWalk.i64_in _ (by omega)
        clear hj
        by_cases hcj : c = j
        · have e1 : c = j := hcj
          have e2 : N = j := by omega
          subst e1
          subst e2
          have hki : (k : Int) ≤ (N : Int) := by omega
          have hji : (N : Int) ≤ (N : Int) := by omega
          have hjn : (N : Int) ≤ (N : Int) := by omega
          have hS3 := HS.out.later _ B3.out
          have hcl : l.length ≤ N := by have := HN.out; omega
          have hkl : k ≤ l.length := by have := HN.out; omega
          have hjl : N ≤ l.length := by have := HN.out; omega
          have u0 := cut_lo hS3 hcl hkl
          have u2 : Ns w3 (.slice (some ⟨b, off, none⟩) 0 0) (l.drop N) := by
            rw [List.drop_eq_nil_of_le (by have := HN.out; omega)]
            exact ⟨_, _, rfl, Nat.le_refl _, .inl rfl, fun e => by cases e⟩
          have x2 := Arr.new w3 22 #[(.slice (some ⟨b, off, none⟩) k N), (.slice (some ⟨b, off, none⟩) 0 0)]
          have k2 := below_box w3 (.cells #[(.slice (some ⟨b, off, none⟩) k N), (.slice (some ⟨b, off, none⟩) 0 0)] 22)
          have hW : ∀ X : World, Below X.heap.size X X.drew := fun X => below_drew (Below.refl _ X)
          have hC := concat2_any _ _ (l.take k) (l.drop N) w3.heap.size 2 (by rw [List.length_take]; omega) (by rw [List.length_drop]; omega) (w3.alloc (.cells #[(.slice (some ⟨b, off, none⟩) k N), (.slice (some ⟨b, off, none⟩) 0 0)] 22)).drew
            ((u0.later _ k2).later _ (hW _)) ((u2.later _ k2).later _ (hW _)) (x2.cell rfl) (x2.cell rfl)
          have KB : Hid (Below w.heap.size w (w3.alloc (.cells #[(.slice (some ⟨b, off, none⟩) k N), (.slice (some ⟨b, off, none⟩) 0 0)] 22)).drew) := below_drew (B3.out.trans (k2.mono B3.out.size))
          have HCC := Lib.hid hC
          clear u0 u2 k2 x2 hW hS3 hC
          go_upto_region 9 with (fail)
          go_region_with (go_at_call 34; with_reducible refine HCC.out.mono ?_; rintro e w4 ⟨u, rfl, k4⟩)
          have HA := Lib.hid (k4.after KB.out)
          have hlen4 : (l.take k ++ l.drop N).length ≤ 140737488355328 := by have h5 := HN.out; simp; omega
          have hq := right_any u _ hlen4 w4 k4.1.sl
          rw [← HX2.out, ← HM.out.1] at hq
          rw [← HX2.out] at HA
          obtain ⟨q, hq0⟩ : ∃ q, mayR l false n = q := ⟨_, rfl⟩
          rw [hq0] at hq
          have HQ := Lib.hid hq0
          clear k4 KB HCC hlen4 hq0
          cases q with
          | true =>
            go_wp2_with fail
            with_reducible refine hq.mono ?_
            clear hq
            rintro e w5 ⟨rfl, rfl⟩
            go_wp2_with fail
            go_ret2
            have h := HA.out
            rw [HM.out.2 HQ.out] at h
            exact ap_yes HQ.out h
          | false =>
            go_wp2_with fail
            with_reducible refine hq.mono ?_
            clear hq
            rintro e w5 ⟨rfl, rfl⟩
            go_wp2_with fail
            go_ret2
            exact ap_no HQ.out HA.out.2
        · have hki : (k : Int) ≤ (c : Int) := by omega
          have hji : (j : Int) ≤ (c : Int) := by omega
          have hjn : (j : Int) ≤ (N : Int) := by omega
          have hS3 := HS.out.later _ B3.out
          have hcl : l.length ≤ c := by have := HN.out; omega
          have hkl : k ≤ l.length := by have := HN.out; omega
          have hjl : j ≤ l.length := by have := HN.out; omega
          have u0 := cut_lo hS3 hcl hkl
          have u2 := cut_hi hS3 hcl hjl
          rw [HN.out, if_neg hcj] at u2
          have x2 := Arr.new w3 22 #[(.slice (some ⟨b, off, none⟩) k c), (.slice (some ⟨b, off + j, none⟩) (N - j) (c - j))]
          have k2 := below_box w3 (.cells #[(.slice (some ⟨b, off, none⟩) k c), (.slice (some ⟨b, off + j, none⟩) (N - j) (c - j))] 22)
          have hW : ∀ X : World, Below X.heap.size X X.drew := fun X => below_drew (Below.refl _ X)
          have hC := concat2_any _ _ (l.take k) (l.drop j) w3.heap.size 2 (by rw [List.length_take]; omega) (by rw [List.length_drop]; omega) (w3.alloc (.cells #[(.slice (some ⟨b, off, none⟩) k c), (.slice (some ⟨b, off + j, none⟩) (N - j) (c - j))] 22)).drew
            ((u0.later _ k2).later _ (hW _)) ((u2.later _ k2).later _ (hW _)) (x2.cell rfl) (x2.cell rfl)
          have KB : Hid (Below w.heap.size w (w3.alloc (.cells #[(.slice (some ⟨b, off, none⟩) k c), (.slice (some ⟨b, off + j, none⟩) (N - j) (c - j))] 22)).drew) := below_drew (B3.out.trans (k2.mono B3.out.size))
          have HCC := Lib.hid hC
          clear u0 u2 k2 x2 hW hS3 hC
          go_upto_region 9 with (fail)
          go_region_with (go_at_call 34; with_reducible refine HCC.out.mono ?_; rintro e w4 ⟨u, rfl, k4⟩)
          have HA := Lib.hid (k4.after KB.out)
          have hlen4 : (l.take k ++ l.drop j).length ≤ 140737488355328 := by have h5 := HN.out; simp; omega
          have hq := right_any u _ hlen4 w4 k4.1.sl
          rw [← HX2.out, ← HM.out.1] at hq
          rw [← HX2.out] at HA
          obtain ⟨q, hq0⟩ : ∃ q, mayR l false n = q := ⟨_, rfl⟩
          rw [hq0] at hq
          have HQ := Lib.hid hq0
          clear k4 KB HCC hlen4 hq0
          cases q with
          | true =>
            go_wp2_with fail
            with_reducible refine hq.mono ?_
            clear hq
            rintro e w5 ⟨rfl, rfl⟩
            go_wp2_with fail
            go_ret2
            have h := HA.out
            rw [HM.out.2 HQ.out] at h
            exact ap_yes HQ.out h
          | false =>
            go_wp2_with fail
            with_reducible refine hq.mono ?_
            clear hq
            rintro e w5 ⟨rfl, rfl⟩
            go_wp2_with fail
            go_ret2
            exact ap_no HQ.out HA.out.2
end Go.Proofs.Ytnodgpbahlaccaa.qm
