/-
  The law QuorumCommits: the walk.
-/
import Derived.Test.YtnodgpbahlaccaaQmL1
import Derived.Laws.StructEq
namespace Go.Proofs.Ytnodgpbahlaccaa.qm
set_option linter.unusedVariables false
set_option linter.unusedSimpArgs false
open Go.RowKit
open rw (Arr But Own bnext below_box below_drew below_drewN)
open pk (S S_size S_data)

theorem eq_at (x : Ix) (w : World) : (Op.equalIn 10000 31 (.agg #[.int .i64 x.node, .int .u64 x.idx]) (.agg #[.int .i64 x.node, .int .u64 x.idx])).run Try.prog w = .ok true w := by
  obtain ⟨t1, v1⟩ := x
  have e1 : Try.prog.underlying 31 = some (.struct (Try.prog.fieldsOf 31)) := by kernel_rfl
  have e2 : Try.prog.stoodInHeld 31 = false := by kernel_rfl
  have e3 : (Try.prog.fieldsOf 31).toList = [⟨"Node", 3, 0, false, "", "", 0⟩, ⟨"Index", 27, 1, false, "", "", 8⟩] := by kernel_rfl
  have u1 : Try.prog.underlying 27 = some (.int .u64) := by kernel_rfl
  have u2 : Try.prog.underlying 3 = some (.int .i64) := by kernel_rfl
  rw [run_equalIn_agg _ 9999 _ _ _ e1 e2, e3]
  have p1 : ∀ (xs : Array Value) (j : Nat) (v : Value) (w : World), xs[j]? = some v → (part 27 xs j).run Try.prog w = .ok v w := fun xs j v w h => run_part_plain w (by kernel_rfl) h
  have p2 : ∀ (xs : Array Value) (j : Nat) (v : Value) (w : World), xs[j]? = some v → (part 3 xs j).run Try.prog w = .ok v w := fun xs j v w h => run_part_plain w (by kernel_rfl) h
  simp only [Op.eqFields, ne_eq, String.reduceEq, not_false_eq_true, if_true, Sem.run_bind]
  have a0 := fun w => p2 #[.int .i64 t1, .int .u64 v1] 0 (.int .i64 t1) w rfl
  have a1 := fun w => p1 #[.int .i64 t1, .int .u64 v1] 1 (.int .u64 v1) w rfl
  have q1 := fun (a b : Int) (w : World) => run_equalIn_int (P := Try.prog) w 9998 27 .u64 .u64 a b u1
  have q2 := fun (a b : Int) (w : World) => run_equalIn_int (P := Try.prog) w 9998 3 .i64 .i64 a b u2
  simp only [Nat.reduceAdd] at q1 q2
  simp [a0, a1, Result.andThen_ok, q1, q2]
theorem neq_at (x : Ix) (w : World) : (binOp .neq 31 (.agg #[.int .i64 x.node, .int .u64 x.idx]) (.agg #[.int .i64 x.node, .int .u64 x.idx])).run Try.prog w = .ok (.bool false) w := by
  rw [run_neq_struct, eq_at]
  rfl
set_option maxHeartbeats 4000000 in
set_option maxRecDepth 100000 in
theorem commits_walk (u v : Value) (l : List Int) (hv : List Ix) (hl : l.length ≤ 140737488355328) (hh : hv.length ≤ 140737488355328) (hp : ∀ x ∈ hv, 0 ≤ x.idx) (w : World) (h : Ns w u l) (h2 : Is w v hv) :
    Calls Try.prog 4 #[u, v] w fun e w' => e = .returned (.bool true) ∧ Below w.heap.size w w' := by
  have HA := Lib.hid fun W => alive_any W
  have HC := Lib.hid fun o (x : hv.length ≤ 100000) W a b => commit_any u o l hv hl x hp W a b
  have HC2 := Lib.hid fun (x : hv.length ≤ 100000) W a b => rcommit_any u v l hv hl x W a b
  generalize commit l hv = C at *
  obtain ⟨a, c, rfl⟩ := sl_form h
  obtain ⟨a2, c2, rfl⟩ := sl_form h2
  obtain ⟨N, hN⟩ : ∃ n, hv.length = n := ⟨_, rfl⟩
  obtain ⟨M, hM⟩ : ∃ n, l.length = n := ⟨_, rfl⟩
  rw [hN] at HC2 hh h2 ⊢
  rw [hM] at HC HC2 h ⊢
  have HN := Lib.hid hN
  have H1 := Lib.hid h
  have H2 := Lib.hid h2
  clear h h2 hN hM hl hp
  by_cases h3 : N > 300
  · have h3i : (N : Int) > 300 := by omega
    have hA := HA.out w
    clear HA HC HC2
    go_enter Try.func4, Try.ntmps4
    go_wp2_with fail
    with_reducible refine hA.mono ?_
    clear hA
    rintro e w1 ⟨rfl, b1⟩
    have B1 := Lib.hid b1
    clear b1
    go_wp2_with fail
    go_ret
    exact ⟨rfl, B1.out⟩
  · have h3i : ¬ (N : Int) > 300 := by omega
    obtain ⟨o, w1, hr, ho, hb⟩ := rw.append_none ixSh (.slice a2 N c2) hv (by rw [HN.out]; omega) w H2.out
    have HR := Lib.hid hr
    have HO := Lib.hid ho
    have HB := Lib.hid hb
    have hA := HA.out w1
    clear hr ho hb HA
    go_enter Try.func4, Try.ntmps4
    go_wp2_with (at_builtin; refine rw.wpList_append_at _ _ _ rfl rfl _ _ _ _ rfl rfl HR.out ?_)
    with_reducible refine hA.mono ?_
    clear hA
    rintro e w2 ⟨rfl, b2⟩
    have HB2 := Lib.hid (HB.out.trans (b2.mono HB.out.size))
    have HO2 := Lib.hid (HO.out.below ixSh b2)
    have hC := HC.out o (by rw [HN.out]; omega) w2 (H1.out.later _ HB2.out) HO2.out.sl
    clear b2 HO HB HC
    go_wp2_with fail
    with_reducible refine hC.mono ?_
    clear hC
    rintro e w3 ⟨rfl, b3⟩
    have HB3 := Lib.hid (HB2.out.trans (b3.mono HB2.out.size))
    have HO3 := Lib.hid (HO2.out.below ixSh b3)
    have hC := HC2.out (by omega) w3 (H1.out.later _ HB3.out) (H2.out.later _ HB3.out)
    clear b3 HO2 HB2 HC2
    go_wp2_with fail
    with_reducible refine hC.mono ?_
    clear hC
    rintro e w4 ⟨rfl, b4⟩
    have HB4 := Lib.hid (HB3.out.trans (b4.mono HB3.out.size))
    have HO4 := Lib.hid (HO3.out.below ixSh b4)
    have q1 : (C != C) = false := by simp
    clear b4 HO3 HB3
    obtain ⟨oa, oc, ho⟩ := HO4.out.form
    have HF := Lib.hid ho
    rw [HN.out] at ho
    subst ho
    go_wp2_with fail
    go_loopw [6] (fun i wr => ∃ (k : Nat), i = .int .i64 k ∧ k ≤ N ∧ Hid (Below w.heap.size w wr ∧ Own ixSh wr w.heap.size (.slice oa N oc) hv))
      (fun i _ => N - (intOf i).toNat)
    case atStart => exact ⟨0, rfl, Nat.zero_le _, HB4.out, HO4.out⟩
    case round =>
      obtain ⟨k, rfl, hk, HI⟩ := hrel
      by_cases hlt : k < N
      · have hki : (k : Int) < (N : Int) := by omega
        have hkl : k < hv.length := by rw [HN.out]; exact hlt
        have G1 : Is wr (.slice oa N oc) hv := HI.out.2.sl
        have G2 := H2.out.later _ HI.out.1
        rw [← HN.out] at G1 G2
        obtain ⟨p1, o1, d1, e1, g1, c10, c11⟩ := slI_at G1 hkl
        obtain ⟨p2, o2, d2, e2, g2, c20, c21⟩ := slI_at G2 hkl
        injection e1 with e11 e12 e13
        injection e2 with e21 e22 e23
        subst e11 e13 e21 e23
        clear e12 e22 G1 G2
        obtain ⟨x, hx⟩ : ∃ x, hv[k]'hkl = x := ⟨_, rfl⟩
        rw [hx] at c10 c11 c20 c21
        have hq := neq_at x
        have HI2 : Hid (∀ n, Below w.heap.size w (wr.drewN n) ∧ Own ixSh (wr.drewN n) w.heap.size (.slice (some ⟨p1, o1, none⟩) N oc) hv) := fun n => ⟨below_drewN HI.out.1 n, HI.out.2.below ixSh (below_drewN (Below.refl _ _) n)⟩
        clear HI hx g1 g2 hkl
        go_upto_region 9 with (fail)
        go_quiet (fail)
        go_wp2_with fail
        exact ⟨⟨k + 1, by rw [Int.natCast_add]; rfl, by omega, HI2.out _⟩, by simp only [intOf]; omega⟩
      · obtain rfl : k = N := by omega
        have hki : ¬ (k : Int) < (k : Int) := by omega
        have HB5 := Lib.hid HI.out.1
        clear HI
        go_wp2_with fail
        go_ret
        exact ⟨rfl, HB5.out⟩
end Go.Proofs.Ytnodgpbahlaccaa.qm
