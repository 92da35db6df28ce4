/-
  The law QuorumSteps: the walk.
-/
import Derived.Test.YtnodgpbahlaccaaQmL1
namespace Go.Proofs.Ytnodgpbahlaccaa.qm
set_option linter.unusedVariables false
open Go.RowKit
open rw (Arr But Own bnext below_box below_drew below_drewN)
open pk (S S_size S_data)

set_option maxHeartbeats 4000000 in
set_option maxRecDepth 100000 in
theorem steps_walk (u v : Value) (a b : List Int) (add : Bool) (n : Int) (hl : a.length ≤ 140737488355328) (hl2 : b.length ≤ 140737488355328) (w : World) (h : Ns w u a) (h2 : Ns w v b) :
    Calls Try.prog 5 #[u, v, .bool add, .int .i64 n] w fun e w' => e = .returned (.bool true) ∧ Below w.heap.size w w' := by
  have hP := apply_any u a add n hl w h
  have HR := Lib.hid fun W (x : Below w.heap.size w W) => rapply_any u a add n hl W (h.later _ x)
  have HA := Lib.hid fun W => alive_any W
  have HS := Lib.hid fun W (x : Below w.heap.size w W) => step_any u v a b hl hl2 W (h.later _ x) (h2.later _ x)
  have HS2 := Lib.hid fun W (x : Below w.heap.size w W) => rstep_any u v a b hl hl2 W (h.later _ x) (h2.later _ x)
  have HL : Hid ((applS a add n).1.length ≤ 140737488355328) := by
    show _ ≤ _
    unfold applS
    cases hm : mayR a add n with
    | false => simp
    | true =>
      simp only [if_true, thenR]
      cases add with
      | true => have := withL_len a n; simp; omega
      | false => have := withoutL_len a n; simp; omega
  generalize stepR a b = r at *
  obtain ⟨ad, c, rfl⟩ := sl_form h
  obtain ⟨ad2, c2, rfl⟩ := sl_form h2
  obtain ⟨N, hN⟩ : ∃ n, a.length = n := ⟨_, rfl⟩
  obtain ⟨M, hM⟩ : ∃ n, b.length = n := ⟨_, rfl⟩
  rw [hN] at hP HR HS HS2 ⊢
  rw [hM] at HS HS2 ⊢
  clear h h2 hl hl2 hN hM
  go_enter Try.func5, Try.ntmps5
  go_wp2_with fail
  with_reducible refine hP.mono ?_
  clear hP
  rintro e w1 ⟨t1, rfl, k1⟩
  have hR := HR.out w1 k1.2
  have K1 := Lib.hid k1
  clear k1
  go_wp2_with fail
  with_reducible refine hR.mono ?_
  clear hR HR
  rintro e w2 ⟨t2, rfl, k2⟩
  have K2 : Hid (Ns w2 t1 (applS a add n).1 ∧ Ns w2 t2 (applS a add n).1 ∧ Below w.heap.size w w2) := ⟨K1.out.1.sl.later _ k2.2, k2.1.sl, K1.out.2.trans (k2.2.mono K1.out.2.size)⟩
  have hA := HA.out w2
  clear k2 K1 HA
  generalize applS a add n = R at *
  obtain ⟨R1, R2⟩ := R
  simp only at K2 HL
  go_wp2_with fail
  with_reducible refine hA.mono ?_
  clear hA
  rintro e w3 ⟨rfl, b3⟩
  have K3 : Hid (Ns w3 t1 R1 ∧ Ns w3 t2 R1 ∧ Below w.heap.size w w3) := ⟨K2.out.1.later _ b3, K2.out.2.1.later _ b3, K2.out.2.2.trans (b3.mono K2.out.2.2.size)⟩
  have hS := HS.out w3 K3.out.2.2
  clear b3 K2 HS
  go_wp2_with fail
  with_reducible refine hS.mono ?_
  clear hS
  rintro e w4 ⟨rfl, b4⟩
  have K4 : Hid (Ns w4 t1 R1 ∧ Ns w4 t2 R1 ∧ Below w.heap.size w w4) := ⟨K3.out.1.later _ b4, K3.out.2.1.later _ b4, K3.out.2.2.trans (b4.mono K3.out.2.2.size)⟩
  have hS := HS2.out w4 K4.out.2.2
  clear b4 K3 HS2
  go_wp2_with fail
  with_reducible refine hS.mono ?_
  clear hS
  rintro e w5 ⟨rfl, b5⟩
  have K5 : Hid (Ns w5 t1 R1 ∧ Ns w5 t2 R1 ∧ Below w.heap.size w w5) := ⟨K4.out.1.later _ b5, K4.out.2.1.later _ b5, K4.out.2.2.trans (b5.mono K4.out.2.2.size)⟩
  have hM := same_any t1 t2 R1 R1 HL.out HL.out w5 K5.out.1 K5.out.2.1
  rw [decide_eq_true rfl] at hM
  have q1 : (r == r) = true := beq_self_eq_true r
  clear b5 K4
  go_wp2_with fail
  with_reducible refine hM.mono ?_
  clear hM
  rintro e w6 ⟨rfl, b6⟩
  have K6 := Lib.hid (K5.out.2.2.trans (b6.mono K5.out.2.2.size))
  clear b6 K5
  go_wp2_with fail
  go_ret
  exact ⟨by simp, K6.out⟩
end Go.Proofs.Ytnodgpbahlaccaa.qm
