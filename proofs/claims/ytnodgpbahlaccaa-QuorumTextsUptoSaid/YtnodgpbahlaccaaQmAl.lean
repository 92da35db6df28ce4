/-
  What every right program answers.
-/
import Derived.Test.YtnodgpbahlaccaaQmP9
import Derived.Test.YtnodgpbahlaccaaQmR6
import Derived.Test.YtnodgpbahlaccaaQmR3
namespace Go.Proofs.Ytnodgpbahlaccaa.qm
set_option linter.unusedVariables false
open Go.RowKit
open rw (Arr But Own bnext below_box below_drew below_drewN)
open pk (S S_size S_data)

theorem lit2 (w : World) (a b : Int) : Ns (w.alloc (.cells #[.int .i64 a, .int .i64 b] 3)) (.slice (some ⟨w.heap.size, 0, none⟩) 2 2) [a, b] := (Own.lit noSh w [a, b] (by simp) (by simp)).sl
theorem lit3 (w : World) (a b c : Int) : Ns (w.alloc (.cells #[.int .i64 a, .int .i64 b, .int .i64 c] 3)) (.slice (some ⟨w.heap.size, 0, none⟩) 3 3) [a, b, c] := (Own.lit noSh w [a, b, c] (by simp) (by simp)).sl
theorem litx (w : World) (a b c d : Int) : Is (w.alloc (.cells #[.int .i64 a, .int .u64 b, .int .i64 c, .int .u64 d] 31)) (.slice (some ⟨w.heap.size, 0, none⟩) 2 2) [⟨a, b⟩, ⟨c, d⟩] := (Own.lit ixSh w [⟨a, b⟩, ⟨c, d⟩] (by simp) (by simp)).sl
theorem al1 : applS [1, 3] true 2 = ([1, 2, 3], 0) := by decide
theorem al2 : most [1, 2, 3] [3, 9, 1] = true := by decide
theorem al3 : commit [1, 2, 3] [⟨1, 5⟩, ⟨2, 7⟩] = 5 := by decide
theorem al4 : textL [1, 3] = [2, 1, 3] := by decide
theorem al5 : ((S [2, 1, 3]).toList == ([2, 1, 3] : List UInt8)) = true := by rw [ByteArray.toList_eq, S_data]; rfl
set_option maxHeartbeats 4000000 in
set_option maxRecDepth 100000 in
theorem alive_any (w : World) : Calls Try.prog 10 #[] w fun e w' => e = .returned (.bool true) ∧ Below w.heap.size w w' := by
  have k1 := below_box w (.cells #[.int .i64 1, .int .i64 3] 3)
  have hA := apply_any _ [1, 3] true 2 (by simp) _ (lit2 w 1 3)
  have K1 := Lib.hid k1
  clear k1
  go_enter Try.func10, Try.ntmps10
  go_wp2_with fail
  generalize w.alloc (.cells #[.int .i64 1, .int .i64 3] 3) = w1 at *
  refine hA.mono ?_
  clear hA
  rintro e w2 ⟨u, he, hu⟩
  rw [al1] at he hu
  subst he
  have U2 : Hid (Ns w2 u [1, 2, 3]) := hu.1.sl
  have K2 : Hid (Below w.heap.size w w2) := K1.out.trans (hu.2.mono K1.out.size)
  have k3 := below_box w2 (.cells #[.int .i64 1, .int .i64 2, .int .i64 3] 3)
  have hS := same_any u _ [1, 2, 3] [1, 2, 3] (by simp) (by simp) _ (U2.out.later _ k3) (lit3 w2 1 2 3)
  rw [decide_eq_true rfl] at hS
  have K3 : Hid (Below w.heap.size w (w2.alloc (.cells #[.int .i64 1, .int .i64 2, .int .i64 3] 3)) ∧ Ns (w2.alloc (.cells #[.int .i64 1, .int .i64 2, .int .i64 3] 3)) u [1, 2, 3]) := ⟨K2.out.trans (k3.mono K2.out.size), U2.out.later _ k3⟩
  clear hu k3 K1 K2 U2
  go_wp2_with fail
  generalize w2.alloc (.cells #[.int .i64 1, .int .i64 2, .int .i64 3] 3) = w3 at *
  refine hS.mono ?_
  clear hS
  rintro e w4 ⟨rfl, b4⟩
  have K4 : Hid (Below w.heap.size w w4 ∧ Ns w4 u [1, 2, 3]) := ⟨K3.out.1.trans (b4.mono K3.out.1.size), K3.out.2.later _ b4⟩
  have k5 := below_box w4 (.cells #[.int .i64 3, .int .i64 9, .int .i64 1] 3)
  have hM := most_any u _ [1, 2, 3] [3, 9, 1] (by simp) (by simp) _ (K4.out.2.later _ k5) (lit3 w4 3 9 1)
  rw [al2] at hM
  have K5 : Hid (Below w.heap.size w (w4.alloc (.cells #[.int .i64 3, .int .i64 9, .int .i64 1] 3)) ∧ Ns (w4.alloc (.cells #[.int .i64 3, .int .i64 9, .int .i64 1] 3)) u [1, 2, 3]) := ⟨K4.out.1.trans (k5.mono K4.out.1.size), K4.out.2.later _ k5⟩
  clear b4 k5 K3 K4
  go_wp2_with fail
  generalize w4.alloc (.cells #[.int .i64 3, .int .i64 9, .int .i64 1] 3) = w5 at *
  refine hM.mono ?_
  clear hM
  rintro e w6 ⟨rfl, rfl⟩
  have k7 := below_box w5 (.cells #[.int .i64 1, .int .u64 5, .int .i64 2, .int .u64 7] 31)
  have hC := commit_any u _ [1, 2, 3] [⟨1, 5⟩, ⟨2, 7⟩] (by simp) (by simp) (by simp) _ (K5.out.2.later _ k7) (litx w5 1 5 2 7)
  rw [al3] at hC
  have K7 : Hid (Below w.heap.size w (w5.alloc (.cells #[.int .i64 1, .int .u64 5, .int .i64 2, .int .u64 7] 31))) := K5.out.1.trans (k7.mono K5.out.1.size)
  clear k7 K5
  go_wp2_with fail
  generalize w5.alloc (.cells #[.int .i64 1, .int .u64 5, .int .i64 2, .int .u64 7] 31) = w7 at *
  refine hC.mono ?_
  clear hC
  rintro e w8 ⟨rfl, b8⟩
  have K8 : Hid (Below w.heap.size w w8) := K7.out.trans (b8.mono K7.out.size)
  have k9 := below_box w8 (.cells #[.int .i64 1, .int .i64 3] 3)
  have hT := text_any _ [1, 3] (by simp) _ (lit2 w8 1 3)
  rw [al4] at hT
  have K9 : Hid (Below w.heap.size w (w8.alloc (.cells #[.int .i64 1, .int .i64 3] 3))) := K8.out.trans (k9.mono K8.out.size)
  have h5 := al5
  clear b8 k9 K7 K8
  go_wp2_with fail
  generalize w8.alloc (.cells #[.int .i64 1, .int .i64 3] 3) = w9 at *
  refine hT.mono ?_
  clear hT
  rintro e w10 ⟨rfl, b10⟩
  have K10 : Hid (Below w.heap.size w w10) := K9.out.trans (b10.mono K9.out.size)
  clear b10 K9
  go_wp2_with fail
  go_ret
  exact ⟨rfl, K10.out⟩
end Go.Proofs.Ytnodgpbahlaccaa.qm
