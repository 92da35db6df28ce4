/-
  The law QuorumTexts: the walk.
-/
import Derived.Test.YtnodgpbahlaccaaQmL1
namespace Go.Proofs.Ytnodgpbahlaccaa.qm
set_option linter.unusedVariables false
open Go.RowKit
open rw (Arr But Own bnext below_box below_drew below_drewN)
open pk (S S_size S_data)

set_option maxHeartbeats 4000000 in
set_option maxRecDepth 100000 in
theorem texts_walk (u : Value) (l : List Int) (s : Bs) (hl : l.length ≤ 140737488355328) (hs : s.length ≤ 1000000000) (w : World) (h : Ns w u l) :
    Calls Try.prog 6 #[u, .string (S s)] w fun e w' => e = .returned (.bool true) ∧ Below w.heap.size w w' := by
  have hR1 := read_any s hs w
  have HR2 := Lib.hid fun W => rread_any s hs W
  have HA := Lib.hid fun W => alive_any W
  have HT1 := Lib.hid fun W (x : Below w.heap.size w W) => text_any u l hl W (h.later _ x)
  have HT2 := Lib.hid fun W (x : Below w.heap.size w W) => rtext_any u l hl W (h.later _ x)
  have HR := Lib.hid fun W (x : Below w.heap.size w W) => right_any u l hl W (h.later _ x)
  have HRT := Lib.hid fun W => read_any (textL l) (by have := text_len l; omega) W
  have HSa := Lib.hid fun t v (m k : List Int) (hm : m.length ≤ 140737488355328) (hk : k.length ≤ 140737488355328) W x y => same_any t v m k hm hk W x y
  have HL := Lib.hid hl
  have H0 := Lib.hid fun W (x : Below w.heap.size w W) => h.later noSh x
  have HLr : Hid ((readS s).1.length ≤ 140737488355328) := by
    show _ ≤ _
    unfold readS
    split
    · rw [List.length_map, List.length_tail]; omega
    · simp
  have HB : Hid (right l = true → readS (textL l) = (l, 0)) := read_text
  obtain ⟨ad, c, rfl⟩ := sl_form h
  obtain ⟨N, hN⟩ : ∃ n, l.length = n := ⟨_, rfl⟩
  rw [hN] at HT1 HT2 HR H0 ⊢
  generalize textL l = T at *
  clear h hl hs hN
  go_enter Try.func6, Try.ntmps6
  go_wp2_with fail
  with_reducible refine hR1.mono ?_
  clear hR1
  rintro e w1 ⟨t1, rfl, k1⟩
  have hR2 := HR2.out w1
  have K1 : Hid (Ns w1 t1 (readS s).1 ∧ Below w.heap.size w w1) := ⟨k1.1.sl, k1.2⟩
  clear k1 HR2
  go_wp2_with fail
  with_reducible refine hR2.mono ?_
  clear hR2
  rintro e w2 ⟨t2, rfl, k2⟩
  have K2 : Hid (Ns w2 t1 (readS s).1 ∧ Ns w2 t2 (readS s).1 ∧ Below w.heap.size w w2) := ⟨K1.out.1.later _ k2.2, k2.1.sl, K1.out.2.trans (k2.2.mono K1.out.2.size)⟩
  have hA := HA.out w2
  clear k2 K1 HA
  generalize readS s = R at *
  obtain ⟨R1, R2⟩ := R
  simp only at K2 HLr
  go_wp2_with fail
  with_reducible refine hA.mono ?_
  clear hA
  rintro e w3 ⟨rfl, b3⟩
  have K3 : Hid (Ns w3 t1 R1 ∧ Ns w3 t2 R1 ∧ Below w.heap.size w w3) := ⟨K2.out.1.later _ b3, K2.out.2.1.later _ b3, K2.out.2.2.trans (b3.mono K2.out.2.2.size)⟩
  have hT := HT1.out w3 K3.out.2.2
  clear b3 K2
  go_wp2_with fail
  with_reducible refine hT.mono ?_
  clear hT
  rintro e w4 ⟨rfl, b4⟩
  have K4 : Hid (Ns w4 t1 R1 ∧ Ns w4 t2 R1 ∧ Below w.heap.size w w4) := ⟨K3.out.1.later _ b4, K3.out.2.1.later _ b4, K3.out.2.2.trans (b4.mono K3.out.2.2.size)⟩
  have hT := HT2.out w4 K4.out.2.2
  clear b4 K3
  go_wp2_with fail
  with_reducible refine hT.mono ?_
  clear hT HT2
  rintro e w5 ⟨rfl, b5⟩
  have K5 : Hid (Ns w5 t1 R1 ∧ Ns w5 t2 R1 ∧ Below w.heap.size w w5) := ⟨K4.out.1.later _ b5, K4.out.2.1.later _ b5, K4.out.2.2.trans (b5.mono K4.out.2.2.size)⟩
  have hM := HSa.out t1 t2 R1 R1 HLr.out HLr.out w5 K5.out.1 K5.out.2.1
  rw [decide_eq_true rfl] at hM
  have q1 : ((S T).toList == (S T).toList) = true := beq_self_eq_true _
  clear b5 K4
  go_wp2_with fail
  with_reducible refine hM.mono ?_
  clear hM
  rintro e w6 ⟨rfl, b6⟩
  have K6 := Lib.hid (K5.out.2.2.trans (b6.mono K5.out.2.2.size))
  have q2 : ((R2 : Nat) != R2) = false := by simp
  have hT := HT1.out w6 K6.out
  clear b6 K5 HT1
  go_wp2_with fail
  with_reducible refine hT.mono ?_
  clear hT
  rintro e w7 ⟨rfl, b7⟩
  have K7 := Lib.hid (K6.out.trans (b7.mono K6.out.size))
  have hR := HRT.out w7
  clear b7 K6 HRT
  go_wp2_with fail
  with_reducible refine hR.mono ?_
  clear hR
  rintro e w8 ⟨t3, he, k8⟩
  have K8 : Hid (Ns w8 t3 (readS T).1 ∧ Below w.heap.size w w8) := ⟨k8.1.sl, K7.out.trans (k8.2.mono K7.out.size)⟩
  have hr := HR.out w8 K8.out.2
  clear k8 K7 HR
  obtain ⟨r, hr0⟩ : ∃ r, right l = r := ⟨_, rfl⟩
  rw [hr0] at hr
  cases r with
  | false =>
    clear hr0
    subst he
    go_wp2_with fail
    with_reducible refine hr.mono ?_
    clear hr
    rintro e w9 ⟨rfl, rfl⟩
    go_wp2_with fail
    go_ret
    exact ⟨rfl, K8.out.2⟩
  | true =>
    have hB := HB.out hr0
    rw [hB] at he K8
    subst he
    have hM := HSa.out t3 _ l l HL.out HL.out w8 K8.out.1 (H0.out w8 K8.out.2)
    rw [decide_eq_true rfl] at hM
    clear hr0 hB
    go_wp2_with fail
    with_reducible refine hr.mono ?_
    clear hr
    rintro e w9 ⟨rfl, rfl⟩
    go_wp2_with fail
    with_reducible refine hM.mono ?_
    clear hM
    rintro e w10 ⟨rfl, b10⟩
    have K10 := Lib.hid (K8.out.2.trans (b10.mono K8.out.2.size))
    clear b10 K8
    go_wp2_with fail
    go_ret
    exact ⟨rfl, K10.out⟩
end Go.Proofs.Ytnodgpbahlaccaa.qm
