/-
  The law QuorumBack: the walk.
-/
import Derived.Test.YtnodgpbahlaccaaQmL1
namespace Go.Proofs.Ytnodgpbahlaccaa.qm
set_option linter.unusedVariables false
open Go.RowKit
open rw (Arr But Own bnext below_box below_drew below_drewN)
open pk (S S_size S_data)

set_option maxHeartbeats 4000000 in
set_option maxRecDepth 100000 in
theorem back_walk (u : Value) (l : List Int) (add : Bool) (n : Int) (hl : l.length ≤ 140737488355328) (w : World) (h : Ns w u l) :
    Calls Try.prog 9 #[u, .bool add, .int .i64 n] w fun e w' => e = .returned (.bool true) ∧ Below w.heap.size w w' := by
  have hA := alive_any w
  have HP := Lib.hid fun W (x : Below w.heap.size w W) => apply_any u l add n hl W (h.later _ x)
  have HP2 := Lib.hid fun t (m : List Int) (hm : m.length ≤ 140737488355328) W (x : Ns W t m) => apply_any t m (!add) n hm W x
  have HR := Lib.hid fun t (m : List Int) (hm : m.length ≤ 140737488355328) W (x : Ns W t m) => right_any t m hm W x
  have HSt := Lib.hid fun u v (l k : List Int) (hl : l.length ≤ 140737488355328) (hk : k.length ≤ 140737488355328) W x y => step_any u v l k hl hk W x y
  have HSa := Lib.hid fun u v (l k : List Int) (hl : l.length ≤ 140737488355328) (hk : k.length ≤ 140737488355328) W x y => same_any u v l k hl hk W x y
  have HL := Lib.hid hl
  have H0 := Lib.hid h
  obtain ⟨ad, c, rfl⟩ := sl_form h
  obtain ⟨N, hN⟩ : ∃ n, l.length = n := ⟨_, rfl⟩
  have HN := Lib.hid hN
  rw [hN] at HP H0 ⊢
  clear h hl hN
  obtain ⟨q, hq⟩ : ∃ q, mayR l add n = q := ⟨_, rfl⟩
  go_enter Try.func9, Try.ntmps9
  go_wp2_with fail
  with_reducible refine hA.mono ?_
  clear hA
  rintro e w1 ⟨rfl, b1⟩
  have hp := HP.out w1 b1
  have B1 := Lib.hid b1
  clear b1
  cases q with
  | false =>
    have HQ := Lib.hid hq
    clear hq
    go_wp2_with fail
    with_reducible refine hp.mono ?_
    clear hp
    rintro e w2 ⟨t, he, ht⟩
    simp only [applS, HQ.out] at he ht
    subst he
    obtain ⟨ta, tc, rfl⟩ := ht.1.form
    have B2 := Lib.hid (B1.out.trans (ht.2.mono B1.out.size))
    clear ht B1
    go_wp2_with fail
    go_ret
    exact ⟨rfl, B2.out⟩
  | true =>
    have HB := Lib.hid (back_of hq)
    have HT : Hid ((thenR l add n).length ≤ 140737488355328) := by
      show _ ≤ _
      have := right_len HB.out.1
      omega
    have HQ := Lib.hid hq
    clear hq
    go_wp2_with fail
    with_reducible refine hp.mono ?_
    clear hp
    rintro e w2 ⟨t, he, ht⟩
    simp only [applS, HQ.out] at he ht
    subst he
    have K2 : Hid (Ns w2 t (thenR l add n) ∧ Below w.heap.size w w2) := ⟨ht.1.sl, B1.out.trans (ht.2.mono B1.out.size)⟩
    have hp := HP2.out t (thenR l add n) HT.out w2 K2.out.1
    clear ht B1
    generalize thenR l add n = m at *
    go_wp2_with fail
    with_reducible refine hp.mono ?_
    clear hp
    rintro e w3 ⟨k, he, hk⟩
    simp only [applS, HB.out.2.2.2.2.1, if_true, HB.out.2.2.2.2.2] at he hk
    subst he
    have K3 : Hid (Ns w3 t m ∧ Ns w3 k l ∧ Below w.heap.size w w3) := ⟨K2.out.1.later _ hk.2, hk.1.sl, K2.out.2.trans (hk.2.mono K2.out.2.size)⟩
    have hr := HR.out t m HT.out w3 K3.out.1
    rw [HB.out.1] at hr
    clear hk K2
    go_wp2_with fail
    with_reducible refine hr.mono ?_
    clear hr
    rintro e w4 ⟨rfl, rfl⟩
    have hs := HSt.out _ t l m HL.out HT.out w3 (H0.out.later _ K3.out.2.2) K3.out.1
    rw [HB.out.2.1] at hs
    go_wp2_with fail
    with_reducible refine hs.mono ?_
    clear hs
    rintro e w5 ⟨rfl, b5⟩
    have K5 : Hid (Ns w5 t m ∧ Ns w5 k l ∧ Below w.heap.size w w5) := ⟨K3.out.1.later _ b5, K3.out.2.1.later _ b5, K3.out.2.2.trans (b5.mono K3.out.2.2.size)⟩
    have hs := HSt.out t _ m l HT.out HL.out w5 K5.out.1 (H0.out.later _ K5.out.2.2)
    rw [HB.out.2.2.1] at hs
    clear b5 K3
    go_wp2_with fail
    with_reducible refine hs.mono ?_
    clear hs
    rintro e w6 ⟨rfl, b6⟩
    have K6 : Hid (Ns w6 k l ∧ Below w.heap.size w w6) := ⟨K5.out.2.1.later _ b6, K5.out.2.2.trans (b6.mono K5.out.2.2.size)⟩
    have hs := HSt.out _ _ l l HL.out HL.out w6 (H0.out.later _ K6.out.2) (H0.out.later _ K6.out.2)
    rw [HB.out.2.2.2.1] at hs
    clear b6 K5
    go_wp2_with fail
    with_reducible refine hs.mono ?_
    clear hs
    rintro e w7 ⟨rfl, b7⟩
    have K7 : Hid (Ns w7 k l ∧ Below w.heap.size w w7) := ⟨K6.out.1.later _ b7, K6.out.2.trans (b7.mono K6.out.2.size)⟩
    have hs := HSa.out k _ l l HL.out HL.out w7 K7.out.1 (H0.out.later _ K7.out.2)
    rw [decide_eq_true rfl] at hs
    clear b7 K6
    go_wp2_with fail
    with_reducible refine hs.mono ?_
    clear hs
    rintro e w8 ⟨rfl, b8⟩
    have B8 := Lib.hid (K7.out.2.trans (b8.mono K7.out.2.size))
    clear b8 K7
    go_wp2_with fail
    go_ret
    exact ⟨rfl, B8.out⟩
end Go.Proofs.Ytnodgpbahlaccaa.qm
