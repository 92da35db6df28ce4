/-
  One step: the program's way.
-/
import Derived.Test.YtnodgpbahlaccaaQmP3
import Derived.Test.YtnodgpbahlaccaaQmSpec
namespace Go.Proofs.Ytnodgpbahlaccaa.qm
set_option linter.unusedVariables false
open Go.RowKit
open rw (Arr But Own bnext below_box below_drew below_drewN)

set_option maxHeartbeats 2000000 in
set_option maxRecDepth 100000 in
theorem lit_any (v : Value) (m : List Int) (x : Int) (q : Nat) (hm : m.length ≤ 140737488355328) (w : World) (h : Ns w v m) (hq : w.cell? ⟨q, 0, none⟩ = some v) :
    Calls Try.prog 49 #[.int .i64 x, .pointer (some ⟨q, 0, none⟩)] w fun e w' => e = .returned (.bool (!m.contains x)) ∧ w = w' := by
  have hC := contains_any v m x hm w h
  obtain ⟨a, c, rfl⟩ := sl_form h
  obtain ⟨r, hr⟩ : ∃ r, m.contains x = r := ⟨_, rfl⟩
  obtain ⟨M, hM⟩ : ∃ n, m.length = n := ⟨_, rfl⟩
  rw [hr] at hC ⊢
  rw [hM] at hC hq
  clear h hm hM hr
  go_enter Try.func49, Try.ntmps49
  go_wp2_with fail
  with_reducible refine hC.mono ?_
  clear hC
  rintro e w2 ⟨rfl, rfl⟩
  go_wp2_with fail
  go_ret
  exact ⟨rfl, rfl⟩
theorem all_no {o m : List Int} {k : Nat} (hk : k < o.length) (h : m.contains o[k] = false) : (o.all fun x => m.contains x) = false := by
  rw [List.all_eq_false]
  exact ⟨o[k], List.getElem_mem hk, by rw [h]; simp⟩
theorem all_next {o m : List Int} {k : Nat} (hk : k < o.length) (h : ((o.take k).all fun x => m.contains x) = true) (h2 : m.contains o[k] = true) : ((o.take (k + 1)).all fun x => m.contains x) = true := by
  rw [List.take_succ_eq_append_getElem hk, List.all_append, h]
  simp at *
  exact h2
set_option maxHeartbeats 4000000 in
set_option maxRecDepth 100000 in
theorem ifunc_any (u v : Value) (o m : List Int) (q : Nat) (ho : o.length ≤ 140737488355328) (hm : m.length ≤ 140737488355328) (w : World) (h : Ns w u o) (h2 : Ns w v m) (hq : w.cell? ⟨q, 0, none⟩ = some v) :
    Calls Try.prog 58 #[u, .func (.func 49) #[] #[.pointer (some ⟨q, 0, none⟩)]] w fun e w' => (∃ z : Int, e = .returned (.int .i64 z) ∧ decide (0 ≤ z) = !(o.all fun x => m.contains x)) ∧ w = w' := by
  have HL := Lib.hid fun x => lit_any v m x q hm w h2 hq
  obtain ⟨a, c, rfl⟩ := sl_form h
  obtain ⟨N, hN⟩ : ∃ n, o.length = n := ⟨_, rfl⟩
  obtain ⟨r, hr⟩ : ∃ r, (!(o.all fun x => m.contains x)) = r := ⟨_, rfl⟩
  rw [hN] at h ho ⊢
  rw [hr]
  have HN := Lib.hid hN
  have HR := Lib.hid hr
  have HS := Lib.hid h
  clear h h2 hN hr hq hm
  go_enter Try.func58, Try.ntmps58
  go_wp2
  go_loopw [5, 8] (fun _ i wr => ∃ k : Nat, i = .int .i64 k ∧ k ≤ N ∧ Hid (((o.take k).all fun x => m.contains x) = true) ∧ wr = w)
    (fun _ i _ => N - (intOf i).toNat)
  case atStart => exact ⟨0, rfl, Nat.zero_le _, Lib.hid (by rfl), rfl⟩
  case round =>
    obtain ⟨k, rfl, hk, HA, rfl⟩ := hrel
    by_cases hlt : k < N
    · have hki : (k : Int) < (N : Int) := by omega
      have hkl : k < o.length := by rw [HN.out]; exact hlt
      have HS2 := HS.out
      rw [← HN.out] at HS2
      obtain ⟨b, off, c3, e, hb3, c0⟩ := slN_at HS2 hkl
      injection e with e1 e2 e3
      subst e1 e3
      clear e2
      have hL := HL.out (o[k]'hkl)
      obtain ⟨s, hs⟩ : ∃ s, m.contains (o[k]'hkl) = s := ⟨_, rfl⟩
      rw [hs] at hL
      cases s with
      | true =>
        have HA2 := Lib.hid (all_next hkl HA.out hs)
        obtain ⟨x, hx⟩ : ∃ x, o[k]'hkl = x := ⟨_, rfl⟩
        rw [hx] at c0 hL
        clear hx hs HA HS2 hb3 hkl
        go_wp2_with fail
        with_reducible refine hL.mono ?_
        clear hL
        rintro e w2 ⟨rfl, rfl⟩
        go_wp2_with fail
        exact ⟨⟨k + 1, by rw [Int.natCast_add]; rfl, by omega, HA2.out, by first | rfl | trivial⟩, by simp only [intOf]; omega⟩
      | false =>
        have HT : Hid (r = true) := HR.out.symm.trans (by rw [all_no hkl hs]; rfl)
        obtain ⟨x, hx⟩ : ∃ x, o[k]'hkl = x := ⟨_, rfl⟩
        rw [hx] at c0 hL
        clear hx hs HA HS2 hb3 hkl
        go_wp2_with fail
        with_reducible refine hL.mono ?_
        clear hL
        rintro e w2 ⟨rfl, rfl⟩
        go_wp2_with fail
        go_ret
        obtain rfl := HT.out
        exact ⟨⟨_, rfl, decide_eq_true (by omega)⟩, rfl⟩
    · obtain rfl : k = N := by omega
      have hki : ¬ (k : Int) < (k : Int) := by omega
      have HT : Hid (r = false) := HR.out.symm.trans (by have h := HA.out; rw [← HN.out, List.take_length] at h; rw [h]; rfl)
      clear HA
      go_wp2
      go_ret
      obtain rfl := HT.out
      exact ⟨⟨-1, rfl, rfl⟩, rfl⟩
set_option maxHeartbeats 2000000 in
set_option maxRecDepth 100000 in
theorem cfunc_any (u v : Value) (o m : List Int) (q : Nat) (ho : o.length ≤ 140737488355328) (hm : m.length ≤ 140737488355328) (w : World) (h : Ns w u o) (h2 : Ns w v m) (hq : w.cell? ⟨q, 0, none⟩ = some v) :
    Calls Try.prog 48 #[u, .func (.func 49) #[] #[.pointer (some ⟨q, 0, none⟩)]] w fun e w' => e = .returned (.bool (!(o.all fun x => m.contains x))) ∧ w = w' := by
  have hI := ifunc_any u v o m q ho hm w h h2 hq
  obtain ⟨r, hr⟩ : ∃ r, (!(o.all fun x => m.contains x)) = r := ⟨_, rfl⟩
  rw [hr] at hI ⊢
  clear hr h h2 hq
  go_enter Try.func48, Try.ntmps48
  go_wp2_with fail
  with_reducible refine hI.mono ?_
  clear hI
  rintro e w2 ⟨⟨z, rfl, hz⟩, rfl⟩
  have HZ := Lib.hid hz
  clear hz
  go_wp2_with fail
  go_ret
  exact ⟨by rw [← HZ.out]; simp, rfl⟩
set_option maxHeartbeats 4000000 in
set_option maxRecDepth 100000 in
theorem onemore_any (u v : Value) (o m : List Int) (ho : o.length ≤ 1000) (hm : m.length ≤ 1000) (w : World) (h : Ns w u o) (h2 : Ns w v m) :
    Calls Try.prog 37 #[u, v] w fun e w' => e = .returned (.bool (oneMoreP o m)) ∧ Below w.heap.size w w' := by
  have k1 := below_box w (.cells #[v] 22)
  have x1 := Arr.new w 22 #[v]
  have hC := cfunc_any u v o m w.heap.size (by omega) (by omega) _ (h.later _ k1) (h2.later _ k1) (x1.cell rfl)
  obtain ⟨a, c, rfl⟩ := sl_form h
  obtain ⟨a2, c2, rfl⟩ := sl_form h2
  obtain ⟨N, hN⟩ : ∃ n, o.length = n := ⟨_, rfl⟩
  obtain ⟨M, hM⟩ : ∃ n, m.length = n := ⟨_, rfl⟩
  obtain ⟨r, hr⟩ : ∃ r, oneMoreP o m = r := ⟨_, rfl⟩
  rw [hr]
  obtain ⟨s, hs⟩ : ∃ s, (o.all fun x => m.contains x) = s := ⟨_, rfl⟩
  simp only [oneMoreP, hs, hN, hM] at hr
  rw [hs] at hC
  rw [hN] at hC ho ⊢
  rw [hM] at hC hm k1 x1 ⊢
  have HK := Lib.hid k1
  obtain ⟨q, hq⟩ : ∃ q, w.heap.size = q := ⟨_, rfl⟩
  rw [hq] at hC x1
  have y0 : (w.alloc (.cells #[.slice a2 M c2] 22)).cell? ⟨q, 0, none⟩ = some (.slice a2 M c2) := x1.cell rfl
  clear h h2 k1 x1 hN hM hs
  have f1 : IntKind.i64.wrap ((N : Int) + 1) = ((N + 1 : Nat) : Int) := by
    rw [show (N : Int) + 1 = ((N + 1 : Nat) : Int) by omega]; exact IntWalk.i64_in _ (by omega)
  by_cases hd : M = N + 1
  · have HT : Hid (s = r) := by show _ = _; rw [← hr, decide_eq_true hd, Bool.true_and]
    obtain ⟨K, hK⟩ : ∃ K, N + 1 = K := ⟨_, rfl⟩
    rw [hK] at hd f1
    subst hd
    clear hr hK
    go_enter Try.func37, Try.ntmps37
    go_wp2_with fail
    with_reducible refine hC.mono ?_
    clear hC
    rintro e w2 ⟨rfl, rfl⟩
    go_wp2_with fail
    go_ret
    obtain rfl := HT.out
    exact ⟨by simp, HK.out⟩
  · have HT : Hid (r = false) := by show _ = _; rw [← hr, decide_eq_false hd, Bool.false_and]
    obtain ⟨K, hK⟩ : ∃ K, N + 1 = K := ⟨_, rfl⟩
    rw [hK] at hd f1
    have q1 : ((M : Int) == (K : Int)) = false := beq_eq_false_iff_ne.2 (by omega)
    have q2 : (M == K) = false := beq_eq_false_iff_ne.2 hd
    clear hr hK hC
    go_enter Try.func37, Try.ntmps37
    go_wp2_with fail
    go_ret
    obtain rfl := HT.out
    exact ⟨rfl, HK.out⟩
end Go.Proofs.Ytnodgpbahlaccaa.qm
