/-
  One step: the program's Step.
-/
import Derived.Test.YtnodgpbahlaccaaQmP4
namespace Go.Proofs.Ytnodgpbahlaccaa.qm
set_option linter.unusedVariables false
open Go.RowKit
open rw (Arr But Own bnext below_box below_drew below_drewN)

set_option maxHeartbeats 4000000 in
set_option maxRecDepth 100000 in
theorem step_any (u v : Value) (a b : List Int) (hl : a.length ≤ 140737488355328) (hl2 : b.length ≤ 140737488355328) (w : World) (h : Ns w u a) (h2 : Ns w v b) :
    Calls Try.prog 19 #[u, v] w fun e w' => e = .returned (.bool (stepR a b)) ∧ Below w.heap.size w w' := by
  have hRa := right_any u a hl w h
  have hRb := right_any v b hl2 w h2
  have HX := Lib.hid fun (x : a.length ≤ 1000) (y : b.length ≤ 1000) => onemore_any u v a b x y w h h2
  have HY := Lib.hid fun (x : a.length ≤ 1000) (y : b.length ≤ 1000) W (k : Below w.heap.size w W) => onemore_any v u b a y x W (h2.later _ k) (h.later _ k)
  obtain ⟨ad, c, rfl⟩ := sl_form h
  obtain ⟨ad2, c2, rfl⟩ := sl_form h2
  obtain ⟨N, hN⟩ : ∃ n, a.length = n := ⟨_, rfl⟩
  obtain ⟨M, hM⟩ : ∃ n, b.length = n := ⟨_, rfl⟩
  have HN := Lib.hid (And.intro hN hM)
  rw [hN, hM] at HX HY
  rw [hN] at hRa ⊢
  rw [hM] at hRb ⊢
  rw [← step_eq]
  obtain ⟨S, hS⟩ : ∃ s, stepP a b = s := ⟨_, rfl⟩
  rw [hS]
  have HS := Lib.hid hS
  clear h h2 hl hl2 hN hM hS
  obtain ⟨r, hr⟩ : ∃ r, right a = r := ⟨_, rfl⟩
  rw [hr] at hRa
  obtain ⟨r2, hr2⟩ : ∃ r, right b = r := ⟨_, rfl⟩
  rw [hr2] at hRb
  cases r with
  | false =>
    have HT : Hid (S = false) := HS.out.symm.trans (by simp [stepP, hr])
    obtain rfl := HT.out
    clear hr hr2
    go_enter Try.func19, Try.ntmps19
    go_wp2_with fail
    with_reducible refine hRa.mono ?_
    clear hRa
    rintro e w2 ⟨rfl, rfl⟩
    go_wp2_with fail
    go_ret
    exact ⟨rfl, Below.refl _ _⟩
  | true =>
    cases r2 with
    | false =>
      have HT : Hid (S = false) := HS.out.symm.trans (by simp [stepP, hr2])
      obtain rfl := HT.out
      clear hr hr2
      go_enter Try.func19, Try.ntmps19
      go_wp2_with fail
      with_reducible refine hRa.mono ?_
      clear hRa
      rintro e w2 ⟨rfl, rfl⟩
      go_wp2_with fail
      with_reducible refine hRb.mono ?_
      clear hRb
      rintro e w2 ⟨rfl, rfl⟩
      go_wp2_with fail
      go_ret
      exact ⟨rfl, Below.refl _ _⟩
    | true =>
      have HL : Hid (N ≤ 1000 ∧ M ≤ 1000) := by show _ ∧ _; have := right_len hr; have := right_len hr2; have := HN.out; omega
      have hx := HX.out HL.out.1 HL.out.2
      have HE : Hid (S = (oneMoreP a b || oneMoreP b a)) := HS.out.symm.trans (by simp only [stepP, hr, hr2, Bool.true_and])
      clear hr hr2 HS
      obtain ⟨s, hs⟩ : ∃ s, oneMoreP a b = s := ⟨_, rfl⟩
      rw [hs] at hx HE
      cases s with
      | true =>
        have HT : Hid (S = true) := HE.out
        obtain rfl := HT.out
        clear hs
        go_enter Try.func19, Try.ntmps19
        go_wp2_with fail
        with_reducible refine hRa.mono ?_
        clear hRa
        rintro e w2 ⟨rfl, rfl⟩
        go_wp2_with fail
        with_reducible refine hRb.mono ?_
        clear hRb
        rintro e w2 ⟨rfl, rfl⟩
        go_wp2_with fail
        with_reducible refine hx.mono ?_
        clear hx
        rintro e w2 ⟨rfl, b2⟩
        have B2 := Lib.hid b2
        clear b2
        go_wp2_with fail
        go_ret
        exact ⟨rfl, B2.out⟩
      | false =>
        obtain ⟨t, ht⟩ : ∃ t, oneMoreP b a = t := ⟨_, rfl⟩
        have HT : Hid (S = t) := HE.out.trans (by rw [ht]; rfl)
        obtain rfl := HT.out
        clear hs
        go_enter Try.func19, Try.ntmps19
        go_wp2_with fail
        with_reducible refine hRa.mono ?_
        clear hRa
        rintro e w2 ⟨rfl, rfl⟩
        go_wp2_with fail
        with_reducible refine hRb.mono ?_
        clear hRb
        rintro e w2 ⟨rfl, rfl⟩
        go_wp2_with fail
        with_reducible refine hx.mono ?_
        clear hx
        rintro e w2 ⟨rfl, b2⟩
        have B2 := Lib.hid b2
        clear b2
        have hy := HY.out HL.out.1 HL.out.2 w2 B2.out
        rw [ht] at hy
        go_wp2_with fail
        with_reducible refine hy.mono ?_
        clear hy
        rintro e w3 ⟨rfl, b3⟩
        have B3 := Lib.hid (B2.out.trans (b3.mono B2.out.size))
        clear b3 B2
        go_wp2_with fail
        go_ret
        exact ⟨rfl, B3.out⟩
end Go.Proofs.Ytnodgpbahlaccaa.qm
