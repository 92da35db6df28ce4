/-
  How members may change: the document's Apply, Step.
-/
import Derived.Test.YtnodgpbahlaccaaQmR4
namespace Go.Proofs.Ytnodgpbahlaccaa.qm
set_option linter.unusedVariables false
open Go.RowKit
open rw (Arr But Own bnext below_box below_drew below_drewN)

theorem own_mono {α : Type} {s : rw.Sh α} {w : World} {B B' : Nat} {v : Value} {l : List α} (h : Own s w B v l) (hb : B' ≤ B) : Own s w B' v l := by
  obtain ⟨h1, h2 | ⟨g, cap, cur, h3, h4, h5⟩⟩ := h
  · exact ⟨h1, .inl h2⟩
  · exact ⟨h1, .inr ⟨g, cap, cur, h3, Nat.le_trans hb h4, h5⟩⟩
theorem NewN.after {w w1 w2 : World} {u : Value} {l : List Int} (h : NewN w1 w2 u l) (b : Below w.heap.size w w1) : NewN w w2 u l := ⟨own_mono h.1 b.size, b.trans (h.2.mono b.size)⟩
/-- Members then, the error's number. -/
def applS (l : List Int) (add : Bool) (n : Int) : List Int × Nat := if mayR l add n then (thenR l add n, 0) else ([], 1)
def ApOut (w w' : World) (l : List Int) (add : Bool) (n : Int) (e : Ending) : Prop := ∃ u, e = .returned (.tuple #[u, .int .i64 ((applS l add n).2 : Nat)]) ∧ NewN w w' u (applS l add n).1
theorem ap_no {w w' : World} {l : List Int} {add : Bool} {n : Int} (h : mayR l add n = false) (b : Below w.heap.size w w') : ApOut w w' l add n (.returned (.tuple #[.slice none 0 0, .int .i64 1])) := by
  refine ⟨.slice none 0 0, ?_, ?_⟩
  · simp only [applS, h]; rfl
  · simp only [applS, h]; exact ⟨Own.nil _ _ _, b⟩
theorem ap_yes {w w' : World} {l : List Int} {add : Bool} {n : Int} {u : Value} (h : mayR l add n = true) (k : NewN w w' u (thenR l add n)) : ApOut w w' l add n (.returned (.tuple #[u, .int .i64 0])) := by
  refine ⟨u, ?_, ?_⟩
  · simp only [applS, h]; rfl
  · simp only [applS, h]; exact k
set_option maxHeartbeats 4000000 in
set_option maxRecDepth 100000 in
theorem rapply_any (v : Value) (l : List Int) (add : Bool) (n : Int) (hl : l.length ≤ 140737488355328) (w : World) (h : Ns w v l) :
    Calls Try.prog 18 #[v, .bool add, .int .i64 n] w fun e w' => ApOut w w' l add n e := by
  have hR := rright_any v l hl w h
  have HI := Lib.hid fun W (x : Ns W v l) => in_any v l n hl W x
  have HW := Lib.hid fun W (x : Ns W v l) => with_any v l n hl W x
  have HO := Lib.hid fun W (hs : l.length ≤ 1000) (x : Ns W v l) => without_any v l n hs W x
  obtain ⟨a, c, rfl⟩ := sl_form h
  obtain ⟨N, hN⟩ : ∃ n, l.length = n := ⟨_, rfl⟩
  rw [hN] at HI HW HO hR h ⊢
  have HN := Lib.hid hN
  have HS := Lib.hid h
  clear h hl hN
  obtain ⟨r, hr⟩ : ∃ r, right l = r := ⟨_, rfl⟩
  rw [hr] at hR
  cases r with
  | false =>
    have HT : Hid (mayR l add n = false) := by show _ = _; simp [mayR, hr]
    clear hr
    go_enter Try.func18, Try.ntmps18
    go_wp2_with fail
    with_reducible refine hR.mono ?_
    clear hR
    rintro e w2 ⟨rfl, b2⟩
    have B2 := Lib.hid b2
    clear b2
    go_wp2_with fail
    go_ret2
    exact ap_no HT.out B2.out
  | true =>
    have HL : Hid (N ≤ 1000) := by show _ ≤ _; have := right_len hr; have := HN.out; omega
    by_cases h1 : n < 1
    · have HT : Hid (mayR l add n = false) := by show _ = _; simp [mayR]; omega
      clear hr
      go_enter Try.func18, Try.ntmps18
      go_wp2_with fail
      with_reducible refine hR.mono ?_
      clear hR
      rintro e w2 ⟨rfl, b2⟩
      have B2 := Lib.hid b2
      clear b2
      go_wp2_with fail
      go_ret2
      exact ap_no HT.out B2.out
    · by_cases h2 : n > 5
      · have HT : Hid (mayR l add n = false) := by show _ = _; simp [mayR]; omega
        clear hr
        go_enter Try.func18, Try.ntmps18
        go_wp2_with fail
        with_reducible refine hR.mono ?_
        clear hR
        rintro e w2 ⟨rfl, b2⟩
        have B2 := Lib.hid b2
        clear b2
        go_wp2_with fail
        go_ret2
        exact ap_no HT.out B2.out
      · have HM : Hid (mayR l add n = ((l.contains n != add) && (add || l.length != 1))) := by
          show _ = _
          simp only [mayR, hr, Bool.true_and, decide_eq_true (show 1 ≤ n ∧ n ≤ 5 by omega)]
        clear hr
        obtain ⟨ci, hc⟩ : ∃ ci, l.contains n = ci := ⟨_, rfl⟩
        rw [hc] at HI HM
        clear hc
        cases add with
        | true =>
          cases ci with
          | true =>
            have HT : Hid (mayR l true n = false) := HM.out
            go_enter Try.func18, Try.ntmps18
            go_wp2_with fail
            with_reducible refine hR.mono ?_
            clear hR
            rintro e w2 ⟨rfl, b2⟩
            have hS2 := HS.out.later _ b2
            have hI := HI.out w2 hS2
            have B2 := Lib.hid b2
            have S2 := Lib.hid hS2
            clear b2 hS2
            go_wp2_with fail
            with_reducible refine hI.mono ?_
            clear hI
            rintro e w3 ⟨rfl, rfl⟩
            go_wp2_with fail
            go_ret2
            exact ap_no HT.out B2.out
          | false =>
            have HT : Hid (mayR l true n = true) := HM.out
            go_enter Try.func18, Try.ntmps18
            go_wp2_with fail
            with_reducible refine hR.mono ?_
            clear hR
            rintro e w2 ⟨rfl, b2⟩
            have hS2 := HS.out.later _ b2
            have hI := HI.out w2 hS2
            have B2 := Lib.hid b2
            have S2 := Lib.hid hS2
            clear b2 hS2
            go_wp2_with fail
            with_reducible refine hI.mono ?_
            clear hI
            rintro e w3 ⟨rfl, rfl⟩
            have hw := HW.out w2 S2.out
            go_wp2_with fail
            with_reducible refine hw.mono ?_
            clear hw
            rintro e w4 ⟨u, rfl, k4⟩
            have K4 : Hid (NewN w w4 u (thenR l true n)) := k4.after B2.out
            clear k4
            go_wp2_with fail
            go_ret2
            exact ap_yes HT.out K4.out
        | false =>
          cases ci with
          | false =>
            have HT : Hid (mayR l false n = false) := HM.out
            go_enter Try.func18, Try.ntmps18
            go_wp2_with fail
            with_reducible refine hR.mono ?_
            clear hR
            rintro e w2 ⟨rfl, b2⟩
            have hS2 := HS.out.later _ b2
            have hI := HI.out w2 hS2
            have B2 := Lib.hid b2
            have S2 := Lib.hid hS2
            clear b2 hS2
            go_wp2_with fail
            with_reducible refine hI.mono ?_
            clear hI
            rintro e w3 ⟨rfl, rfl⟩
            go_wp2_with fail
            go_ret2
            exact ap_no HT.out B2.out
          | true =>
            by_cases hn1 : N = 1
            · subst hn1
              have HT : Hid (mayR l false n = false) := HM.out.trans (by rw [HN.out]; rfl)
              go_enter Try.func18, Try.ntmps18
              go_wp2_with fail
              with_reducible refine hR.mono ?_
              clear hR
              rintro e w2 ⟨rfl, b2⟩
              have hS2 := HS.out.later _ b2
              have hI := HI.out w2 hS2
              have B2 := Lib.hid b2
              have S2 := Lib.hid hS2
              clear b2 hS2
              go_wp2_with fail
              with_reducible refine hI.mono ?_
              clear hI
              rintro e w3 ⟨rfl, rfl⟩
              go_wp2_with fail
              go_ret2
              exact ap_no HT.out B2.out
            · have HT : Hid (mayR l false n = true) := HM.out.trans (by rw [HN.out]; simpa using hn1)
              have q1 : ((N : Int) == 1) = false := beq_eq_false_iff_ne.2 (by omega)
              have q2 : (N == 1) = false := beq_eq_false_iff_ne.2 hn1
              go_enter Try.func18, Try.ntmps18
              go_wp2_with fail
              with_reducible refine hR.mono ?_
              clear hR
              rintro e w2 ⟨rfl, b2⟩
              have hS2 := HS.out.later _ b2
              have hI := HI.out w2 hS2
              have B2 := Lib.hid b2
              have S2 := Lib.hid hS2
              clear b2 hS2
              go_wp2_with fail
              with_reducible refine hI.mono ?_
              clear hI
              rintro e w3 ⟨rfl, rfl⟩
              have hw := HO.out w2 HL.out S2.out
              go_wp2_with fail
              with_reducible refine hw.mono ?_
              clear hw
              rintro e w4 ⟨u, rfl, k4⟩
              have K4 : Hid (NewN w w4 u (thenR l false n)) := k4.after B2.out
              clear k4
              go_wp2_with fail
              go_ret2
              exact ap_yes HT.out K4.out
end Go.Proofs.Ytnodgpbahlaccaa.qm
