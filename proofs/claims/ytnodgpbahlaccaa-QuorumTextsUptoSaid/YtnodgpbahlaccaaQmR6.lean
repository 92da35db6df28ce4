/-
  One step: the document's way.
-/
import Derived.Test.YtnodgpbahlaccaaQmR5
namespace Go.Proofs.Ytnodgpbahlaccaa.qm
set_option linter.unusedVariables false
set_option linter.unusedSimpArgs false
open Go.RowKit
open rw (Arr But Own bnext below_box below_drew below_drewN)

theorem five_at {k z : Nat} (hz : z = k + 1) (hk : k < five.length) : five[k] = (z : Int) := by
  subst hz
  have h5 : k < 5 := hk
  have : k = 0 ∨ k = 1 ∨ k = 2 ∨ k = 3 ∨ k = 4 := by omega
  rcases this with rfl | rfl | rfl | rfl | rfl <;> rfl
theorem any_next {a b : List Int} {k z : Nat} (hz : z = k + 1) (hk : k < 5) (h : (five.take k).any (stepAt a b) = false) : (five.take (k + 1)).any (stepAt a b) = stepAt a b z := by
  have h5 : k < five.length := hk
  rw [List.take_succ_eq_append_getElem h5, List.any_append, h, five_at hz h5]
  simp
theorem any_yes {a b : List Int} {k : Nat} (h : (five.take k).any (stepAt a b) = true) : five.any (stepAt a b) = true := by
  rw [List.any_eq_true] at h ⊢
  obtain ⟨x, hx, h2⟩ := h
  exact ⟨x, List.mem_of_mem_take hx, h2⟩
theorem withL_len (l : List Int) (n : Int) : (withL l n).length ≤ 5 := List.length_filter_le _ five
theorem withoutL_len (l : List Int) (n : Int) : (withoutL l n).length ≤ l.length := List.length_filter_le _ _
set_option maxHeartbeats 2000000 in
set_option maxRecDepth 100000 in
theorem rstep_any (u v : Value) (a b : List Int) (hl : a.length ≤ 140737488355328) (hl2 : b.length ≤ 140737488355328) (w : World) (h : Ns w u a) (h2 : Ns w v b) :
    Calls Try.prog 20 #[u, v] w fun e w' => e = .returned (.bool (stepR a b)) ∧ Below w.heap.size w w' := by
  have hRa := rright_any u a hl w h
  have HRb := Lib.hid fun W (x : Ns W v b) => rright_any v b hl2 W x
  have HI := Lib.hid fun n W (x : Ns W u a) => in_any u a n hl W x
  have HW := Lib.hid fun n W (x : Ns W u a) => with_any u a n hl W x
  have HO := Lib.hid fun n W (hs : a.length ≤ 1000) (x : Ns W u a) => without_any u a n hs W x
  have HSm := Lib.hid fun t m W (hs : m.length ≤ 140737488355328) (x : Ns W t m) (y : Ns W v b) => same_any t v m b hs hl2 W x y
  obtain ⟨ad, c, rfl⟩ := sl_form h
  obtain ⟨ad2, c2, rfl⟩ := sl_form h2
  obtain ⟨N, hN⟩ : ∃ n, a.length = n := ⟨_, rfl⟩
  obtain ⟨M, hM⟩ : ∃ n, b.length = n := ⟨_, rfl⟩
  have HN := Lib.hid (And.intro hN hM)
  rw [hN] at HI HW HO hRa h ⊢
  rw [hM] at HRb HSm h2 ⊢
  have H1 := Lib.hid h
  have H2 := Lib.hid h2
  obtain ⟨S, hS⟩ : ∃ s, stepR a b = s := ⟨_, rfl⟩
  rw [hS]
  have HS := Lib.hid hS
  clear h h2 hl hl2 hN hM hS
  obtain ⟨r, hr⟩ : ∃ r, right a = r := ⟨_, rfl⟩
  rw [hr] at hRa
  cases r with
  | false =>
    have HT : Hid (S = false) := HS.out.symm.trans (by simp [stepR, hr])
    obtain rfl := HT.out
    clear hr
    go_enter Try.func20, Try.ntmps20
    go_wp2_with fail
    with_reducible refine hRa.mono ?_
    clear hRa
    rintro e w2 ⟨rfl, b2⟩
    have B2 := Lib.hid b2
    clear b2
    go_wp2_with fail
    go_ret
    exact ⟨rfl, B2.out⟩
  | true =>
    obtain ⟨r2, hr2⟩ : ∃ r, right b = r := ⟨_, rfl⟩
    rw [hr2] at HRb
    cases r2 with
    | false =>
      have HT : Hid (S = false) := HS.out.symm.trans (by simp [stepR, hr2])
      obtain rfl := HT.out
      clear hr hr2
      go_enter Try.func20, Try.ntmps20
      go_wp2_with fail
      with_reducible refine hRa.mono ?_
      clear hRa
      rintro e w2 ⟨rfl, b2⟩
      have hRb := HRb.out w2 (H2.out.later _ b2)
      have B2 := Lib.hid b2
      clear b2
      go_wp2_with fail
      with_reducible refine hRb.mono ?_
      clear hRb
      rintro e w3 ⟨rfl, b3⟩
      have B3 := Lib.hid (B2.out.trans (b3.mono B2.out.size))
      clear b3 B2
      go_wp2_with fail
      go_ret
      exact ⟨rfl, B3.out⟩
    | true =>
      have HF : Hid (five.any (stepAt a b) = S) := by show _ = _; rw [← HS.out]; simp only [stepR, hr, hr2, Bool.true_and]
      have HL : Hid (N ≤ 1000) := by show _ ≤ _; have := right_len hr; have := HN.out; omega
      clear hr hr2 HS
      go_enter Try.func20, Try.ntmps20
      go_wp2_with fail
      with_reducible refine hRa.mono ?_
      clear hRa
      rintro e w2 ⟨rfl, b2⟩
      have hRb := HRb.out w2 (H2.out.later _ b2)
      have B2 := Lib.hid b2
      clear b2
      go_wp2_with fail
      with_reducible refine hRb.mono ?_
      clear hRb
      rintro e w3 ⟨rfl, b3⟩
      have B3 := Lib.hid (B2.out.trans (b3.mono B2.out.size))
      clear b3 B2
      go_wp2_with fail
      go_loopw [5] (fun i wr => ∃ (k z : Nat), i = .int .i64 z ∧ z = k + 1 ∧ k ≤ 5 ∧ Hid ((five.take k).any (stepAt a b) = false) ∧ Hid (Below w.heap.size w wr))
        (fun i _ => 6 - (intOf i).toNat)
      case atStart => exact ⟨0, 1, rfl, rfl, by omega, Lib.hid (by rfl), B3⟩
      case round =>
        obtain ⟨k, z, rfl, hz, hk, HA, HB⟩ := hrel
        have HZ := Lib.hid hz
        by_cases hlt : k < 5
        · have hki : (z : Int) ≤ 5 := by omega
          have hz5 : z ≤ 5 := by omega
          have hI := HI.out z wr (H1.out.later _ HB.out)
          have hnx := any_next hz hlt HA.out
          clear hz
          obtain ⟨ci, hc⟩ : ∃ ci, a.contains (z : Int) = ci := ⟨_, rfl⟩
          rw [hc] at hI
          have HCi := Lib.hid hc
          cases ci with
          | false =>
            have hsx : stepAt a b z = decide (withL a z = b) := by simp only [stepAt, hc, Bool.not_false, Bool.not_true, Bool.true_and, Bool.false_and, Bool.or_false, Bool.false_or]
            rw [hsx] at hnx
            obtain ⟨s, hs⟩ : ∃ s, decide (withL a z = b) = s := ⟨_, rfl⟩
            rw [hs] at hnx
            have HNX := Lib.hid hnx
            have HSd := Lib.hid hs
            clear hsx hnx hs hc
            go_wp2_with fail
            with_reducible refine hI.mono ?_
            rintro e w4 ⟨rfl, rfl⟩
            have hw := HW.out z wr (H1.out.later _ HB.out)
            go_wp2_with fail
            with_reducible refine hw.mono ?_
            clear hw
            rintro e w5 ⟨u, rfl, k5⟩
            have B5 := Lib.hid (HB.out.trans (k5.2.mono HB.out.size))
            have hm := HSm.out u (withL a z) w5 (by have := withL_len a z; have := HN.out; have := HL.out; omega) k5.1.sl (H2.out.later _ B5.out)
            rw [HSd.out] at hm
            clear k5
            cases s with
            | true =>
              go_wp2_with fail
              with_reducible refine hm.mono ?_
              clear hm
              rintro e w6 ⟨rfl, b6⟩
              have B6 := Lib.hid (B5.out.trans (b6.mono B5.out.size))
              have HT : Hid (S = true) := HF.out.symm.trans (any_yes HNX.out)
              obtain rfl := HT.out
              clear b6 B5 HB hI
              go_wp2_with fail
              go_ret
              exact ⟨rfl, B6.out⟩
            | false =>
              go_wp2_with fail
              with_reducible refine hm.mono ?_
              clear hm
              rintro e w6 ⟨rfl, b6⟩
              have B6 := Lib.hid (B5.out.trans (b6.mono B5.out.size))
              clear b6 B5 hI
              have hI := HI.out z w6 (H1.out.later _ B6.out)
              rw [HCi.out] at hI
              go_wp2_with fail
              with_reducible refine hI.mono ?_
              clear hI
              rintro e w7 ⟨rfl, rfl⟩
              clear HB
              go_wp2_with fail
              exact ⟨⟨k + 1, z + 1, by rw [Int.natCast_add]; rfl, by rw [HZ.out], by omega, HNX.out, B6.out⟩, by simp only [intOf]; omega⟩
          | true =>
            have hsx : stepAt a b z = decide (withoutL a z = b) := by simp only [stepAt, hc, Bool.not_false, Bool.not_true, Bool.true_and, Bool.false_and, Bool.or_false, Bool.false_or]
            rw [hsx] at hnx
            obtain ⟨s, hs⟩ : ∃ s, decide (withoutL a z = b) = s := ⟨_, rfl⟩
            rw [hs] at hnx
            have HNX := Lib.hid hnx
            have HSd := Lib.hid hs
            clear hsx hnx hs hc
            go_wp2_with fail
            with_reducible refine hI.mono ?_
            rintro e w4 ⟨rfl, rfl⟩
            go_wp2_with fail
            with_reducible refine hI.mono ?_
            rintro e w4 ⟨rfl, rfl⟩
            have hw := HO.out z wr HL.out (H1.out.later _ HB.out)
            go_wp2_with fail
            with_reducible refine hw.mono ?_
            clear hw
            rintro e w5 ⟨u, rfl, k5⟩
            have B5 := Lib.hid (HB.out.trans (k5.2.mono HB.out.size))
            have hm := HSm.out u (withoutL a z) w5 (by have := withoutL_len a z; have := HN.out; have := HL.out; omega) k5.1.sl (H2.out.later _ B5.out)
            rw [HSd.out] at hm
            clear k5
            cases s with
            | true =>
              go_wp2_with fail
              with_reducible refine hm.mono ?_
              clear hm
              rintro e w6 ⟨rfl, b6⟩
              have B6 := Lib.hid (B5.out.trans (b6.mono B5.out.size))
              have HT : Hid (S = true) := HF.out.symm.trans (any_yes HNX.out)
              obtain rfl := HT.out
              clear b6 B5 HB hI
              go_wp2_with fail
              go_ret
              exact ⟨rfl, B6.out⟩
            | false =>
              go_wp2_with fail
              with_reducible refine hm.mono ?_
              clear hm
              rintro e w6 ⟨rfl, b6⟩
              have B6 := Lib.hid (B5.out.trans (b6.mono B5.out.size))
              clear b6 B5 hI
              clear HB
              go_wp2_with fail
              exact ⟨⟨k + 1, z + 1, by rw [Int.natCast_add]; rfl, by rw [HZ.out], by omega, HNX.out, B6.out⟩, by simp only [intOf]; omega⟩
        · obtain rfl : k = 5 := by omega
          have hki : ¬ (z : Int) ≤ 5 := by omega
          have HT : Hid (S = false) := HF.out.symm.trans HA.out
          obtain rfl := HT.out
          clear hz HA
          go_wp2
          go_ret
          exact ⟨rfl, HB.out⟩
end Go.Proofs.Ytnodgpbahlaccaa.qm
