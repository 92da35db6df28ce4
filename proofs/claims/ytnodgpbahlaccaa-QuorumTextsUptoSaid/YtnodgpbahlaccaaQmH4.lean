/-
  The library's heap: down.
-/
import Derived.Test.YtnodgpbahlaccaaQmH3
namespace Go.Proofs.Ytnodgpbahlaccaa.qm
set_option linter.unusedVariables false
open Go.RowKit
open rw (Arr But Own bnext below_box below_drew below_drewN)

/-- Where the loop stands. -/
def Dn (w wr : World) (hb : Nat) (v : Value) (l m : List Ix) (c : Ix) (k n : Nat) : Prop := DnI m k n ∧ m.Perm l ∧ m.getD n z0 = c ∧ Hp w wr hb v m
theorem Dn.below {w wr W : World} {hb : Nat} {v : Value} {l m : List Ix} {c : Ix} {k n : Nat} (h : Dn w wr hb v l m c k n) (b : Below wr.heap.size wr W) : Dn w W hb v l m c k n := ⟨h.1, h.2.1, h.2.2.1, h.2.2.2.below b⟩
theorem Dn.turn {w wr W : World} {hb : Nat} {v : Value} {l m : List Ix} {c : Ix} {k n d : Nat} (h : Dn w wr hb v l m c k n) (hd : d < n) (h1 : (d - 1) / 2 = k) (h0 : 0 < d) (hk : key m k < key m d) (ho : ∀ i, 0 < i → i < n → (i - 1) / 2 = k → key m i ≤ key m d)
    (o : Own hpSh W (hb + 1) v (sw m k d)) (b : Bv (hb + 1) v wr W) : Dn w W hb v l (sw m k d) c d n := by
  have hl := h.1.len
  refine ⟨h.1.step h0 hd h1 hk ho, (sw_perm m (by omega) (by omega)).trans h.2.1, ?_, h.2.2.2.turn o b⟩
  rcases Nat.lt_or_ge n m.length with hn | hn
  · rw [sw_get m (by omega) (by omega), if_neg (by omega), if_neg (by omega)]; exact h.2.2.1
  · have e : ∀ x : List Ix, x.length ≤ n → x.getD n z0 = z0 := fun x hx => by simp [List.getD_eq_getElem?_getD, List.getElem?_eq_none hx]
    rw [e _ (by rw [sw_len]; exact hn), ← h.2.2.1, e _ hn]
set_option maxHeartbeats 2000000 in
set_option maxRecDepth 100000 in
theorem down_any (hb : Nat) (v : Value) (l : List Ix) (n : Nat) (hl : l.length ≤ 1000000) (w : World) (h : Hp w w hb v l) (hj : DnI l 0 n) :
    Calls Try.prog 56 #[.iface 49 (.pointer (some ⟨hb, 0, none⟩)), .int .i64 0, .int .i64 n] w fun e w' => (∃ r : Value, e = .returned r) ∧ ∃ m, Hp w w' hb v m ∧ m.Perm l ∧ m.getD n z0 = l.getD n z0 ∧ Heap m n := by
  have hnl := hj.len
  obtain ⟨N, hN⟩ : ∃ n, l.length = n := ⟨_, rfl⟩
  obtain ⟨c, hc⟩ : ∃ c, l.getD n z0 = c := ⟨_, rfl⟩
  rw [hN] at hl hnl
  rw [hc]
  have HN := Lib.hid hN
  have H0 : Hid (Dn w w hb v l l c 0 n) := ⟨hj, .refl _, hc, h⟩
  clear h hj hN hc
  go_enter Try.func56, Try.ntmps56
  go_wp2
  go_loopw [7, 8, 9, 10] (fun iv _ _ _ wr => ∃ (k : Nat) (m : List Ix), iv = .int .i64 k ∧ k ≤ N ∧ Hid (Dn w wr hb v l m c k n))
    (fun iv _ _ _ _ => N - (intOf iv).toNat)
  case atStart => exact ⟨0, l, rfl, by omega, H0⟩
  case round =>
    obtain ⟨k, m, rfl, hk, HI⟩ := hrel
    obtain ⟨t, ht⟩ : ∃ t, 2 * k = t := ⟨_, rfl⟩
    obtain ⟨a, ha⟩ : ∃ a, t + 1 = a := ⟨_, rfl⟩
    have f1 : IntKind.i64.wrap (2 * (k : Int)) = (t : Int) := by
      have : 2 * (k : Int) = (t : Int) := by omega
      rw [this]; exact IntWalk.i64_in _ (by omega)
    have f1b : 2 * (k : Int) = (t : Int) := by omega
    have f2 : IntKind.i64.wrap ((t : Int) + 1) = (a : Int) := by
      have : (t : Int) + 1 = (a : Int) := by omega
      rw [this]; exact IntWalk.i64_in _ (by omega)
    have f2b : (t : Int) + 1 = (a : Int) := by omega
    have HK : Hid (a = 2 * k + 1) := by show _ = _; omega
    have hal : a ≤ 2000001 := by omega
    have f3 : ¬ (a : Int) < 0 := by omega
    clear ht ha
    by_cases han : n ≤ a
    · have HD : Hid (∃ m, Hp w wr hb v m ∧ m.Perm l ∧ m.getD n z0 = c ∧ Heap m n) := ⟨m, HI.out.2.2.2, HI.out.2.1, HI.out.2.2.1, HI.out.1.done fun j h0 hj hp => by have := HK.out; omega⟩
      have f4 : (a : Int) ≥ (n : Int) := by omega
      clear HI
      go_wp2_with fail
      go_ret
      exact ⟨⟨_, rfl⟩, HD.out⟩
    · have f4 : ¬ (a : Int) ≥ (n : Int) := by omega
      have han2 : a < n := by omega
      have HM : Hid (m.length = N) := HI.out.2.1.length_eq.trans HN.out
      have hkl : k < m.length := by rw [HM.out]; have := HK.out; omega
      have hal2 : a < m.length := by rw [HM.out]; omega
      have hml : m.length ≤ 1000000 := by rw [HM.out]; exact hl
      obtain ⟨b, hb2⟩ : ∃ b, a + 1 = b := ⟨_, rfl⟩
      have f5 : IntKind.i64.wrap ((a : Int) + 1) = (b : Int) := by
        have : (a : Int) + 1 = (b : Int) := by omega
        rw [this]; exact IntWalk.i64_in _ (by omega)
      have f5b : (a : Int) + 1 = (b : Int) := by omega
      have HB : Hid (b = 2 * k + 2) := by show _ = _; have := HK.out; omega
      clear hb2
      have HX := Lib.hid (And.intro hkl (And.intro hal2 hml))
      clear hkl hal2 hml
      by_cases hbn : n ≤ b
      · have f6 : ¬ (b : Int) < (n : Int) := by omega
        have HO : Hid (∀ i, 0 < i → i < n → (i - 1) / 2 = k → key m i ≤ key m a) := fun i h0 hi hp => by
          have : i = a := by have := HK.out; have := HB.out; omega
          rw [this]; exact Int.le_refl _
        clear hbn han
        have hm2 := m_less HI.out.2.2.2.box
        have hdl : a < m.length := by have := HX.out; rw [HM.out] at *; omega
        have hL2 := less_any v m a k hdl HX.out.1 HX.out.2.2 wr (hb + 1) HI.out.2.2.2.own
        by_cases hlt : key m k < key m a
        · rw [decide_eq_true hlt] at hL2
          have HSw := Lib.hid fun W h => swap_any v m k a HX.out.1 hdl (by have := HK.out; have := HB.out; omega) HX.out.2.2 W (hb + 1) h
          have HG := Lib.hid fun W W' (x : Dn w W hb v l m c k n) o b => x.turn (W := W') han2 (by have := HK.out; have := HB.out; omega) (by have := HK.out; have := HB.out; omega) hlt HO.out o b
          have HP : Hid (k < a ∧ a ≤ N) := ⟨by have := HK.out; have := HB.out; omega, by omega⟩
          clear hlt hdl
          go_wp2_with fail
          with_reducible refine hL2.mono ?_
          clear hL2 hm2
          rintro e wx ⟨rfl, bx⟩
          have HI := Lib.hid (HI.out.below bx)
          clear bx
          have hm3 := m_swap HI.out.2.2.2.box
          have hS := HSw.out wx HI.out.2.2.2.own
          go_wp2_with fail
          with_reducible refine hS.mono ?_
          clear hS hm3
          rintro e wy ⟨rfl, oy, bY⟩
          have HJ := Lib.hid (HG.out _ _ HI.out oy bY)
          clear HI oy bY
          go_wp2_with fail
          exact ⟨⟨a, _, rfl, HP.out.2, HJ.out⟩, by have := HP.out; simp only [intOf]; omega⟩
        · rw [decide_eq_false hlt] at hL2
          have HD : Hid (Heap m n) := HI.out.1.done fun j h0 hj hp => by have := HO.out j h0 hj hp; omega
          clear hlt hdl
          go_wp2_with fail
          with_reducible refine hL2.mono ?_
          clear hL2 hm2
          rintro e wx ⟨rfl, bx⟩
          have HJ := Lib.hid (HI.out.below bx)
          clear bx HI
          go_wp2_with fail
          go_ret
          exact ⟨⟨_, rfl⟩, m, HJ.out.2.2.2, HJ.out.2.1, HJ.out.2.2.1, HD.out⟩
      · have f6 : (b : Int) < (n : Int) := by omega
        have hbn2 : b < n := by omega
        have hm1 := m_less HI.out.2.2.2.box
        have hbl : b < m.length := by have := HX.out; rw [HM.out] at *; omega
        have hL1 := less_any v m b a hbl HX.out.2.1 HX.out.2.2 wr (hb + 1) HI.out.2.2.2.own
        clear hbl hbn han
        by_cases hab : key m a < key m b
        · rw [decide_eq_true hab] at hL1
          have HO : Hid (∀ i, 0 < i → i < n → (i - 1) / 2 = k → key m i ≤ key m b) := fun i h0 hi hp => by
            have : i = a ∨ i = b := by have := HK.out; have := HB.out; omega
            rcases this with e | e
            · rw [e]; omega
            · rw [e]; exact Int.le_refl _
          clear hab
          go_wp2_with fail
          with_reducible refine hL1.mono ?_
          clear hL1 hm1
          rintro e w1 ⟨rfl, b1⟩
          have HI := Lib.hid (HI.out.below b1)
          clear b1
          have hm2 := m_less HI.out.2.2.2.box
          have hdl : b < m.length := by have := HX.out; rw [HM.out] at *; omega
          have hL2 := less_any v m b k hdl HX.out.1 HX.out.2.2 w1 (hb + 1) HI.out.2.2.2.own
          by_cases hlt : key m k < key m b
          · rw [decide_eq_true hlt] at hL2
            have HSw := Lib.hid fun W h => swap_any v m k b HX.out.1 hdl (by have := HK.out; have := HB.out; omega) HX.out.2.2 W (hb + 1) h
            have HG := Lib.hid fun W W' (x : Dn w W hb v l m c k n) o b => x.turn (W := W') hbn2 (by have := HK.out; have := HB.out; omega) (by have := HK.out; have := HB.out; omega) hlt HO.out o b
            have HP : Hid (k < b ∧ b ≤ N) := ⟨by have := HK.out; have := HB.out; omega, by omega⟩
            clear hlt hdl
            go_wp2_with fail
            with_reducible refine hL2.mono ?_
            clear hL2 hm2
            rintro e wx ⟨rfl, bx⟩
            have HI := Lib.hid (HI.out.below bx)
            clear bx
            have hm3 := m_swap HI.out.2.2.2.box
            have hS := HSw.out wx HI.out.2.2.2.own
            go_wp2_with fail
            with_reducible refine hS.mono ?_
            clear hS hm3
            rintro e wy ⟨rfl, oy, bY⟩
            have HJ := Lib.hid (HG.out _ _ HI.out oy bY)
            clear HI oy bY
            go_wp2_with fail
            exact ⟨⟨b, _, rfl, HP.out.2, HJ.out⟩, by have := HP.out; simp only [intOf]; omega⟩
          · rw [decide_eq_false hlt] at hL2
            have HD : Hid (Heap m n) := HI.out.1.done fun j h0 hj hp => by have := HO.out j h0 hj hp; omega
            clear hlt hdl
            go_wp2_with fail
            with_reducible refine hL2.mono ?_
            clear hL2 hm2
            rintro e wx ⟨rfl, bx⟩
            have HJ := Lib.hid (HI.out.below bx)
            clear bx HI
            go_wp2_with fail
            go_ret
            exact ⟨⟨_, rfl⟩, m, HJ.out.2.2.2, HJ.out.2.1, HJ.out.2.2.1, HD.out⟩
        · rw [decide_eq_false hab] at hL1
          have HO : Hid (∀ i, 0 < i → i < n → (i - 1) / 2 = k → key m i ≤ key m a) := fun i h0 hi hp => by
            have : i = a ∨ i = b := by have := HK.out; have := HB.out; omega
            rcases this with e | e
            · rw [e]; exact Int.le_refl _
            · rw [e]; omega
          clear hab
          go_wp2_with fail
          with_reducible refine hL1.mono ?_
          clear hL1 hm1
          rintro e w1 ⟨rfl, b1⟩
          have HI := Lib.hid (HI.out.below b1)
          clear b1
          have hm2 := m_less HI.out.2.2.2.box
          have hdl : a < m.length := by have := HX.out; rw [HM.out] at *; omega
          have hL2 := less_any v m a k hdl HX.out.1 HX.out.2.2 w1 (hb + 1) HI.out.2.2.2.own
          by_cases hlt : key m k < key m a
          · rw [decide_eq_true hlt] at hL2
            have HSw := Lib.hid fun W h => swap_any v m k a HX.out.1 hdl (by have := HK.out; have := HB.out; omega) HX.out.2.2 W (hb + 1) h
            have HG := Lib.hid fun W W' (x : Dn w W hb v l m c k n) o b => x.turn (W := W') han2 (by have := HK.out; have := HB.out; omega) (by have := HK.out; have := HB.out; omega) hlt HO.out o b
            have HP : Hid (k < a ∧ a ≤ N) := ⟨by have := HK.out; have := HB.out; omega, by omega⟩
            clear hlt hdl
            go_wp2_with fail
            with_reducible refine hL2.mono ?_
            clear hL2 hm2
            rintro e wx ⟨rfl, bx⟩
            have HI := Lib.hid (HI.out.below bx)
            clear bx
            have hm3 := m_swap HI.out.2.2.2.box
            have hS := HSw.out wx HI.out.2.2.2.own
            go_wp2_with fail
            with_reducible refine hS.mono ?_
            clear hS hm3
            rintro e wy ⟨rfl, oy, bY⟩
            have HJ := Lib.hid (HG.out _ _ HI.out oy bY)
            clear HI oy bY
            go_wp2_with fail
            exact ⟨⟨a, _, rfl, HP.out.2, HJ.out⟩, by have := HP.out; simp only [intOf]; omega⟩
          · rw [decide_eq_false hlt] at hL2
            have HD : Hid (Heap m n) := HI.out.1.done fun j h0 hj hp => by have := HO.out j h0 hj hp; omega
            clear hlt hdl
            go_wp2_with fail
            with_reducible refine hL2.mono ?_
            clear hL2 hm2
            rintro e wx ⟨rfl, bx⟩
            have HJ := Lib.hid (HI.out.below bx)
            clear bx HI
            go_wp2_with fail
            go_ret
            exact ⟨⟨_, rfl⟩, m, HJ.out.2.2.2, HJ.out.2.1, HJ.out.2.2.1, HD.out⟩
end Go.Proofs.Ytnodgpbahlaccaa.qm
