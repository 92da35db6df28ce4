/-
  What the reference's at, blank, Split, Section, Cut, Holds answer.
-/
import Derived.Test.YtecemfebbonkpaaDoorPtMath
namespace Go.Proofs.YtecemfebbonkpaaDoor.pt
open Go.RowKit Go.Shelf fl
attribute [local go_sem] Oper.semAt_some

set_option maxRecDepth 100000 in
theorem at_any (s wd : List UInt8) (hs : s.length ≤ 140737488355328) (hwd : wd.length ≤ 140737488355328) (i : Nat) (hi : i ≤ s.length) (w : World) :
    Calls Tryd.prog 24 #[.string (S s), .int .i64 (i : Nat), .string (S wd)] w fun e w' => e = .returned (.bool (Lib.occAt s wd i)) ∧ w' = w := by
  have hz := S_size s
  have hy := S_size wd
  have hi1 : (i : Int) ≤ (s.length : Int) := by omega
  obtain ⟨d, hd⟩ : ∃ d, s.length - i = d := ⟨_, rfl⟩
  have w1 : IntKind.i64.wrap ((s.length : Int) - (i : Int)) = (d : Int) := wrapi (by omega) (by omega)
  obtain ⟨b, hb⟩ : ∃ b, Lib.occAt s wd i = b := ⟨_, rfl⟩
  rw [hb]
  by_cases hf : wd.length ≤ d
  · have hf1 : (wd.length : Int) ≤ (d : Int) := by omega
    obtain ⟨q, hq⟩ : ∃ q, i + wd.length = q := ⟨_, rfl⟩
    have w2 : IntKind.i64.wrap ((i : Int) + (wd.length : Int)) = (q : Int) := wrapi (by omega) (by omega)
    have em := S_mid s i q
    rw [show q - i = wd.length by omega] at em
    have hc : ((S ((s.drop i).take wd.length)).toList == (S wd).toList) = b := by
      cases b with
      | true => exact str_eq (by rw [occ_iff.1 hb])
      | false => exact str_ne (fun h => by rw [occ_iff.2 (S_inj h)] at hb; cases hb)
    generalize (s.drop i).take wd.length = x at *
    have g1 : (0 : Int) ≤ (i : Int) := by omega
    have g2 : (i : Int) ≤ (q : Int) := by omega
    have g3 : (q : Int) ≤ (s.length : Int) := by omega
    clear hb hd hq
    go_enter Tryd.func24, Tryd.ntmps24
    go_wp2_with fail
    go_ret
    exact ⟨rfl, rfl⟩
  · obtain rfl : b = false := by rw [← hb]; exact occ_short (by omega)
    have hf1 : ¬ (wd.length : Int) ≤ (d : Int) := by omega
    clear hb hd
    go_enter Tryd.func24, Tryd.ntmps24
    go_wp2_with fail
    go_ret
    exact ⟨rfl, rfl⟩

def blankB (c : UInt8) : Bool := c == 32 || c == 9
set_option maxRecDepth 100000 in
theorem blank_any (c : UInt8) (w : World) :
    Calls Tryd.prog 25 #[.int .u8 (c.toNat : Nat)] w fun e w' => e = .returned (.bool (blankB c)) ∧ w' = w := by
  have h1 : ((c.toNat : Int) == 32) = (c == 32) := by rw [Bool.eq_iff_iff, beq_iff_eq, beq_iff_eq, ← UInt8.toNat_inj]; show _ ↔ c.toNat = 32; omega
  have h2 : ((c.toNat : Int) == 9) = (c == 9) := by rw [Bool.eq_iff_iff, beq_iff_eq, beq_iff_eq, ← UInt8.toNat_inj]; show _ ↔ c.toNat = 9; omega
  unfold blankB
  cases hb : c == 32 with
  | true =>
    rw [hb] at h1
    clear h2
    go_enter Tryd.func25, Tryd.ntmps25
    go_wp2_with fail
    go_ret
    exact ⟨rfl, rfl⟩
  | false =>
    rw [hb] at h1
    generalize (c == 9) = b at *
    go_enter Tryd.func25, Tryd.ntmps25
    go_wp2_with fail
    go_ret
    exact ⟨by simp, rfl⟩

set_option maxRecDepth 100000 in
theorem refsplit_any (m : List UInt8) (hm : m.length ≤ 140737488355328) (w : World) :
    Calls Tryd.prog 10 #[.string (S m)] w fun e w' => e = .returned (.tuple #[.string (S (head m)), .string (S (text m))]) ∧ Below w.heap.size w w' := by
  have hz := S_size m
  have c0 := at_any m crlf hm (by decide) 0 (by omega) w
  rw [occ_zero] at c0
  have s2 : (⟨#[13, 10]⟩ : ByteArray) = S crlf := rfl
  have s4 : (⟨#[13, 10, 13, 10]⟩ : ByteArray) = S crlf2 := rfl
  cases hb : Lib.hasPrefix m crlf with
  | true =>
    rw [hb] at c0
    have hh := hsize_two hb
    have hle : 2 ≤ m.length := by have := hsize_le m; omega
    have e1 := S_take m 2
    have e2 := S_drop m 2
    have HH : Hid (head m = m.take 2 ∧ text m = m.drop 2) := Lib.hid ⟨by unfold head; rw [hh], by unfold text; rw [hh]⟩
    have g1 : (2 : Int) ≤ (m.length : Int) := by omega
    generalize m.take 2 = a at *
    generalize m.drop 2 = b at *
    clear hh hle hb
    go_enter Tryd.func10, Tryd.ntmps10
    go_wp2_with fail
    refine c0.mono ?_
    rintro e w1 ⟨rfl, rfl⟩
    go_upto_region 2 with (fail)
    go_region
    go_wp2
    exact bodyPost_ret (results_tmp2 rfl _ _ _) rfl ⟨by rw [HH.out.1, HH.out.2]; rfl, (Below.refl _ _).drew⟩
  | false =>
    rw [hb] at c0
    have HM := Lib.hid (fun k (hk : k ≤ m.length) (W : World) => at_any m crlf2 hm (by decide) k hk W)
    have HB := Lib.hid hb
    clear hb
    go_enter Tryd.func10, Tryd.ntmps10
    go_wp2_with fail
    refine c0.mono ?_
    rintro e w1 ⟨rfl, rfl⟩
    clear c0
    go_wp2_with fail
    go_loopw [4] (fun i wr => ∃ k : Nat, i = .int .i64 k ∧ k ≤ m.length ∧ Hid (∀ j, j < k → Lib.occAt m crlf2 j = false) ∧ Below w1.heap.size w1 wr)
      (fun i _ => m.length - (intOf i).toNat)
    case atStart => exact ⟨0, rfl, Nat.zero_le _, Lib.hid (fun j hj => by omega), Below.refl _ _⟩
    case round =>
      obtain ⟨k, rfl, hk, HN, hB⟩ := hrel
      by_cases hlt : k < m.length
      · have hc := HM.out k hk wr
        have hki : (k : Int) < (m.length : Int) := by omega
        cases ho : Lib.occAt m crlf2 k with
        | true =>
          rw [ho] at hc
          have hh := hsize_hit HB.out HN.out hk ho
          have hle : k + 4 ≤ m.length := by have := hsize_le m; omega
          have e1 := S_take m (k + 4)
          have e2 := S_drop m (k + 4)
          have HH : Hid (head m = m.take (k + 4) ∧ text m = m.drop (k + 4)) := Lib.hid ⟨by unfold head; rw [hh], by unfold text; rw [hh]⟩
          generalize m.take (k + 4) = a at *
          generalize m.drop (k + 4) = b at *
          obtain ⟨q, hq⟩ : ∃ q, k + 4 = q := ⟨_, rfl⟩
          have w4 : IntKind.i64.wrap ((k : Int) + 4) = (q : Int) := wrapi (by omega) (by omega)
          rw [hq] at e1 e2
          have g1 : (0 : Int) ≤ (q : Int) := by omega
          have g2 : (q : Int) ≤ (m.length : Int) := by omega
          clear hh hle hq ho HM HN HB
          go_wp2_with fail
          refine hc.mono ?_
          rintro e w3 ⟨rfl, rfl⟩
          go_upto_region 3 with (fail)
          go_region
          go_wp2
          exact bodyPost_ret (results_tmp2 rfl _ _ _) rfl ⟨by rw [HH.out.1, HH.out.2]; rfl, hB.drew⟩
        | false =>
          rw [ho] at hc
          have HN' : Hid (∀ j, j < k + 1 → Lib.occAt m crlf2 j = false) := Lib.hid fun j hj => by
            by_cases h : j < k
            · exact HN.out j h
            · obtain rfl : j = k := by omega
              exact ho
          clear ho HN HB HM
          go_wp2_with fail
          refine hc.mono ?_
          rintro e w3 ⟨rfl, rfl⟩
          go_wp2_with fail
          go_roundw
          case rel => exact ⟨k + 1, by go_num, by omega, HN', hB⟩
          case measure => simp [intOf]; omega
      · obtain rfl : k = m.length := by omega
        have hh := hsize_none HB.out HN.out
        have HH : Hid (head m = m ∧ text m = []) := Lib.hid ⟨by unfold head; rw [hh, List.take_length], by unfold text; rw [hh, List.drop_length]⟩
        clear hh HN HB HM
        go_wp2_with fail
        exact bodyPost_ret (results_tmp2 rfl _ _ _) rfl ⟨by rw [HH.out.1, HH.out.2]; rfl, hB⟩

set_option maxRecDepth 100000 in
theorem refsect_any (m : List UInt8) (hm : m.length ≤ 140737488355328) (k : Int) (w : World) :
    Calls Tryd.prog 12 #[.string (S m), .int .i64 k] w fun e w' => e = .returned (.string (S (sect m k))) ∧ Below w.heap.size w w' := by
  have h := refsplit_any m hm w
  have HS : Hid ((k = 10 → sect m k = m) ∧ (k = 11 → sect m k = head m) ∧ (k = 12 → sect m k = text m) ∧ (k ≠ 10 → k ≠ 11 → k ≠ 12 → sect m k = [])) := Lib.hid ⟨fun h => by simp [sect, h], fun h => by simp [sect, h], fun h => by simp [sect, h], fun h1 h2 h3 => by simp [sect, h1, h2, h3]⟩
  generalize head m = a at *
  generalize text m = b at *
  by_cases k1 : k = 10
  · have HK := Lib.hid (HS.out.1 k1)
    subst k1
    clear HS
    go_enter Tryd.func12, Tryd.ntmps12
    go_wp2_with fail
    refine h.mono ?_
    rintro e w1 ⟨rfl, b1⟩
    clear h
    go_wp2_with fail
    go_ret
    exact ⟨by rw [HK.out]; rfl, b1⟩
  by_cases k2 : k = 11
  · have HK := Lib.hid (HS.out.2.1 k2)
    subst k2
    clear HS
    go_enter Tryd.func12, Tryd.ntmps12
    go_wp2_with fail
    refine h.mono ?_
    rintro e w1 ⟨rfl, b1⟩
    clear h
    go_wp2_with fail
    go_ret
    exact ⟨by rw [HK.out]; rfl, b1⟩
  by_cases k3 : k = 12
  · have HK := Lib.hid (HS.out.2.2.1 k3)
    subst k3
    clear HS
    go_enter Tryd.func12, Tryd.ntmps12
    go_wp2_with fail
    refine h.mono ?_
    rintro e w1 ⟨rfl, b1⟩
    clear h
    go_wp2_with fail
    go_ret
    exact ⟨by rw [HK.out]; rfl, b1⟩
  · have HK := Lib.hid (HS.out.2.2.2 k1 k2 k3)
    have f1 : (k == 10) = false := beq_eq_false_iff_ne.2 k1
    have f2 : (k == 11) = false := beq_eq_false_iff_ne.2 k2
    have f3 : (k == 12) = false := beq_eq_false_iff_ne.2 k3
    clear HS k1 k2 k3
    go_enter Tryd.func12, Tryd.ntmps12
    go_wp2_with fail
    refine h.mono ?_
    rintro e w1 ⟨rfl, b1⟩
    clear h
    go_wp2_with fail
    go_ret
    exact ⟨by rw [HK.out]; rfl, b1⟩

set_option maxRecDepth 100000 in
theorem refcut_any (s : List UInt8) (hs : s.length ≤ 140737488355328) (f c : Nat) (w : World) :
    Calls Tryd.prog 14 #[.string (S s), .int .u64 (f : Nat), .int .u64 (c : Nat)] w fun e w' => e = .returned (.string (S (cutL s f c))) ∧ Below w.heap.size w w' := by
  have hz := S_size s
  go_enter Tryd.func14, Tryd.ntmps14
  go_wp2_with fail
  go_loopw [7, 8] (fun o i wr => ∃ k : Nat, i = .int .i64 k ∧ k ≤ s.length ∧ o = .string (S (cutL (s.take k) f c)) ∧ Below w.heap.size w wr)
    (fun _ i _ => s.length - (intOf i).toNat)
  case atStart => exact ⟨0, rfl, Nat.zero_le _, by simp [cutL]; rfl, Below.refl _ _⟩
  case round =>
    obtain ⟨k, rfl, hk, rfl, hB⟩ := hrel
    by_cases hlt : k < s.length
    · have hki : (k : Int) < (s.length : Int) := by omega
      have hsn := cutL_snoc (s.take k) s[k] f c
      rw [← List.take_succ_eq_append_getElem hlt] at hsn
      have htl : (s.take k).length = k := by rw [List.length_take]; omega
      rw [htl] at hsn
      have hol := cutL_length (s.take k) f c
      rw [htl] at hol
      have hoz := S_size (cutL (s.take k) f c)
      have em := S_mid s k (k + 1)
      rw [show k + 1 - k = 1 by omega, List.drop_eq_getElem_cons hlt, List.take_succ_cons, List.take_zero] at em
      have w0 : IntKind.u64.wrap (k : Int) = (k : Int) := IntWalk.u64_in _ (by omega)
      have w1 : IntKind.i64.wrap ((k : Int) + 1) = ((k + 1 : Nat) : Int) := wrapi (by omega) (by omega)
      obtain ⟨k1, hk1⟩ : ∃ k1, k + 1 = k1 := ⟨_, rfl⟩
      rw [hk1] at em hsn w1
      have g1 : (0 : Int) ≤ (k : Int) := by omega
      have g2 : (k : Int) ≤ (k1 : Int) := by omega
      have g3 : (k1 : Int) ≤ (s.length : Int) := by omega
      have HN : Hid (k1 ≤ s.length ∧ k < k1) := Lib.hid ⟨by omega, by omega⟩
      have HSN := Lib.hid hsn
      obtain ⟨z, hzz⟩ : ∃ z, (cutL (s.take k) f c).length = z := ⟨_, rfl⟩
      rw [hzz] at hoz hol
      have w2 : IntKind.u64.wrap (z : Int) = (z : Int) := IntWalk.u64_in _ (by omega)
      have hap := S_append (cutL (s.take k) f c) [s[k]]
      have hz1 : ∀ a : UInt8, (S [a]).size = 1 := fun _ => rfl
      rw [hzz] at hsn
      obtain ⟨o1, ho1⟩ : ∃ o1, cutL (s.take k1) f c = o1 := ⟨_, rfl⟩
      have HO := Lib.hid ho1
      rw [ho1] at hsn
      by_cases hc : f ≤ k ∧ z < c
      · have h1 : (f : Int) ≤ (k : Int) := by omega
        have h2 : (z : Int) < (c : Int) := by omega
        rw [if_pos hc] at hsn
        rw [← hsn] at hap
        clear hsn hzz hc hk1 htl ho1 HSN
        generalize cutL (s.take k) f c = o at *
        generalize s[k] = x at *
        go_wp2_with fail
        go_roundw
        case rel => exact ⟨k1, rfl, HN.out.1, by rw [HO.out], hB⟩
        case measure =>
          have := HN.out
          simp [intOf]; omega
      · rw [if_neg hc] at hsn
        rw [hsn] at HO
        clear hsn hzz hk1 htl HSN hap
        generalize cutL (s.take k) f c = o at *
        clear em ho1
        by_cases h1 : f ≤ k
        · have h2 : ¬ (z : Int) < (c : Int) := by omega
          have h1 : (f : Int) ≤ (k : Int) := by omega
          clear hc
          go_wp2_with fail
          go_roundw
          case rel => exact ⟨k1, rfl, HN.out.1, by rw [HO.out], hB⟩
          case measure =>
            have := HN.out
            simp [intOf]; omega
        · have h1 : ¬ (f : Int) ≤ (k : Int) := by omega
          clear hc
          go_wp2_with fail
          go_roundw
          case rel => exact ⟨k1, rfl, HN.out.1, by rw [HO.out], hB⟩
          case measure =>
            have := HN.out
            simp [intOf]; omega
    · obtain rfl : k = s.length := by omega
      rw [List.take_length]
      go_wp2_with fail
      go_ret
      exact ⟨rfl, hB⟩

set_option maxRecDepth 100000 in
theorem refholds_any (s p : List UInt8) (hs : s.length ≤ 140737488355327) (hp : p.length ≤ 140737488355327) (w : World) :
    Calls Tryd.prog 20 #[.string (S s), .string (S p)] w fun e w' => e = .returned (.bool (Lib.contains (upper s) (upper p))) ∧ Below w.heap.size w w' := by
  have u1 := fun W => refupper_any s (by omega) W
  have u2 := fun W => refupper_any p (by omega) W
  have hA := upper_length s
  have hB := upper_length p
  generalize upper s = a at *
  generalize upper p = b at *
  have hz := S_size a
  have HM := Lib.hid (fun k (hk : k ≤ a.length) (W : World) => at_any a b (by omega) (by omega) k hk W)
  have hal : a.length ≤ 140737488355327 := by omega
  clear hA hB hp hs
  go_enter Tryd.func20, Tryd.ntmps20
  go_wp2_with fail
  refine (u1 _).mono ?_
  rintro e w1 ⟨rfl, b1⟩
  go_wp2_with fail
  refine (u2 _).mono ?_
  rintro e w2 ⟨rfl, b2⟩
  have b12 := Below.andThen b1 b2
  clear u1 u2 b1 b2
  go_wp2_with fail
  go_loopw [7] (fun i wr => ∃ k : Nat, i = .int .i64 k ∧ k ≤ a.length + 1 ∧ Hid (∀ j, j < k → Lib.occAt a b j = false) ∧ Below w.heap.size w wr)
    (fun i _ => a.length + 1 - (intOf i).toNat)
  case atStart => exact ⟨0, rfl, Nat.zero_le _, Lib.hid (fun j hj => by omega), b12⟩
  case round =>
    obtain ⟨k, rfl, hk, HN, hB⟩ := hrel
    by_cases hlt : k ≤ a.length
    · have hc := HM.out k hlt wr
      have hki : (k : Int) ≤ (a.length : Int) := by omega
      cases ho : Lib.occAt a b k with
      | true =>
        rw [ho] at hc
        have HR : Hid (Lib.contains a b = true) := Lib.hid (by unfold Lib.contains; rw [Lib.index_first hlt ho HN.out]; exact decide_eq_true (by omega))
        clear ho HN HM
        go_wp2_with fail
        refine hc.mono ?_
        rintro e w3 ⟨rfl, rfl⟩
        go_wp2_with fail
        go_ret
        exact ⟨by rw [HR.out]; rfl, hB⟩
      | false =>
        rw [ho] at hc
        have HN' : Hid (∀ j, j < k + 1 → Lib.occAt a b j = false) := Lib.hid fun j hj => by
          by_cases h : j < k
          · exact HN.out j h
          · obtain rfl : j = k := by omega
            exact ho
        clear ho HN HM
        go_wp2_with fail
        refine hc.mono ?_
        rintro e w3 ⟨rfl, rfl⟩
        go_wp2_with fail
        go_roundw
        case rel => exact ⟨k + 1, by go_num, by omega, HN', hB⟩
        case measure => simp [intOf]; omega
    · have hki : ¬ (k : Int) ≤ (a.length : Int) := by omega
      have HR : Hid (Lib.contains a b = false) := Lib.hid (by
        unfold Lib.contains
        rw [Lib.index_none fun j hj => HN.out j (by omega)]
        decide)
      clear HN HM
      go_wp2_with fail
      go_ret
      exact ⟨by rw [HR.out]; rfl, hB⟩
end Go.Proofs.YtecemfebbonkpaaDoor.pt
