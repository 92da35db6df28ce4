/-
  Where a flag stands in a set: what slices.BinarySearchFunc answers there.
-/
import Derived.Test.YtiaggnpkmigbhaaDoorFlagCanon
namespace Go.Proofs.YtiaggnpkmigbhaaDoor.fl
open Go.RowKit

set_option maxHeartbeats 1000000 in
set_option maxRecDepth 100000 in
theorem find_any (a : Option Addr) (cap : Nat) (l : List (List UInt8)) (f : List UInt8) (hl : l.length ≤ 1048576) (hso : Sorted l) (w : World) (hr : RowS w a l) (hS : Sys w) :
    Calls Tryd.prog 63 #[.slice a l.length cap, .string (S f), .func (.func 64) #[] #[]] w fun e w' => e = .returned (.tuple #[.int .i64 (cut f l : Nat), .bool (decide (f ∈ l))]) ∧ Below w.heap.size w w' := by
  have HC := Lib.hid (fun j h => cut_ahead (f := f) hso j h)
  have HT := Lib.hid (cut_there (f := f) hso)
  have HCL := Lib.hid (cut_le f l)
  have HO := Lib.hid order_any
  have HS := Lib.hid hS
  clear hso hS
  go_enter Tryd.func63, Tryd.ntmps63
  go_wp2
  go_loopw [9, 10] (fun i j wr => ∃ lo hi : Nat, i = .int .i64 lo ∧ j = .int .i64 hi ∧ lo ≤ cut f l ∧ cut f l ≤ hi ∧ hi ≤ l.length ∧ Below w.heap.size w wr)
    (fun i j _ => (intOf j).toNat - (intOf i).toNat)
  case atStart => exact ⟨0, l.length, rfl, rfl, Nat.zero_le _, HCL.out, Nat.le_refl _, Below.refl _ _⟩
  case round =>
    obtain ⟨lo, hi, rfl, rfl, h1, h2, h3, hB⟩ := hrel
    have hB0 := hB.size
    by_cases hlt : lo < hi
    · have hlti : (lo : Int) < (hi : Int) := by omega
      have hm : (lo + hi) / 2 < l.length := by omega
      have hm1 : lo ≤ (lo + hi) / 2 ∧ (lo + hi) / 2 < hi := by omega
      rcases hr.later hB with h0 | ⟨b, off, rfl, hb, hc⟩
      · rw [h0] at hm; simp at hm
      have hcell := hc _ hm
      have hcut := HC.out _ hm
      have hcmp := HO.out (l[(lo + hi) / 2]'hm) f wr (HS.out.next (hB.mono (Nat.le_refl _)))
      have hneg := ord_neg (l[(lo + hi) / 2]'hm) f
      generalize l[(lo + hi) / 2]'hm = x at *
      obtain ⟨m, hmm⟩ : ∃ m, (lo + hi) / 2 = m := ⟨_, rfl⟩
      have hmi : ((lo : Int) + (hi : Int)) / 2 = (m : Int) := by omega
      rw [hmm] at hcell hcut hm hm1
      clear hc
      by_cases hx : m < cut f l
      · rw [decide_eq_true hx] at hcut
        have hng := hneg.2 hcut
        generalize ord x f = c at *
        clear hneg hcut
        go_wp2_with fail
        refine hcmp.mono ?_
        rintro e w2 ⟨rfl, b2⟩
        go_wp2_with fail
        go_roundw
        case rel => exact ⟨m + 1, hi, by go_num, rfl, by omega, h2, h3, hB.trans (b2.mono hB0)⟩
        case measure => simp [intOf]; omega
      · rw [decide_eq_false hx] at hcut
        have hng : ¬ ord x f < 0 := fun h => by have := hneg.1 h; rw [hcut] at this; cases this
        generalize ord x f = c at *
        clear hneg hcut
        go_wp2_with fail
        refine hcmp.mono ?_
        rintro e w2 ⟨rfl, b2⟩
        go_wp2_with fail
        go_roundw
        case rel => exact ⟨lo, m, rfl, rfl, h1, by omega, by omega, hB.trans (b2.mono hB0)⟩
        case measure => simp [intOf]; omega
    · have e1 : lo = cut f l := by omega
      obtain rfl : hi = lo := by omega
      rw [← e1] at HT
      have E1 := Lib.hid e1
      clear e1 h1 h2
      by_cases hn : hi < l.length
      · have hni : (hi : Int) < (l.length : Int) := by omega
        rcases hr.later hB with h0 | ⟨b, off, rfl, hb, hc⟩
        · rw [h0] at hn; simp at hn
        have hcell := hc _ hn
        have hcmp := HO.out (l[hi]'hn) f wr (HS.out.next (hB.mono (Nat.le_refl _)))
        have hz := ord_zero (l[hi]'hn) f
        by_cases he : l[hi]'hn = f
        · have HM : Hid (decide (f ∈ l) = true) := Lib.hid (decide_eq_true (HT.out.2 ⟨hn, he⟩))
          rw [hz.2 he] at hcmp
          generalize l[hi]'hn = x at *
          clear hc hz he HT
          go_wp2_with fail
          refine hcmp.mono ?_
          rintro e w2 ⟨rfl, b2⟩
          go_wp2_with fail
          refine bodyPost_ret (results_tmp2 rfl _ _ _) rfl ⟨?_, hB.trans (b2.mono hB0)⟩
          rw [HM.out, ← E1.out]; rfl
        · have HM : Hid (decide (f ∈ l) = false) := Lib.hid (decide_eq_false (fun h => he (HT.out.1 h).2))
          have hne : (ord (l[hi]'hn) f == 0) = false := by rw [beq_eq_false_iff_ne]; exact fun h => he (hz.1 h)
          generalize l[hi]'hn = x at *
          generalize ord x f = c at *
          clear hc hz he HT
          go_wp2_with fail
          refine hcmp.mono ?_
          rintro e w2 ⟨rfl, b2⟩
          go_wp2_with fail
          refine bodyPost_ret (results_tmp2 rfl _ _ _) rfl ⟨?_, hB.trans (b2.mono hB0)⟩
          rw [HM.out, ← E1.out]; rfl
      · have HM : Hid (decide (f ∈ l) = false) := Lib.hid (decide_eq_false (fun h => by
          obtain ⟨h1, _⟩ := HT.out.1 h
          exact hn h1))
        have hni : ¬ (hi : Int) < (l.length : Int) := by omega
        clear HT hr
        go_wp2_with fail
        refine bodyPost_ret (results_tmp2 rfl _ _ _) rfl ⟨?_, hB⟩
        rw [HM.out, ← E1.out]; rfl
end Go.Proofs.YtiaggnpkmigbhaaDoor.fl
