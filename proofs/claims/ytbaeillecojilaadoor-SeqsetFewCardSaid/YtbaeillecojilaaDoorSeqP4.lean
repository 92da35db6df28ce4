/-
  The program's parseNumber, printNumber.
-/
import Derived.Test.YtbaeillecojilaaDoorSeqNumP
import Derived.Test.YtbaeillecojilaaDoorSeqFmt
import Derived.Test.YtbaeillecojilaaDoorSeqPrint
namespace Go.Proofs.YtbaeillecojilaaDoor.sq
open Go.RowKit

set_option maxRecDepth 100000 in
theorem parsenum_any (l : List UInt8) (hl : l.length ≤ 140737488355328) (w : World) (hE : Errs w) :
    Calls Tryd.prog 40 #[.string (S l)] w fun e w' => e = .returned (.tuple #[.int .u64 (endOf l : Nat), .bool (endOk l)]) ∧ Below w.heap.size w w' := by
  by_cases h : l = [42]
  · subst h
    clear hE
    have HM : Hid (endOf [42] = 0 ∧ endOk [42] = true) := Lib.hid ⟨by unfold endOf; rw [if_pos rfl], by unfold endOk; rw [decide_eq_true rfl]; rfl⟩
    have hq : ((S [42]).toList == [42]) = true := by rw [beq_iff_eq, ByteArray.toList_eq, S_data]
    go_enter Tryd.func40, Tryd.ntmps40
    go_wp2_with fail
    refine bodyPost_ret (results_tmp2 rfl _ _ _) rfl ⟨by rw [HM.out.1, HM.out.2]; rfl, Below.refl _ _⟩
  · have hq : ((S l).toList == [42]) = false := by rw [beq_eq_false_iff_ne, ByteArray.toList_eq, S_data]; exact h
    have hc := number_any l hl w hE
    have e1 : endOk l = (numOk l && decide (numOf l ≠ 0) && decide (numOf l ≤ 4294967295)) := by unfold endOk; rw [decide_eq_false h]; rfl
    have e2 : endOf l = if endOk l = true then numOf l else 0 := by unfold endOf; rw [if_neg h]
    have HE := Lib.hid (And.intro e1 e2)
    clear e1 e2 h hE hl
    generalize endOk l = eo at *
    generalize endOf l = ef at *
    generalize numOk l = no at *
    generalize numOf l = nf at *
    go_enter Tryd.func40, Tryd.ntmps40
    go_wp2_with fail
    refine hc.mono ?_
    rintro e w1 ⟨rfl, b1⟩
    clear hc
    cases no with
    | false =>
      go_wp2_with fail
      refine bodyPost_ret (results_tmp2 rfl _ _ _) rfl ⟨?_, b1⟩
      obtain ⟨rfl, rfl⟩ := HE.out
      rfl
    | true =>
      by_cases h0 : nf = 0
      · have hq0 : ((nf : Int) == 0) = true := by rw [h0]; rfl
        have HE2 : Hid (ef = 0 ∧ eo = false) := by
          obtain ⟨rfl, rfl⟩ := HE.out
          rw [h0]; exact Lib.hid ⟨rfl, rfl⟩
        clear HE h0
        go_wp2_with fail
        refine bodyPost_ret (results_tmp2 rfl _ _ _) rfl ⟨?_, b1⟩
        rw [HE2.out.1, HE2.out.2]; rfl
      · have hq0 : ((nf : Int) == 0) = false := by rw [beq_eq_false_iff_ne]; omega
        by_cases h1 : 4294967295 < nf
        · have hg : (4294967295 : Int) < (nf : Int) := by omega
          have HE2 : Hid (ef = 0 ∧ eo = false) := by
            obtain ⟨h3, h4⟩ := HE.out
            rw [decide_eq_true h0, decide_eq_false (show ¬ nf ≤ 4294967295 by omega)] at h3
            rw [h3] at h4
            exact Lib.hid ⟨h4, h3⟩
          clear HE h0 h1
          go_wp2_with fail
          refine bodyPost_ret (results_tmp2 rfl _ _ _) rfl ⟨?_, b1⟩
          rw [HE2.out.1, HE2.out.2]; rfl
        · have hg : ¬ (4294967295 : Int) < (nf : Int) := by omega
          have HE2 : Hid (ef = nf ∧ eo = true) := by
            obtain ⟨h3, h4⟩ := HE.out
            rw [decide_eq_true h0, decide_eq_true (show nf ≤ 4294967295 by omega)] at h3
            rw [h3] at h4
            exact Lib.hid ⟨h4, h3⟩
          clear HE h0 h1
          go_wp2_with fail
          refine bodyPost_ret (results_tmp2 rfl _ _ _) rfl ⟨?_, b1⟩
          rw [HE2.out.1, HE2.out.2]; rfl

set_option maxRecDepth 100000 in
theorem printnum_any (n : Nat) (hn : n < 18446744073709551616) (w : World) (hT : Tab w) :
    Calls Tryd.prog 42 #[.int .u64 (n : Nat)] w fun e w' => e = .returned (.string (S (told n))) ∧ Below w.heap.size w w' := by
  by_cases h : n = 0
  · have hq : ((n : Int) == 0) = true := by rw [h]; rfl
    have HM : Hid (told n = [42]) := Lib.hid (by unfold told; rw [if_pos h])
    clear hT h
    go_enter Tryd.func42, Tryd.ntmps42
    go_wp2
    go_ret
    exact ⟨by rw [HM.out]; rfl, Below.refl _ _⟩
  · have hq : ((n : Int) == 0) = false := by rw [beq_eq_false_iff_ne]; omega
    have HM : Hid (told n = dec n) := Lib.hid (by unfold told; rw [if_neg h])
    have hc := digits_any n hn w hT
    generalize dec n = d at *
    clear hT h
    go_enter Tryd.func42, Tryd.ntmps42
    go_wp2_with fail
    refine hc.mono ?_
    rintro e w1 ⟨rfl, b1⟩
    go_wp2_with fail
    go_ret
    exact ⟨by rw [HM.out]; rfl, b1⟩
end Go.Proofs.YtbaeillecojilaaDoor.sq
