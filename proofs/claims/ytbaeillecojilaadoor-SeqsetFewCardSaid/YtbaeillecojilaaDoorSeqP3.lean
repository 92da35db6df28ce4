/-
  The program's isSet.
-/
import Derived.Test.YtbaeillecojilaaDoorSeqMem
import Derived.Test.YtbaeillecojilaaDoorSeqPrintR
namespace Go.Proofs.YtbaeillecojilaaDoor.sq
open Go.RowKit

theorem fitR_max (r : Nat × Nat) : fitR r = !decide (4294967295 < max r.1 r.2) := by
  unfold fitR
  rw [Bool.eq_iff_iff]
  simp only [Bool.and_eq_true, Bool.not_eq_true', decide_eq_true_eq, decide_eq_false_iff_not]
  omega

set_option maxHeartbeats 1000000 in
set_option maxRecDepth 100000 in
theorem isset_any (a : Option Addr) (cap : Nat) (l : List (Nat × Nat)) (hl : l.length ≤ 140737488355328) (w : World) (hr : RowR w a l) :
    Calls Tryd.prog 28 #[.slice a l.length cap] w fun e w' => e = .returned (.bool (printOk l)) ∧ Below w.heap.size w w' := by
  by_cases h0 : l.length = 0
  · have HM := Lib.hid (print_bad_len (.inl h0))
    have hq : ((l.length : Int) == 0) = true := by rw [h0]; rfl
    clear hr
    go_enter Tryd.func28, Tryd.ntmps28
    go_wp2
    go_ret
    exact ⟨by rw [HM.out]; rfl, Below.refl _ _⟩
  by_cases h64 : 64 < l.length
  · have HM := Lib.hid (print_bad_len (.inr h64))
    have hq : ((l.length : Int) == 0) = false := by rw [beq_eq_false_iff_ne]; omega
    have hg : (64 : Int) < (l.length : Int) := by omega
    clear hr
    go_enter Tryd.func28, Tryd.ntmps28
    go_wp2
    go_ret
    exact ⟨by rw [HM.out]; rfl, Below.refl _ _⟩
  have hq : ((l.length : Int) == 0) = false := by rw [beq_eq_false_iff_ne]; omega
  have hg : ¬ (64 : Int) < (l.length : Int) := by omega
  go_enter Tryd.func28, Tryd.ntmps28
  go_wp2
  go_loopw [15] (fun i wr => ∃ k : Nat, i = .int .i64 k ∧ k ≤ l.length ∧ Hid (∀ j (h : j < l.length), j < k → fitR l[j] = true) ∧ Below w.heap.size w wr)
    (fun i _ => l.length - (intOf i).toNat)
  case atStart => exact ⟨0, rfl, Nat.zero_le _, Lib.hid (fun j _ h => absurd h (by omega)), Below.refl _ _⟩
  case round =>
    obtain ⟨k, rfl, hk, HN, hB⟩ := hrel
    by_cases hlt : k < l.length
    · rcases hr.later hB with h0 | ⟨b, off, rfl, hb, hc⟩
      · rw [h0] at hlt; simp at hlt
      · obtain ⟨c1, c2⟩ := hc k hlt
        have hki : (k : Int) < (l.length : Int) := by omega
        obtain ⟨r, hx⟩ : ∃ r, l[k]'hlt = r := ⟨_, rfl⟩
        rw [hx] at c1 c2
        have hnr : Hid (fitR r = true → ∀ j (h : j < l.length), j < k + 1 → fitR l[j] = true) := fun hf j h hj => by
          by_cases h2 : j < k
          · exact HN.out j h h2
          · obtain rfl : j = k := by omega
            rw [hx]; exact hf
        have hyr : Hid (fitR r = false → printOk l = false) := fun ht => print_bad hlt (by rw [hx]; exact ht)
        obtain ⟨p, q⟩ := r
        have hdef : Hid (fitR (p, q) = _) := fitR_max (p, q)
        have hB1 : Below w.heap.size w (wr.alloc (.cells #[.int .u64 p, .int .u64 q] 41)) := hB.alloc hB.size _
        clear hc hr hx HN
        generalize fitR (p, q) = rr at *
        go_wp2
        all_goals clear c1 c2
        all_goals first
          | (have ht : rr = false := (by rw [hdef.out, Bool.not_eq_false', decide_eq_true_eq]; omega); go_ret; exact ⟨by rw [hyr.out ht]; rfl, hB1⟩)
          | (have hf : rr = true := (by rw [hdef.out, Bool.not_eq_true', decide_eq_false_iff_not]; omega); have hF := Lib.hid (hnr.out hf); clear hnr hyr hdef hf; go_roundw; (case rel => exact ⟨k + 1, by go_num, by omega, hF, hB1⟩); (case measure => simp [intOf]; omega))
    · obtain rfl : k = l.length := by omega
      have HM := Lib.hid (print_good (l := l) (by omega) (by omega) HN.out)
      clear HN hr
      go_wp2
      go_ret
      exact ⟨by rw [HM.out]; rfl, hB⟩
end Go.Proofs.YtbaeillecojilaaDoor.sq
