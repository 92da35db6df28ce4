/-
  The program's resolve, Has, isSet.
-/
import Derived.Test.YtbaeillecojilaaDoorSeqMem
namespace Go.Proofs.YtbaeillecojilaaDoor.sq
open Go.RowKit

def res (x y : Int) : Int := if x = 0 then y else x
theorem res_nat (p m : Nat) : res (p : Int) (m : Int) = ((if p = 0 then m else p : Nat) : Int) := by
  unfold res
  by_cases h : p = 0
  · simp [h]
  · rw [if_neg (by omega), if_neg h]

set_option maxRecDepth 100000 in
theorem resolve_any (x y : Int) (w : World) :
    Calls Tryd.prog 32 #[.int .u64 x, .int .u64 y] w fun e w' => e = .returned (.int .u64 (res x y)) ∧ w' = w := by
  have hd : Hid (x = 0 → res x y = y) := fun h => by unfold res; rw [if_pos h]
  have hn : Hid (x ≠ 0 → res x y = x) := fun h => by unfold res; rw [if_neg h]
  generalize res x y = r at *
  by_cases h : x = 0
  · have hq : (x == 0) = true := by rw [h]; rfl
    have hr := Lib.hid (hd.out h)
    clear hd hn h
    go_enter Tryd.func32, Tryd.ntmps32
    go_wp2
    go_ret
    exact ⟨by rw [hr.out]; rfl, rfl⟩
  · have hq : (x == 0) = false := by rw [beq_eq_false_iff_ne]; exact h
    have hr := Lib.hid (hn.out h)
    clear hd hn h
    go_enter Tryd.func32, Tryd.ntmps32
    go_wp2
    go_ret
    exact ⟨by rw [hr.out]; rfl, rfl⟩

theorem inR_minmax (most n p q : Nat) : inR most n (p, q) = (decide (min (if p = 0 then most else p) (if q = 0 then most else q) ≤ n) && decide (n ≤ max (if p = 0 then most else p) (if q = 0 then most else q))) := by
  unfold inR
  simp only
  generalize (if p = 0 then most else p) = a
  generalize (if q = 0 then most else q) = b
  rw [Bool.eq_iff_iff]
  simp only [Bool.or_eq_true, Bool.and_eq_true, decide_eq_true_eq]
  omega

set_option maxHeartbeats 1000000 in
set_option maxRecDepth 100000 in
theorem has_any (a : Option Addr) (cap : Nat) (l : List (Nat × Nat)) (most n : Nat) (hl : l.length ≤ 140737488355328) (w : World) (hr : RowR w a l) :
    Calls Tryd.prog 17 #[.slice a l.length cap, .int .u64 (most : Nat), .int .u64 (n : Nat)] w fun e w' => e = .returned (.bool (has l most n)) ∧ Below w.heap.size w w' := by
  go_enter Tryd.func17, Tryd.ntmps17
  go_wp2
  go_loopw [13] (fun i wr => ∃ k : Nat, i = .int .i64 k ∧ k ≤ l.length ∧ Hid (∀ j (h : j < l.length), j < k → inR most n l[j] = false) ∧ Below w.heap.size w wr)
    (fun i _ => l.length - (intOf i).toNat)
  case atStart => exact ⟨0, rfl, Nat.zero_le _, Lib.hid (fun j _ h => absurd h (by omega)), Below.refl _ _⟩
  case round =>
    obtain ⟨k, rfl, hk, HN, hB⟩ := hrel
    by_cases hlt : k < l.length
    · rcases hr.later hB with h0 | ⟨b, off, rfl, hb, hc⟩
      · rw [h0] at hlt; simp at hlt
      · obtain ⟨c1, c2⟩ := hc k hlt
        have hki : (k : Int) < (l.length : Int) := by omega
        obtain ⟨r, hx⟩ : ∃ r, l[k]'hlt = r := ⟨_, rfl⟩
        rw [hx] at c1 c2
        have hnr : Hid (inR most n r = false → ∀ j (h : j < l.length), j < k + 1 → inR most n l[j] = false) := fun hf j h hj => by
          by_cases h2 : j < k
          · exact HN.out j h h2
          · obtain rfl : j = k := by omega
            rw [hx]; exact hf
        have hyr : Hid (inR most n r = true → has l most n = true) := fun ht => list_yes (inR most n) l k hlt (by rw [hx]; exact ht)
        obtain ⟨p, q⟩ := r
        have hdef : Hid (inR most n (p, q) = _) := inR_minmax most n p q
        have hB1 : Below w.heap.size w (wr.alloc (.cells #[.int .u64 p, .int .u64 q] 41)) := hB.alloc hB.size _
        have e1 := res_nat p most
        have e2 := res_nat q most
        clear hc hr hx HN
        generalize inR most n (p, q) = rr at *
        generalize (if p = 0 then most else p) = x at *
        generalize (if q = 0 then most else q) = y at *
        go_wp2
        go_quiet (first | (go_at_call 32; refine Calls.quiet_of_same (resolve_any _ _ _)))
        go_wp2
        all_goals have hBq := below_drewN hB1 nq
        all_goals clear hB1 c1 c2 e1 e2
        all_goals first
          | (have ht : rr = true := (by rw [hdef.out, Bool.and_eq_true, decide_eq_true_eq, decide_eq_true_eq]; constructor <;> omega); go_ret; exact ⟨by rw [hyr.out ht]; rfl, hBq⟩)
          | (have hf : rr = false := (by rw [hdef.out, Bool.and_eq_false_iff, decide_eq_false_iff_not, decide_eq_false_iff_not]; omega); have hF := Lib.hid (hnr.out hf); clear hnr hyr hdef hf; go_roundw; (case rel => exact ⟨k + 1, by go_num, by omega, hF, hBq⟩); (case measure => simp [intOf]; omega))
    · obtain rfl : k = l.length := by omega
      have HM : Hid (has l most n = false) := Lib.hid (list_not (inR most n) l HN.out)
      clear HN hr
      go_wp2
      go_ret
      exact ⟨by rw [HM.out]; rfl, hB⟩
end Go.Proofs.YtbaeillecojilaaDoor.sq
