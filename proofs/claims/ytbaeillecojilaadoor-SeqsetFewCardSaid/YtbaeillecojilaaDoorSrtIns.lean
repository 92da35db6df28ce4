/-
  The library's insertion sort sorts a part of a row.
-/
import Derived.Test.YtbaeillecojilaaDoorSrtBase
namespace Go.Proofs.YtbaeillecojilaaDoor.sq
open Go.RowKit
open Go.Sort (swp PermIn SortedIn ltInt SWO Ins)

set_option maxHeartbeats 2000000 in
set_option maxRecDepth 100000 in
theorem insertion_any (g cap a b : Nat) (d : Array Int) (w : World) (hR : RowI w g d) (hg : g < w.heap.size) (hab : a ≤ b) (hb : b ≤ d.size) (hsz : d.size < 4611686018427387904) :
    Calls Tryd.prog 66 #[.slice (some ⟨g, 0, none⟩) d.size cap, .int .i64 a, .int .i64 b] w fun e w' =>
      e = .returned (.tuple #[]) ∧ ∃ d', PermIn a b d d' ∧ SortedIn ltInt a b d' ∧ St w g d' w' := by
  have HS := Lib.hid (St.start hR hg)
  clear hR
  go_enter Tryd.func66, Tryd.ntmps66
  go_wp2
  go_loopw [6] (fun vi wr => ∃ (i : Nat) (dk : Array Int), vi = .int .i64 i ∧ a < i ∧ i ≤ b + 1 ∧ dk.size = d.size ∧ Hid (PermIn a b d dk) ∧ Hid (i ≤ b → SortedIn ltInt a i dk) ∧ Hid (a = b ∨ i ≤ b) ∧ Hid (St w g dk wr))
    (fun vi _ => b + 1 - (intOf vi).toNat)
  case atStart => exact ⟨a + 1, d, by go_num, by omega, by omega, rfl, Lib.hid (Go.Sort.permIn_refl _ _ _), Lib.hid (fun _ p q h1 h2 h3 => by omega), Lib.hid (by omega), HS⟩
  case round =>
    obtain ⟨i, dk, rfl, hai, hib, hsk, HP, HI, HE, HK⟩ := hrel
    by_cases hlt : i < b
    · have hltz : (i : Int) < (b : Int) := by omega
      have HI0 : Hid (Ins ltInt a i i dk) := Lib.hid ⟨fun p q h1 h2 h3 _ h5 => HI.out (by omega) p q h1 h2 (by omega), fun q h1 h2 => by omega⟩
      clear HI
      go_wp2
      rename World => wo
      go_loopw [7] (fun vj wr2 => ∃ (j : Nat) (dj : Array Int), vj = .int .i64 j ∧ a ≤ j ∧ j ≤ i ∧ dj.size = d.size ∧ Hid (PermIn a b d dj) ∧ Hid (Ins ltInt a j i dj) ∧ Hid (St w g dj wr2)) (fun vj _ => (intOf vj).toNat)
      case atStart => exact ⟨i, dk, rfl, by omega, Nat.le_refl _, hsk, HP, HI0, HK⟩
      case round =>
        clear HP HI0 HK
        obtain ⟨j, dj, rfl, haj, hji, hsj, HPj, HIj, HKj⟩ := hrel
        obtain ⟨G, hG, hcw, hfw⟩ := HKj.out.fam
        rw [hsj] at hcw hfw
        have HG := Lib.hid hG
        have out : Hid ((j ≤ a ∨ ltInt dj[j]! dj[j - 1]! = false) → SortedIn ltInt a (i + 1) dj) := fun h => HIj.out.stop Go.Sort.swo_ltInt h
        clear hG
        have hout : Hid (SortedIn ltInt a (i + 1) dj → ∀ q, ∃ (i' : Nat) (dk' : Array Int), Value.int .i64 ((i : Int) + 1) = .int .i64 (i' : Nat) ∧ a < i' ∧ i' ≤ b + 1 ∧ dk'.size = d.size ∧ Hid (PermIn a b d dk') ∧ Hid (i' ≤ b → SortedIn ltInt a i' dk') ∧ Hid (a = b ∨ i' ≤ b) ∧ Hid (St w g dk' (wr.drewN q))) := fun hs q =>
          ⟨i + 1, dj, by go_num, by omega, by omega, hsj, HPj, Lib.hid (fun _ => hs), Lib.hid (by omega), Lib.hid (HKj.out.drewN q)⟩
        by_cases hja : a < j
        · have hjd : j < d.size := by omega
          have hjd' : j - 1 < d.size := by omega
          have hjz : (a : Int) < (j : Int) := by omega
          have hj1 : (j : Int) < (d.size : Int) := by omega
          have hw : IntKind.i64.wrap ((j : Int) - 1) = ((j - 1 : Nat) : Int) := by rw [show (j : Int) - 1 = ((j - 1 : Nat) : Int) by omega]; exact IntWalk.i64_in _ (by omega)
          have hj2 : ((j - 1 : Nat) : Int) < (d.size : Int) := by omega
          go_wp2
          go_quiet (first | (go_at_call 72; refine Calls.quiet_of_same (less_any _ _ _)))
          go_wp2
          · have hl : ltInt (G j) (G (j - 1)) = true := by assumption
            have HL : Hid (ltInt dj[j]! dj[j - 1]! = true) := Lib.hid (by rw [← HG.out, ← HG.out]; exact hl)
            clear hout out
            go_region
            all_goals go_wp2
            go_roundw
            case rel =>
              refine ⟨j - 1, swp dj j (j - 1), rfl, by omega, by omega, by rw [Go.Sort.size_swp]; exact hsj, ?_, ?_, ?_⟩
              · exact Lib.hid (Go.Sort.permIn_trans _ _ _ _ _ HPj.out (Go.Sort.swp_permIn _ _ _ _ _ (by omega) (by omega) (by omega) (by omega) (by omega)))
              · obtain ⟨j', rfl⟩ : ∃ j', j = j' + 1 := ⟨j - 1, by omega⟩
                exact Lib.hid (HIj.out.step HL.out (by omega) (by omega))
              · have := HKj.out.swap (nq + 1) (i := j) (j := j - 1) (by omega) (by omega)
                rw [← HG.out, ← HG.out] at this
                exact Lib.hid this
            case measure => simp [intOf]; omega
          · have hl : ltInt (G j) (G (j - 1)) = false := by assumption
            go_roundw
            case rel => exact hout.out (out.out (Or.inr (by rw [← HG.out, ← HG.out]; exact hl))) nq
            case measure => simp [intOf]; omega
        · have hjz : ¬ (a : Int) < (j : Int) := by omega
          go_wp2
          go_quiet (first | (go_at_call 72; refine Calls.quiet_of_same (less_any _ _ _)))
          go_wp2
          go_roundw
          case rel => exact hout.out (out.out (Or.inl (by omega))) nq
          case measure => simp [intOf]; omega
    · have hltz : ¬ (i : Int) < (b : Int) := by omega
      have hfin : Hid (SortedIn ltInt a b dk) := by
        rcases HE.out with h | h
        · subst h; exact fun p q h1 h2 h3 => by omega
        · obtain rfl : i = b := by omega
          exact HI.out (Nat.le_refl _)
      clear HI
      go_wp2
      go_end0
      exact ⟨rfl, dk, HP.out, hfin.out, HK.out⟩
end Go.Proofs.YtbaeillecojilaaDoor.sq
