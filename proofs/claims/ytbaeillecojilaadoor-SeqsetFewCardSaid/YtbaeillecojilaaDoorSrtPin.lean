/-
  The library's try whether few exchanges sort a part of a row.
-/
import Derived.Test.YtbaeillecojilaaDoorSrtPart
namespace Go.Proofs.YtbaeillecojilaaDoor.sq
open Go.RowKit
open Go.Sort (swp PermIn SortedIn ltInt SWO Ins)

/-- What the try leaves. -/
def TryOut (w : World) (g a b : Nat) (d : Array Int) (e : Ending) (w' : World) : Prop :=
  ∃ (r : Bool) (d' : Array Int), e = .returned (.bool r) ∧ PermIn a b d d' ∧ (r = true → SortedIn ltInt a b d') ∧ St w g d' w'

set_option maxHeartbeats 8000000 in
set_option maxRecDepth 100000 in
theorem partial_any (g cap a b : Nat) (d : Array Int) (w : World) (hR : RowI w g d) (hg : g < w.heap.size) (hab : a < b) (hb : b ≤ d.size) (hB : Go.Sort.Below ltInt a b d) (hsz : d.size < 4611686018427387904) :
    Calls Tryd.prog 71 #[.slice (some ⟨g, 0, none⟩) d.size cap, .int .i64 a, .int .i64 b] w (TryOut w g a b d) := by
  have HS := Lib.hid (St.start hR hg)
  have HB := Lib.hid hB
  have hwa : IntKind.i64.wrap ((a : Int) + 1) = ((a + 1 : Nat) : Int) := wrapi (by omega) (by omega)
  obtain ⟨L, hL⟩ : ∃ L, b - a = L := ⟨_, rfl⟩
  have hwL : IntKind.i64.wrap ((b : Int) - (a : Int)) = (L : Int) := wrapi (by omega) (by omega)
  clear hR hL hB
  go_enter Tryd.func71, Tryd.ntmps71
  go_wp2
  clear hwa
  go_loopw [7, 8] (fun vi vs wr => ∃ (i s : Nat) (dk : Array Int), vi = .int .i64 i ∧ vs = .int .i64 s ∧ a < i ∧ i ≤ b ∧ s ≤ 5 ∧ dk.size = d.size ∧ Hid (PermIn a b d dk) ∧ Hid (SortedIn ltInt a i dk) ∧ Hid (St w g dk wr)) (fun _ vs _ => 5 - (intOf vs).toNat)
  case atStart => exact ⟨a + 1, 0, d, by first | rfl | go_num, rfl, by omega, by omega, by omega, rfl, Lib.hid (Go.Sort.permIn_refl _ _ _), Lib.hid (fun p q h1 h2 h3 => by omega), HS⟩
  case round =>
    obtain ⟨i, s, dk, rfl, rfl, hai, hib, hs5, hsk, HP, HI, HK⟩ := hrel
    have hws : IntKind.i64.wrap ((s : Int) + 1) = ((s + 1 : Nat) : Int) := wrapi (by omega) (by omega)
    by_cases hst : s < 5
    · have hstz : (s : Int) < 5 := by omega
      have HBK : Hid (Go.Sort.Below ltInt a b dk) := Lib.hid (HB.out.perm hb HP.out)
      go_wp2
      rename World => wo
      go_loopw [7] (fun vi wr => ∃ (i1 : Nat), vi = .int .i64 i1 ∧ i ≤ i1 ∧ i1 ≤ b ∧ Hid (SortedIn ltInt a i1 dk) ∧ Hid (St w g dk wr)) (fun vi _ => b - (intOf vi).toNat)
      case atStart => exact ⟨i, rfl, Nat.le_refl _, hib, HI, HK⟩
      case round =>
        clear HI HK
        obtain ⟨i1, rfl, hii, hi1b, HI, HK⟩ := hrel
        obtain ⟨G, hG, hcw, hfw⟩ := HK.out.fam
        rw [hsk] at hcw hfw
        have HG := Lib.hid hG
        clear hG
        have hai1 : a < i1 := by omega
        have HKN : Hid (∀ q, St w g dk (wr.drewN q)) := Lib.hid (fun q => HK.out.drewN q)
        have hwi : IntKind.i64.wrap ((i1 : Int) - 1) = ((i1 - 1 : Nat) : Int) := wrapi (by omega) (by omega)
        have hwi1 : IntKind.i64.wrap ((i1 : Int) + 1) = ((i1 + 1 : Nat) : Int) := wrapi (by omega) (by omega)
        by_cases hi1 : i1 < b
        · have hi1z : (i1 : Int) < (b : Int) := by omega
          have hid : i1 < d.size := by omega
          have hidz : (i1 : Int) < (d.size : Int) := by omega
          have hjm : i1 - 1 < d.size := by omega
          have hjmz : ((i1 - 1 : Nat) : Int) < (d.size : Int) := by omega
          cases hl : ltInt (G i1) (G (i1 - 1)) with
          | false =>
            have HUP : Hid (SortedIn ltInt a (i1 + 1) dk) := Lib.hid (HI.out.snoc Go.Sort.swo_ltInt (by rw [← HG.out, ← HG.out]; exact hl))
            go_wp2
            go_quiet (first | (go_at_call 72; refine Calls.quiet_of_same (less_any _ _ _)))
            go_wp2
            go_roundw
            case rel => exact ⟨i1 + 1, by first | rfl | go_num, by omega, by omega, HUP, Lib.hid (HKN.out _)⟩
            case measure => first | (simp [intOf]; done) | (simp [intOf]; omega)
          | true =>
            have HL : Hid (ltInt dk[i1]! dk[i1 - 1]! = true) := Lib.hid (by rw [← HG.out, ← HG.out]; exact hl)
            have hneb : ¬ (i1 : Int) = (b : Int) := by omega
            have hnec : ((i1 : Int) == (b : Int)) = false := by simp; omega
            have hned : ¬ i1 = b := by omega
            by_cases h50 : L < 50
            · have h50z : (L : Int) < 50 := by omega
              go_wp2
              go_quiet (first | (go_at_call 72; refine Calls.quiet_of_same (less_any _ _ _)))
              go_wp2
              go_ret
              exact ⟨false, dk, rfl, HP.out, fun h => (by cases h), HKN.out _⟩
            · have h50z : (50 : Int) ≤ (L : Int) := by omega
              have hne : i1 ≠ i1 - 1 := by omega
              obtain ⟨M, hM⟩ : ∃ M, i1 - a = M := ⟨_, rfl⟩
              have hwM : IntKind.i64.wrap ((i1 : Int) - (a : Int)) = (M : Int) := wrapi (by omega) (by omega)
              obtain ⟨K, hK⟩ : ∃ K, b - i1 = K := ⟨_, rfl⟩
              have hwK : IntKind.i64.wrap ((b : Int) - (i1 : Int)) = (K : Int) := wrapi (by omega) (by omega)
              have HML : Hid (i1 - a = M) := Lib.hid hM
              have HKL : Hid (b - i1 = K) := Lib.hid hK
              clear hM hK
              have HP1 : Hid (PermIn a b d (swp dk i1 (i1 - 1))) := Lib.hid (Go.Sort.permIn_trans _ _ _ _ _ HP.out (Go.Sort.swp_permIn _ _ _ _ _ (by omega) (by omega) (by omega) (by omega) (by omega)))
              have HI1 : Hid (Ins ltInt a (i1 - 1) i1 (swp dk i1 (i1 - 1))) := Lib.hid (by
                have h0 : Ins ltInt a i1 i1 dk := ⟨fun p q h1 h2 h3 _ h5 => HI.out p q h1 h2 (by omega), fun q h1 h2 => by omega⟩
                have hl := HL.out
                obtain ⟨j', rfl⟩ : ∃ j', i1 = j' + 1 := ⟨i1 - 1, by omega⟩
                exact h0.step hl (by omega) (by omega))
              have hsd : (swp dk i1 (i1 - 1)).size = d.size := by rw [Go.Sort.size_swp]; exact hsk
              by_cases h2 : 2 ≤ M
              · have h2z : (2 : Int) ≤ (M : Int) := by omega
                go_wp2
                go_quiet (first | (go_at_call 72; refine Calls.quiet_of_same (less_any _ _ _)))
                go_wp2
                go_region
                all_goals go_wp2
                have HK1 : Hid (St w g (swp dk i1 (i1 - 1)) _) := Lib.hid (by
                  have := HK.out.swap (nq + 1) (i := i1) (j := i1 - 1) (by omega) (by omega)
                  rw [← HG.out, ← HG.out] at this
                  exact this)
                clear hcw hfw HG HL hl HK HI HKN hwi1
                generalize swp dk i1 (i1 - 1) = d1 at *
                rename World => wo1
                go_loopw [9] (fun vj wr => ∃ (j : Nat) (dj : Array Int), vj = .int .i64 j ∧ a ≤ j ∧ j < i1 ∧ dj.size = d.size ∧ Hid (PermIn a b d dj) ∧ Hid (Ins ltInt a j i1 dj) ∧ Hid (St w g dj wr)) (fun vj _ => (intOf vj).toNat)
                case atStart => exact ⟨i1 - 1, d1, by first | rfl | go_num, by omega, by omega, hsd, HP1, HI1, by first | exact HK1 | exact Lib.hid (HK1.out.drewN _)⟩
                case round =>
                  clear HK1 HP1 HI1 hsd
                  obtain ⟨j, dj, rfl, haj, hji, hsj, HPj, HIj, HKj⟩ := hrel
                  have HKJ : Hid (∀ q, St w g dj (wr.drewN q)) := Lib.hid (fun q => HKj.out.drewN q)
                  by_cases hj1 : 1 ≤ j
                  · have hj1z : (1 : Int) ≤ (j : Int) := by omega
                    obtain ⟨G, hG, hcw, hfw⟩ := HKj.out.fam
                    rw [hsj] at hcw hfw
                    have HG := Lib.hid hG
                    clear hG
                    have hjd : j < d.size := by omega
                    have hjdz : (j : Int) < (d.size : Int) := by omega
                    have hjm : j - 1 < d.size := by omega
                    have hjmz : ((j - 1 : Nat) : Int) < (d.size : Int) := by omega
                    have hwj : IntKind.i64.wrap ((j : Int) - 1) = ((j - 1 : Nat) : Int) := wrapi (by omega) (by omega)
                    cases hl : ltInt (G j) (G (j - 1)) with
                    | true =>
                      have haj2 : a < j := by
                        rcases Nat.lt_or_ge a j with h | h
                        · exact h
                        · exfalso
                          obtain rfl : a = j := by omega
                          rcases HB.out.perm hb HPj.out with h0 | h0
                          · omega
                          · have := h0 a (Nat.le_refl _) hab
                            rw [← HG.out, ← HG.out, hl] at this
                            cases this
                      have hne2 : j ≠ j - 1 := by omega
                      have HSW : Hid (PermIn a b d (swp dj j (j - 1))) := Lib.hid (Go.Sort.permIn_trans _ _ _ _ _ HPj.out (Go.Sort.swp_permIn _ _ _ _ _ (by omega) (by omega) (by omega) (by omega) (by omega)))
                      have HIS : Hid (Ins ltInt a (j - 1) i1 (swp dj j (j - 1))) := Lib.hid (by
                        have hl2 : ltInt dj[j]! dj[j - 1]! = true := by rw [← HG.out, ← HG.out]; exact hl
                        obtain ⟨j', rfl⟩ : ∃ j', j = j' + 1 := ⟨j - 1, by omega⟩
                        exact HIj.out.step hl2 (by omega) (by omega))
                      go_wp2
                      go_quiet (first | (go_at_call 72; refine Calls.quiet_of_same (less_any _ _ _)))
                      go_wp2
                      go_region
                      all_goals go_wp2
                      go_roundw
                      case rel =>
                        refine ⟨j - 1, swp dj j (j - 1), by first | rfl | go_num, by omega, by omega, by rw [Go.Sort.size_swp]; exact hsj, HSW, HIS, ?_⟩
                        have := HKj.out.swap (nq + 1) (i := j) (j := j - 1) (by omega) (by omega)
                        rw [← HG.out, ← HG.out] at this
                        exact Lib.hid this
                      case measure => first | (simp [intOf]; done) | (simp [intOf]; omega)
                    | false =>
                      have HSJ : Hid (SortedIn ltInt a i1 dj) := Lib.hid (fun p q h1 h2 h3 => HIj.out.stop Go.Sort.swo_ltInt (.inr (by rw [← HG.out, ← HG.out]; exact hl)) p q h1 h2 (by omega))
                      by_cases hup : 2 ≤ K
                      · have hupz : (2 : Int) ≤ (K : Int) := by omega
                        have hib2 : i1 + 1 ≤ b := by have := HKL.out; omega
                        go_wp2
                        go_quiet (first | (go_at_call 72; refine Calls.quiet_of_same (less_any _ _ _)))
                        go_wp2
                        clear hl hcw hfw HG HKj HIj
                        rename World => wo2
                        go_loopw [10] (fun vj wr => ∃ (j : Nat) (dk2 : Array Int), vj = .int .i64 j ∧ i1 < j ∧ j ≤ b ∧ dk2.size = d.size ∧ Hid (PermIn a b d dk2) ∧ Hid (SortedIn ltInt a i1 dk2) ∧ Hid (St w g dk2 wr)) (fun vj _ => b - (intOf vj).toNat)
                        case atStart => exact ⟨i1 + 1, dj, by first | rfl | go_num, by omega, hib2, hsj, HPj, HSJ, by first | exact HKJ | exact Lib.hid (HKJ.out _) | exact Lib.hid (HKJ.out.drewN _)⟩
                        case round =>
                          clear HKJ
                          obtain ⟨j, dk2, rfl, hij2, hjb2, hs2, HP2, HS2, HK2⟩ := hrel
                          have HKN : Hid (∀ q, St w g dk2 (wr.drewN q)) := Lib.hid (fun q => HK2.out.drewN q)
                          by_cases hjb : j < b
                          · have hjbz : (j : Int) < (b : Int) := by omega
                            obtain ⟨G, hG, hcw, hfw⟩ := HK2.out.fam
                            rw [hs2] at hcw hfw
                            have HG := Lib.hid hG
                            clear hG
                            have hjd : j < d.size := by omega
                            have hjdz : (j : Int) < (d.size : Int) := by omega
                            have hjm : j - 1 < d.size := by omega
                            have hjmz : ((j - 1 : Nat) : Int) < (d.size : Int) := by omega
                            have hwj : IntKind.i64.wrap ((j : Int) - 1) = ((j - 1 : Nat) : Int) := wrapi (by omega) (by omega)
                            have hwj1 : IntKind.i64.wrap ((j : Int) + 1) = ((j + 1 : Nat) : Int) := wrapi (by omega) (by omega)
                            cases hl : ltInt (G j) (G (j - 1)) with
                            | true =>
                              have hne : j ≠ j - 1 := by omega
                              have HSW : Hid (PermIn a b d (swp dk2 j (j - 1))) := Lib.hid (Go.Sort.permIn_trans _ _ _ _ _ HP2.out (Go.Sort.swp_permIn _ _ _ _ _ (by omega) (by omega) (by omega) (by omega) (by omega)))
                              have HSO : Hid (SortedIn ltInt a i1 (swp dk2 j (j - 1))) := Lib.hid (Go.Sort.SortedIn.congrA HS2.out (fun p hp => Go.Sort.swp_other _ _ _ _ (by omega) (by omega)))
                              go_wp2
                              go_quiet (first | (go_at_call 72; refine Calls.quiet_of_same (less_any _ _ _)))
                              go_wp2
                              go_region
                              all_goals go_wp2
                              go_roundw
                              case rel =>
                                refine ⟨j + 1, swp dk2 j (j - 1), by first | rfl | go_num, by omega, by omega, by rw [Go.Sort.size_swp]; exact hs2, HSW, HSO, ?_⟩
                                have := HK2.out.swap (nq + 1) (i := j) (j := j - 1) (by omega) (by omega)
                                rw [← HG.out, ← HG.out] at this
                                exact Lib.hid this
                              case measure => first | (simp [intOf]; done) | (simp [intOf]; omega)
                            | false =>
                              go_wp2
                              go_quiet (first | (go_at_call 72; refine Calls.quiet_of_same (less_any _ _ _)))
                              go_wp2
                              go_roundw
                              case rel => exact ⟨i1, s + 1, dk2, rfl, by first | rfl | go_num, hai1, hi1b, by omega, hs2, HP2, HS2, Lib.hid (HKN.out _)⟩
                              case measure => first | (simp [intOf]; done) | (simp [intOf]; omega)
                          · have hjbz : ¬ (j : Int) < (b : Int) := by omega
                            go_wp2
                            go_roundw
                            case rel => exact ⟨i1, s + 1, dk2, rfl, by first | rfl | go_num, hai1, hi1b, by omega, hs2, HP2, HS2, HK2⟩
                            case measure => first | (simp [intOf]; done) | (simp [intOf]; omega)
                      · have hupz : (K : Int) < 2 := by omega
                        go_wp2
                        go_quiet (first | (go_at_call 72; refine Calls.quiet_of_same (less_any _ _ _)))
                        go_wp2
                        clear hl hcw hfw HG HKj HIj
                        go_roundw
                        case rel => exact ⟨i1, s + 1, dj, rfl, by first | rfl | go_num, hai1, hi1b, by omega, hsj, HPj, HSJ, by first | exact HKJ | exact Lib.hid (HKJ.out _) | exact Lib.hid (HKJ.out.drewN _)⟩
                        case measure => first | (simp [intOf]; done) | (simp [intOf]; omega)
                  · have hj1z : ¬ (1 : Int) ≤ (j : Int) := by omega
                    have HSJ : Hid (SortedIn ltInt a i1 dj) := Lib.hid (fun p q h1 h2 h3 => HIj.out.stop Go.Sort.swo_ltInt (.inl (by omega)) p q h1 h2 (by omega))
                    clear HIj HKJ
                    by_cases hup : 2 ≤ K
                    · have hupz : (2 : Int) ≤ (K : Int) := by omega
                      have hib2 : i1 + 1 ≤ b := by have := HKL.out; omega
                      go_wp2
                      rename World => wo2
                      go_loopw [10] (fun vj wr => ∃ (j : Nat) (dk2 : Array Int), vj = .int .i64 j ∧ i1 < j ∧ j ≤ b ∧ dk2.size = d.size ∧ Hid (PermIn a b d dk2) ∧ Hid (SortedIn ltInt a i1 dk2) ∧ Hid (St w g dk2 wr)) (fun vj _ => b - (intOf vj).toNat)
                      case atStart => exact ⟨i1 + 1, dj, by first | rfl | go_num, by omega, hib2, hsj, HPj, HSJ, by first | exact HKj | exact Lib.hid (HKj.out _) | exact Lib.hid (HKj.out.drewN _)⟩
                      case round =>
                        clear HKj
                        obtain ⟨j, dk2, rfl, hij2, hjb2, hs2, HP2, HS2, HK2⟩ := hrel
                        have HKN : Hid (∀ q, St w g dk2 (wr.drewN q)) := Lib.hid (fun q => HK2.out.drewN q)
                        by_cases hjb : j < b
                        · have hjbz : (j : Int) < (b : Int) := by omega
                          obtain ⟨G, hG, hcw, hfw⟩ := HK2.out.fam
                          rw [hs2] at hcw hfw
                          have HG := Lib.hid hG
                          clear hG
                          have hjd : j < d.size := by omega
                          have hjdz : (j : Int) < (d.size : Int) := by omega
                          have hjm : j - 1 < d.size := by omega
                          have hjmz : ((j - 1 : Nat) : Int) < (d.size : Int) := by omega
                          have hwj : IntKind.i64.wrap ((j : Int) - 1) = ((j - 1 : Nat) : Int) := wrapi (by omega) (by omega)
                          have hwj1 : IntKind.i64.wrap ((j : Int) + 1) = ((j + 1 : Nat) : Int) := wrapi (by omega) (by omega)
                          cases hl : ltInt (G j) (G (j - 1)) with
                          | true =>
                            have hne : j ≠ j - 1 := by omega
                            have HSW : Hid (PermIn a b d (swp dk2 j (j - 1))) := Lib.hid (Go.Sort.permIn_trans _ _ _ _ _ HP2.out (Go.Sort.swp_permIn _ _ _ _ _ (by omega) (by omega) (by omega) (by omega) (by omega)))
                            have HSO : Hid (SortedIn ltInt a i1 (swp dk2 j (j - 1))) := Lib.hid (Go.Sort.SortedIn.congrA HS2.out (fun p hp => Go.Sort.swp_other _ _ _ _ (by omega) (by omega)))
                            go_wp2
                            go_quiet (first | (go_at_call 72; refine Calls.quiet_of_same (less_any _ _ _)))
                            go_wp2
                            go_region
                            all_goals go_wp2
                            go_roundw
                            case rel =>
                              refine ⟨j + 1, swp dk2 j (j - 1), by first | rfl | go_num, by omega, by omega, by rw [Go.Sort.size_swp]; exact hs2, HSW, HSO, ?_⟩
                              have := HK2.out.swap (nq + 1) (i := j) (j := j - 1) (by omega) (by omega)
                              rw [← HG.out, ← HG.out] at this
                              exact Lib.hid this
                            case measure => first | (simp [intOf]; done) | (simp [intOf]; omega)
                          | false =>
                            go_wp2
                            go_quiet (first | (go_at_call 72; refine Calls.quiet_of_same (less_any _ _ _)))
                            go_wp2
                            go_roundw
                            case rel => exact ⟨i1, s + 1, dk2, rfl, by first | rfl | go_num, hai1, hi1b, by omega, hs2, HP2, HS2, Lib.hid (HKN.out _)⟩
                            case measure => first | (simp [intOf]; done) | (simp [intOf]; omega)
                        · have hjbz : ¬ (j : Int) < (b : Int) := by omega
                          go_wp2
                          go_roundw
                          case rel => exact ⟨i1, s + 1, dk2, rfl, by first | rfl | go_num, hai1, hi1b, by omega, hs2, HP2, HS2, HK2⟩
                          case measure => first | (simp [intOf]; done) | (simp [intOf]; omega)
                    · have hupz : (K : Int) < 2 := by omega
                      go_wp2
                      go_roundw
                      case rel => exact ⟨i1, s + 1, dj, rfl, by first | rfl | go_num, hai1, hi1b, by omega, hsj, HPj, HSJ, by first | exact HKj | exact Lib.hid (HKj.out _) | exact Lib.hid (HKj.out.drewN _)⟩
                      case measure => first | (simp [intOf]; done) | (simp [intOf]; omega)
              · have h2z : (M : Int) < 2 := by omega
                have HSJ : Hid (SortedIn ltInt a i1 (swp dk i1 (i1 - 1))) := Lib.hid (fun p q h1 h2 h3 => HI1.out.stop Go.Sort.swo_ltInt (.inl (by have := HML.out; omega)) p q h1 h2 (by omega))
                clear HI1
                by_cases hup : 2 ≤ K
                · have hupz : (2 : Int) ≤ (K : Int) := by omega
                  have hib2 : i1 + 1 ≤ b := by have := HKL.out; omega
                  go_wp2
                  go_quiet (first | (go_at_call 72; refine Calls.quiet_of_same (less_any _ _ _)))
                  go_wp2
                  go_region
                  all_goals go_wp2
                  have HK1 : Hid (St w g (swp dk i1 (i1 - 1)) _) := Lib.hid (by
                    have := HK.out.swap (nq + 1) (i := i1) (j := i1 - 1) (by omega) (by omega)
                    rw [← HG.out, ← HG.out] at this
                    exact this)
                  clear hcw hfw HG HL hl HK HI HKN hwi1
                  generalize swp dk i1 (i1 - 1) = d1 at *
                  rename World => wo2
                  go_loopw [10] (fun vj wr => ∃ (j : Nat) (dk2 : Array Int), vj = .int .i64 j ∧ i1 < j ∧ j ≤ b ∧ dk2.size = d.size ∧ Hid (PermIn a b d dk2) ∧ Hid (SortedIn ltInt a i1 dk2) ∧ Hid (St w g dk2 wr)) (fun vj _ => b - (intOf vj).toNat)
                  case atStart => exact ⟨i1 + 1, d1, by first | rfl | go_num, by omega, hib2, hsd, HP1, HSJ, by first | exact HK1 | exact Lib.hid (HK1.out _) | exact Lib.hid (HK1.out.drewN _)⟩
                  case round =>
                    clear HK1
                    obtain ⟨j, dk2, rfl, hij2, hjb2, hs2, HP2, HS2, HK2⟩ := hrel
                    have HKN : Hid (∀ q, St w g dk2 (wr.drewN q)) := Lib.hid (fun q => HK2.out.drewN q)
                    by_cases hjb : j < b
                    · have hjbz : (j : Int) < (b : Int) := by omega
                      obtain ⟨G, hG, hcw, hfw⟩ := HK2.out.fam
                      rw [hs2] at hcw hfw
                      have HG := Lib.hid hG
                      clear hG
                      have hjd : j < d.size := by omega
                      have hjdz : (j : Int) < (d.size : Int) := by omega
                      have hjm : j - 1 < d.size := by omega
                      have hjmz : ((j - 1 : Nat) : Int) < (d.size : Int) := by omega
                      have hwj : IntKind.i64.wrap ((j : Int) - 1) = ((j - 1 : Nat) : Int) := wrapi (by omega) (by omega)
                      have hwj1 : IntKind.i64.wrap ((j : Int) + 1) = ((j + 1 : Nat) : Int) := wrapi (by omega) (by omega)
                      cases hl : ltInt (G j) (G (j - 1)) with
                      | true =>
                        have hne : j ≠ j - 1 := by omega
                        have HSW : Hid (PermIn a b d (swp dk2 j (j - 1))) := Lib.hid (Go.Sort.permIn_trans _ _ _ _ _ HP2.out (Go.Sort.swp_permIn _ _ _ _ _ (by omega) (by omega) (by omega) (by omega) (by omega)))
                        have HSO : Hid (SortedIn ltInt a i1 (swp dk2 j (j - 1))) := Lib.hid (Go.Sort.SortedIn.congrA HS2.out (fun p hp => Go.Sort.swp_other _ _ _ _ (by omega) (by omega)))
                        go_wp2
                        go_quiet (first | (go_at_call 72; refine Calls.quiet_of_same (less_any _ _ _)))
                        go_wp2
                        go_region
                        all_goals go_wp2
                        go_roundw
                        case rel =>
                          refine ⟨j + 1, swp dk2 j (j - 1), by first | rfl | go_num, by omega, by omega, by rw [Go.Sort.size_swp]; exact hs2, HSW, HSO, ?_⟩
                          have := HK2.out.swap (nq + 1) (i := j) (j := j - 1) (by omega) (by omega)
                          rw [← HG.out, ← HG.out] at this
                          exact Lib.hid this
                        case measure => first | (simp [intOf]; done) | (simp [intOf]; omega)
                      | false =>
                        go_wp2
                        go_quiet (first | (go_at_call 72; refine Calls.quiet_of_same (less_any _ _ _)))
                        go_wp2
                        go_roundw
                        case rel => exact ⟨i1, s + 1, dk2, rfl, by first | rfl | go_num, hai1, hi1b, by omega, hs2, HP2, HS2, Lib.hid (HKN.out _)⟩
                        case measure => first | (simp [intOf]; done) | (simp [intOf]; omega)
                    · have hjbz : ¬ (j : Int) < (b : Int) := by omega
                      go_wp2
                      go_roundw
                      case rel => exact ⟨i1, s + 1, dk2, rfl, by first | rfl | go_num, hai1, hi1b, by omega, hs2, HP2, HS2, HK2⟩
                      case measure => first | (simp [intOf]; done) | (simp [intOf]; omega)
                · have hupz : (K : Int) < 2 := by omega
                  go_wp2
                  go_quiet (first | (go_at_call 72; refine Calls.quiet_of_same (less_any _ _ _)))
                  go_wp2
                  go_region
                  all_goals go_wp2
                  have HK1 : Hid (St w g (swp dk i1 (i1 - 1)) _) := Lib.hid (by
                    have := HK.out.swap (nq + 1) (i := i1) (j := i1 - 1) (by omega) (by omega)
                    rw [← HG.out, ← HG.out] at this
                    exact this)
                  clear hcw hfw HG HL hl HK HI HKN hwi1
                  generalize swp dk i1 (i1 - 1) = d1 at *
                  go_roundw
                  case rel => exact ⟨i1, s + 1, d1, rfl, by first | rfl | go_num, hai1, hi1b, by omega, hsd, HP1, HSJ, by first | exact HK1 | exact Lib.hid (HK1.out _) | exact Lib.hid (HK1.out.drewN _)⟩
                  case measure => first | (simp [intOf]; done) | (simp [intOf]; omega)
        · have hi1z : ¬ (i1 : Int) < (b : Int) := by omega
          have HKN : Hid (∀ q, St w g dk (wr.drewN q)) := Lib.hid (fun q => HK.out.drewN q)
          obtain rfl : i1 = b := by omega
          clear hwi hwi1 hi1
          go_wp2
          go_quiet (first | (go_at_call 72; refine Calls.quiet_of_same (less_any _ _ _)))
          go_wp2
          go_ret
          exact ⟨true, dk, rfl, HP.out, fun _ => HI.out, HKN.out _⟩
    · have hstz : ¬ (s : Int) < 5 := by omega
      go_wp2
      go_ret
      exact ⟨false, dk, rfl, HP.out, fun h => (by cases h), HK.out⟩
end Go.Proofs.YtbaeillecojilaaDoor.sq
