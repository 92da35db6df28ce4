/-
  The library's parting of a row by 'not greater than the pivot'.
-/
import Derived.Test.YtbaeillecojilaaDoorSrtPart
namespace Go.Proofs.YtbaeillecojilaaDoor.sq
open Go.RowKit
open Go.Sort (swp PermIn SortedIn ltInt SWO)

set_option maxHeartbeats 8000000 in
set_option maxRecDepth 100000 in
theorem parteq_any (g cap a b q : Nat) (d : Array Int) (w : World) (hR : RowI w g d) (hg : g < w.heap.size) (ha : a ≤ q) (hq : q < b) (hb : b ≤ d.size) (hsz : d.size < 4611686018427387904) :
    Calls Tryd.prog 73 #[.slice (some ⟨g, 0, none⟩) d.size cap, .int .i64 a, .int .i64 b, .int .i64 q] w fun e w' =>
      ∃ (m j : Nat) (d' : Array Int), e = .returned (.int .i64 m) ∧ a < m ∧ m ≤ b ∧ m = j + 1 ∧ Parted (fun x => !ltInt d[q]! x) a b d[q]! d d' m j ∧ St w g d' w' := by
  have HS := Lib.hid (St.start hR hg)
  have HP0 := Lib.hid (Parted.start (fun x => !ltInt d[q]! x) ha hq hb)
  obtain ⟨p, hp⟩ : ∃ p, d[q]! = p := ⟨_, rfl⟩
  have HPV : Hid (d[q]! = p) := hp
  obtain ⟨G, hG, hcw, hfw⟩ := HS.out.fam
  have hseen := fun v => HS.out.seen (a := a) (q := q) (by omega) hG v
  have HG := Lib.hid hG
  have had : a < d.size := by omega
  have hqd : q < d.size := by omega
  have hadz : (a : Int) < (d.size : Int) := by omega
  have hqdz : (q : Int) < (d.size : Int) := by omega
  obtain ⟨b1, hb1⟩ : ∃ b1, b - 1 = b1 := ⟨_, rfl⟩
  have hw2 : IntKind.i64.wrap ((b : Int) - 1) = (b1 : Int) := wrapi (by omega) (by omega)
  have hw1 : IntKind.i64.wrap ((a : Int) + 1) = ((a + 1 : Nat) : Int) := wrapi (by omega) (by omega)
  have HB1 : Hid (b1 + 1 = b) := Lib.hid (by omega)
  have hab1 : a ≤ b1 := by omega
  have hb1b : b1 < b := by omega
  rw [hb1] at HP0
  clear hR hG hp hb1
  go_enter Tryd.func73, Tryd.ntmps73
  go_wp2
  go_region
  all_goals go_wp2_with fail
  have HST : Hid (St w g (swp d a q) _) := Lib.hid (by
    have := HS.out.swap 1 (i := a) (j := q) had hqd
    rw [← HG.out, ← HG.out] at this
    exact this)
  clear hcw hfw hseen HG hw1 hw2
  have HP1 : Hid (Parted (fun x => !ltInt p x) a b p d (swp d a q) (a + 1) b1) := Lib.hid (by have := HP0.out; rw [HPV.out] at this; exact this)
  have hs1 : (swp d a q).size = d.size := by rw [Go.Sort.size_swp]
  clear HP0
  generalize swp d a q = d1 at *
  go_loopw [9, 10] (fun vi vj wr => ∃ (i j : Nat) (dk : Array Int), vi = .int .i64 i ∧ vj = .int .i64 j ∧ a < i ∧ i ≤ j + 1 ∧ a ≤ j ∧ j < b ∧ dk.size = d.size ∧ Hid (Parted (fun x => !ltInt p x) a b p d dk i j) ∧ Hid (St w g dk wr))
    (fun vi vj _ => (intOf vj + 1 - intOf vi).toNat)
  case atStart => exact ⟨a + 1, b1, d1, by first | rfl | go_num, rfl, by omega, by omega, by omega, by omega, hs1, HP1, HST⟩
  case round =>
    clear HP1 HST hs1
    obtain ⟨i, j, dk, rfl, rfl, hai, hij, haj, hjb, hsk, HPA, HK⟩ := hrel
    go_wp2
    rename World => wo
    go_loopw [9] (fun vi wr => ∃ (i1 : Nat), vi = .int .i64 i1 ∧ i ≤ i1 ∧ i1 ≤ j + 1 ∧ Hid (Parted (fun x => !ltInt p x) a b p d dk i1 j) ∧ Hid (St w g dk wr)) (fun vi _ => (j + 1 - intOf vi).toNat)
    case atStart => exact ⟨i, rfl, Nat.le_refl _, hij, HPA, HK⟩
    case round =>
      clear HPA HK
      obtain ⟨i1, rfl, hii, hi1, HPA, HK⟩ := hrel
      obtain ⟨G, hG, hcw, hfw⟩ := HK.out.fam
      rw [hsk] at hcw hfw
      have HGA : Hid (G a = p) := Lib.hid (by rw [hG]; exact HPA.out.piv)
      have HG := Lib.hid hG
      have hjd : j < d.size := by omega
      have hjdz : (j : Int) < (d.size : Int) := by omega
      clear hG
      -- what follows the first scan
      have hcase : (i1 ≤ j ∧ ltInt (G a) (G i1) = false) ∨ (i1 ≤ j ∧ ltInt (G a) (G i1) = true) ∨ ¬ i1 ≤ j := by
        by_cases h : i1 ≤ j
        · cases hl : ltInt (G a) (G i1) with
          | true => exact .inr (.inl ⟨h, rfl⟩)
          | false => exact .inl ⟨h, rfl⟩
        · exact .inr (.inr h)
      rcases hcase with ⟨h1, hl⟩ | hrest
      · have h1z : (i1 : Int) ≤ (j : Int) := by omega
        have hid : i1 < d.size := by omega
        have hidz : (i1 : Int) < (d.size : Int) := by omega
        have HUP : Hid (Parted (fun x => !ltInt p x) a b p d dk (i1 + 1) j) := Lib.hid (HPA.out.up (by rw [← HG.out, ← HGA.out, hl]; rfl))
        have HK2 : Hid (∀ q, St w g dk (wr.drewN q)) := Lib.hid (fun q => HK.out.drewN q)
        have hwi : IntKind.i64.wrap ((i1 : Int) + 1) = ((i1 + 1 : Nat) : Int) := wrapi (by omega) (by omega)
        go_wp2
        go_quiet (first | (go_at_call 72; refine Calls.quiet_of_same (less_any _ _ _)))
        go_wp2
        go_roundw
        case rel => exact ⟨i1 + 1, by first | rfl | go_num, by omega, by omega, HUP, Lib.hid (HK2.out _)⟩
        case measure => first | (simp [intOf]; done) | (simp [intOf]; omega)
      · have HX : Hid (j < i1 ∨ (fun x => !ltInt p x) dk[i1]! = false) := by
          rcases hrest with ⟨_, hl⟩ | h
          · exact Lib.hid (.inr (by rw [← HG.out, ← HGA.out]; simp only; rw [hl]; rfl))
          · exact Lib.hid (.inl (by omega))
        have HK2 : Hid (∀ q, St w g dk (wr.drewN q)) := Lib.hid (fun q => HK.out.drewN q)
        rcases hrest with ⟨h1, hl⟩ | h1
        · have h1z : (i1 : Int) ≤ (j : Int) := by omega
          have hid : i1 < d.size := by omega
          have hidz : (i1 : Int) < (d.size : Int) := by omega
          go_wp2
          go_quiet (first | (go_at_call 72; refine Calls.quiet_of_same (less_any _ _ _)))
          go_wp2
          clear hl
          clear hcw hfw HGA HG
          rename World => wi
          go_loopw [10] (fun vj wr => ∃ (j1 : Nat), vj = .int .i64 j1 ∧ a ≤ j1 ∧ j1 ≤ j ∧ i1 ≤ j1 + 1 ∧ Hid (Parted (fun x => !ltInt p x) a b p d dk i1 j1) ∧ Hid (j1 < i1 ∨ (fun x => !ltInt p x) dk[i1]! = false) ∧ Hid (St w g dk wr)) (fun vj _ => (intOf vj + 1).toNat)
          case atStart => exact ⟨j, rfl, haj, Nat.le_refl _, hi1, HPA, HX, Lib.hid (HK2.out _)⟩
          case round =>
            clear HPA HX HK2
            obtain ⟨j1, rfl, haj1, hjj, hij1, HPA, HX, HK⟩ := hrel
            obtain ⟨G, hG, hcw, hfw⟩ := HK.out.fam
            rw [hsk] at hcw hfw
            have HGA : Hid (G a = p) := Lib.hid (by rw [hG]; exact HPA.out.piv)
            have HG := Lib.hid hG
            have hj1d : j1 < d.size := by omega
            have hj1dz : (j1 : Int) < (d.size : Int) := by omega
            have HK2 : Hid (∀ q, St w g dk (wr.drewN q)) := Lib.hid (fun q => HK.out.drewN q)
            clear hG
            have hcase2 : (i1 ≤ j1 ∧ ltInt (G a) (G j1) = true) ∨ (i1 ≤ j1 ∧ ltInt (G a) (G j1) = false) ∨ ¬ i1 ≤ j1 := by
              by_cases h : i1 ≤ j1
              · cases hl : ltInt (G a) (G j1) with
                | true => exact .inl ⟨h, rfl⟩
                | false => exact .inr (.inl ⟨h, rfl⟩)
              · exact .inr (.inr h)
            rcases hcase2 with ⟨k1, kl⟩ | ⟨k1, kl⟩ | k1
            · have k1z : (i1 : Int) ≤ (j1 : Int) := by omega
              have HDN : Hid (Parted (fun x => !ltInt p x) a b p d dk i1 (j1 - 1)) := Lib.hid (HPA.out.down (by show (!ltInt p dk[j1]!) = false; rw [← HG.out, ← HGA.out, kl]; rfl))
              have HX2 : Hid (j1 - 1 < i1 ∨ (fun x => !ltInt p x) dk[i1]! = false) := Lib.hid (HX.out.imp (fun h => by omega) id)
              have hwj : IntKind.i64.wrap ((j1 : Int) - 1) = ((j1 - 1 : Nat) : Int) := wrapi (by omega) (by omega)
              go_wp2
              go_quiet (first | (go_at_call 72; refine Calls.quiet_of_same (less_any _ _ _)))
              go_wp2
              go_roundw
              case rel => exact ⟨j1 - 1, rfl, by omega, by omega, by omega, HDN, HX2, Lib.hid (HK2.out _)⟩
              case measure => first | (simp [intOf]; done) | (simp [intOf]; omega)
            · have k1z : (i1 : Int) ≤ (j1 : Int) := by omega
              have hti : (fun x => !ltInt p x) dk[i1]! = false := by
                rcases HX.out with h | h
                · omega
                · exact h
              have htj : (fun x => !ltInt p x) dk[j1]! = true := by show (!ltInt p dk[j1]!) = true; rw [← HG.out, ← HGA.out, kl]; rfl
              have hlt : i1 < j1 := by
                rcases Nat.lt_or_ge i1 j1 with h | h
                · exact h
                · have he : i1 = j1 := by omega
                  rw [he, htj] at hti
                  cases hti
              have HSW : Hid (Parted (fun x => !ltInt p x) a b p d (swp dk i1 j1) (i1 + 1) (j1 - 1)) := Lib.hid (HPA.out.swap (by omega) hlt (by omega) hb hti htj)
              have hid1 : i1 < d.size := by omega
              have hid1z : (i1 : Int) < (d.size : Int) := by omega
              have hne : i1 ≠ j1 := by omega
              have hwi : IntKind.i64.wrap ((i1 : Int) + 1) = ((i1 + 1 : Nat) : Int) := wrapi (by omega) (by omega)
              have hwj : IntKind.i64.wrap ((j1 : Int) - 1) = ((j1 - 1 : Nat) : Int) := wrapi (by omega) (by omega)
              clear hti htj HX HK2
              go_wp2
              go_quiet (first | (go_at_call 72; refine Calls.quiet_of_same (less_any _ _ _)))
              go_wp2
              go_region
              all_goals go_wp2
              go_roundw
              case rel =>
                refine ⟨i1 + 1, j1 - 1, swp dk i1 j1, by first | rfl | go_num, rfl, by omega, by omega, by omega, by omega, by rw [Go.Sort.size_swp]; exact hsk, HSW, ?_⟩
                have := HK.out.swap (nq + 1) (i := i1) (j := j1) (by omega) (by omega)
                rw [← HG.out, ← HG.out] at this
                exact Lib.hid this
              case measure => first | (simp [intOf]; done) | (simp [intOf]; omega)
            · have k1z : ¬ (i1 : Int) ≤ (j1 : Int) := by omega
              have hm : i1 = j1 + 1 := by omega
              have HM := Lib.hid hm
              clear hm
              go_wp2
              go_quiet (first | (go_at_call 72; refine Calls.quiet_of_same (less_any _ _ _)))
              go_wp2
              go_ret
              exact ⟨i1, j1, dk, rfl, by omega, by omega, HM.out, by rw [HPV.out]; exact HPA.out, HK2.out _⟩
        · have h1z : ¬ (i1 : Int) ≤ (j : Int) := by omega
          go_wp2
          go_quiet (first | (go_at_call 72; refine Calls.quiet_of_same (less_any _ _ _)))
          go_wp2
          clear hcw hfw HGA HG
          rename World => wi
          go_loopw [10] (fun vj wr => ∃ (j1 : Nat), vj = .int .i64 j1 ∧ a ≤ j1 ∧ j1 ≤ j ∧ i1 ≤ j1 + 1 ∧ Hid (Parted (fun x => !ltInt p x) a b p d dk i1 j1) ∧ Hid (j1 < i1 ∨ (fun x => !ltInt p x) dk[i1]! = false) ∧ Hid (St w g dk wr)) (fun vj _ => (intOf vj + 1).toNat)
          case atStart => exact ⟨j, rfl, haj, Nat.le_refl _, hi1, HPA, HX, Lib.hid (HK2.out _)⟩
          case round =>
            clear HPA HX HK2
            obtain ⟨j1, rfl, haj1, hjj, hij1, HPA, HX, HK⟩ := hrel
            obtain ⟨G, hG, hcw, hfw⟩ := HK.out.fam
            rw [hsk] at hcw hfw
            have HGA : Hid (G a = p) := Lib.hid (by rw [hG]; exact HPA.out.piv)
            have HG := Lib.hid hG
            have hj1d : j1 < d.size := by omega
            have hj1dz : (j1 : Int) < (d.size : Int) := by omega
            have HK2 : Hid (∀ q, St w g dk (wr.drewN q)) := Lib.hid (fun q => HK.out.drewN q)
            clear hG
            have k1 : ¬ i1 ≤ j1 := by omega
            have k1z : ¬ (i1 : Int) ≤ (j1 : Int) := by omega
            have hm : i1 = j1 + 1 := by omega
            have HM := Lib.hid hm
            clear hm
            go_wp2
            go_quiet (first | (go_at_call 72; refine Calls.quiet_of_same (less_any _ _ _)))
            go_wp2
            go_ret
            exact ⟨i1, j1, dk, rfl, by omega, by omega, HM.out, by rw [HPV.out]; exact HPA.out, HK2.out _⟩
end Go.Proofs.YtbaeillecojilaaDoor.sq
