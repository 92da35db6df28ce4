/-
  The library's parting of a row by 'less than the pivot'.
-/
import Derived.Test.YtbaeillecojilaaDoorSrtPart
namespace Go.Proofs.YtbaeillecojilaaDoor.sq
open Go.RowKit
open Go.Sort (swp PermIn SortedIn ltInt SWO)

set_option maxHeartbeats 8000000 in
set_option maxRecDepth 100000 in
theorem part_any (g cap a b q : Nat) (d : Array Int) (w : World) (hR : RowI w g d) (hg : g < w.heap.size) (ha : a ≤ q) (hq : q < b) (hb : b ≤ d.size) (hsz : d.size < 4611686018427387904) :
    Calls Tryd.prog 74 #[.slice (some ⟨g, 0, none⟩) d.size cap, .int .i64 a, .int .i64 b, .int .i64 q] w fun e w' =>
      ∃ (m : Nat) (d' : Array Int) (o : Bool), e = .returned (.tuple #[.int .i64 m, .bool o]) ∧ a ≤ m ∧ m < b ∧ (PermIn a b d d' ∧ d'[m]! = d[q]! ∧ (∀ x, a ≤ x → x < m → (fun x => ltInt x d[q]!) d'[x]! = true) ∧ (∀ x, m < x → x < b → (fun x => ltInt x d[q]!) d'[x]! = false)) ∧ St w g d' w' := by
  have HS := Lib.hid (St.start hR hg)
  have HP0 := Lib.hid (Parted.start (fun x => ltInt x d[q]!) ha hq hb)
  obtain ⟨p, hp⟩ : ∃ p, d[q]! = p := ⟨_, rfl⟩
  have HPV : Hid (d[q]! = p) := hp
  obtain ⟨G, hG, hcw, hfw⟩ := HS.out.fam
  have hseen := fun v => HS.out.seen (a := a) (q := q) (by omega) hG v
  have HG := Lib.hid hG
  have had : a < d.size := by omega
  have hqd : q < d.size := by omega
  have hadz : (a : Int) < (d.size : Int) := by omega
  have hqdz : (q : Int) < (d.size : Int) := by omega
  obtain ⟨b1, hb1⟩ : ∃ b1, b - 1 = b1 := ⟨_, rfl⟩
  have hw2 : IntKind.i64.wrap ((b : Int) - 1) = (b1 : Int) := wrapi (by omega) (by omega)
  have hw1 : IntKind.i64.wrap ((a : Int) + 1) = ((a + 1 : Nat) : Int) := wrapi (by omega) (by omega)
  have HB1 : Hid (b1 + 1 = b) := Lib.hid (by omega)
  have hab1 : a ≤ b1 := by omega
  have hb1b : b1 < b := by omega
  rw [hb1] at HP0
  clear hR hG hp hb1
  go_enter Tryd.func74, Tryd.ntmps74
  go_wp2
  go_region
  all_goals go_wp2_with fail
  have HST : Hid (St w g (swp d a q) _) := Lib.hid (by
    have := HS.out.swap 1 (i := a) (j := q) had hqd
    rw [← HG.out, ← HG.out] at this
    exact this)
  clear hcw hfw hseen HG hw1 hw2
  have HP1 : Hid (Parted (fun x => ltInt x p) a b p d (swp d a q) (a + 1) b1) := Lib.hid (by have := HP0.out; rw [HPV.out] at this; exact this)
  have hs1 : (swp d a q).size = d.size := by rw [Go.Sort.size_swp]
  have ha1 : a + 1 ≤ b1 + 1 := by omega
  clear HP0
  generalize swp d a q = d1 at *
  go_loopw [10] (fun vi wr => ∃ (i1 : Nat), vi = .int .i64 i1 ∧ (a + 1) ≤ i1 ∧ i1 ≤ b1 + 1 ∧ Hid (Parted (fun x => ltInt x p) a b p d d1 i1 b1) ∧ Hid (St w g d1 wr)) (fun vi _ => (b1 + 1 - intOf vi).toNat)
  case atStart => exact ⟨(a + 1), by first | rfl | go_num, Nat.le_refl _, ha1, HP1, HST⟩
  case round =>
    clear HP1 HST
    obtain ⟨i1, rfl, hii, hi1, HPA, HK⟩ := hrel
    obtain ⟨G, hG, hcw, hfw⟩ := HK.out.fam
    rw [hs1] at hcw hfw
    have HGA : Hid (G a = p) := Lib.hid (by rw [hG]; exact HPA.out.piv)
    have HG := Lib.hid hG
    have hjd : b1 < d.size := by omega
    have hjdz : (b1 : Int) < (d.size : Int) := by omega
    clear hG
    have hcase : (i1 ≤ b1 ∧ ltInt (G i1) (G a) = true) ∨ (i1 ≤ b1 ∧ ltInt (G i1) (G a) = false) ∨ ¬ i1 ≤ b1 := by
      by_cases h : i1 ≤ b1
      · cases hl : ltInt (G i1) (G a) with
        | false => exact .inr (.inl ⟨h, rfl⟩)
        | true => exact .inl ⟨h, rfl⟩
      · exact .inr (.inr h)
    rcases hcase with ⟨h1, hl⟩ | hrest
    · have h1z : (i1 : Int) ≤ (b1 : Int) := by omega
      have hid : i1 < d.size := by omega
      have hidz : (i1 : Int) < (d.size : Int) := by omega
      have HUP : Hid (Parted (fun x => ltInt x p) a b p d d1 (i1 + 1) b1) := Lib.hid (HPA.out.up (by show ltInt d1[i1]! p = true; rw [← HG.out, ← HGA.out, hl]))
      have HK2 : Hid (∀ q, St w g d1 (wr.drewN q)) := Lib.hid (fun q => HK.out.drewN q)
      have hwi : IntKind.i64.wrap ((i1 : Int) + 1) = ((i1 + 1 : Nat) : Int) := wrapi (by omega) (by omega)
      go_wp2
      go_quiet (first | (go_at_call 72; refine Calls.quiet_of_same (less_any _ _ _)))
      go_wp2
      go_roundw
      case rel => exact ⟨i1 + 1, by first | rfl | go_num, by omega, by omega, HUP, Lib.hid (HK2.out _)⟩
      case measure => first | (simp [intOf]; done) | (simp [intOf]; omega)
    · have HX : Hid (b1 < i1 ∨ (fun x => ltInt x p) d1[i1]! = false) := by
        rcases hrest with ⟨_, hl⟩ | h
        · exact Lib.hid (.inr (by show ltInt d1[i1]! p = false; rw [← HG.out, ← HGA.out]; exact hl))
        · exact Lib.hid (.inl (by omega))
      have HK2 : Hid (∀ q, St w g d1 (wr.drewN q)) := Lib.hid (fun q => HK.out.drewN q)
      rcases hrest with ⟨h1, hl⟩ | h1
      · have h1z : (i1 : Int) ≤ (b1 : Int) := by omega
        have hid : i1 < d.size := by omega
        have hidz : (i1 : Int) < (d.size : Int) := by omega
        go_wp2
        go_quiet (first | (go_at_call 72; refine Calls.quiet_of_same (less_any _ _ _)))
        go_wp2
        clear hl
        clear hcw hfw HGA HG
        rename World => wi
        go_loopw [11] (fun vj wr => ∃ (j1 : Nat), vj = .int .i64 j1 ∧ a ≤ j1 ∧ j1 ≤ b1 ∧ i1 ≤ j1 + 1 ∧ Hid (Parted (fun x => ltInt x p) a b p d d1 i1 j1) ∧ Hid (j1 < i1 ∨ (fun x => ltInt x p) d1[i1]! = false) ∧ Hid (St w g d1 wr)) (fun vj _ => (intOf vj + 1).toNat)
        case atStart => exact ⟨b1, rfl, by omega, Nat.le_refl _, hi1, HPA, HX, Lib.hid (HK2.out _)⟩
        case round =>
          clear HPA HX HK2
          obtain ⟨j1, rfl, haj1, hjj, hij1, HPA, HX, HK⟩ := hrel
          obtain ⟨G, hG, hcw, hfw⟩ := HK.out.fam
          rw [hs1] at hcw hfw
          have HGA : Hid (G a = p) := Lib.hid (by rw [hG]; exact HPA.out.piv)
          have HG := Lib.hid hG
          have hj1d : j1 < d.size := by omega
          have hj1dz : (j1 : Int) < (d.size : Int) := by omega
          have HK2 : Hid (∀ q, St w g d1 (wr.drewN q)) := Lib.hid (fun q => HK.out.drewN q)
          clear hG
          have hcase2 : (i1 ≤ j1 ∧ ltInt (G j1) (G a) = false) ∨ (i1 ≤ j1 ∧ ltInt (G j1) (G a) = true) ∨ ¬ i1 ≤ j1 := by
            by_cases h : i1 ≤ j1
            · cases hl : ltInt (G j1) (G a) with
              | false => exact .inl ⟨h, rfl⟩
              | true => exact .inr (.inl ⟨h, rfl⟩)
            · exact .inr (.inr h)
          rcases hcase2 with ⟨k1, kl⟩ | ⟨k1, kl⟩ | k1
          · have k1z : (i1 : Int) ≤ (j1 : Int) := by omega
            have HDN : Hid (Parted (fun x => ltInt x p) a b p d d1 i1 (j1 - 1)) := Lib.hid (HPA.out.down (by show ltInt d1[j1]! p = false; rw [← HG.out, ← HGA.out, kl]))
            have HX2 : Hid (j1 - 1 < i1 ∨ (fun x => ltInt x p) d1[i1]! = false) := Lib.hid (HX.out.imp (fun h => by omega) id)
            have hwj : IntKind.i64.wrap ((j1 : Int) - 1) = ((j1 - 1 : Nat) : Int) := wrapi (by omega) (by omega)
            go_wp2
            go_quiet (first | (go_at_call 72; refine Calls.quiet_of_same (less_any _ _ _)))
            go_wp2
            go_roundw
            case rel => exact ⟨j1 - 1, rfl, by omega, by omega, by omega, HDN, HX2, Lib.hid (HK2.out _)⟩
            case measure => first | (simp [intOf]; done) | (simp [intOf]; omega)
          · have k1z : (i1 : Int) ≤ (j1 : Int) := by omega
            have hti : (fun x => ltInt x p) d1[i1]! = false := by
              rcases HX.out with h | h
              · omega
              · exact h
            have htj : (fun x => ltInt x p) d1[j1]! = true := by show ltInt d1[j1]! p = true; rw [← HG.out, ← HGA.out, kl]
            have hlt : i1 < j1 := by
              rcases Nat.lt_or_ge i1 j1 with h | h
              · exact h
              · have he : i1 = j1 := by omega
                rw [he, htj] at hti
                cases hti
            have HSW : Hid (Parted (fun x => ltInt x p) a b p d (swp d1 i1 j1) (i1 + 1) (j1 - 1)) := Lib.hid (HPA.out.swap (by omega) hlt (by omega) hb hti htj)
            have hid1 : i1 < d.size := by omega
            have hid1z : (i1 : Int) < (d.size : Int) := by omega
            have hne : i1 ≠ j1 := by omega
            have hwi : IntKind.i64.wrap ((i1 : Int) + 1) = ((i1 + 1 : Nat) : Int) := wrapi (by omega) (by omega)
            have hwj : IntKind.i64.wrap ((j1 : Int) - 1) = ((j1 - 1 : Nat) : Int) := wrapi (by omega) (by omega)
            clear hti htj HX HK2
            go_wp2
            go_quiet (first | (go_at_call 72; refine Calls.quiet_of_same (less_any _ _ _)))
            go_wp2
            go_region
            all_goals go_wp2
            rename ¬ j1 < i1 => hnji
            clear hnji
            have hs2 : (swp d1 i1 j1).size = d.size := by rw [Go.Sort.size_swp]; exact hs1
            have HS2 : Hid (St w g (swp d1 i1 j1) _) := Lib.hid (by
              have := HK.out.swap (nq + 1) (i := i1) (j := j1) (by omega) (by omega)
              rw [← HG.out, ← HG.out] at this
              exact this)
            clear hcw hfw HGA HG kl hwi hwj HK
            generalize swp d1 i1 j1 = d2 at *
            go_loopw [10, 11] (fun vi vj wr => ∃ (i j : Nat) (dk : Array Int), vi = .int .i64 i ∧ vj = .int .i64 j ∧ a < i ∧ i ≤ j + 1 ∧ a ≤ j ∧ j < b ∧ dk.size = d.size ∧ Hid (Parted (fun x => ltInt x p) a b p d dk i j) ∧ Hid (St w g dk wr))
              (fun vi vj _ => (intOf vj + 1 - intOf vi).toNat)
            case atStart => exact ⟨i1 + 1, j1 - 1, d2, by first | rfl | go_num, rfl, by omega, by omega, by omega, by omega, hs2, HSW, HS2⟩
            case round =>
              clear HSW HS2 hs2 HPA
              clear hlt hne hid1 hid1z hj1d hj1dz k1 k1z hij1 hjj haj1 hi1 hii hid hidz h1 h1z hjd hjdz
              obtain ⟨i, j, dk, rfl, rfl, hai, hij, haj, hjb, hsk, HPA, HK⟩ := hrel
              go_wp2
              rename World => wo
              go_loopw [10] (fun vi wr => ∃ (i1 : Nat), vi = .int .i64 i1 ∧ i ≤ i1 ∧ i1 ≤ j + 1 ∧ Hid (Parted (fun x => ltInt x p) a b p d dk i1 j) ∧ Hid (St w g dk wr)) (fun vi _ => (j + 1 - intOf vi).toNat)
              case atStart => exact ⟨i, by first | rfl | go_num, Nat.le_refl _, hij, HPA, HK⟩
              case round =>
                clear HPA HK
                obtain ⟨i1, rfl, hii, hi1, HPA, HK⟩ := hrel
                obtain ⟨G, hG, hcw, hfw⟩ := HK.out.fam
                rw [hsk] at hcw hfw
                have HGA : Hid (G a = p) := Lib.hid (by rw [hG]; exact HPA.out.piv)
                have HG := Lib.hid hG
                have hjd : j < d.size := by omega
                have hjdz : (j : Int) < (d.size : Int) := by omega
                clear hG
                have hcase : (i1 ≤ j ∧ ltInt (G i1) (G a) = true) ∨ (i1 ≤ j ∧ ltInt (G i1) (G a) = false) ∨ ¬ i1 ≤ j := by
                  by_cases h : i1 ≤ j
                  · cases hl : ltInt (G i1) (G a) with
                    | false => exact .inr (.inl ⟨h, rfl⟩)
                    | true => exact .inl ⟨h, rfl⟩
                  · exact .inr (.inr h)
                rcases hcase with ⟨h1, hl⟩ | hrest
                · have h1z : (i1 : Int) ≤ (j : Int) := by omega
                  have hid : i1 < d.size := by omega
                  have hidz : (i1 : Int) < (d.size : Int) := by omega
                  have HUP : Hid (Parted (fun x => ltInt x p) a b p d dk (i1 + 1) j) := Lib.hid (HPA.out.up (by show ltInt dk[i1]! p = true; rw [← HG.out, ← HGA.out, hl]))
                  have HK2 : Hid (∀ q, St w g dk (wr.drewN q)) := Lib.hid (fun q => HK.out.drewN q)
                  have hwi : IntKind.i64.wrap ((i1 : Int) + 1) = ((i1 + 1 : Nat) : Int) := wrapi (by omega) (by omega)
                  go_wp2
                  go_quiet (first | (go_at_call 72; refine Calls.quiet_of_same (less_any _ _ _)))
                  go_wp2
                  go_roundw
                  case rel => exact ⟨i1 + 1, by first | rfl | go_num, by omega, by omega, HUP, Lib.hid (HK2.out _)⟩
                  case measure => first | (simp [intOf]; done) | (simp [intOf]; omega)
                · have HX : Hid (j < i1 ∨ (fun x => ltInt x p) dk[i1]! = false) := by
                    rcases hrest with ⟨_, hl⟩ | h
                    · exact Lib.hid (.inr (by show ltInt dk[i1]! p = false; rw [← HG.out, ← HGA.out]; exact hl))
                    · exact Lib.hid (.inl (by omega))
                  have HK2 : Hid (∀ q, St w g dk (wr.drewN q)) := Lib.hid (fun q => HK.out.drewN q)
                  rcases hrest with ⟨h1, hl⟩ | h1
                  · have h1z : (i1 : Int) ≤ (j : Int) := by omega
                    have hid : i1 < d.size := by omega
                    have hidz : (i1 : Int) < (d.size : Int) := by omega
                    go_wp2
                    go_quiet (first | (go_at_call 72; refine Calls.quiet_of_same (less_any _ _ _)))
                    go_wp2
                    clear hl
                    clear hcw hfw HGA HG
                    rename World => wi
                    go_loopw [11] (fun vj wr => ∃ (j1 : Nat), vj = .int .i64 j1 ∧ a ≤ j1 ∧ j1 ≤ j ∧ i1 ≤ j1 + 1 ∧ Hid (Parted (fun x => ltInt x p) a b p d dk i1 j1) ∧ Hid (j1 < i1 ∨ (fun x => ltInt x p) dk[i1]! = false) ∧ Hid (St w g dk wr)) (fun vj _ => (intOf vj + 1).toNat)
                    case atStart => exact ⟨j, rfl, by omega, Nat.le_refl _, hi1, HPA, HX, Lib.hid (HK2.out _)⟩
                    case round =>
                      clear HPA HX HK2
                      obtain ⟨j1, rfl, haj1, hjj, hij1, HPA, HX, HK⟩ := hrel
                      obtain ⟨G, hG, hcw, hfw⟩ := HK.out.fam
                      rw [hsk] at hcw hfw
                      have HGA : Hid (G a = p) := Lib.hid (by rw [hG]; exact HPA.out.piv)
                      have HG := Lib.hid hG
                      have hj1d : j1 < d.size := by omega
                      have hj1dz : (j1 : Int) < (d.size : Int) := by omega
                      have HK2 : Hid (∀ q, St w g dk (wr.drewN q)) := Lib.hid (fun q => HK.out.drewN q)
                      clear hG
                      have hcase2 : (i1 ≤ j1 ∧ ltInt (G j1) (G a) = false) ∨ (i1 ≤ j1 ∧ ltInt (G j1) (G a) = true) ∨ ¬ i1 ≤ j1 := by
                        by_cases h : i1 ≤ j1
                        · cases hl : ltInt (G j1) (G a) with
                          | false => exact .inl ⟨h, rfl⟩
                          | true => exact .inr (.inl ⟨h, rfl⟩)
                        · exact .inr (.inr h)
                      rcases hcase2 with ⟨k1, kl⟩ | ⟨k1, kl⟩ | k1
                      · have k1z : (i1 : Int) ≤ (j1 : Int) := by omega
                        have HDN : Hid (Parted (fun x => ltInt x p) a b p d dk i1 (j1 - 1)) := Lib.hid (HPA.out.down (by show ltInt dk[j1]! p = false; rw [← HG.out, ← HGA.out, kl]))
                        have HX2 : Hid (j1 - 1 < i1 ∨ (fun x => ltInt x p) dk[i1]! = false) := Lib.hid (HX.out.imp (fun h => by omega) id)
                        have hwj : IntKind.i64.wrap ((j1 : Int) - 1) = ((j1 - 1 : Nat) : Int) := wrapi (by omega) (by omega)
                        go_wp2
                        go_quiet (first | (go_at_call 72; refine Calls.quiet_of_same (less_any _ _ _)))
                        go_wp2
                        go_roundw
                        case rel => exact ⟨j1 - 1, rfl, by omega, by omega, by omega, HDN, HX2, Lib.hid (HK2.out _)⟩
                        case measure => first | (simp [intOf]; done) | (simp [intOf]; omega)
                      · have k1z : (i1 : Int) ≤ (j1 : Int) := by omega
                        have hti : (fun x => ltInt x p) dk[i1]! = false := by
                          rcases HX.out with h | h
                          · omega
                          · exact h
                        have htj : (fun x => ltInt x p) dk[j1]! = true := by show ltInt dk[j1]! p = true; rw [← HG.out, ← HGA.out, kl]
                        have hlt : i1 < j1 := by
                          rcases Nat.lt_or_ge i1 j1 with h | h
                          · exact h
                          · have he : i1 = j1 := by omega
                            rw [he, htj] at hti
                            cases hti
                        have HSW : Hid (Parted (fun x => ltInt x p) a b p d (swp dk i1 j1) (i1 + 1) (j1 - 1)) := Lib.hid (HPA.out.swap (by omega) hlt (by omega) hb hti htj)
                        have hid1 : i1 < d.size := by omega
                        have hid1z : (i1 : Int) < (d.size : Int) := by omega
                        have hne : i1 ≠ j1 := by omega
                        have hwi : IntKind.i64.wrap ((i1 : Int) + 1) = ((i1 + 1 : Nat) : Int) := wrapi (by omega) (by omega)
                        have hwj : IntKind.i64.wrap ((j1 : Int) - 1) = ((j1 - 1 : Nat) : Int) := wrapi (by omega) (by omega)
                        clear hti htj HX HK2
                        go_wp2
                        go_quiet (first | (go_at_call 72; refine Calls.quiet_of_same (less_any _ _ _)))
                        go_wp2
                        go_region
                        all_goals go_wp2
                        go_roundw
                        case rel =>
                          refine ⟨i1 + 1, j1 - 1, swp dk i1 j1, by first | rfl | go_num, rfl, by omega, by omega, by omega, by omega, by rw [Go.Sort.size_swp]; exact hsk, HSW, ?_⟩
                          have := HK.out.swap (nq + 1) (i := i1) (j := j1) (by omega) (by omega)
                          rw [← HG.out, ← HG.out] at this
                          exact Lib.hid this
                        case measure => first | (simp [intOf]; done) | (simp [intOf]; omega)
                      · have k1z : ¬ (i1 : Int) ≤ (j1 : Int) := by omega
                        have hm : i1 = j1 + 1 := by omega
                        have HPA2 : Hid (Parted (fun x => ltInt x p) a b p d dk (j1 + 1) j1) := Lib.hid (by have := HPA.out; rw [hm] at this; exact this)
                        clear hm
                        have HDO : Hid (PermIn a b d (swp dk j1 a) ∧ (swp dk j1 a)[j1]! = p ∧ (∀ x, a ≤ x → x < j1 → (fun x => ltInt x p) (swp dk j1 a)[x]! = true) ∧ (∀ x, j1 < x → x < b → (fun x => ltInt x p) (swp dk j1 a)[x]! = false)) := Lib.hid (HPA2.out.done haj1 (by omega) hb)
                        have HSW : Hid (∀ q, St w g (swp dk j1 a) (((wr.drewN q).setCell ⟨g, j1, none⟩ (.int .u64 (G a))).setCell ⟨g, a, none⟩ (.int .u64 (G j1)))) := Lib.hid (fun q => by
                          have := HK.out.swap q (i := j1) (j := a) (by omega) (by omega)
                          rw [← HG.out, ← HG.out] at this
                          exact this)
                        have HSE : Hid (∀ q v, ((wr.drewN q).setCell ⟨g, j1, none⟩ v).cell? ⟨g, a, none⟩ = some (if j1 = a then v else .int .u64 (G a))) := Lib.hid (fun q v => (HK2.out q).seen (a := j1) (q := a) (by omega) HG.out v)
                        clear HX HK2 HPA2
                        go_wp2
                        go_quiet (first | (go_at_call 72; refine Calls.quiet_of_same (less_any _ _ _)))
                        have hseen := fun v => HSE.out (nq + 1) v
                        go_wp2
                        go_region
                        all_goals go_wp2
                        exact bodyPost_ret (results_tmp2 rfl _ _ _) rfl ⟨j1, swp dk j1 a, false, rfl, haj1, by omega, by rw [HPV.out]; exact HDO.out, HSW.out (nq + 1)⟩
                  · have h1z : ¬ (i1 : Int) ≤ (j : Int) := by omega
                    go_wp2
                    go_quiet (first | (go_at_call 72; refine Calls.quiet_of_same (less_any _ _ _)))
                    go_wp2
                    clear hcw hfw HGA HG
                    rename World => wi
                    go_loopw [11] (fun vj wr => ∃ (j1 : Nat), vj = .int .i64 j1 ∧ a ≤ j1 ∧ j1 ≤ j ∧ i1 ≤ j1 + 1 ∧ Hid (Parted (fun x => ltInt x p) a b p d dk i1 j1) ∧ Hid (j1 < i1 ∨ (fun x => ltInt x p) dk[i1]! = false) ∧ Hid (St w g dk wr)) (fun vj _ => (intOf vj + 1).toNat)
                    case atStart => exact ⟨j, rfl, by omega, Nat.le_refl _, hi1, HPA, HX, Lib.hid (HK2.out _)⟩
                    case round =>
                      clear HPA HX HK2
                      obtain ⟨j1, rfl, haj1, hjj, hij1, HPA, HX, HK⟩ := hrel
                      obtain ⟨G, hG, hcw, hfw⟩ := HK.out.fam
                      rw [hsk] at hcw hfw
                      have HG := Lib.hid hG
                      have hj1d : j1 < d.size := by omega
                      have hj1dz : (j1 : Int) < (d.size : Int) := by omega
                      have HK2 : Hid (∀ q, St w g dk (wr.drewN q)) := Lib.hid (fun q => HK.out.drewN q)
                      clear hG
                      have k1 : ¬ i1 ≤ j1 := by omega
                      have k1z : ¬ (i1 : Int) ≤ (j1 : Int) := by omega
                      have hm : i1 = j1 + 1 := by omega
                      have HPA2 : Hid (Parted (fun x => ltInt x p) a b p d dk (j1 + 1) j1) := Lib.hid (by have := HPA.out; rw [hm] at this; exact this)
                      clear hm
                      have HDO : Hid (PermIn a b d (swp dk j1 a) ∧ (swp dk j1 a)[j1]! = p ∧ (∀ x, a ≤ x → x < j1 → (fun x => ltInt x p) (swp dk j1 a)[x]! = true) ∧ (∀ x, j1 < x → x < b → (fun x => ltInt x p) (swp dk j1 a)[x]! = false)) := Lib.hid (HPA2.out.done haj1 (by omega) hb)
                      have HSW : Hid (∀ q, St w g (swp dk j1 a) (((wr.drewN q).setCell ⟨g, j1, none⟩ (.int .u64 (G a))).setCell ⟨g, a, none⟩ (.int .u64 (G j1)))) := Lib.hid (fun q => by
                        have := HK.out.swap q (i := j1) (j := a) (by omega) (by omega)
                        rw [← HG.out, ← HG.out] at this
                        exact this)
                      have HSE : Hid (∀ q v, ((wr.drewN q).setCell ⟨g, j1, none⟩ v).cell? ⟨g, a, none⟩ = some (if j1 = a then v else .int .u64 (G a))) := Lib.hid (fun q v => (HK2.out q).seen (a := j1) (q := a) (by omega) HG.out v)
                      clear HX HK2 HPA2
                      go_wp2
                      go_quiet (first | (go_at_call 72; refine Calls.quiet_of_same (less_any _ _ _)))
                      have hseen := fun v => HSE.out (nq + 1) v
                      go_wp2
                      go_region
                      all_goals go_wp2
                      exact bodyPost_ret (results_tmp2 rfl _ _ _) rfl ⟨j1, swp dk j1 a, false, rfl, haj1, by omega, by rw [HPV.out]; exact HDO.out, HSW.out (nq + 1)⟩
          · have k1z : ¬ (i1 : Int) ≤ (j1 : Int) := by omega
            have hm : i1 = j1 + 1 := by omega
            have HPA2 : Hid (Parted (fun x => ltInt x p) a b p d d1 (j1 + 1) j1) := Lib.hid (by have := HPA.out; rw [hm] at this; exact this)
            clear hm
            have HDO : Hid (PermIn a b d (swp d1 j1 a) ∧ (swp d1 j1 a)[j1]! = p ∧ (∀ x, a ≤ x → x < j1 → (fun x => ltInt x p) (swp d1 j1 a)[x]! = true) ∧ (∀ x, j1 < x → x < b → (fun x => ltInt x p) (swp d1 j1 a)[x]! = false)) := Lib.hid (HPA2.out.done haj1 (by omega) hb)
            have HSW : Hid (∀ q, St w g (swp d1 j1 a) (((wr.drewN q).setCell ⟨g, j1, none⟩ (.int .u64 (G a))).setCell ⟨g, a, none⟩ (.int .u64 (G j1)))) := Lib.hid (fun q => by
              have := HK.out.swap q (i := j1) (j := a) (by omega) (by omega)
              rw [← HG.out, ← HG.out] at this
              exact this)
            have HSE : Hid (∀ q v, ((wr.drewN q).setCell ⟨g, j1, none⟩ v).cell? ⟨g, a, none⟩ = some (if j1 = a then v else .int .u64 (G a))) := Lib.hid (fun q v => (HK2.out q).seen (a := j1) (q := a) (by omega) HG.out v)
            clear HX HK2 HPA2
            go_wp2
            go_quiet (first | (go_at_call 72; refine Calls.quiet_of_same (less_any _ _ _)))
            have hseen := fun v => HSE.out (nq + 1) v
            go_wp2
            go_region
            all_goals go_wp2
            exact bodyPost_ret (results_tmp2 rfl _ _ _) rfl ⟨j1, swp d1 j1 a, true, rfl, haj1, by omega, by rw [HPV.out]; exact HDO.out, HSW.out (nq + 1)⟩
      · have h1z : ¬ (i1 : Int) ≤ (b1 : Int) := by omega
        go_wp2
        go_quiet (first | (go_at_call 72; refine Calls.quiet_of_same (less_any _ _ _)))
        go_wp2
        clear hcw hfw HGA HG
        rename World => wi
        go_loopw [11] (fun vj wr => ∃ (j1 : Nat), vj = .int .i64 j1 ∧ a ≤ j1 ∧ j1 ≤ b1 ∧ i1 ≤ j1 + 1 ∧ Hid (Parted (fun x => ltInt x p) a b p d d1 i1 j1) ∧ Hid (j1 < i1 ∨ (fun x => ltInt x p) d1[i1]! = false) ∧ Hid (St w g d1 wr)) (fun vj _ => (intOf vj + 1).toNat)
        case atStart => exact ⟨b1, rfl, by omega, Nat.le_refl _, hi1, HPA, HX, Lib.hid (HK2.out _)⟩
        case round =>
          clear HPA HX HK2
          obtain ⟨j1, rfl, haj1, hjj, hij1, HPA, HX, HK⟩ := hrel
          obtain ⟨G, hG, hcw, hfw⟩ := HK.out.fam
          rw [hs1] at hcw hfw
          have HG := Lib.hid hG
          have hj1d : j1 < d.size := by omega
          have hj1dz : (j1 : Int) < (d.size : Int) := by omega
          have HK2 : Hid (∀ q, St w g d1 (wr.drewN q)) := Lib.hid (fun q => HK.out.drewN q)
          clear hG
          have k1 : ¬ i1 ≤ j1 := by omega
          have k1z : ¬ (i1 : Int) ≤ (j1 : Int) := by omega
          have hm : i1 = j1 + 1 := by omega
          have HPA2 : Hid (Parted (fun x => ltInt x p) a b p d d1 (j1 + 1) j1) := Lib.hid (by have := HPA.out; rw [hm] at this; exact this)
          clear hm
          have HDO : Hid (PermIn a b d (swp d1 j1 a) ∧ (swp d1 j1 a)[j1]! = p ∧ (∀ x, a ≤ x → x < j1 → (fun x => ltInt x p) (swp d1 j1 a)[x]! = true) ∧ (∀ x, j1 < x → x < b → (fun x => ltInt x p) (swp d1 j1 a)[x]! = false)) := Lib.hid (HPA2.out.done haj1 (by omega) hb)
          have HSW : Hid (∀ q, St w g (swp d1 j1 a) (((wr.drewN q).setCell ⟨g, j1, none⟩ (.int .u64 (G a))).setCell ⟨g, a, none⟩ (.int .u64 (G j1)))) := Lib.hid (fun q => by
            have := HK.out.swap q (i := j1) (j := a) (by omega) (by omega)
            rw [← HG.out, ← HG.out] at this
            exact this)
          have HSE : Hid (∀ q v, ((wr.drewN q).setCell ⟨g, j1, none⟩ v).cell? ⟨g, a, none⟩ = some (if j1 = a then v else .int .u64 (G a))) := Lib.hid (fun q v => (HK2.out q).seen (a := j1) (q := a) (by omega) HG.out v)
          clear HX HK2 HPA2
          go_wp2
          go_quiet (first | (go_at_call 72; refine Calls.quiet_of_same (less_any _ _ _)))
          have hseen := fun v => HSE.out (nq + 1) v
          go_wp2
          go_region
          all_goals go_wp2
          exact bodyPost_ret (results_tmp2 rfl _ _ _) rfl ⟨j1, swp d1 j1 a, true, rfl, haj1, by omega, by rw [HPV.out]; exact HDO.out, HSW.out (nq + 1)⟩
end Go.Proofs.YtbaeillecojilaaDoor.sq
