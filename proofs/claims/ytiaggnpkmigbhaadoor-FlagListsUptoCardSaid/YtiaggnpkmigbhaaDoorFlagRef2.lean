/-
  What the reference's Canon answers.
-/
import Derived.Test.YtiaggnpkmigbhaaDoorFlagRef1
namespace Go.Proofs.YtiaggnpkmigbhaaDoor.fl
open Go.RowKit

theorem sysAt_get {k : Nat} (h : k < 5) : ∃ h' : k < sysL.length, sysAt k = sysL[k] := ⟨h, by
  unfold sysAt
  rw [List.getElem?_eq_getElem (show k < sysL.length from h)]; rfl⟩
theorem sysOf_at {s : List UInt8} {k : Nat} (hk : k < 5) (h : upper (sysAt k) = upper s) (hn : ∀ j, j < k → upper (sysAt j) ≠ upper s) : sysOf s = some (sysAt k) := by
  unfold sysOf
  rw [List.find?_eq_some_iff_getElem]
  obtain ⟨h', e⟩ := sysAt_get hk
  refine ⟨decide_eq_true h, k, h', e.symm, fun j hj => ?_⟩
  obtain ⟨h2, e2⟩ := sysAt_get (show j < 5 by omega)
  rw [← e2]
  simpa using hn j hj
theorem sysOf_none {s : List UInt8} (hn : ∀ j, j < 5 → upper (sysAt j) ≠ upper s) : sysOf s = none := by
  unfold sysOf
  rw [List.find?_eq_none]
  intro x hx
  obtain ⟨j, hj, e⟩ := List.getElem_of_mem hx
  obtain ⟨h2, e2⟩ := sysAt_get (show j < 5 from hj)
  rw [← e, ← e2]
  simpa using hn j hj
theorem canon_at {s f : List UInt8} (h : sysOf s = some f) : cf s = f ∧ (canon s).isSome = true := by
  have : canon s = some f := by unfold canon; rw [h]
  unfold cf; rw [this]; exact ⟨rfl, rfl⟩
theorem canon_word {s : List UInt8} (h : sysOf s = none) (h1 : atom s = true) (h2 : s.length ≤ 32) : cf s = lower s ∧ (canon s).isSome = true := by
  have : canon s = some (lower s) := by unfold canon; rw [h]; exact if_pos ⟨h1, h2⟩
  unfold cf; rw [this]; exact ⟨rfl, rfl⟩
theorem canon_none {s : List UInt8} (h : sysOf s = none) (h1 : ¬ (atom s = true ∧ s.length ≤ 32)) : cf s = [] ∧ (canon s).isSome = false := by
  have : canon s = none := by unfold canon; rw [h]; exact if_neg h1
  unfold cf; rw [this]; exact ⟨rfl, rfl⟩

set_option maxHeartbeats 2000000 in
set_option maxRecDepth 100000 in
theorem refcanon_any (l : List UInt8) (hl : l.length ≤ 140737488355328) (w : World) :
    Calls Tryd.prog 11 #[.string (S l)] w fun e w' => e = .returned (.tuple #[.string (S (cf l)), .bool (canon l).isSome]) ∧ Below w.heap.size w w' := by
  have hz := S_size l
  have hib := isByte_u8
  have hbo := byteOf_u8
  have hcv := conv1
  have HS := Lib.hid refsystem_any
  have HU := Lib.hid refupper_any
  have HA := Lib.hid (refatom_any l hl)
  go_enter Tryd.func11, Tryd.ntmps11
  go_wp2
  go_loopw [4] (fun i wr => ∃ k : Nat, i = .int .i64 k ∧ k ≤ 5 ∧ Hid (∀ j, j < k → upper (sysAt j) ≠ upper l) ∧ Below w.heap.size w wr)
    (fun i _ => 5 - (intOf i).toNat)
  case atStart => exact ⟨0, rfl, Nat.zero_le _, Lib.hid (fun j h => absurd h (by omega)), Below.refl _ _⟩
  case round =>
    obtain ⟨k, rfl, hk, HN, hB⟩ := hrel
    by_cases hlt : k < 5
    · have hki : (k : Int) < 5 := by omega
      have hs := HS.out k hlt
      have hu1 := HU.out (sysAt k) (by have := sysAt_len hlt; omega)
      have hu2 := HU.out l hl
      by_cases he : upper (sysAt k) = upper l
      · have HP := Lib.hid (canon_at (sysOf_at hlt he HN.out))
        have hq : ((S (upper (sysAt k))).toList == (S (upper l)).toList) = true := str_eq (by rw [he])
        clear he HN
        generalize sysAt k = g at *
        generalize upper g = g' at *
        generalize upper l = l' at *
        go_wp2_with fail
        refine (hs _).mono ?_
        rintro e w1 ⟨rfl, rfl⟩
        go_wp2_with fail
        refine (hu1 _).mono ?_
        rintro e w1 ⟨rfl, b1⟩
        go_wp2_with fail
        refine (hu2 _).mono ?_
        rintro e w2 ⟨rfl, b2⟩
        go_wp2_with fail
        refine (hs _).mono ?_
        rintro e w3 ⟨rfl, rfl⟩
        go_wp2_with fail
        refine bodyPost_ret (results_tmp2 rfl _ _ _) rfl ⟨?_, (hB.trans (b1.mono hB.size)).trans (b2.mono (Nat.le_trans hB.size b1.size))⟩
        rw [HP.out.1, HP.out.2]; rfl
      · have hq : ((S (upper (sysAt k))).toList == (S (upper l)).toList) = false := str_ne (S_ne he)
        have HNN : Hid (∀ j, j < k + 1 → upper (sysAt j) ≠ upper l) := fun j hj => by
          by_cases h2 : j < k
          · exact HN.out j h2
          · obtain rfl : j = k := by omega
            exact he
        clear he HN
        generalize sysAt k = g at *
        generalize upper g = g' at *
        go_wp2_with fail
        refine (hs _).mono ?_
        rintro e w1 ⟨rfl, rfl⟩
        go_wp2_with fail
        refine (hu1 _).mono ?_
        rintro e w1 ⟨rfl, b1⟩
        go_wp2_with fail
        refine (hu2 _).mono ?_
        rintro e w2 ⟨rfl, b2⟩
        go_wp2_with fail
        go_roundw
        case rel => exact ⟨k + 1, by go_num, by omega, HNN, (hB.trans (b1.mono hB.size)).trans (b2.mono (Nat.le_trans hB.size b1.size))⟩
        case measure => simp [intOf]; omega
    · obtain rfl : k = 5 := by omega
      have hno := Lib.hid (sysOf_none HN.out)
      have ha := HA.out wr
      clear HN
      cases hat : atom l with
      | false =>
        have HP := Lib.hid (canon_none hno.out (by rw [hat]; simp))
        rw [hat] at ha
        clear hat
        go_wp2_with fail
        refine ha.mono ?_
        rintro e w1 ⟨rfl, rfl⟩
        go_wp2_with fail
        refine bodyPost_ret (results_tmp2 rfl _ _ _) rfl ⟨?_, hB⟩
        rw [HP.out.1, HP.out.2]; rfl
      | true =>
        rw [hat] at ha
        by_cases h32 : l.length ≤ 32
        · have HP := Lib.hid (canon_word hno.out hat h32)
          have h32i : ¬ (l.length : Int) > 32 := by omega
          clear hat
          go_wp2_with fail
          refine ha.mono ?_
          rintro e w1 ⟨rfl, rfl⟩
          clear ha
          go_wp2_with fail
          go_loopw [5, 6] (fun o i wr => ∃ k : Nat, i = .int .i64 k ∧ k ≤ l.length ∧ o = .string (S (lower (l.take k))) ∧ Below w.heap.size w wr)
            (fun _ i _ => l.length - (intOf i).toNat)
          case atStart => exact ⟨0, rfl, Nat.zero_le _, rfl, hB⟩
          case round =>
            clear hB
            obtain ⟨k, rfl, hk, rfl, hB⟩ := hrel
            have hsz := hB.size
            by_cases hlt : k < l.length
            · have hlt' : k < (S l).size := by rw [S_size]; exact hlt
              have hht := lower_take l k hlt
              have hzo := S_size (lower (l.take k))
              rw [lower_length, List.length_take] at hzo
              obtain ⟨c, hc⟩ : ∃ c, l[k]'hlt = c := ⟨_, rfl⟩
              rw [hc] at hht
              obtain ⟨x, hx2⟩ : ∃ x : Nat, c.toNat = x := ⟨_, rfl⟩
              have hx : ((S l)[k]'hlt').toNat = x := by rw [S_get l k hlt hlt', hc]; exact hx2
              have hxl : x < 256 := hx2 ▸ UInt8.toNat_lt _
              have hcx : c = UInt8.ofNat x := by rw [← hx2]; simp
              have hz1 : ∀ a : UInt8, (S [a]).size = 1 := fun _ => rfl
              have hki : (k : Int) < (l.length : Int) := by omega
              by_cases hsm : 65 ≤ x ∧ x ≤ 90
              · have hu : low1 c = UInt8.ofNat (x + 32) := by unfold low1; rw [hx2, if_pos hsm]
                rw [hu] at hht
                have ha : (65 : Int) ≤ (x : Int) := by omega
                have hb : (x : Int) ≤ 90 := by omega
                have he : UInt8.ofNat (x - 65) + 97 = UInt8.ofNat (x + 32) := by
                  apply UInt8.toNat_inj.1
                  rw [UInt8.toNat_add, UInt8.toNat_ofNat', UInt8.toNat_ofNat']
                  show ((x - 65) % 256 + 97) % 256 = _
                  omega
                have HT := Lib.hid hht
                have HE := Lib.hid he
                clear hht hx2 hu he hcx hc
                generalize lower (l.take k) = o at *
                go_wp2
                go_roundw
                case rel => exact ⟨k + 1, by go_num, by omega, by rw [HT.out, S_append, HE.out], hB.alloc hsz _⟩
                case measure => simp [intOf]; omega
              · have hu : low1 c = UInt8.ofNat x := by unfold low1; rw [hx2, if_neg hsm]; exact hcx
                rw [hu] at hht
                have HT := Lib.hid hht
                clear hht hx2 hu hcx hc
                generalize lower (l.take k) = o at *
                by_cases h97 : 65 ≤ x
                · have ha : (65 : Int) ≤ (x : Int) := by omega
                  have hb : ¬ (x : Int) ≤ 90 := by omega
                  clear hsm
                  go_wp2
                  go_roundw
                  case rel => exact ⟨k + 1, by go_num, by omega, by rw [HT.out, S_append], hB.alloc hsz _⟩
                  case measure => simp [intOf]; omega
                · have ha : ¬ (65 : Int) ≤ (x : Int) := by omega
                  clear hsm
                  go_wp2
                  go_roundw
                  case rel => exact ⟨k + 1, by go_num, by omega, by rw [HT.out, S_append], hB.alloc hsz _⟩
                  case measure => simp [intOf]; omega
            · obtain rfl : k = l.length := by omega
              rw [List.take_length] at *
              go_wp2
              refine bodyPost_ret (results_tmp2 rfl _ _ _) rfl ⟨?_, hB⟩
              rw [HP.out.1, HP.out.2]; rfl
        · have HP := Lib.hid (canon_none hno.out (by simp [h32]))
          have h32i : (l.length : Int) > 32 := by omega
          clear hat
          go_wp2_with fail
          refine ha.mono ?_
          rintro e w1 ⟨rfl, rfl⟩
          go_wp2_with fail
          refine bodyPost_ret (results_tmp2 rfl _ _ _) rfl ⟨?_, hB⟩
          rw [HP.out.1, HP.out.2]; rfl
end Go.Proofs.YtiaggnpkmigbhaaDoor.fl
