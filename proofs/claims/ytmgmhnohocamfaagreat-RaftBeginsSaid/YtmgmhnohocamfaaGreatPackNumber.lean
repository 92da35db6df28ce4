/-
  What a piece's number answers.
-/
import Derived.Test.YtmgmhnohocamfaaGreatPackMem
import Derived.Test.YtmgmhnohocamfaaGreatPackDec
import Derived.Test.YtmgmhnohocamfaaGreatPackNum
import Derived.Lib.Strings
import Derived.Deep.QuietTactic
import Derived.BigQuiet
import Derived.BigRegion
namespace Go.Proofs.YtmgmhnohocamfaaGreat.pk
open Go.RowKit

theorem hid_of {p : Prop} (h : p) : Hid p := h

theorem tail_eq (s : ByteArray) (k : Nat) : (⟨((s.data.toList.drop k).take (s.size - k)).toArray⟩ : ByteArray) = S (s.data.toList.drop k) := by
  rw [List.take_of_length_le (by rw [List.length_drop, ← Lib.size_eq]; omega)]
  rfl

/-- What a number's read leaves: the fault; the piece; if there was no fault, its number and what is left. Nothing else was written. -/
def NumPost (b : Nat) (m : Int) (t : ByteArray) (D : Nat × Nat × List UInt8) (w : World) (e : Ending) (w' : World) : Prop :=
  ∃ lft n, e = .returned (.int .i64 D.1) ∧ PS w' b lft m n t ∧ (D.1 = 0 → n = D.2.1 ∧ lft = S D.2.2) ∧ Only b w w'

set_option maxHeartbeats 4000000 in
set_option maxRecDepth 100000 in
theorem number_any (b : Nat) (s : ByteArray) (m : Int) (t : ByteArray) (w : World) (hP : PS w b s m 0 t) (hs : s.size ≤ 9223372036854775807) :
    Calls Tryz.prog 131 #[.pointer (some ⟨b, 0, none⟩)] w (NumPost b m t (dec 0 0 s.data.toList) w) := by
  go_enter Tryz.func131, Tryz.ntmps131
  go_wp2
  go_loopw [3] (fun i wr => ∃ k acc : Nat, i = .int .i64 k ∧ k ≤ s.size ∧ k ≤ 9 ∧ acc < 2 ^ (7 * k) ∧ PS wr b s m acc t ∧ dec 0 0 s.data.toList = dec k acc (s.data.toList.drop k) ∧ Only b w wr)
    (fun i _ => s.size - (intOf i).toNat)
  case atStart => exact ⟨0, 0, rfl, by omega, by omega, by simp, hP, rfl, Only.refl _ _⟩
  case round =>
    obtain ⟨k, acc, rfl, hk, hk9, hacc, hP1, hd, ho⟩ := hrel
    have HD := Lib.hid hd
    clear hd
    have HA := Lib.hid hacc
    clear hacc
    obtain ⟨c0, c1, c2, c3, f0, f1, f2, f3⟩ := hP1.cells
    by_cases hlt : k < s.size
    · obtain ⟨c, hc⟩ : ∃ c, s[k] = c := ⟨_, rfl⟩
      have hdrop : Hid (s.data.toList.drop k = c :: s.data.toList.drop (k + 1)) := by
        rw [List.drop_eq_getElem_cons (by simpa using hlt)]
        congr 1
      have hc256 : c.toNat < 256 := c.toNat_lt
      by_cases k9 : k = 9
      · obtain rfl : k = 9 := k9
        clear hk9 hk
        by_cases hA : 1 < c.toNat
        · have hv : Hid (dec 0 0 s.data.toList = (4, 0, [])) := hid_of (by rw [HD.out, hdrop.out]; simp [dec, hA])
          go_wp2
          go_ret
          exact ⟨_, _, by rw [hv.out]; rfl, hP1, by rw [hv.out]; simp, ho⟩
        · by_cases hB : c.toNat = 0
          · have hv : Hid (dec 0 0 s.data.toList = (4, 0, [])) := hid_of (by rw [HD.out, hdrop.out]; simp [dec, hB])
            have hB1 := Lib.hid hB
            have hz : ((c.toNat : Int) == 0) = true := by simp; omega
            clear hB
            go_wp2
            go_ret
            exact ⟨_, _, by rw [hv.out]; rfl, hP1, by rw [hv.out]; simp, ho⟩
          · have hz : ((c.toNat : Int) == 0) = false := by simp; omega
            have hc1 : c.toNat ≤ 1 := by omega
            have h1c : 1 ≤ c.toNat := by omega
            have hv : Hid (dec 0 0 s.data.toList = (0, acc + c.toNat * 2 ^ (7 * 9), s.data.toList.drop (9 + 1))) := hid_of (by rw [HD.out, hdrop.out]; simp [dec, hA, hB]; omega)
            clear hA hB
            go_wp2
            go_region
            all_goals go_wp2
            all_goals go_ret
            all_goals exact ⟨_, _, by rw [hv.out]; rfl, ((hP1.set2 _).set0 _).drew, fun _ => ⟨by rw [hv.out]; exact word_nine acc c.toNat HA.out hc1, by rw [hv.out, Lib.extract_eq]; exact tail_eq s 10⟩, ((ho.setCell 2 _).setCell 0 _).drew⟩
      · have hk8 : k ≤ 8 := by omega
        by_cases hB : 0 < k ∧ c.toNat = 0
        · have hv : Hid (dec 0 0 s.data.toList = (4, 0, [])) := hid_of (by rw [HD.out, hdrop.out]; simp [dec, k9, hB])
          have hz : ((c.toNat : Int) == 0) = true := by simp; omega
          have hk1 : 1 ≤ k := by omega
          clear hB k9
          go_wp2
          go_ret
          exact ⟨_, _, by rw [hv.out]; rfl, hP1, by rw [hv.out]; simp, ho⟩
        · have hB1 := Lib.hid hB
          have hW := Lib.hid (word_far k acc c.toNat (by omega) HA.out hc256 (fun e => by omega))
          by_cases hC : c.toNat < 128
          · have hv : Hid (dec 0 0 s.data.toList = (0, acc + c.toNat * 2 ^ (7 * k), s.data.toList.drop (k + 1))) := hid_of (by rw [HD.out, hdrop.out]; simp [dec, k9, hB, hC])
            have hW2 := Lib.hid ((word_far k acc c.toNat (by omega) HA.out hc256 (fun e => by omega)).1.trans (by rw [Nat.mod_eq_of_lt hC]))
            clear hB k9
            by_cases h0 : 0 < k
            · have hz : ((c.toNat : Int) == 0) = false := by have := hB1.out; simp; omega
              go_wp2
              go_region
              all_goals go_wp2
              all_goals go_ret
              all_goals exact ⟨_, _, by rw [hv.out]; rfl, ((hP1.set2 _).set0 _).drew, fun _ => ⟨by rw [hv.out]; exact hW2.out, by rw [hv.out, Lib.extract_eq]; exact tail_eq s (k + 1)⟩, ((ho.setCell 2 _).setCell 0 _).drew⟩
            · obtain rfl : k = 0 := by omega
              go_wp2
              go_region
              all_goals go_wp2
              all_goals go_ret
              all_goals exact ⟨_, _, by rw [hv.out]; rfl, ((hP1.set2 _).set0 _).drew, fun _ => ⟨by rw [hv.out]; exact word_zero acc c.toNat HA.out hC, by rw [hv.out, Lib.extract_eq]; exact tail_eq s 1⟩, ((ho.setCell 2 _).setCell 0 _).drew⟩
          · have hv : Hid (dec 0 0 s.data.toList = dec (k + 1) (acc + c.toNat % 128 * 2 ^ (7 * k)) (s.data.toList.drop (k + 1))) := hid_of (by rw [HD.out, hdrop.out]; simp [dec, k9, hC]; omega)
            have hz : ((c.toNat : Int) == 0) = false := by simp; omega
            clear hB k9
            go_wp2
            all_goals go_region
            all_goals go_wp2
            all_goals go_roundw
            case rel => exact ⟨k + 1, acc + c.toNat % 128 * 2 ^ (7 * k), by go_num, by omega, by omega, hW.out.2, by rw [hW.out.1]; exact (hP1.set2 _).drew, hv.out, (ho.setCell 2 _).drew⟩
            case measure => simp [intOf]; omega
            case rel => exact ⟨k + 1, acc + c.toNat % 128 * 2 ^ (7 * k), by go_num, by omega, by omega, hW.out.2, by rw [hW.out.1]; exact (hP1.set2 _).drew, hv.out, (ho.setCell 2 _).drew⟩
            case measure => simp [intOf]; omega
    · have hv : Hid (dec 0 0 s.data.toList = (3, 0, [])) := by rw [HD.out, List.drop_eq_nil_of_le (by simp; omega)]; rfl
      go_wp2
      go_ret
      exact ⟨_, _, by rw [hv.out]; rfl, hP1, by rw [hv.out]; simp, ho⟩
end Go.Proofs.YtmgmhnohocamfaaGreat.pk
