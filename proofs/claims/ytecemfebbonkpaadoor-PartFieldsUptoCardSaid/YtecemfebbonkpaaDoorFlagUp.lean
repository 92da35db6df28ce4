/-
  What the reference's Upper, In, AtomByte, Atom, quotable answer.
-/
import Derived.Test.YtecemfebbonkpaaDoorFlagBase
namespace Go.Proofs.YtecemfebbonkpaaDoor.fl
open Go.RowKit

/-- A byte in its great form. -/
def up1 (c : UInt8) : UInt8 := if 97 ≤ c.toNat ∧ c.toNat ≤ 122 then UInt8.ofNat (c.toNat - 32) else c
def upper (l : List UInt8) : List UInt8 := l.map up1
theorem upper_length (l : List UInt8) : (upper l).length = l.length := by simp [upper]
theorem upper_take (l : List UInt8) (k : Nat) (h : k < l.length) : upper (l.take (k + 1)) = upper (l.take k) ++ [up1 l[k]] := by
  unfold upper
  rw [List.take_succ_eq_append_getElem h, List.map_append]
  rfl

set_option maxHeartbeats 2000000 in
set_option maxRecDepth 100000 in
theorem refupper_any (l : List UInt8) (hl : l.length ≤ 140737488355328) (w : World) :
    Calls Tryd.prog 31 #[.string (S l)] w fun e w' => e = .returned (.string (S (upper l))) ∧ Below w.heap.size w w' := by
  have hz := S_size l
  have hib := isByte_u8
  have hbo := byteOf_u8
  have hcv := conv1
  go_enter Tryd.func31, Tryd.ntmps31
  go_wp2
  go_loopw [3, 4] (fun o i wr => ∃ k : Nat, i = .int .i64 k ∧ k ≤ l.length ∧ o = .string (S (upper (l.take k))) ∧ Below w.heap.size w wr)
    (fun _ i _ => l.length - (intOf i).toNat)
  case atStart => exact ⟨0, rfl, Nat.zero_le _, rfl, Below.refl _ _⟩
  case round =>
    obtain ⟨k, rfl, hk, rfl, hB⟩ := hrel
    have hsz := hB.size
    by_cases hlt : k < l.length
    · have hlt' : k < (S l).size := by rw [S_size]; exact hlt
      have hht := upper_take l k hlt
      have hzo := S_size (upper (l.take k))
      rw [upper_length, List.length_take] at hzo
      obtain ⟨c, hc⟩ : ∃ c, l[k]'hlt = c := ⟨_, rfl⟩
      rw [hc] at hht
      obtain ⟨x, hx2⟩ : ∃ x : Nat, c.toNat = x := ⟨_, rfl⟩
      have hx : ((S l)[k]'hlt').toNat = x := by rw [S_get l k hlt hlt', hc]; exact hx2
      have hxl : x < 256 := hx2 ▸ UInt8.toNat_lt _
      have hcx : c = UInt8.ofNat x := by rw [← hx2]; simp
      have hz1 : ∀ a : UInt8, (S [a]).size = 1 := fun _ => rfl
      have hki : (k : Int) < (l.length : Int) := by omega
      by_cases hsm : 97 ≤ x ∧ x ≤ 122
      · have hu : up1 c = UInt8.ofNat (x - 32) := by unfold up1; rw [hx2, if_pos hsm]
        rw [hu] at hht
        have ha : (97 : Int) ≤ (x : Int) := by omega
        have hb : (x : Int) ≤ 122 := by omega
        have he : UInt8.ofNat (x - 97) + 65 = UInt8.ofNat (x - 32) := by
          apply UInt8.toNat_inj.1
          rw [UInt8.toNat_add, UInt8.toNat_ofNat', UInt8.toNat_ofNat']
          show ((x - 97) % 256 + 65) % 256 = _
          omega
        have HT := Lib.hid hht
        have HE := Lib.hid he
        clear hht hx2 hu he hcx hc
        generalize upper (l.take k) = o at *
        go_wp2
        go_roundw
        case rel => exact ⟨k + 1, by go_num, by omega, by rw [HT.out, S_append, HE.out], hB.alloc hsz _⟩
        case measure => simp [intOf]; omega
      · have hu : up1 c = UInt8.ofNat x := by unfold up1; rw [hx2, if_neg hsm]; exact hcx
        rw [hu] at hht
        have HT := Lib.hid hht
        clear hht hx2 hu hcx hc
        generalize upper (l.take k) = o at *
        by_cases h97 : 97 ≤ x
        · have ha : (97 : Int) ≤ (x : Int) := by omega
          have hb : ¬ (x : Int) ≤ 122 := by omega
          clear hsm
          go_wp2
          go_roundw
          case rel => exact ⟨k + 1, by go_num, by omega, by rw [HT.out, S_append], hB.alloc hsz _⟩
          case measure => simp [intOf]; omega
        · have ha : ¬ (97 : Int) ≤ (x : Int) := by omega
          clear hsm
          go_wp2
          go_roundw
          case rel => exact ⟨k + 1, by go_num, by omega, by rw [HT.out, S_append], hB.alloc hsz _⟩
          case measure => simp [intOf]; omega
    · obtain rfl : k = l.length := by omega
      rw [List.take_length] at *
      go_wp2
      go_ret
      exact ⟨rfl, hB⟩
end Go.Proofs.YtecemfebbonkpaaDoor.fl
