/-
  What the reference's Sum answers: the same check sum.
-/
import Derived.Test.YtpeogcjakojjhaaSealBits
namespace Go.Proofs.Ytpeogcjakojjhaa.sl
open Go.RowKit

set_option maxHeartbeats 4000000 in
set_option maxRecDepth 100000 in
theorem refsum_any (l : List UInt8) (hl : l.length ≤ 9223372036854775807) (w : World) :
    Calls Try.prog 13 #[.string (S l)] w fun e w' => e = .returned (.int .u32 (crc l)) ∧ w' = w := by
  have hz := S_size l
  go_enter Try.func13, Try.ntmps13
  go_wp2
  go_loopw [3, 4] (fun c i wr => ∃ k : Nat, k ≤ l.length ∧ i = .int .i64 k ∧ c = .int .u32 (crcFrom 4294967295 (l.take k)) ∧ wr = w)
    (fun _ i _ => l.length - (intOf i).toNat)
  case atStart => exact ⟨0, Nat.zero_le _, rfl, rfl, rfl⟩
  case round =>
    obtain ⟨k, hk, rfl, rfl, rfl⟩ := hrel
    have hc0 : crcFrom 4294967295 (l.take k) < 4294967296 := crcFrom_lt _ (by decide)
    by_cases hlt : k < l.length
    · have hlt' : k < (S l).size := by rw [S_size]; exact hlt
      have hx0 : bits BinOp.xor IntKind.u32 (crcFrom 4294967295 (l.take k) : Nat) (((S l)[k]'hlt').toNat % 4294967296 : Int) = ((crcFrom 4294967295 (l.take k) ^^^ (l[k]).toNat : Nat) : Int) := by
        have hb := (l[k]).toNat_lt
        rw [S_get l k hlt hlt', show (((l[k]).toNat : Int) % 4294967296) = ((l[k]).toNat : Int) by omega]
        exact xor32 hc0 (by omega)
      have hc1 : crcFrom 4294967295 (l.take k) ^^^ (l[k]).toNat < 4294967296 := xor_byte_lt hc0 _
      have hc2 := crcFrom_take 4294967295 l k hlt
      unfold crcByte at hc2
      generalize crcFrom 4294967295 (l.take k) ^^^ (l[k]).toNat = c1 at hx0 hc1 hc2
      go_wp2
      go_loopw [3, 5] (fun c i wr' => ∃ j : Nat, j ≤ 8 ∧ i = .int .i64 j ∧ c = .int .u32 (crcBits j c1 : Nat) ∧ wr' = wr)
        (fun _ i _ => 8 - (intOf i).toNat)
      case atStart => exact ⟨0, Nat.zero_le _, rfl, by first | rfl | (rw [hx0]; rfl), rfl⟩
      case round =>
        obtain ⟨j, hj, rfl, rfl, rfl⟩ := hrel
        have hc3 := crcBits_lt j hc1
        have hc4 := crcBits_succ j c1
        unfold crcBit at hc4
        generalize hcj : crcBits j c1 = c at hc3 hc4
        have ha := and1 hc3
        by_cases h8 : j < 8
        · by_cases hodd : c % 2 = 1
          · have hx := xor32 (a := c / 2) (b := 3988292384) (by omega) (by decide)
            rw [Int.natCast_ediv] at hx
            rw [if_pos hodd] at hc4
            go_wp2
            go_roundw
            case rel => exact ⟨j + 1, by omega, by go_num, by rw [hc4, ← hx]; rfl, trivial⟩
            case measure => simp [intOf]; omega
          · rw [if_neg hodd] at hc4
            go_wp2
            go_roundw
            case rel => exact ⟨j + 1, by omega, by go_num, by rw [hc4]; simp, trivial⟩
            case measure => simp [intOf]; omega
        · obtain rfl : j = 8 := by omega
          rw [hcj] at hc2
          go_wp2
          go_roundw
          case rel => exact ⟨k + 1, by omega, by go_num, by rw [hc2], trivial⟩
          case measure => simp [intOf]; omega
    · have hn := not32 hc0
      obtain rfl : k = l.length := by omega
      rw [List.take_length] at *
      go_wp2
      go_ret
      refine ⟨?_, rfl⟩
      have hx : (4294967295 : Int) - (crcFrom 4294967295 l : Nat) = (crc l : Nat) := by unfold crc; omega
      show Ending.returned (Value.int IntKind.u32 (4294967295 - (crcFrom 4294967295 l : Nat) : Int)) = _
      rw [hx]
end Go.Proofs.Ytpeogcjakojjhaa.sl
