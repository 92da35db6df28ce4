/-
  What the first frame of bytes is, or what is wrong with it, as a function on lists. No walk.
-/
import Derived.Test.YtpeogcjakojjhaaSealFrame
namespace Go.Proofs.Ytpeogcjakojjhaa.sl
open Go.RowKit

/-- The first frame: its body, its size, the error's number. -/
def cut (l : List UInt8) : List UInt8 × Nat × Nat :=
  if l.length < 8 then ([], 0, 3)
  else if 65536 < big (l.take 4) then ([], 0, 2)
  else if l.length < 8 + big (l.take 4) then ([], 0, 3)
  else if crc ((l.drop 8).take (big (l.take 4))) ≠ big ((l.drop 4).take 4) then ([], 0, 5)
  else ((l.drop 8).take (big (l.take 4)), 8 + big (l.take 4), 0)

theorem S_slice (l : List UInt8) (a b : Nat) : (S l).extract a b = S ((l.take b).drop a) := by
  apply ByteArray.ext
  apply Array.toList_inj.1
  rw [Lib.extract_data, S_data, S_data, List.drop_take]
theorem S_drop (l : List UInt8) (a : Nat) : (S l).extract a l.length = S (l.drop a) := by rw [S_slice, List.take_length]
theorem S_part (l : List UInt8) (a n : Nat) : (S l).extract a (a + n) = S ((l.drop a).take n) := by
  rw [S_slice, List.take_drop]

theorem cut_short {l : List UInt8} (h : l.length < 8) : cut l = ([], 0, 3) := by unfold cut; rw [if_pos h]
theorem cut_long {l : List UInt8} (h : 8 ≤ l.length) (h2 : 65536 < big (l.take 4)) : cut l = ([], 0, 2) := by
  unfold cut; rw [if_neg (by omega), if_pos h2]
theorem cut_torn {l : List UInt8} (h : 8 ≤ l.length) (h2 : big (l.take 4) ≤ 65536) (h3 : l.length < 8 + big (l.take 4)) : cut l = ([], 0, 3) := by
  unfold cut; rw [if_neg (by omega), if_neg (by omega), if_pos h3]
theorem cut_sum {l : List UInt8} (h : 8 ≤ l.length) (h2 : big (l.take 4) ≤ 65536) (h3 : 8 + big (l.take 4) ≤ l.length) (h4 : crc ((l.drop 8).take (big (l.take 4))) ≠ big ((l.drop 4).take 4)) : cut l = ([], 0, 5) := by
  unfold cut; rw [if_neg (by omega), if_neg (by omega), if_neg (by omega), if_pos h4]
theorem cut_ok {l : List UInt8} (h : 8 ≤ l.length) (h2 : big (l.take 4) ≤ 65536) (h3 : 8 + big (l.take 4) ≤ l.length) (h4 : crc ((l.drop 8).take (big (l.take 4))) = big ((l.drop 4).take 4)) : cut l = ((l.drop 8).take (big (l.take 4)), 8 + big (l.take 4), 0) := by
  unfold cut; rw [if_neg (by omega), if_neg (by omega), if_neg (by omega), if_neg (by simpa using h4)]

/-- Four bytes as a number and back. -/
theorem four_big {l : List UInt8} (h : l.length = 4) : four (big l) = l := by
  match l, h with
  | [a, b, c, d], _ =>
    have ha := a.toNat_lt; have hb := b.toNat_lt; have hc := c.toNat_lt; have hd := d.toNat_lt
    have e : big [a, b, c, d] = ((a.toNat * 256 + b.toNat) * 256 + c.toNat) * 256 + d.toNat := rfl
    unfold four
    rw [e]
    have h0 : (((a.toNat * 256 + b.toNat) * 256 + c.toNat) * 256 + d.toNat) / 16777216 = a.toNat := by omega
    have h1 : (((a.toNat * 256 + b.toNat) * 256 + c.toNat) * 256 + d.toNat) / 65536 % 256 = b.toNat := by omega
    have h2 : (((a.toNat * 256 + b.toNat) * 256 + c.toNat) * 256 + d.toNat) / 256 % 256 = c.toNat := by omega
    have h3 : (((a.toNat * 256 + b.toNat) * 256 + c.toNat) * 256 + d.toNat) % 256 = d.toNat := by omega
    rw [h0, h1, h2, h3]
    simp [Nat.toUInt8]
theorem big_lt {l : List UInt8} (h : l.length = 4) : big l < 4294967296 := by
  match l, h with
  | [a, b, c, d], _ =>
    have ha := a.toNat_lt; have hb := b.toNat_lt; have hc := c.toNat_lt; have hd := d.toNat_lt
    show ((a.toNat * 256 + b.toNat) * 256 + c.toNat) * 256 + d.toNat < _
    omega
theorem take4_length {l : List UInt8} (h : 4 ≤ l.length) : (l.take 4).length = 4 := by rw [List.length_take]; omega
end Go.Proofs.Ytpeogcjakojjhaa.sl
