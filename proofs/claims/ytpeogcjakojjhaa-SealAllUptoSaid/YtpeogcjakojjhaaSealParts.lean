/-
  What the first frame is of bytes that were put together; of a frame of which one byte was turned. No walk.
-/
import Derived.Test.YtpeogcjakojjhaaSealCutDef
namespace Go.Proofs.Ytpeogcjakojjhaa.sl
open Go.RowKit

/-- A length, four bytes, a body, and what stands behind. -/
theorem cut_parts (q b r : List UInt8) (hq : q.length = 4) (hb : b.length ≤ 65536) :
    cut (four b.length ++ (q ++ (b ++ r))) = if crc b = big q then (b, 8 + b.length, 0) else ([], 0, 5) := by
  have h4 := four_length b.length
  have hl : (four b.length ++ (q ++ (b ++ r))).length = 8 + b.length + r.length := by
    simp only [List.length_append, h4, hq]; omega
  have e1 : (four b.length ++ (q ++ (b ++ r))).take 4 = four b.length := by rw [List.take_append_of_le_length (by omega), List.take_of_length_le (by omega)]
  have e2 : (four b.length ++ (q ++ (b ++ r))).drop 4 = q ++ (b ++ r) := by rw [← h4, List.drop_left]
  have e3 : (four b.length ++ (q ++ (b ++ r))).drop 8 = b ++ r := by
    rw [show 8 = 4 + 4 from rfl, ← List.drop_drop, e2, ← hq, List.drop_left]
  have e4 : (q ++ (b ++ r)).take 4 = q := by rw [List.take_append_of_le_length (by omega), List.take_of_length_le (by omega)]
  have e5 : (b ++ r).take b.length = b := List.take_left
  have hbig : big ((four b.length ++ (q ++ (b ++ r))).take 4) = b.length := by rw [e1, big_four (by omega)]
  unfold cut
  rw [hbig, e2, e3, e4, e5, hl, if_neg (by omega), if_neg (by omega), if_neg (by omega)]
  by_cases h : crc b = big q
  · rw [if_neg (by simpa using h), if_pos h]
  · rw [if_pos h, if_neg h]

theorem cut_frame (b r : List UInt8) (hb : b.length ≤ 65536) : cut (frame b ++ r) = (b, 8 + b.length, 0) := by
  have h := cut_parts (four (crc b)) b r (four_length _) hb
  rw [big_four (crc_lt b), if_pos rfl] at h
  unfold frame
  rw [List.append_assoc, List.append_assoc]
  exact h

theorem frame_eq (b : List UInt8) : frame b = four b.length ++ (four (crc b) ++ b) := rfl

/-- One byte behind the length is another one: the sum is another one. -/
theorem cut_turned (b : List UInt8) (hb : b.length ≤ 65536) (k : Nat) (h4 : 4 ≤ k) (hk : k < (frame b).length) (c : UInt8) (hc : c ≠ (frame b)[k]) :
    cut ((frame b).set k c) = ([], 0, 5) := by
  have hf := frame_length b
  have h40 := four_length b.length
  have h41 := four_length (crc b)
  by_cases h8 : k < 8
  · have e : (frame b).set k c = four b.length ++ ((four (crc b)).set (k - 4) c ++ (b ++ [])) := by
      unfold frame
      rw [List.set_append_right _ _ (by omega), List.set_append_left _ _ (by omega), List.append_nil, h40]
    rw [e, cut_parts _ b [] (by rw [List.length_set]; exact h41) hb]
    rw [if_neg]
    intro h
    have h2 := four_big (l := (four (crc b)).set (k - 4) c) (by rw [List.length_set]; exact h41)
    rw [← h] at h2
    apply hc
    have h3 : ((four (crc b)).set (k - 4) c)[k - 4]'(by rw [List.length_set]; omega) = c := List.getElem_set_self _
    have h5 : (frame b)[k] = (four (crc b))[k - 4]'(by omega) := by
      rw [List.getElem_of_eq (frame_eq b) hk, List.getElem_append_right (by omega), List.getElem_append_left (by omega)]
      simp only [h40]
    rw [h5, ← h3]
    congr 1
    exact h2.symm
  · have e : (frame b).set k c = four (b.set (k - 8) c).length ++ (four (crc b) ++ (b.set (k - 8) c ++ [])) := by
      unfold frame
      rw [List.set_append_right _ _ (by omega), List.set_append_right _ _ (by omega), List.append_nil, h40, h41, List.length_set, show k - 4 - 4 = k - 8 by omega]
    rw [e, cut_parts _ _ [] h41 (by rw [List.length_set]; exact hb), big_four (crc_lt b), if_neg]
    intro h
    have hk8 : k - 8 < b.length := by omega
    have h5 : (frame b)[k] = b[k - 8] := by
      rw [List.getElem_of_eq (frame_eq b) hk, List.getElem_append_right (by omega), List.getElem_append_right (by omega)]
      simp only [h40, h41, show k - 4 - 4 = k - 8 by omega]
    have hs : b = b.take (k - 8) ++ b[k - 8] :: b.drop (k - 8 + 1) := by rw [← List.drop_eq_getElem_cons hk8, List.take_append_drop]
    have hs2 : b.set (k - 8) c = b.take (k - 8) ++ c :: b.drop (k - 8 + 1) := by rw [List.set_eq_take_append_cons_drop, if_pos hk8]
    rw [hs2] at h
    conv at h => rhs; rw [hs]
    exact crc_turned _ _ _ _ (by rw [← h5]; exact hc) h
end Go.Proofs.Ytpeogcjakojjhaa.sl
