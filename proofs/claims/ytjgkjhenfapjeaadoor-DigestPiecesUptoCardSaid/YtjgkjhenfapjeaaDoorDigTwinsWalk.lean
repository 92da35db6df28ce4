/-
  The walk of DigestTwins.
-/
import Derived.Test.YtjgkjhenfapjeaaDoorDigNilWalk
namespace Go.Proofs.YtjgkjhenfapjeaaDoor.dg
open Go.RowKit

theorem HashAt.lt {w : World} {b : Nat} {l : List UInt8} (h : HashAt w b l) : b < w.heap.size := Arr.lt h
theorem HashAt.below {w w' : World} {b : Nat} {l : List UInt8} (h : HashAt w b l) (hb : Below w.heap.size w w') : HashAt w' b l := (hb.block b h.lt).trans h
theorem HashAt.touch {w w' : World} {b c : Nat} {l : List UInt8} (h : HashAt w b l) (ht : Touch c w w') (hne : b ≠ c) : HashAt w' b l := ht.arr h hne

set_option maxHeartbeats 2000000 in
set_option maxRecDepth 100000 in
theorem twins_any (a b c : List UInt8) (ha : a.length ≤ 140737488351232) (hb : b.length ≤ 140737488351232) (hc : c.length ≤ 140737488351232) (w : World) (hK : Keys w) :
    Calls Tryd.prog 7 #[.string (S a), .string (S b), .string (S c)] w fun e w' => e = .returned (.bool true) ∧ Below w.heap.size w w' := by
  have hpos := hK.pos
  have hza := S_size a
  have hzb := S_size b
  have hzc := S_size c
  have hcb := S_append a b
  have hcc := S_append a c
  have hlb : (a ++ b).length = a.length + b.length := List.length_append
  have hlc : (a ++ c).length = a.length + c.length := List.length_append
  have HLB := Lib.hid hlb
  have HLC := Lib.hid hlc
  clear hlb hlc
  go_enter Tryd.func7, Tryd.ntmps7
  go_wp2_with fail
  refine (alive_any w hK).mono ?_
  rintro e w1 ⟨rfl, hb1⟩
  have hK1 := hK.below hb1 hpos
  go_wp2_with fail
  refine (new_any w1).mono ?_
  rintro e w2 ⟨h, rfl, hh, H2, hb2⟩
  have hB2 := hb1.trans (hb2.mono hb1.size)
  have hK2 := hK1.below hb2 hK1.pos
  have hh0 : w.heap.size ≤ h := Nat.le_trans hb1.size hh
  have hhp : 0 < h := by omega
  have HH2 := Lib.hid H2
  clear H2 hb1 hb2 hK1 hh
  go_wp2_with fail
  refine (write_at h [] a w2 hK2 hhp HH2.out (by simp; omega)).mono ?_
  rintro e w3 ⟨rfl, H3, hT3⟩
  rw [List.nil_append] at H3
  have hB3 := hB2.trans (hT3.below hh0 hB2.size)
  have hK3 := hK2.touch hT3 hhp
  have HH3 := Lib.hid H3
  clear H3 hT3 hB2 hK2 HH2
  go_wp2_with fail
  refine (twin_any h _ _ _ w3 HH3.out).mono ?_
  rintro e w4 ⟨g, rfl, hg, G4, hb4⟩
  have H4 := HH3.out.below hb4
  have hB4 := hB3.trans (hb4.mono hB3.size)
  have hK4 := hK3.below hb4 hK3.pos
  have hgh : g ≠ h := by have := HH3.out.lt; omega
  have hg0 : w.heap.size ≤ g := Nat.le_trans hB3.size hg
  have hgp : 0 < g := by omega
  have HG4 : Hid (HashAt w4 g a) := G4
  have HH4 := Lib.hid H4
  clear H4 G4 hB3 hK3 HH3 hg hb4
  go_wp2_with fail
  refine (write_at h a b w4 hK4 hhp HH4.out (by omega)).mono ?_
  rintro e w5 ⟨rfl, H5, hT5⟩
  have hB5 := hB4.trans (hT5.below hh0 hB4.size)
  have hK5 := hK4.touch hT5 hhp
  have HH5 := Lib.hid H5
  have HG5 := Lib.hid (HG4.out.touch hT5 hgh)
  clear H5 hT5 hB4 hK4 HH4 HG4
  go_wp2_with fail
  refine (write_at g a c w5 hK5 hgp HG5.out (by omega)).mono ?_
  rintro e w6 ⟨rfl, G6, hT6⟩
  have hB6 := hB5.trans (hT6.below hg0 hB5.size)
  have hK6 := hK5.touch hT6 hgp
  have HG6 := Lib.hid G6
  have HH6 := Lib.hid (HH5.out.touch hT6 (Ne.symm hgh))
  clear G6 hT6 hB5 hK5 HH5 HG5
  go_wp2_with fail
  refine (sum_at h (a ++ b) w6 hK6 HH6.out (by have := HLB.out; omega)).mono ?_
  rintro e w7 ⟨rfl, hb7⟩
  have hB7 := hB6.trans (hb7.mono hB6.size)
  have hK7 := hK6.below hb7 hK6.pos
  have HG7 := Lib.hid (HG6.out.below hb7)
  clear hb7 hB6 hK6 HH6 HG6
  go_wp2_with fail
  refine (sum_any (a ++ b) w7 hK7 (by have := HLB.out; omega)).mono ?_
  rintro e w8 ⟨rfl, hb8⟩
  have hB8 := hB7.trans (hb8.mono hB7.size)
  have hK8 := hK7.below hb8 hK7.pos
  have HG8 := Lib.hid (HG7.out.below hb8)
  clear hb8 hB7 hK7 HG7
  go_wp2_with fail
  refine (sum_at g (a ++ c) w8 hK8 HG8.out (by have := HLC.out; omega)).mono ?_
  rintro e w9 ⟨rfl, hb9⟩
  have hB9 := hB8.trans (hb9.mono hB8.size)
  have hK9 := hK8.below hb9 hK8.pos
  have HG9 := Lib.hid (HG8.out.below hb9)
  clear hb9 hB8 hK8 HG8
  go_wp2_with fail
  refine (sum_any (a ++ c) w9 hK9 (by have := HLC.out; omega)).mono ?_
  rintro e w10 ⟨rfl, hb10⟩
  have hB10 := hB9.trans (hb10.mono hB9.size)
  have HG10 := Lib.hid (HG9.out.below hb10)
  clear hb10 hB9 hK9 HG9
  go_wp2_with fail
  refine (size_any g _ _ _ w10 HG10.out).mono ?_
  rintro e w11 ⟨rfl, rfl⟩
  rw [HLC.out, Int.natCast_add]
  go_wp2_with fail
  go_ret
  exact ⟨rfl, hB10⟩
end Go.Proofs.YtjgkjhenfapjeaaDoor.dg
