/-
  The law DiskNil, walked.
-/
import Derived.Test.YtiljhnheacppgaaDkN1
namespace Go.Proofs.Ytiljhnheacppgaa.dk
set_option linter.unusedVariables false
open Go.RowKit
open fl (S S_size S_append S_inj str_eq str_ne)
open rw (Arr But Row Own bnext below_box below_drew below_drewN addr_add Fr RowB)
open mp (Mp Turned kget kput kwithout kmap KSorted Ranging)

def n0 : Dk := fresh 100
def n1 : Dk := ⟨100, [([97], [98])], [], [⟨2, [97], [98]⟩], false, 0⟩
def n2 : Dk := fuse n1 0
def n3 : Dk := ⟨100, [([97], [98])], [([97], [98])], [], false, 0⟩
theorem ne1 : turn n0 ⟨2, [97], [98]⟩ = (0, n1) := by rfl
theorem ne2 : turn n2 ⟨1, [97], [99]⟩ = (8, n2) := by rfl
theorem ne3 : turn n2 ⟨2, [97], [99]⟩ = (8, n2) := by rfl
theorem ne4 : turn n2 ⟨3, [97], []⟩ = (8, n2) := by rfl
theorem ne5 : sync n2 = (8, n2) := by rfl
theorem ne6 : crash n2 1 = (0, n3) := by rfl
theorem ne7 : read n2 [97] = ([], 8) := by rfl
theorem m0 : Rm n0 := ⟨fresh_right (by decide), by decide, by decide, by decide⟩
theorem m1 : Rm n1 := ⟨by have := turn_right m0.r ⟨2, [97], [98]⟩; rwa [ne1] at this, by decide, by decide, by decide⟩
theorem m2 : Rm n2 := ⟨fuse_right m1.r 0, by decide, by decide, by decide⟩
set_option maxHeartbeats 4000000 in
set_option maxRecDepth 100000 in
theorem nil_walk (nm s : Bs) (k : Int) (w : World) : Calls Try.prog 7 #[.string (S nm), .string (S s), .int .i64 k] w fun e w' => e = .returned (.bool true) ∧ Below w.heap.size w w' := by
  have HAl := Lib.hid fun W => alive_any W
  have HNw := Lib.hid fun W => pnew_any 100 W
  have H1 := Lib.hid fun p W => lput_any (w0 := w) p n0 [97] [98] m0.room (by decide) W
  have H2 := Lib.hid fun p W => lfuse_any (w0 := w) p n1 0 (by decide) W
  have H3 := Lib.hid fun p W => lread_any (w0 := w) p n2 [97] (by decide) W
  have H4 := Lib.hid fun p W => loff_any (w0 := w) p n2 W
  have H5 := Lib.hid fun p W => ladd_any (w0 := w) p n2 [97] [99] m2.room (by decide) W
  have H6 := Lib.hid fun p W => lput_any (w0 := w) p n2 [97] [99] m2.room (by decide) W
  have H7 := Lib.hid fun p W => ldrop_any (w0 := w) p n2 [97] m2.room W
  have H8 := Lib.hid fun p W => lsync_any (w0 := w) p n2 m2 W
  have H9 := Lib.hid fun p W => lpending_any (w0 := w) p n2 W
  have HA := Lib.hid fun p W => lcrash_any (w0 := w) p n2 1 m2 W
  have HB' := Lib.hid fun p W => loff_any (w0 := w) p n3 W
  have HC := Lib.hid fun p W => lused_any (w0 := w) p n3 W
  rw [ne1] at H1
  rw [show fuse n1 0 = n2 from rfl] at H2
  rw [ne7] at H3
  rw [show off n2 = true from rfl] at H4
  rw [ne2] at H5
  rw [ne3] at H6
  rw [ne4] at H7
  rw [ne5] at H8
  rw [ne6] at HA
  rw [show off n3 = false from rfl] at HB'
  have B0 := Lib.hid (Below.refl w.heap.size w)
  have hs1 : S [97] = ⟨#[97]⟩ := rfl
  have hs2 : S [98] = ⟨#[98]⟩ := rfl
  have hs3 : S [99] = ⟨#[99]⟩ := rfl
  have hs0 : S [] = ⟨#[]⟩ := rfl
  have hc := nil_fuse k w
  go_enter Try.func7, Try.ntmps7
  go_wp2_with fail
  refine hc.mono ?_
  rintro e w1 ⟨rfl, b⟩
  have B1 := Lib.hid (B0.out.trans (b.mono B0.out.size))
  clear hc b B0
  have hc := nil_read nm w1
  go_wp2_with fail
  refine hc.mono ?_
  rintro e w2 ⟨rfl, b⟩
  have B2 := Lib.hid (B1.out.trans (b.mono B1.out.size))
  clear hc b B1
  have hc := nil_add nm s w2
  go_wp2_with fail
  refine hc.mono ?_
  rintro e w3 ⟨rfl, b⟩
  have B3 := Lib.hid (B2.out.trans (b.mono B2.out.size))
  clear hc b B2
  have hc := nil_put nm s w3
  go_wp2_with fail
  refine hc.mono ?_
  rintro e w4 ⟨rfl, b⟩
  have B4 := Lib.hid (B3.out.trans (b.mono B3.out.size))
  clear hc b B3
  have hc := nil_drop nm w4
  go_wp2_with fail
  refine hc.mono ?_
  rintro e w5 ⟨rfl, b⟩
  have B5 := Lib.hid (B4.out.trans (b.mono B4.out.size))
  clear hc b B4
  have hc := nil_sync w5
  go_wp2_with fail
  refine hc.mono ?_
  rintro e w6 ⟨rfl, b⟩
  have B6 := Lib.hid (B5.out.trans (b.mono B5.out.size))
  clear hc b B5
  have hc := nil_crash k w6
  go_wp2_with fail
  refine hc.mono ?_
  rintro e w7 ⟨rfl, b⟩
  have B7 := Lib.hid (B6.out.trans (b.mono B6.out.size))
  clear hc b B6
  have hc := nil_names w7
  go_wp2_with fail
  refine hc.mono ?_
  rintro e w8 ⟨rfl, b⟩
  have B8 := Lib.hid (B7.out.trans (b.mono B7.out.size))
  clear hc b B7
  have hc := nil_used w8
  go_wp2_with fail
  refine hc.mono ?_
  rintro e w9 ⟨rfl, b⟩
  have B9 := Lib.hid (B8.out.trans (b.mono B8.out.size))
  clear hc b B8
  have hc := nil_pending w9
  go_wp2_with fail
  refine hc.mono ?_
  rintro e w10 ⟨rfl, b⟩
  have B10 := Lib.hid (B9.out.trans (b.mono B9.out.size))
  clear hc b B9
  have hc := nil_off w10
  go_wp2_with fail
  refine hc.mono ?_
  rintro e w11 ⟨rfl, b⟩
  have B11 := Lib.hid (B10.out.trans (b.mono B10.out.size))
  clear hc b B10
  have hc := nil_twin w11
  go_wp2_with fail
  refine hc.mono ?_
  rintro e w12 ⟨rfl, b⟩
  have B12 := Lib.hid (B11.out.trans (b.mono B11.out.size))
  clear hc b B11
  have hc := HNw.out w12
  go_wp2_with fail
  refine hc.mono ?_
  rintro e w20 (⟨h, _⟩ | ⟨cap, hcp, _, p, rfl, hP, b⟩)
  · omega
  obtain rfl : cap = 100 := by omega
  have L0 : Hid (Live w w20 p n0) := Live.new B12.out hP b
  clear hc hP hcp b B12
  have hc := HAl.out w20
  go_wp2_with fail
  refine hc.mono ?_
  rintro e w21 ⟨rfl, b⟩
  have L1 := Lib.hid (L0.out.below b)
  clear hc b L0
  have hc := H1.out p w21 L1.out
  go_wp2_with fail
  refine hc.mono ?_
  rintro e w22 ⟨rfl, l⟩
  have L2 := Lib.hid l
  clear hc l L1
  have hc := H2.out p w22 L2.out
  go_wp2_with fail
  refine hc.mono ?_
  rintro e w23 ⟨rfl, l⟩
  have L3 := Lib.hid l
  clear hc l L2
  have hc := H3.out p w23 L3.out
  go_wp2_with fail
  refine hc.mono ?_
  rintro e w24 ⟨rfl, b⟩
  have L4 := Lib.hid (L3.out.below b)
  clear hc b L3
  have hc := H4.out p w24 L4.out
  go_wp2_with fail
  refine hc.mono ?_
  rintro e w25 ⟨rfl, rfl⟩
  clear hc
  have hc := H5.out p _ L4.out
  go_wp2_with fail
  refine hc.mono ?_
  rintro e w26 ⟨rfl, l⟩
  have L5 := Lib.hid l
  clear hc l L4
  have hc := H6.out p w26 L5.out
  go_wp2_with fail
  refine hc.mono ?_
  rintro e w27 ⟨rfl, l⟩
  have L6 := Lib.hid l
  clear hc l L5
  have hc := H7.out p w27 L6.out
  go_wp2_with fail
  refine hc.mono ?_
  rintro e w28 ⟨rfl, l⟩
  have L7 := Lib.hid l
  clear hc l L6
  have hc := H8.out p w28 L7.out
  go_wp2_with fail
  refine hc.mono ?_
  rintro e w29 ⟨rfl, l⟩
  have L8 := Lib.hid l
  clear hc l L7
  have hc := H9.out p w29 L8.out
  rw [show ((count n2.pend : Nat) : Int) = 1 from rfl] at hc
  go_wp2_with fail
  refine hc.mono ?_
  rintro e w30 ⟨rfl, rfl⟩
  clear hc
  have hc := HA.out p _ L8.out
  go_wp2_with fail
  refine hc.mono ?_
  rintro e w31 ⟨rfl, l⟩
  have L9 := Lib.hid l
  clear hc l L8
  have hc := HB'.out p w31 L9.out
  go_wp2_with fail
  refine hc.mono ?_
  rintro e w32 ⟨rfl, rfl⟩
  clear hc
  have hc := HC.out p _ L9.out
  rw [show ((used n3.seen : Nat) : Int) = 1 from rfl] at hc
  go_wp2_with fail
  refine hc.mono ?_
  rintro e w33 ⟨rfl, rfl⟩
  clear hc
  go_wp2_with fail
  go_ret
  exact ⟨rfl, L9.out.since⟩
end Go.Proofs.Ytiljhnheacppgaa.dk
