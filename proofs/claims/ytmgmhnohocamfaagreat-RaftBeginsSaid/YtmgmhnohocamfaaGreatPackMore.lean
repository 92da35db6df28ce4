/-
  What a reader's Count and Text answer where the number is faulty, or more than the most.
-/
import Derived.Test.YtmgmhnohocamfaaGreatPackMeth
namespace Go.Proofs.YtmgmhnohocamfaaGreat.pk
open Go.RowKit
set_option linter.unusedVariables false

set_option maxHeartbeats 4000000 in
set_option maxRecDepth 100000 in
theorem rcount_bad (b : Nat) (s : ByteArray) (hs : s.size ≤ 281474976710656) (a : Nat) (ha : a ≤ s.size) (m : Int) (hm : m ≤ 9223372036854775807) (w : World) (hR : RD w b s a 0) (D : Nat × Nat × List UInt8) (hD : dec 0 0 (s.extract a s.size).data.toList = D) (hbad : D.1 ≠ 0) :
    Calls Tryz.prog 105 #[.pointer (some ⟨b, 0, none⟩), .int .i64 m] w fun e w' => e = .returned (.int .i64 0) ∧ RD w' b s a D.1 ∧ Touch b w w' := by
  have hmf : ∀ (fn : Fn) (first cap : Array Value) (w : World), (Instr.makeFunc fn first cap).run Tryz.prog w = .ok (.func fn first cap) w := fun _ _ _ _ => rfl
  obtain ⟨hP, hS, hl, hb⟩ := laid w m #[.func (.func 131) #[.pointer (some ⟨w.heap.size, 0, none⟩)] #[], .func (.func 132) #[.pointer (some ⟨w.heap.size, 0, none⟩)] #[]] 159
  have hlt := hR.lt
  have hR2 := hR.of_below hb hlt
  have hread := read_bad1 b w.heap.size (w.heap.size + 1) 2 2 (by omega) (by omega) (by omega) (by omega) s hs a ha m hm _ hR2 hP hl (hS 0) D hD hbad
  have HR := Lib.hid hread
  have HB := Lib.hid hb
  clear hread hP hS hb hR2 hR
  go_enter Tryz.func105, Tryz.ntmps105
  go_wp2_with fail
  refine HR.out.mono ?_
  rintro e w3 ⟨rfl, hR3, hP3, t3⟩
  have tt := touch_of HB.out t3
  obtain ⟨d0, d1, d2, d3, e0, e1, e2, e3⟩ := hP3.cells
  have T3 := Lib.hid t3
  clear t3
  go_wp2
  go_ret
  exact ⟨rfl, hR3, tt⟩

set_option maxHeartbeats 4000000 in
set_option maxRecDepth 100000 in
theorem rcount_long (b : Nat) (s : ByteArray) (hs : s.size ≤ 281474976710656) (a : Nat) (ha : a ≤ s.size) (m : Int) (hm : m ≤ 9223372036854775807) (w : World) (hR : RD w b s a 0) (v : Nat) (r : List UInt8) (hD : dec 0 0 (s.extract a s.size).data.toList = (0, v, r)) (hlong : max m 0 < (v : Int)) :
    Calls Tryz.prog 105 #[.pointer (some ⟨b, 0, none⟩), .int .i64 m] w fun e w' => e = .returned (.int .i64 0) ∧ RD w' b s a 2 ∧ Touch b w w' := by
  have hmf : ∀ (fn : Fn) (first cap : Array Value) (w : World), (Instr.makeFunc fn first cap).run Tryz.prog w = .ok (.func fn first cap) w := fun _ _ _ _ => rfl
  obtain ⟨hP, hS, hl, hb⟩ := laid w m #[.func (.func 131) #[.pointer (some ⟨w.heap.size, 0, none⟩)] #[], .func (.func 132) #[.pointer (some ⟨w.heap.size, 0, none⟩)] #[]] 159
  have hlt := hR.lt
  have hR2 := hR.of_below hb hlt
  have hread := read_bad2 b w.heap.size (w.heap.size + 1) 2 2 (by omega) (by omega) (by omega) (by omega) s hs a ha m hm _ hR2 hP hl (hS 0) (hS 1) v r hD hlong
  have HR := Lib.hid hread
  have HB := Lib.hid hb
  clear hread hP hS hb hR2 hR
  go_enter Tryz.func105, Tryz.ntmps105
  go_wp2_with fail
  refine HR.out.mono ?_
  rintro e w3 ⟨rfl, hR3, hP3, t3⟩
  have tt := touch_of HB.out t3
  obtain ⟨d0, d1, d2, d3, e0, e1, e2, e3⟩ := hP3.cells
  have T3 := Lib.hid t3
  clear t3
  go_wp2
  go_ret
  exact ⟨rfl, hR3, tt⟩

set_option maxHeartbeats 4000000 in
set_option maxRecDepth 100000 in
theorem rcount_faulty (b : Nat) (s : ByteArray) (a f : Int) (hf : (f == 0) = false) (m : Int) (hm : m ≤ 9223372036854775807) (w : World) (hR : RD w b s a f) :
    Calls Tryz.prog 105 #[.pointer (some ⟨b, 0, none⟩), .int .i64 m] w fun e w' => e = .returned (.int .i64 0) ∧ RD w' b s a f ∧ Touch b w w' := by
  have hmf : ∀ (fn : Fn) (first cap : Array Value) (w : World), (Instr.makeFunc fn first cap).run Tryz.prog w = .ok (.func fn first cap) w := fun _ _ _ _ => rfl
  obtain ⟨hP, hS, hl, hb⟩ := laid w m #[.func (.func 131) #[.pointer (some ⟨w.heap.size, 0, none⟩)] #[], .func (.func 132) #[.pointer (some ⟨w.heap.size, 0, none⟩)] #[]] 159
  have hlt := hR.lt
  have hR2 := hR.of_below hb hlt
  have hread := read_faulty b w.heap.size s a f hf (.slice (some ⟨w.heap.size + 1, 0, none⟩) 2 2) _ hR2
  have HR := Lib.hid hread
  have HB := Lib.hid hb
  have HP := Lib.hid hP
  have HR2 := Lib.hid hR2
  clear hread hP hS hb hR2 hR
  go_enter Tryz.func105, Tryz.ntmps105
  go_wp2_with fail
  refine HR.out.mono ?_
  rintro e w3 ⟨rfl, rfl⟩
  go_wp2
  go_ret
  exact ⟨rfl, HR2.out, Touch.of_below HB.out⟩
end Go.Proofs.YtmgmhnohocamfaaGreat.pk
