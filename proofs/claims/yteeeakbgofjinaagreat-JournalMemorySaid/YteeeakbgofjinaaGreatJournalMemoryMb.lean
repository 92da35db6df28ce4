/-
  What the law's walk stands on, part 2 of 6: the texts PackMeth, PackMore, PackRead1, Rw, By, JrRd1, JrBu, JrSize, PackNums, PackBackWalk, PackRef, JrW1, JrW2, JrW3, JrRefAt, JrRefRd, JrRefRf, JrW4, JrW5, JrRd2, one behind the other.
-/
import Derived.Deep.QuietTactic
import Derived.BigQuiet
import Derived.Deep.OwnRows
import Derived.Deep.CutRange
import Derived.Laws.OwnMore
import Derived.Laws.Rows
import Derived.Maps.AppendAt
import Derived.Laws.CopyRow
import Derived.Laws.Append
import Derived.Laws.BytesArg
import Derived.Lib.AppendStr
import Derived.Lib.ConvBytes
import Derived.Lib.Builder
import Derived.Lib.UnsafeStr
import Derived.Laws.Externs
import Derived.Lib.Walk
import Derived.BigRegion
import Derived.Deep.RegionHeld3
import Derived.Deep.RegionWith
import Derived.IntWalk
import Derived.Laws.EntriesVeiled
import Derived.Deep.WholeRow
import Derived.Shelf.Abstract
import Derived.Test.YteeeakbgofjinaaGreatJournalMemoryMa
/-! PackMeth -/
namespace Go.Proofs.YteeeakbgofjinaaGreat.pk
open Go.RowKit
set_option linter.unusedVariables false

/-- A piece and its row of steps, newly laid. -/
theorem laid (w : World) (m : Int) (fs : Array Value) (T : TypeId) :
    PS ((w.alloc (.cells #[.string ⟨#[]⟩, .int .i64 m, .int .u64 0, .string ⟨#[]⟩] 214)).alloc (.cells fs T)) w.heap.size ⟨#[]⟩ m 0 ⟨#[]⟩ ∧
    (∀ j, ((w.alloc (.cells #[.string ⟨#[]⟩, .int .i64 m, .int .u64 0, .string ⟨#[]⟩] 214)).alloc (.cells fs T)).cell? ⟨w.heap.size + 1, j, none⟩ = fs[j]?) ∧
    w.heap.size + 1 < ((w.alloc (.cells #[.string ⟨#[]⟩, .int .i64 m, .int .u64 0, .string ⟨#[]⟩] 214)).alloc (.cells fs T)).heap.size ∧
    Below w.heap.size w ((w.alloc (.cells #[.string ⟨#[]⟩, .int .i64 m, .int .u64 0, .string ⟨#[]⟩] 214)).alloc (.cells fs T)) := by
  refine ⟨?_, ?_, by simp, ((Below.refl _ w).alloc (Nat.le_refl _) _).alloc (by simp) _⟩
  · unfold PS
    rw [Below.heap_alloc _ _ _ (by simp)]
    exact heap_alloc_new w _
  · intro j
    have h := heap_alloc_new (w.alloc (.cells #[.string ⟨#[]⟩, .int .i64 m, .int .u64 0, .string ⟨#[]⟩] 214)) (.cells fs T)
    have e : (w.alloc (.cells #[.string ⟨#[]⟩, .int .i64 m, .int .u64 0, .string ⟨#[]⟩] 214)).heap.size = w.heap.size + 1 := by simp
    rw [e] at h
    exact cell_at h j

theorem touch_of {b : Nat} {w w2 w3 : World} (h : Below w.heap.size w w2) (t : Touch2 b w.heap.size w2 w3) : Touch b w w3 :=
  ⟨t.os.trans h.os, t.tape.trans h.tape, t.output.trans h.output, Nat.le_trans h.size t.size, fun k hk hb => (t.block k (Nat.lt_of_lt_of_le hk h.size) hb (by omega)).trans (h.block k hk)⟩

set_option maxHeartbeats 4000000 in
set_option maxRecDepth 100000 in
theorem rnum_ok (b : Nat) (s : ByteArray) (hs : s.size ≤ 281474976710656) (a : Nat) (ha : a ≤ s.size) (w : World) (hR : RD w b s a 0) (v : Nat) (r : List UInt8) (hD : dec 0 0 (s.extract a s.size).data.toList = (0, v, r)) (hr : r.length ≤ s.size) :
    Calls Tryz.prog 158 #[.pointer (some ⟨b, 0, none⟩)] w fun e w' => e = .returned (.int .u64 v) ∧ RD w' b s (s.size - r.length : Nat) 0 ∧ Touch b w w' := by
  have hmf : ∀ (fn : Fn) (first cap : Array Value) (w : World), (Instr.makeFunc fn first cap).run Tryz.prog w = .ok (.func fn first cap) w := fun _ _ _ _ => rfl
  obtain ⟨hP, hS, hl, hb⟩ := laid w 0 #[.func (.func 154) #[.pointer (some ⟨w.heap.size, 0, none⟩)] #[]] 59
  have hlt := hR.lt
  have hR2 := hR.of_below hb hlt
  have hread := read_ok1 b w.heap.size (w.heap.size + 1) 1 (by omega) (by omega) (by omega) s hs a ha 0 (by omega) _ hR2 hP hl (hS 0) v r hD hr
  have HR := Lib.hid hread
  have HB := Lib.hid hb
  clear hread hP hS hb hR2 hR
  go_enter Tryz.func158, Tryz.ntmps158
  go_wp2_with fail
  refine HR.out.mono ?_
  rintro e w3 ⟨rfl, hR3, hP3, t3⟩
  have tt := touch_of HB.out t3
  obtain ⟨d0, d1, d2, d3, e0, e1, e2, e3⟩ := hP3.cells
  have T3 := Lib.hid t3
  clear t3
  go_wp2
  go_ret
  exact ⟨rfl, hR3, tt⟩

set_option maxHeartbeats 4000000 in
set_option maxRecDepth 100000 in
theorem rnum_bad (b : Nat) (s : ByteArray) (hs : s.size ≤ 281474976710656) (a : Nat) (ha : a ≤ s.size) (w : World) (hR : RD w b s a 0) (D : Nat × Nat × List UInt8) (hD : dec 0 0 (s.extract a s.size).data.toList = D) (hbad : D.1 ≠ 0) :
    Calls Tryz.prog 158 #[.pointer (some ⟨b, 0, none⟩)] w fun e w' => e = .returned (.int .u64 0) ∧ RD w' b s a D.1 ∧ Touch b w w' := by
  have hmf : ∀ (fn : Fn) (first cap : Array Value) (w : World), (Instr.makeFunc fn first cap).run Tryz.prog w = .ok (.func fn first cap) w := fun _ _ _ _ => rfl
  obtain ⟨hP, hS, hl, hb⟩ := laid w 0 #[.func (.func 154) #[.pointer (some ⟨w.heap.size, 0, none⟩)] #[]] 59
  have hlt := hR.lt
  have hR2 := hR.of_below hb hlt
  have hread := read_bad1 b w.heap.size (w.heap.size + 1) 1 1 (by omega) (by omega) (by omega) (by omega) s hs a ha 0 (by omega) _ hR2 hP hl (hS 0) D hD hbad
  have HR := Lib.hid hread
  have HB := Lib.hid hb
  clear hread hP hS hb hR2 hR
  go_enter Tryz.func158, Tryz.ntmps158
  go_wp2_with fail
  refine HR.out.mono ?_
  rintro e w3 ⟨rfl, hR3, hP3, t3⟩
  have tt := touch_of HB.out t3
  obtain ⟨d0, d1, d2, d3, e0, e1, e2, e3⟩ := hP3.cells
  have T3 := Lib.hid t3
  clear t3
  go_wp2
  go_ret
  exact ⟨rfl, hR3, tt⟩

set_option maxHeartbeats 4000000 in
set_option maxRecDepth 100000 in
theorem rcount_ok (b : Nat) (s : ByteArray) (hs : s.size ≤ 281474976710656) (a : Nat) (ha : a ≤ s.size) (m : Int) (hm : m ≤ 9223372036854775807) (w : World) (hR : RD w b s a 0) (v : Nat) (r : List UInt8) (hD : dec 0 0 (s.extract a s.size).data.toList = (0, v, r)) (hr : r.length ≤ s.size) (hfit : (v : Int) ≤ max m 0) :
    Calls Tryz.prog 135 #[.pointer (some ⟨b, 0, none⟩), .int .i64 m] w fun e w' => e = .returned (.int .i64 v) ∧ RD w' b s (s.size - r.length : Nat) 0 ∧ Touch b w w' := by
  have hmf : ∀ (fn : Fn) (first cap : Array Value) (w : World), (Instr.makeFunc fn first cap).run Tryz.prog w = .ok (.func fn first cap) w := fun _ _ _ _ => rfl
  obtain ⟨hP, hS, hl, hb⟩ := laid w m #[.func (.func 154) #[.pointer (some ⟨w.heap.size, 0, none⟩)] #[], .func (.func 155) #[.pointer (some ⟨w.heap.size, 0, none⟩)] #[]] 59
  have hlt := hR.lt
  have hR2 := hR.of_below hb hlt
  have hv64 : v ≤ 9223372036854775807 := by omega
  have hread := read_ok2 b w.heap.size (w.heap.size + 1) 2 (by omega) (by omega) (by omega) s hs a ha m hm _ hR2 hP hl (hS 0) (hS 1) v r hD hr hfit
  have HR := Lib.hid hread
  have HB := Lib.hid hb
  clear hread hP hS hb hR2 hR
  go_enter Tryz.func135, Tryz.ntmps135
  go_wp2_with fail
  refine HR.out.mono ?_
  rintro e w3 ⟨rfl, hR3, hP3, t3⟩
  have tt := touch_of HB.out t3
  obtain ⟨d0, d1, d2, d3, e0, e1, e2, e3⟩ := hP3.cells
  have T3 := Lib.hid t3
  clear t3
  go_wp2
  go_ret
  exact ⟨rfl, hR3, tt⟩

set_option maxHeartbeats 4000000 in
set_option maxRecDepth 100000 in
theorem rtext_ok (b : Nat) (s : ByteArray) (hs : s.size ≤ 281474976710656) (a : Nat) (ha : a ≤ s.size) (m : Int) (hm : m ≤ 9223372036854775807) (w : World) (hR : RD w b s a 0) (v : Nat) (r : List UInt8) (hD : dec 0 0 (s.extract a s.size).data.toList = (0, v, r)) (hr : r.length ≤ s.size) (hfit : (v : Int) ≤ max m 0) (hlong : v ≤ r.length) :
    Calls Tryz.prog 160 #[.pointer (some ⟨b, 0, none⟩), .int .i64 m] w fun e w' => e = .returned (.string ((S r).extract 0 v)) ∧ RD w' b s (s.size - (r.length - v) : Nat) 0 ∧ Touch b w w' := by
  have hmf : ∀ (fn : Fn) (first cap : Array Value) (w : World), (Instr.makeFunc fn first cap).run Tryz.prog w = .ok (.func fn first cap) w := fun _ _ _ _ => rfl
  obtain ⟨hP, hS, hl, hb⟩ := laid w m #[.func (.func 154) #[.pointer (some ⟨w.heap.size, 0, none⟩)] #[], .func (.func 155) #[.pointer (some ⟨w.heap.size, 0, none⟩)] #[], .func (.func 163) #[.pointer (some ⟨w.heap.size, 0, none⟩)] #[]] 59
  have hlt := hR.lt
  have hR2 := hR.of_below hb hlt
  have hread := read_ok3 b w.heap.size (w.heap.size + 1) 3 (by omega) (by omega) (by omega) s hs a ha m hm _ hR2 hP hl (hS 0) (hS 1) (hS 2) v r hD hr hfit hlong
  have HR := Lib.hid hread
  have HB := Lib.hid hb
  clear hread hP hS hb hR2 hR
  go_enter Tryz.func160, Tryz.ntmps160
  go_wp2_with fail
  refine HR.out.mono ?_
  rintro e w3 ⟨rfl, hR3, hP3, t3⟩
  have tt := touch_of HB.out t3
  obtain ⟨d0, d1, d2, d3, e0, e1, e2, e3⟩ := hP3.cells
  have T3 := Lib.hid t3
  clear t3
  go_wp2
  go_ret
  exact ⟨rfl, hR3, tt⟩

set_option maxHeartbeats 4000000 in
set_option maxRecDepth 100000 in
theorem rtext_bad1 (b : Nat) (s : ByteArray) (hs : s.size ≤ 281474976710656) (a : Nat) (ha : a ≤ s.size) (m : Int) (hm : m ≤ 9223372036854775807) (w : World) (hR : RD w b s a 0) (D : Nat × Nat × List UInt8) (hD : dec 0 0 (s.extract a s.size).data.toList = D) (hbad : D.1 ≠ 0) :
    Calls Tryz.prog 160 #[.pointer (some ⟨b, 0, none⟩), .int .i64 m] w fun e w' => e = .returned (.string ⟨#[]⟩) ∧ RD w' b s a D.1 ∧ Touch b w w' := by
  have hmf : ∀ (fn : Fn) (first cap : Array Value) (w : World), (Instr.makeFunc fn first cap).run Tryz.prog w = .ok (.func fn first cap) w := fun _ _ _ _ => rfl
  obtain ⟨hP, hS, hl, hb⟩ := laid w m #[.func (.func 154) #[.pointer (some ⟨w.heap.size, 0, none⟩)] #[], .func (.func 155) #[.pointer (some ⟨w.heap.size, 0, none⟩)] #[], .func (.func 163) #[.pointer (some ⟨w.heap.size, 0, none⟩)] #[]] 59
  have hlt := hR.lt
  have hR2 := hR.of_below hb hlt
  have hread := read_bad1 b w.heap.size (w.heap.size + 1) 3 3 (by omega) (by omega) (by omega) (by omega) s hs a ha m hm _ hR2 hP hl (hS 0) D hD hbad
  have HR := Lib.hid hread
  have HB := Lib.hid hb
  clear hread hP hS hb hR2 hR
  go_enter Tryz.func160, Tryz.ntmps160
  go_wp2_with fail
  refine HR.out.mono ?_
  rintro e w3 ⟨rfl, hR3, hP3, t3⟩
  have tt := touch_of HB.out t3
  obtain ⟨d0, d1, d2, d3, e0, e1, e2, e3⟩ := hP3.cells
  have T3 := Lib.hid t3
  clear t3
  go_wp2
  go_ret
  exact ⟨rfl, hR3, tt⟩

set_option maxHeartbeats 4000000 in
set_option maxRecDepth 100000 in
theorem rtext_bad3 (b : Nat) (s : ByteArray) (hs : s.size ≤ 281474976710656) (a : Nat) (ha : a ≤ s.size) (m : Int) (hm : m ≤ 9223372036854775807) (w : World) (hR : RD w b s a 0) (v : Nat) (r : List UInt8) (hD : dec 0 0 (s.extract a s.size).data.toList = (0, v, r)) (hr : r.length ≤ s.size) (hfit : (v : Int) ≤ max m 0) (hshort : r.length < v) :
    Calls Tryz.prog 160 #[.pointer (some ⟨b, 0, none⟩), .int .i64 m] w fun e w' => e = .returned (.string ⟨#[]⟩) ∧ RD w' b s a 3 ∧ Touch b w w' := by
  have hmf : ∀ (fn : Fn) (first cap : Array Value) (w : World), (Instr.makeFunc fn first cap).run Tryz.prog w = .ok (.func fn first cap) w := fun _ _ _ _ => rfl
  obtain ⟨hP, hS, hl, hb⟩ := laid w m #[.func (.func 154) #[.pointer (some ⟨w.heap.size, 0, none⟩)] #[], .func (.func 155) #[.pointer (some ⟨w.heap.size, 0, none⟩)] #[], .func (.func 163) #[.pointer (some ⟨w.heap.size, 0, none⟩)] #[]] 59
  have hlt := hR.lt
  have hR2 := hR.of_below hb hlt
  have hread := read_bad3 b w.heap.size (w.heap.size + 1) 3 (by omega) (by omega) (by omega) s hs a ha m hm _ hR2 hP hl (hS 0) (hS 1) (hS 2) v r hD hr hfit hshort
  have HR := Lib.hid hread
  have HB := Lib.hid hb
  clear hread hP hS hb hR2 hR
  go_enter Tryz.func160, Tryz.ntmps160
  go_wp2_with fail
  refine HR.out.mono ?_
  rintro e w3 ⟨rfl, hR3, hP3, t3⟩
  have tt := touch_of HB.out t3
  obtain ⟨d0, d1, d2, d3, e0, e1, e2, e3⟩ := hP3.cells
  have T3 := Lib.hid t3
  clear t3
  go_wp2
  go_ret
  exact ⟨rfl, hR3, tt⟩

set_option maxHeartbeats 4000000 in
set_option maxRecDepth 100000 in
theorem rnum_faulty (b : Nat) (s : ByteArray) (a f : Int) (hf : (f == 0) = false) (w : World) (hR : RD w b s a f) :
    Calls Tryz.prog 158 #[.pointer (some ⟨b, 0, none⟩)] w fun e w' => e = .returned (.int .u64 0) ∧ RD w' b s a f ∧ Touch b w w' := by
  have hmf : ∀ (fn : Fn) (first cap : Array Value) (w : World), (Instr.makeFunc fn first cap).run Tryz.prog w = .ok (.func fn first cap) w := fun _ _ _ _ => rfl
  obtain ⟨hP, hS, hl, hb⟩ := laid w 0 #[.func (.func 154) #[.pointer (some ⟨w.heap.size, 0, none⟩)] #[]] 59
  have hlt := hR.lt
  have hR2 := hR.of_below hb hlt
  have hread := read_faulty b w.heap.size s a f hf (.slice (some ⟨w.heap.size + 1, 0, none⟩) 1 1) _ hR2
  have HR := Lib.hid hread
  have HB := Lib.hid hb
  have HP := Lib.hid hP
  have HR2 := Lib.hid hR2
  clear hread hP hS hb hR2 hR
  go_enter Tryz.func158, Tryz.ntmps158
  go_wp2_with fail
  refine HR.out.mono ?_
  rintro e w3 ⟨rfl, rfl⟩
  go_wp2
  go_ret
  exact ⟨rfl, HR2.out, Touch.of_below HB.out⟩

set_option maxHeartbeats 4000000 in
set_option maxRecDepth 100000 in
theorem rtext_faulty (b : Nat) (s : ByteArray) (a f : Int) (hf : (f == 0) = false) (m : Int) (hm : m ≤ 9223372036854775807) (w : World) (hR : RD w b s a f) :
    Calls Tryz.prog 160 #[.pointer (some ⟨b, 0, none⟩), .int .i64 m] w fun e w' => e = .returned (.string ⟨#[]⟩) ∧ RD w' b s a f ∧ Touch b w w' := by
  have hmf : ∀ (fn : Fn) (first cap : Array Value) (w : World), (Instr.makeFunc fn first cap).run Tryz.prog w = .ok (.func fn first cap) w := fun _ _ _ _ => rfl
  obtain ⟨hP, hS, hl, hb⟩ := laid w m #[.func (.func 154) #[.pointer (some ⟨w.heap.size, 0, none⟩)] #[], .func (.func 155) #[.pointer (some ⟨w.heap.size, 0, none⟩)] #[], .func (.func 163) #[.pointer (some ⟨w.heap.size, 0, none⟩)] #[]] 59
  have hlt := hR.lt
  have hR2 := hR.of_below hb hlt
  have hread := read_faulty b w.heap.size s a f hf (.slice (some ⟨w.heap.size + 1, 0, none⟩) 3 3) _ hR2
  have HR := Lib.hid hread
  have HB := Lib.hid hb
  have HP := Lib.hid hP
  have HR2 := Lib.hid hR2
  clear hread hP hS hb hR2 hR
  go_enter Tryz.func160, Tryz.ntmps160
  go_wp2_with fail
  refine HR.out.mono ?_
  rintro e w3 ⟨rfl, rfl⟩
  go_wp2
  go_ret
  exact ⟨rfl, HR2.out, Touch.of_below HB.out⟩

set_option maxHeartbeats 4000000 in
set_option maxRecDepth 100000 in
theorem rnum_nil (w : World) :
    Calls Tryz.prog 158 #[.pointer none] w fun e w' => e = .returned (.int .u64 0) ∧ Below w.heap.size w w' := by
  have hmf : ∀ (fn : Fn) (first cap : Array Value) (w : World), (Instr.makeFunc fn first cap).run Tryz.prog w = .ok (.func fn first cap) w := fun _ _ _ _ => rfl
  have hb : Below w.heap.size w ((w.alloc (.cells #[.string ⟨#[]⟩, .int .i64 0, .int .u64 0, .string ⟨#[]⟩] 214)).alloc (.cells #[.func (.func 154) #[.pointer (some ⟨w.heap.size, 0, none⟩)] #[]] 59)) := ((Below.refl _ w).alloc (Nat.le_refl _) _).alloc (by simp) _
  have HB := Lib.hid hb
  clear hb
  go_enter Tryz.func158, Tryz.ntmps158
  go_wp2_with fail
  refine (read_nil w.heap.size (.slice (some ⟨w.heap.size + 1, 0, none⟩) 1 1) _).mono ?_
  rintro e w3 ⟨rfl, rfl⟩
  go_wp2
  go_ret
  exact ⟨rfl, HB.out⟩

set_option maxHeartbeats 4000000 in
set_option maxRecDepth 100000 in
theorem rtext_nil (m : Int) (w : World) :
    Calls Tryz.prog 160 #[.pointer none, .int .i64 m] w fun e w' => e = .returned (.string ⟨#[]⟩) ∧ Below w.heap.size w w' := by
  have hmf : ∀ (fn : Fn) (first cap : Array Value) (w : World), (Instr.makeFunc fn first cap).run Tryz.prog w = .ok (.func fn first cap) w := fun _ _ _ _ => rfl
  have hb : Below w.heap.size w ((w.alloc (.cells #[.string ⟨#[]⟩, .int .i64 m, .int .u64 0, .string ⟨#[]⟩] 214)).alloc (.cells #[.func (.func 154) #[.pointer (some ⟨w.heap.size, 0, none⟩)] #[], .func (.func 155) #[.pointer (some ⟨w.heap.size, 0, none⟩)] #[], .func (.func 163) #[.pointer (some ⟨w.heap.size, 0, none⟩)] #[]] 59)) := ((Below.refl _ w).alloc (Nat.le_refl _) _).alloc (by simp) _
  have HB := Lib.hid hb
  clear hb
  go_enter Tryz.func160, Tryz.ntmps160
  go_wp2_with fail
  refine (read_nil w.heap.size (.slice (some ⟨w.heap.size + 1, 0, none⟩) 3 3) _).mono ?_
  rintro e w3 ⟨rfl, rfl⟩
  go_wp2
  go_ret
  exact ⟨rfl, HB.out⟩

set_option maxHeartbeats 4000000 in
set_option maxRecDepth 100000 in
theorem rcount_nil (m : Int) (w : World) :
    Calls Tryz.prog 135 #[.pointer none, .int .i64 m] w fun e w' => e = .returned (.int .i64 0) ∧ Below w.heap.size w w' := by
  have hmf : ∀ (fn : Fn) (first cap : Array Value) (w : World), (Instr.makeFunc fn first cap).run Tryz.prog w = .ok (.func fn first cap) w := fun _ _ _ _ => rfl
  have hb : Below w.heap.size w ((w.alloc (.cells #[.string ⟨#[]⟩, .int .i64 m, .int .u64 0, .string ⟨#[]⟩] 214)).alloc (.cells #[.func (.func 154) #[.pointer (some ⟨w.heap.size, 0, none⟩)] #[], .func (.func 155) #[.pointer (some ⟨w.heap.size, 0, none⟩)] #[]] 59)) := ((Below.refl _ w).alloc (Nat.le_refl _) _).alloc (by simp) _
  have HB := Lib.hid hb
  clear hb
  go_enter Tryz.func135, Tryz.ntmps135
  go_wp2_with fail
  refine (read_nil w.heap.size (.slice (some ⟨w.heap.size + 1, 0, none⟩) 2 2) _).mono ?_
  rintro e w3 ⟨rfl, rfl⟩
  go_wp2
  go_ret
  exact ⟨rfl, HB.out⟩

end Go.Proofs.YteeeakbgofjinaaGreat.pk
/-! PackMore -/
namespace Go.Proofs.YteeeakbgofjinaaGreat.pk
open Go.RowKit
set_option linter.unusedVariables false

set_option maxHeartbeats 4000000 in
set_option maxRecDepth 100000 in
theorem rcount_bad (b : Nat) (s : ByteArray) (hs : s.size ≤ 281474976710656) (a : Nat) (ha : a ≤ s.size) (m : Int) (hm : m ≤ 9223372036854775807) (w : World) (hR : RD w b s a 0) (D : Nat × Nat × List UInt8) (hD : dec 0 0 (s.extract a s.size).data.toList = D) (hbad : D.1 ≠ 0) :
    Calls Tryz.prog 135 #[.pointer (some ⟨b, 0, none⟩), .int .i64 m] w fun e w' => e = .returned (.int .i64 0) ∧ RD w' b s a D.1 ∧ Touch b w w' := by
  have hmf : ∀ (fn : Fn) (first cap : Array Value) (w : World), (Instr.makeFunc fn first cap).run Tryz.prog w = .ok (.func fn first cap) w := fun _ _ _ _ => rfl
  obtain ⟨hP, hS, hl, hb⟩ := laid w m #[.func (.func 154) #[.pointer (some ⟨w.heap.size, 0, none⟩)] #[], .func (.func 155) #[.pointer (some ⟨w.heap.size, 0, none⟩)] #[]] 59
  have hlt := hR.lt
  have hR2 := hR.of_below hb hlt
  have hread := read_bad1 b w.heap.size (w.heap.size + 1) 2 2 (by omega) (by omega) (by omega) (by omega) s hs a ha m hm _ hR2 hP hl (hS 0) D hD hbad
  have HR := Lib.hid hread
  have HB := Lib.hid hb
  clear hread hP hS hb hR2 hR
  go_enter Tryz.func135, Tryz.ntmps135
  go_wp2_with fail
  refine HR.out.mono ?_
  rintro e w3 ⟨rfl, hR3, hP3, t3⟩
  have tt := touch_of HB.out t3
  obtain ⟨d0, d1, d2, d3, e0, e1, e2, e3⟩ := hP3.cells
  have T3 := Lib.hid t3
  clear t3
  go_wp2
  go_ret
  exact ⟨rfl, hR3, tt⟩

set_option maxHeartbeats 4000000 in
set_option maxRecDepth 100000 in
theorem rcount_long (b : Nat) (s : ByteArray) (hs : s.size ≤ 281474976710656) (a : Nat) (ha : a ≤ s.size) (m : Int) (hm : m ≤ 9223372036854775807) (w : World) (hR : RD w b s a 0) (v : Nat) (r : List UInt8) (hD : dec 0 0 (s.extract a s.size).data.toList = (0, v, r)) (hlong : max m 0 < (v : Int)) :
    Calls Tryz.prog 135 #[.pointer (some ⟨b, 0, none⟩), .int .i64 m] w fun e w' => e = .returned (.int .i64 0) ∧ RD w' b s a 2 ∧ Touch b w w' := by
  have hmf : ∀ (fn : Fn) (first cap : Array Value) (w : World), (Instr.makeFunc fn first cap).run Tryz.prog w = .ok (.func fn first cap) w := fun _ _ _ _ => rfl
  obtain ⟨hP, hS, hl, hb⟩ := laid w m #[.func (.func 154) #[.pointer (some ⟨w.heap.size, 0, none⟩)] #[], .func (.func 155) #[.pointer (some ⟨w.heap.size, 0, none⟩)] #[]] 59
  have hlt := hR.lt
  have hR2 := hR.of_below hb hlt
  have hread := read_bad2 b w.heap.size (w.heap.size + 1) 2 2 (by omega) (by omega) (by omega) (by omega) s hs a ha m hm _ hR2 hP hl (hS 0) (hS 1) v r hD hlong
  have HR := Lib.hid hread
  have HB := Lib.hid hb
  clear hread hP hS hb hR2 hR
  go_enter Tryz.func135, Tryz.ntmps135
  go_wp2_with fail
  refine HR.out.mono ?_
  rintro e w3 ⟨rfl, hR3, hP3, t3⟩
  have tt := touch_of HB.out t3
  obtain ⟨d0, d1, d2, d3, e0, e1, e2, e3⟩ := hP3.cells
  have T3 := Lib.hid t3
  clear t3
  go_wp2
  go_ret
  exact ⟨rfl, hR3, tt⟩

set_option maxHeartbeats 4000000 in
set_option maxRecDepth 100000 in
theorem rtext_long (b : Nat) (s : ByteArray) (hs : s.size ≤ 281474976710656) (a : Nat) (ha : a ≤ s.size) (m : Int) (hm : m ≤ 9223372036854775807) (w : World) (hR : RD w b s a 0) (v : Nat) (r : List UInt8) (hD : dec 0 0 (s.extract a s.size).data.toList = (0, v, r)) (hlong : max m 0 < (v : Int)) :
    Calls Tryz.prog 160 #[.pointer (some ⟨b, 0, none⟩), .int .i64 m] w fun e w' => e = .returned (.string ⟨#[]⟩) ∧ RD w' b s a 2 ∧ Touch b w w' := by
  have hmf : ∀ (fn : Fn) (first cap : Array Value) (w : World), (Instr.makeFunc fn first cap).run Tryz.prog w = .ok (.func fn first cap) w := fun _ _ _ _ => rfl
  obtain ⟨hP, hS, hl, hb⟩ := laid w m #[.func (.func 154) #[.pointer (some ⟨w.heap.size, 0, none⟩)] #[], .func (.func 155) #[.pointer (some ⟨w.heap.size, 0, none⟩)] #[], .func (.func 163) #[.pointer (some ⟨w.heap.size, 0, none⟩)] #[]] 59
  have hlt := hR.lt
  have hR2 := hR.of_below hb hlt
  have hread := read_bad2 b w.heap.size (w.heap.size + 1) 3 3 (by omega) (by omega) (by omega) (by omega) s hs a ha m hm _ hR2 hP hl (hS 0) (hS 1) v r hD hlong
  have HR := Lib.hid hread
  have HB := Lib.hid hb
  clear hread hP hS hb hR2 hR
  go_enter Tryz.func160, Tryz.ntmps160
  go_wp2_with fail
  refine HR.out.mono ?_
  rintro e w3 ⟨rfl, hR3, hP3, t3⟩
  have tt := touch_of HB.out t3
  obtain ⟨d0, d1, d2, d3, e0, e1, e2, e3⟩ := hP3.cells
  have T3 := Lib.hid t3
  clear t3
  go_wp2
  go_ret
  exact ⟨rfl, hR3, tt⟩

set_option maxHeartbeats 4000000 in
set_option maxRecDepth 100000 in
theorem rcount_faulty (b : Nat) (s : ByteArray) (a f : Int) (hf : (f == 0) = false) (m : Int) (hm : m ≤ 9223372036854775807) (w : World) (hR : RD w b s a f) :
    Calls Tryz.prog 135 #[.pointer (some ⟨b, 0, none⟩), .int .i64 m] w fun e w' => e = .returned (.int .i64 0) ∧ RD w' b s a f ∧ Touch b w w' := by
  have hmf : ∀ (fn : Fn) (first cap : Array Value) (w : World), (Instr.makeFunc fn first cap).run Tryz.prog w = .ok (.func fn first cap) w := fun _ _ _ _ => rfl
  obtain ⟨hP, hS, hl, hb⟩ := laid w m #[.func (.func 154) #[.pointer (some ⟨w.heap.size, 0, none⟩)] #[], .func (.func 155) #[.pointer (some ⟨w.heap.size, 0, none⟩)] #[]] 59
  have hlt := hR.lt
  have hR2 := hR.of_below hb hlt
  have hread := read_faulty b w.heap.size s a f hf (.slice (some ⟨w.heap.size + 1, 0, none⟩) 2 2) _ hR2
  have HR := Lib.hid hread
  have HB := Lib.hid hb
  have HP := Lib.hid hP
  have HR2 := Lib.hid hR2
  clear hread hP hS hb hR2 hR
  go_enter Tryz.func135, Tryz.ntmps135
  go_wp2_with fail
  refine HR.out.mono ?_
  rintro e w3 ⟨rfl, rfl⟩
  go_wp2
  go_ret
  exact ⟨rfl, HR2.out, Touch.of_below HB.out⟩
end Go.Proofs.YteeeakbgofjinaaGreat.pk
/-! PackRead1 -/
namespace Go.Proofs.YteeeakbgofjinaaGreat.pk
open Go.RowKit

set_option maxRecDepth 100000 in
theorem open_any (s : ByteArray) (w : World) :
    Calls Tryz.prog 134 #[.string s] w fun e w' => e = .returned (.pointer (some ⟨w.heap.size, 0, none⟩)) ∧ w' = w.alloc (.cells #[.string s, .int .i64 0, .int .i64 0] 212) := by
  go_enter Tryz.func134, Tryz.ntmps134
  go_wp2
  go_ret
  exact ⟨rfl, rfl⟩

set_option maxRecDepth 100000 in
theorem left_nil (w : World) :
    Calls Tryz.prog 156 #[.pointer none] w fun e w' => e = .returned (.int .i64 0) ∧ w' = w := by
  go_enter Tryz.func156, Tryz.ntmps156
  go_wp2
  go_ret
  exact ⟨rfl, rfl⟩

set_option maxRecDepth 100000 in
theorem left_any (b : Nat) (s : ByteArray) (a : Nat) (f : Int) (w : World) (hR : RD w b s a f) (ha : a ≤ s.size) (hs : s.size ≤ 9223372036854775807) :
    Calls Tryz.prog 156 #[.pointer (some ⟨b, 0, none⟩)] w fun e w' => ∃ q, e = .returned (.int .i64 (s.size - a : Nat)) ∧ w' = w.drewN q := by
  obtain ⟨c0, c1, c2, _⟩ := hR.cells
  have hw : IntKind.i64.wrap ((s.size : Int) - (a : Int)) = ((s.size - a : Nat) : Int) := by
    rw [IntWalk.i64_in _ (by omega)]; omega
  go_enter Tryz.func156, Tryz.ntmps156
  go_wp2
  go_quiet (fail)
  go_wp2
  go_ret
  exact ⟨_, by simp, rfl⟩

set_option maxRecDepth 100000 in
theorem end_nil (w : World) :
    Calls Tryz.prog 136 #[.pointer none] w fun e w' => e = .returned (.int .i64 1) ∧ w' = w := by
  go_enter Tryz.func136, Tryz.ntmps136
  go_wp2
  go_ret
  exact ⟨rfl, rfl⟩

set_option maxRecDepth 100000 in
theorem end_bad (b : Nat) (s : ByteArray) (a f : Int) (hf : (f == 0) = false) (w : World) (hR : RD w b s a f) :
    Calls Tryz.prog 136 #[.pointer (some ⟨b, 0, none⟩)] w fun e w' => e = .returned (.int .i64 f) ∧ w' = w := by
  obtain ⟨c0, c1, c2, _⟩ := hR.cells
  go_enter Tryz.func136, Tryz.ntmps136
  go_wp2
  go_ret
  exact ⟨rfl, rfl⟩

set_option maxRecDepth 100000 in
theorem end_rest (b : Nat) (s : ByteArray) (a : Nat) (w : World) (hR : RD w b s a 0) (ha : a < s.size) (hs : s.size ≤ 9223372036854775807) :
    Calls Tryz.prog 136 #[.pointer (some ⟨b, 0, none⟩)] w fun e w' => e = .returned (.int .i64 9) ∧ RD w' b s a 9 ∧ Only b w w' := by
  obtain ⟨c0, c1, c2, f0, f1, f2⟩ := hR.cells
  go_enter Tryz.func136, Tryz.ntmps136
  go_wp2_with (go_at_call 156; refine (left_any b s a 0 w hR (by omega) hs).mono ?_; rintro e w' ⟨q, rfl, rfl⟩)
  go_ret
  exact ⟨rfl, (hR.drewN _).set2 9, ((Only.refl b w).drewN _).setCell 2 _⟩

set_option maxRecDepth 100000 in
theorem end_ok (b : Nat) (s : ByteArray) (w : World) (hR : RD w b s s.size 0) (hs : s.size ≤ 9223372036854775807) :
    Calls Tryz.prog 136 #[.pointer (some ⟨b, 0, none⟩)] w fun e w' => e = .returned (.int .i64 0) ∧ RD w' b s s.size 0 ∧ Only b w w' := by
  obtain ⟨c0, c1, c2, f0, f1, f2⟩ := hR.cells
  go_enter Tryz.func136, Tryz.ntmps136
  go_wp2_with (go_at_call 156; refine (left_any b s s.size 0 w hR (by omega) hs).mono ?_; rintro e w' ⟨q, rfl, rfl⟩)
  go_ret
  exact ⟨rfl, hR.drewN _, (Only.refl b w).drewN _⟩
end Go.Proofs.YteeeakbgofjinaaGreat.pk
/-! Rw -/
namespace Go.Proofs.YteeeakbgofjinaaGreat.rw
set_option linter.unusedVariables false
open Go.RowKit

theorem addr_add (b off j : Nat) : (⟨b, off, none⟩ : Addr).add j = ⟨b, off + j, none⟩ := by unfold Addr.add; split <;> simp_all
theorem below_drew {B : Nat} {a w : World} (h : Below B a w) : Below B a w.drew := ⟨h.os, h.tape, h.output, h.size, h.block⟩
theorem below_drewN {B : Nat} {a w : World} (h : Below B a w) (n : Nat) : Below B a (w.drewN n) := ⟨h.os, h.tape, h.output, h.size, h.block⟩
theorem below_box (w : World) (o : Obj) : Below w.heap.size w (w.alloc o) := (Below.refl _ w).alloc (Nat.le_refl _) _
theorem bnext {w w1 w2 : World} (h : Below w.heap.size w w1) (k : Below w1.heap.size w1 w2) : Below w.heap.size w w2 := h.trans (k.mono h.size)
theorem size_1 (w : World) (o : Obj) : (w.alloc o).heap.size = w.heap.size + 1 := by simp

/-- A block's cells. -/
def Arr (w : World) (b : Nat) (t : TypeId) (cs : Array Value) : Prop := w.heap[b]? = some (.cells cs t (0, 0))
theorem Arr.lt {w : World} {b : Nat} {t : TypeId} {cs : Array Value} (h : Arr w b t cs) : b < w.heap.size := (Array.getElem?_eq_some_iff.1 h).1
theorem Arr.cell {w : World} {b : Nat} {t : TypeId} {cs : Array Value} (h : Arr w b t cs) {j : Nat} {v : Value} (hv : cs[j]? = some v) : w.cell? ⟨b, j, none⟩ = some v := (cell_of_row w b j cs t (0, 0) h).trans hv
theorem Arr.frozen {w : World} {b : Nat} {t : TypeId} {cs : Array Value} (h : Arr w b t cs) (j : Nat) : w.frozen? ⟨b, j, none⟩ = false := frozen_of_row w b j cs t h
theorem Arr.set {w : World} {b : Nat} {t : TypeId} {cs : Array Value} (h : Arr w b t cs) (j : Nat) (v : Value) : Arr (w.setCell ⟨b, j, none⟩ v) b t (cs.setIfInBounds j v) := heap_setCell_same w b j cs t v h
theorem Arr.new (w : World) (t : TypeId) (cs : Array Value) : Arr (w.alloc (.cells cs t)) w.heap.size t cs := heap_alloc_new w _
theorem Arr.of {w w' : World} {b : Nat} {t : TypeId} {cs : Array Value} (h : Arr w b t cs) (hb : w'.heap[b]? = w.heap[b]?) : Arr w' b t cs := hb.trans h
theorem Arr.below {w w' : World} {b : Nat} {t : TypeId} {cs : Array Value} (h : Arr w b t cs) (k : Below w.heap.size w w') : Arr w' b t cs := h.of (k.block b h.lt)

/-- All but one block is as it was. -/
structure But (q : Nat) (w w' : World) : Prop where
  os : w'.os = w.os
  tape : w'.tape = w.tape
  output : w'.output = w.output
  size : w.heap.size ≤ w'.heap.size
  block : ∀ k, k < w.heap.size → k ≠ q → w'.heap[k]? = w.heap[k]?
theorem But.refl (q : Nat) (w : World) : But q w w := ⟨rfl, rfl, rfl, Nat.le_refl _, fun _ _ _ => rfl⟩
theorem But.trans {q : Nat} {a b c : World} (h : But q a b) (k : But q b c) : But q a c :=
  ⟨k.os.trans h.os, k.tape.trans h.tape, k.output.trans h.output, Nat.le_trans h.size k.size, fun i hi hq => (k.block i (Nat.lt_of_lt_of_le hi h.size) hq).trans (h.block i hi hq)⟩
theorem But.of_below {q : Nat} {w w' : World} (h : Below w.heap.size w w') : But q w w' := ⟨h.os, h.tape, h.output, h.size, fun k hk _ => h.block k hk⟩
theorem But.then_below {q : Nat} {a b c : World} (h : But q a b) (k : Below b.heap.size b c) : But q a c := h.trans (But.of_below k)
theorem But.set {q : Nat} {a w : World} (h : But q a w) (j : Nat) (u : Value) : But q a (w.setCell ⟨q, j, none⟩ u) :=
  ⟨h.os, h.tape, h.output, by have := h.size; simpa [World.setCell] using this, fun k hk hq => (Below.heap_setCell w _ u k hq).trans (h.block k hk hq)⟩
theorem But.alloc {q : Nat} {a w : World} (h : But q a w) (o : Obj) : But q a (w.alloc o) :=
  ⟨h.os, h.tape, h.output, by have := h.size; simp; omega, fun k hk hq => (Below.heap_alloc w o k (Nat.lt_of_lt_of_le hk h.size)).trans (h.block k hk hq)⟩
theorem But.drew {q : Nat} {a w : World} (h : But q a w) : But q a w.drew := ⟨h.os, h.tape, h.output, h.size, h.block⟩
theorem But.drewN {q : Nat} {a w : World} (h : But q a w) (n : Nat) : But q a (w.drewN n) := ⟨h.os, h.tape, h.output, h.size, h.block⟩
theorem But.below {q : Nat} {w w' : World} (h : But q w w') {B : Nat} (hB : B ≤ w.heap.size) (hq : B ≤ q) : Below B w w' :=
  ⟨h.os, h.tape, h.output, h.size, fun k hk => h.block k (by omega) (by omega)⟩
theorem But.arr {q : Nat} {w w' : World} (h : But q w w') {b : Nat} {t : TypeId} {cs : Array Value} (hA : Arr w b t cs) (hq : b ≠ q) : Arr w' b t cs := hA.of (h.block b hA.lt hq)
theorem But.cell {q : Nat} {w w' : World} (h : But q w w') {b j : Nat} {v : Value} (hv : w.cell? ⟨b, j, none⟩ = some v) (hq : b ≠ q) : w'.cell? ⟨b, j, none⟩ = some v :=
  (World.cell?_of_block (h.block b (World.block_lt_of_cell? w _ hv) hq)).trans hv

/-- What a row's elements are: their type, their slices' type, their cells. -/
structure Sh (α : Type) where
  t : TypeId
  st : TypeId
  k : Nat
  bytes : Nat
  z : Value
  enc : α → List Value
  hu : Tryz.prog.underlying st = some (.slice t)
  hi : (Tryz.prog.info? t).map (fun i => (i.zero, i.size, i.bytes)) = some (some z, k, bytes)
  hz : z.cells.size = k
  hk : 0 < k
  hb : bytes ≤ 4096
  len : ∀ x, (enc x).length = k
  one : ∀ x, ∀ u ∈ enc x, u.oneCell' = true

section
variable {α : Type} (s : Sh α)
def cellsG (l : List α) : List Value := l.flatMap s.enc
theorem cellsG_length (l : List α) : (cellsG s l).length = l.length * s.k := by
  induction l with
  | nil => simp [cellsG]
  | cons x l ih =>
    unfold cellsG at *
    rw [List.flatMap_cons, List.length_append, ih, s.len, List.length_cons, Nat.add_mul]
    omega
theorem cellsG_append (a b : List α) : cellsG s (a ++ b) = cellsG s a ++ cellsG s b := by simp [cellsG]
theorem cellsG_one (x : α) : cellsG s [x] = s.enc x := by simp [cellsG]
theorem cellsG_get : ∀ (l : List α) (j : Nat) (hj : j < l.length) (i : Nat), i < s.k → (cellsG s l)[j * s.k + i]? = (s.enc l[j])[i]?
  | x :: l, 0, hj, i, hi => by
    unfold cellsG
    rw [List.flatMap_cons, List.getElem?_append_left (by rw [s.len]; omega)]
    simp
  | x :: l, j + 1, hj, i, hi => by
    have ih := cellsG_get l j (by simpa using hj) i hi
    unfold cellsG at *
    have e : (j + 1) * s.k + i = s.k + (j * s.k + i) := by rw [Nat.add_mul]; omega
    rw [List.flatMap_cons, List.getElem?_append_right (by rw [s.len]; omega), s.len, e, Nat.add_sub_cancel_left]
    simpa using ih
theorem cellsG_cell {l : List α} : ∀ u ∈ cellsG s l, u.oneCell' = true := by
  intro u hu
  obtain ⟨x, _, h⟩ := List.mem_flatMap.1 hu
  exact s.one x u h
/-- A row, or none. -/
def Row (w : World) (a : Option Addr) (l : List α) : Prop :=
  l = [] ∨ ∃ b off, a = some ⟨b, off, none⟩ ∧ b < w.heap.size ∧ (∀ j (h : j < l.length) i (hi : i < s.k), w.cell? ⟨b, off + j * s.k + i, none⟩ = (s.enc l[j])[i]?)
theorem Row.keep {w w' : World} {a : Option Addr} {l : List α} (h : Row s w a l) (hs : w.heap.size ≤ w'.heap.size) (hb : ∀ b off, a = some ⟨b, off, none⟩ → b < w.heap.size → w'.heap[b]? = w.heap[b]?) : Row s w' a l := by
  rcases h with h | ⟨b, off, e, hl, hc⟩
  · exact .inl h
  · exact .inr ⟨b, off, e, Nat.lt_of_lt_of_le hl hs, fun j hj i hi => (World.cell?_of_block (hb b off e hl)).trans (hc j hj i hi)⟩
theorem Row.at {w : World} {a : Option Addr} {l : List α} (h : Row s w a l) {j : Nat} (hj : j < l.length) : ∃ b off, a = some ⟨b, off, none⟩ ∧ b < w.heap.size ∧ ∀ i (hi : i < s.k), w.cell? ⟨b, off + j * s.k + i, none⟩ = (s.enc l[j])[i]? := by
  rcases h with rfl | ⟨b, off, e, hb, hc⟩
  · simp at hj
  · exact ⟨b, off, e, hb, fun i hi => hc j hj i hi⟩
/-- A slice of them. -/
def Sl (w : World) (v : Value) (l : List α) : Prop := ∃ a c, v = .slice a l.length c ∧ l.length ≤ c ∧ Row s w a l ∧ (a = none → c = 0)
theorem Sl.later {w w' : World} {v : Value} {l : List α} (h : Sl s w v l) (k : Below w.heap.size w w') : Sl s w' v l := by
  obtain ⟨a, c, h1, h2, h3, h4⟩ := h
  exact ⟨a, c, h1, h2, h3.keep s k.size fun b _ _ hb => k.block b hb, h4⟩
theorem Sl.nil (w : World) : Sl s w (.slice none 0 0) [] := ⟨none, 0, rfl, Nat.le_refl _, .inl rfl, fun _ => rfl⟩
/-- The slice isn't in that block (or it holds nothing). -/
def Off (q : Nat) (v : Value) (l : List α) : Prop := l ≠ [] → v.ownBlock ≠ some q
theorem Sl.but {q : Nat} {w w' : World} {v : Value} {l : List α} (h : Sl s w v l) (k : But q w w') (ho : Off q v l) : Sl s w' v l := by
  obtain ⟨a, c, h1, h2, h3, h4⟩ := h
  refine ⟨a, c, h1, h2, ?_, h4⟩
  by_cases he : l = []
  · exact .inl he
  · refine h3.keep s k.size fun b off e hb => k.block b hb fun e2 => ho he ?_
    rw [h1, e]; simp [Value.ownBlock, e2]
theorem Off.new {w : World} {v : Value} {l : List α} (h : Sl s w v l) {q : Nat} (hq : w.heap.size ≤ q) : Off q v l := by
  obtain ⟨a, c, h1, h2, h3, h4⟩ := h
  intro hne e
  rcases h3 with h | ⟨b, off, e2, hb, _⟩
  · exact hne h
  · rw [h1, e2] at e
    simp [Value.ownBlock] at e
    omega
/-- .. isn't in these blocks. -/
def Apt (F : Nat → Prop) (v : Value) (l : List α) : Prop := l ≠ [] → ∀ q, v.ownBlock = some q → ¬ F q
theorem Sl.lt {w : World} {v : Value} {l : List α} (h : Sl s w v l) (hl : l ≠ []) {q : Nat} (hq : v.ownBlock = some q) : q < w.heap.size := by
  obtain ⟨a, c, h1, h2, h3, h4⟩ := h
  rcases h3 with h | ⟨b, off, e, hb, _⟩
  · exact absurd h hl
  · rw [h1, e] at hq
    simp [Value.ownBlock] at hq
    omega
/-- A row of one's own. -/
abbrev Own (w : World) (B : Nat) (v : Value) (l : List α) : Prop := w.ownsRow B s.t s.k v l.length (cellsG s l)
theorem Own.nil (w : World) (B : Nat) : Own s w B (.slice none 0 0) [] := World.ownsRow_nil _ _ _ _
theorem Own.sl {w : World} {B : Nat} {v : Value} {l : List α} (h : Own s w B v l) : Sl s w v l := by
  have h2 := h
  rcases h.2 with ⟨rfl, h0⟩ | ⟨g, cap, cur, rfl, hg, hh, hn, hcap, hsz, htake⟩
  · have : l = [] := List.length_eq_zero_iff.1 h0
    subst this
    exact Sl.nil s w
  · refine ⟨_, _, rfl, hn, .inr ⟨g, 0, rfl, (Array.getElem?_eq_some_iff.1 hh).1, fun j hj i hi => ?_⟩, fun e => by cases e⟩
    have hlt : j * s.k + i < l.length * s.k := by
      have : (j + 1) * s.k ≤ l.length * s.k := Nat.mul_le_mul_right _ hj
      rw [Nat.add_mul] at this
      omega
    rw [Nat.zero_add, h2.cellAt (j * s.k + i) hlt]
    exact cellsG_get s l j hj i hi
theorem Own.off {w : World} {B : Nat} {v : Value} {l : List α} (h : Own s w B v l) {q : Nat} (hq : q < B) : Off q v l := by
  intro _ e
  have := (h.lt q e).1
  omega
theorem Own.below {w w' : World} {B : Nat} {v : Value} {l : List α} (h : Own s w B v l) (k : Below w.heap.size w w') : Own s w' B v l := by
  obtain ⟨h1, h2 | ⟨g, cap, cur, h3, h4, h5, h6⟩⟩ := h
  · exact ⟨h1, .inl h2⟩
  · exact ⟨h1, .inr ⟨g, cap, cur, h3, h4, (k.block g (Array.getElem?_eq_some_iff.1 h5).1).trans h5, h6⟩⟩
theorem Own.form {w : World} {B : Nat} {v : Value} {l : List α} (h : Own s w B v l) : ∃ a c, v = .slice a l.length c := by
  rcases h.2 with ⟨rfl, h0⟩ | ⟨g, cap, cur, rfl, _⟩
  · exact ⟨none, 0, by rw [h0]⟩
  · exact ⟨_, _, rfl⟩
/-- A literal's row. -/
theorem Own.lit (w : World) (l : List α) (hl : l.length < 1000000) (hne : l ≠ []) : Own s (w.alloc (.cells (cellsG s l).toArray s.t)) w.heap.size (.slice (some ⟨w.heap.size, 0, none⟩) l.length l.length) l :=
  World.ownsRow_lit (base := w.heap.size) (e := s.t) (size := s.k) w (cellsG s l).toArray l.length (Nat.le_refl _) (by unfold maxLen; omega) (by simp [cellsG_length])
abbrev App (v u : Value) (w : World) (v' : Value) (w' : World) : Prop := (Builtin.append_ #[s.st, s.st] s.st #[v, u]).run Tryz.prog w = .ok v' w'
/-- An append of a slice to a row of one's own: the run. -/
theorem append_own (B : Nat) (v : Value) (o l : List α) (u : Value) (hlen : o.length + l.length ≤ 34359738368) (w : World) (ho : Own s w B v o) (hB : B ≤ w.heap.size) (hu : Sl s w u l) :
    ∃ v' w', App s v u w v' w' ∧ Own s w' B v' (o ++ l) ∧ Below B w w' ∧ w.grownBy w' v.ownBlock := by
  obtain ⟨i0, hi, hz0, hz1, hz2⟩ := info_parts s.hi
  obtain ⟨a, c, rfl, hc, hr, hn⟩ := hu
  cases a with
  | none =>
    have hl : l = [] := by
      rcases hr with h | ⟨_, _, h, _⟩
      · exact h
      · cases h
    obtain rfl := hn rfl
    subst hl
    have h := run_append_owned_none (P := Tryz.prog) (w := w) B s.st s.st s.t i0 s.k s.hu hi v o.length (cellsG s o) ho
    rw [List.append_nil]
    exact ⟨_, _, h, ho, Below.refl _ _, World.grownBy.refl w _⟩
  | some ad =>
    have hnews : ∀ j y, (cellsG s l)[j]? = some y → w.cell? (ad.add j) = some y := by
      intro j y hj
      rcases hr with rfl | ⟨b, off, hab, hbw, hcell⟩
      · simp [cellsG] at hj
      · obtain rfl : ad = ⟨b, off, none⟩ := Option.some.inj hab
        have hjl : j < l.length * s.k := by
          rcases Nat.lt_or_ge j (l.length * s.k) with h | h
          · exact h
          · rw [List.getElem?_eq_none (by rw [cellsG_length]; exact h)] at hj; cases hj
        have hk0 := s.hk
        have hk : j / s.k < l.length := Nat.div_lt_of_lt_mul (by rw [Nat.mul_comm]; exact hjl)
        have hm : j % s.k < s.k := Nat.mod_lt _ hk0
        have e : j / s.k * s.k + j % s.k = j := by rw [Nat.mul_comm]; exact Nat.div_add_mod _ _
        have h1 := cellsG_get s l (j / s.k) hk (j % s.k) hm
        rw [e] at h1
        have h2 := hcell (j / s.k) hk (j % s.k) hm
        rw [Nat.add_assoc, e] at h2
        rw [addr_add, h2, ← h1, hj]
    have hby : (o.length + l.length) * s.bytes ≤ 140737488355328 := Nat.le_trans (Nat.mul_le_mul hlen s.hb) (by decide)
    obtain ⟨v', w', h1, h2, h3, _⟩ := run_append_own (P := Tryz.prog) (w := w) B s.st s.st s.t i0 s.z s.k s.bytes s.hu hi hz0 hz1 hz2 s.hz s.hk v o.length (cellsG s o) ho ad l.length c
      (cellsG s l) (cellsG_length s l) hnews (cellsG_cell s) (by unfold maxLen; omega) hby hB
    refine ⟨v', w', h1, ?_, (Below.refl B w).grown h3 hB (fun k hk => (ho.lt k hk).1), h3⟩
    show w'.ownsRow B s.t s.k v' (o ++ l).length (cellsG s (o ++ l))
    rw [List.length_append, cellsG_append]; exact h2
/-- 'append(v, x)': the run in the world that has the literal. -/
theorem append_one (B : Nat) (v : Value) (o : List α) (x : α) (hlen : o.length < 34359738368) (w : World) (ho : Own s w B v o) (hB : B ≤ w.heap.size) :
    ∃ v' w', App s v (.slice (some ⟨w.heap.size, 0, none⟩) 1 1) (w.alloc (.cells (s.enc x).toArray s.t)) v' w' ∧ Own s w' B v' (o ++ [x]) ∧ Below B w w' := by
  have b0 := below_box w (.cells (s.enc x).toArray s.t)
  have hl := (Own.lit s w [x] (by simp) (by simp)).sl
  rw [cellsG_one] at hl
  obtain ⟨v', w', h1, h2, h3, _⟩ := append_own s B v o [x] _ (by simp; omega) _ (ho.below s b0) (by simp; omega) hl
  exact ⟨v', w', h1, h2, (b0.mono hB).trans h3⟩
/-- 'append([]T{x}, u...)': a new row. -/
theorem append_lit (x : α) (u : Value) (l : List α) (hlen : l.length < 34359738368) (w : World) (hu : Sl s w u l) :
    ∃ v' w', App s (.slice (some ⟨w.heap.size, 0, none⟩) 1 1) u (w.alloc (.cells (s.enc x).toArray s.t)) v' w' ∧ Own s w' w.heap.size v' (x :: l) ∧ Below w.heap.size w w' := by
  have b0 := below_box w (.cells (s.enc x).toArray s.t)
  have ho := Own.lit s w [x] (by simp) (by simp)
  rw [cellsG_one] at ho
  obtain ⟨v', w', h1, h2, h3, _⟩ := append_own s w.heap.size _ [x] l u (by simp; omega) _ ho (by simp) (hu.later s b0)
  exact ⟨v', w', h1, h2, b0.trans h3⟩
/-- 'append([]T{}, u...)': a new row. -/
theorem append_none (u : Value) (l : List α) (hlen : l.length < 34359738368) (w : World) (hu : Sl s w u l) :
    ∃ v' w', App s (.slice (some ⟨w.heap.size, 0, none⟩) 0 0) u (w.alloc (.cells #[] s.t)) v' w' ∧ Own s w' w.heap.size v' l ∧ Below w.heap.size w w' := by
  have b0 := below_box w (.cells #[] s.t)
  have ho : Own s (w.alloc (.cells #[] s.t)) w.heap.size (.slice (some ⟨w.heap.size, 0, none⟩) 0 0) [] := World.ownsRow_made (base := w.heap.size) (e := s.t) (size := s.k) w #[] 0 (Nat.le_refl _) (by unfold maxLen; omega) (by simp)
  obtain ⟨v', w', h1, h2, h3, _⟩ := append_own s w.heap.size _ [] l u (by simp; omega) _ ho (by simp) (hu.later s b0)
  exact ⟨v', w', h1, by simpa using h2, b0.trans h3⟩
end
/-- An append whose run is known, at an operation that its guard lets by. -/
theorem wpList_append_at {P : Program} {w : World} {ops : Array Oper} {rest : List Oper} {o : Oper} {a : Act} {Q : Exit → Act → World → Prop} (s x : Operand) (t : TypeId)
    (hw : Region.wanted o (yielded ops a.tmps) = true)
    (ho : o.op = .call { callee := .builtin .append, args := #[s, x], argTypes := #[t, t] }) (vs vx v' : Value) (w' : World) (hs : a.eval s = vs) (hx : a.eval x = vx)
    (hr : (Builtin.append_ #[t, t] o.type #[vs, vx]).run P w = .ok v' w') (h : wpList P ops Q rest (a.put o.dst v') w') : wpList P ops Q (o :: rest) a w :=
  wpList_step fun K hK => by
    rw [if_pos hw]
    unfold Oper.wp execOp
    simp only [ho, resolve, invoke, builtin, Sem.run_bind, Sem.run_pure, Result.andThen_ok, List.map_toArray, List.map_cons, List.map_nil, hs, hx, hr]
    exact hK _ _ h
end Go.Proofs.YteeeakbgofjinaaGreat.rw
/-! By -/
namespace Go.Proofs.YteeeakbgofjinaaGreat.rw
set_option linter.unusedVariables false
open Go.RowKit Go.Lib
open fl (S S_size S_data)

/-- All but these blocks is as it was. -/
structure Fr (F : Nat → Prop) (w w' : World) : Prop where
  os : w'.os = w.os
  tape : w'.tape = w.tape
  output : w'.output = w.output
  size : w.heap.size ≤ w'.heap.size
  block : ∀ k, k < w.heap.size → ¬ F k → w'.heap[k]? = w.heap[k]?
theorem Fr.refl (F : Nat → Prop) (w : World) : Fr F w w := ⟨rfl, rfl, rfl, Nat.le_refl _, fun _ _ _ => rfl⟩
theorem Fr.mono {F G : Nat → Prop} {w w' : World} (h : Fr F w w') (hg : ∀ k, k < w.heap.size → F k → G k) : Fr G w w' := ⟨h.os, h.tape, h.output, h.size, fun k hk hn => h.block k hk fun hF => hn (hg k hk hF)⟩
theorem Fr.trans {F G : Nat → Prop} {a b c : World} (h : Fr F a b) (k : Fr G b c) (hg : ∀ i, i < a.heap.size → G i → F i) : Fr F a c :=
  ⟨k.os.trans h.os, k.tape.trans h.tape, k.output.trans h.output, Nat.le_trans h.size k.size, fun i hi hn => (k.block i (Nat.lt_of_lt_of_le hi h.size) fun hG => hn (hg i hi hG)).trans (h.block i hi hn)⟩
theorem Fr.of_below {F : Nat → Prop} {w w' : World} (h : Below w.heap.size w w') : Fr F w w' := ⟨h.os, h.tape, h.output, h.size, fun k hk _ => h.block k hk⟩
theorem Fr.then_below {F : Nat → Prop} {a b c : World} (h : Fr F a b) (k : Below b.heap.size b c) : Fr F a c := h.trans (Fr.of_below (F := F) k) fun _ _ hF => hF
theorem Fr.below {F : Nat → Prop} {w w' : World} (h : Fr F w w') {B : Nat} (hB : B ≤ w.heap.size) (hF : ∀ k, F k → B ≤ k) : Below B w w' :=
  ⟨h.os, h.tape, h.output, h.size, fun k hk => h.block k (by omega) fun hk2 => by have := hF k hk2; omega⟩
theorem Fr.but {q : Nat} {w w' : World} (h : But q w w') {F : Nat → Prop} (hq : F q) : Fr F w w' := ⟨h.os, h.tape, h.output, h.size, fun k hk hn => h.block k hk fun e => hn (e ▸ hq)⟩
theorem Fr.grown {w w' : World} {row : Option Nat} (h : w.grownBy w' row) {F : Nat → Prop} (hF : ∀ q, row = some q → F q) : Fr F w w' := ⟨h.os, h.tape, h.output, h.size, fun k hk hn => h.block k hk fun e => hn (hF k e.symm)⟩
theorem Fr.arr {F : Nat → Prop} {w w' : World} (h : Fr F w w') {b : Nat} {t : TypeId} {cs : Array Value} (hA : Arr w b t cs) (hq : ¬ F b) : Arr w' b t cs := hA.of (h.block b hA.lt hq)

/-- Cells of bytes. -/
def byt (s : List UInt8) : List Value := s.map fun c => .int .u8 c.toNat
theorem byt_length (s : List UInt8) : (byt s).length = s.length := by simp [byt]
theorem byt_append (s t : List UInt8) : byt (s ++ t) = byt s ++ byt t := by simp [byt]
theorem byt_str (s : List UInt8) : strCells (S s) = byt s := by simp [strCells, byt, S]
theorem byt_one (s : List UInt8) : ∀ u ∈ byt s, u.oneCell' = true := by
  intro u hu
  obtain ⟨c, _, rfl⟩ := List.mem_map.1 hu
  rfl
/-- v is a row of bytes of one's own. -/
def RowB (w : World) (v : Value) (s : List UInt8) : Prop :=
  ∃ g cap cur fr, v = .slice (some ⟨g, 0, none⟩) s.length cap ∧ w.heap[g]? = some (.cells cur 5 fr) ∧ s.length ≤ cap ∧ cap ≤ maxLen ∧ cur.size = cap ∧ cur.toList.take s.length = byt s ∧ ∀ j, j < cap → ¬ (fr.1 ≤ j ∧ j < fr.2)
theorem RowB.of {w w' : World} {v : Value} {s : List UInt8} (h : RowB w v s) (hb : ∀ q, v.ownBlock = some q → w'.heap[q]? = w.heap[q]?) : RowB w' v s := by
  obtain ⟨g, cap, cur, fr, rfl, h2, h3⟩ := h
  exact ⟨g, cap, cur, fr, rfl, (hb g rfl).trans h2, h3⟩
theorem RowB.at {w : World} {v : Value} {s : List UInt8} (h : RowB w v s) : ∃ g, v.ownBlock = some g ∧ g < w.heap.size ∧ ∃ cur fr, w.heap[g]? = some (.cells cur 5 fr) := by
  obtain ⟨g, cap, cur, fr, rfl, h2, h3⟩ := h
  exact ⟨g, rfl, (Array.getElem?_eq_some_iff.1 h2).1, cur, fr, h2⟩
theorem RowB.form {w : World} {v : Value} {s : List UInt8} (h : RowB w v s) : ∃ a c, v = .slice (some a) s.length c ∧ s.length ≤ c := by
  obtain ⟨g, cap, cur, fr, rfl, h2, h3, _⟩ := h
  exact ⟨_, _, rfl, h3⟩
theorem RowB.of_own {w : World} {B : Nat} {v : Value} {s : List UInt8} (h : w.ownsRow B 5 1 v s.length (byt s)) (hv : v ≠ .slice none 0 0) : RowB w v s := by
  obtain ⟨h1, ⟨e, _⟩ | ⟨g, cap, cur, rfl, _, h4, h5, h6, h7, h8⟩⟩ := h
  · exact absurd e hv
  · exact ⟨g, cap, cur, (0, 0), rfl, h4, h5, h6, by simpa using h7, by simpa using h8, fun j _ hh => by simp at hh⟩
theorem RowB.cell {w : World} {v : Value} {s : List UInt8} (h : RowB w v s) : ∃ g cap, v = .slice (some ⟨g, 0, none⟩) s.length cap ∧ ∀ j (hj : j < s.length), w.cell? ⟨g, j, none⟩ = some (.int .u8 s[j].toNat) := by
  obtain ⟨g, cap, cur, fr, rfl, h2, h3, h4, h5, h6, _⟩ := h
  refine ⟨g, cap, rfl, fun j hj => ?_⟩
  rw [cell_of_row _ _ _ _ _ _ h2]
  have e : cur[j]? = (cur.toList.take s.length)[j]? := by rw [List.getElem?_take_of_lt hj]; simp
  rw [e, h6]
  simp [byt, hj]

/-- A store of cells into a row whose frozen mark does not reach them. -/
theorem storeCells_free (g : Nat) (t : TypeId) (fr : Nat × Nat) : ∀ (vs : List Value) (i : Nat) (o : Nat) (cur : Array Value) (w : World), w.heap[g]? = some (.cells cur t fr) → o + i + vs.length ≤ cur.size → (∀ v ∈ vs, v.oneCell' = true) → (∀ j, j < cur.size → ¬ (fr.1 ≤ j ∧ j < fr.2)) →
    (storeCells ⟨g, o, none⟩ vs i).run Tryz.prog w = .ok () (w.setRow g (cur.toList.take (o + i) ++ vs ++ cur.toList.drop (o + i + vs.length)).toArray)
  | [], i, o, cur, w, hg, _, _, _ => by
    simp only [storeCells, List.append_nil, List.length_nil, Nat.add_zero, List.take_append_drop, Array.toArray_toList]
    rw [setRow_self w g cur t fr hg]
    rfl
  | v :: rest, i, o, cur, w, hg, hl, h1, hf => by
    have hi : o + i < cur.size := by simp at hl; omega
    have hcell : w.cell? ⟨g, o + i, none⟩ = some cur[o + i] := by simp [World.cell?, hg, hi]
    have hfro : w.frozen? ⟨g, o + i, none⟩ = false := by
      have := hf (o + i) hi
      unfold World.frozen?
      simp only [hg]
      by_cases h : fr.1 ≤ o + i
      · simp [h]; omega
      · simp [h]
    have hst : (store ((⟨g, o, none⟩ : Addr).add i) v).run Tryz.prog w = .ok () (w.setRow g (cur.setIfInBounds (o + i) v)) := by
      rw [addr_add, run_store Tryz.prog w _ v _ (h1 v (by simp)), hcell]
      simp [hfro, setCell_eq_setRow w g (o + i) cur t fr v hg]
    have ih := storeCells_free g t fr rest (i + 1) o (cur.setIfInBounds (o + i) v) (w.setRow g (cur.setIfInBounds (o + i) v)) (setRow_heap w g cur _ t _ hg) (by simp at hl ⊢; omega) (fun x hx => h1 x (by simp [hx])) (fun j hj => hf j (by simpa using hj))
    simp only [storeCells, Sem.run_bind, hst, Result.andThen_ok, ih, setRow_setRow]
    congr 3
    have e := list_seg_step cur.toList (o + i) v rest (by simp at hl ⊢; omega)
    simpa [Array.toList_setIfInBounds, Nat.add_assoc] using e

abbrev AppS (v : Value) (s : List UInt8) (w : World) (v' : Value) (w' : World) : Prop := (Builtin.append_ #[135, 9] 135 #[v, .string (S s)]).run Tryz.prog w = .ok v' w'
theorem info8 : (Tryz.prog.info? 5).map (fun i => (i.zero, i.size, i.bytes)) = some (some (.int .u8 0), 1, 1) := by kernel_rfl
/-- 'append(v, s...)', s a string. -/
theorem append_str (v : Value) (o s : List UInt8) (w : World) (h : RowB w v o) (hlen : o.length + s.length ≤ 140737488355328) :
    ∃ v' w', AppS v s w v' w' ∧ RowB w' v' (o ++ s) ∧ w.grownBy w' v.ownBlock ∧ (v'.ownBlock = v.ownBlock ∨ v'.ownBlock = some w.heap.size) := by
  obtain ⟨i, hi, hz, hs1, hb1⟩ := info_parts info8
  obtain ⟨g, cap, cur, fr, rfl, h2, h3, h4, h5, h6, h7⟩ := h
  by_cases hroom : o.length + s.length ≤ cap
  · have hst := storeCells_free g 5 fr (byt s) 0 o.length cur w h2 (by rw [byt_length]; omega) (byt_one s) (by rw [h5]; exact h7)
    have hf := run_firstCells_string (P := Tryz.prog) w 1 (S s)
    rw [byt_str, S_size] at hf
    simp only [Nat.add_zero, byt_length] at hst
    have hr : AppS (.slice (some ⟨g, 0, none⟩) o.length cap) s w (.slice (some ⟨g, 0, none⟩) (o.length + s.length) cap) (w.setRow g (cur.toList.take o.length ++ byt s ++ cur.toList.drop (o.length + s.length)).toArray) := by
      simp [AppS, Builtin.append_, run_underlying Tryz.underlying135, run_underlying Tryz.underlying9, sizeOf, typeInfo, hi, hs1, Builtin.lenOf, S_size, hroom, hf, Addr.add_lit, hst]
    refine ⟨_, _, hr, ⟨g, cap, _, fr, by rw [List.length_append], setRow_heap w g cur _ _ _ h2, by rw [List.length_append]; exact hroom, h4, ?_, ?_, h7⟩, ⟨rfl, rfl, rfl, by simp, fun k _ hk => setRow_other w g k _ (fun e => hk (by simp [Value.ownBlock, e]))⟩, .inl rfl⟩
    · simp only [List.size_toArray, List.length_append, List.length_take, List.length_drop, Array.length_toList, byt_length]
      omega
    · rw [h6, List.toList_toArray, byt_append]
      refine List.take_left' ?_
      simp [byt_length]
  · have hold : ∀ j u, (byt o)[j]? = some u → w.cell? ((⟨g, 0, none⟩ : Addr).add j) = some u := by
      intro j u hj
      have hjl : j < o.length := by have := (List.getElem?_eq_some_iff.1 hj).1; rwa [byt_length] at this
      rw [addr_add, Nat.zero_add, cell_of_row _ _ _ _ _ _ h2]
      have e : cur[j]? = (cur.toList.take o.length)[j]? := by rw [List.getElem?_take_of_lt hjl]; simp
      rw [e, h6, hj]
    have hr := run_append_grow_string (P := Tryz.prog) w 135 9 135 5 i (.int .u8 0) Tryz.underlying135 Tryz.underlying9 hi hz ⟨g, 0, none⟩ o.length cap (byt o) (by rw [hs1, byt_length, Nat.mul_one]) hold (S s) (by rw [S_size]; omega) (by rw [S_size]; omega)
      (by rw [hb1]; exact growslice_fits (by rw [S_size]; omega) (by rw [S_size]; omega))
    rw [byt_str, S_size] at hr
    have hge := grownCap_ge w (o.length + s.length) cap 5
    have hcm := grownCap_le_maxLen w (o.length + s.length) cap 5 (by unfold maxLen; omega)
    refine ⟨_, _, hr, ⟨w.heap.size, _, _, (0, 0), by rw [List.length_append], heap_alloc_new w.drew _, by rw [List.length_append]; exact hge, hcm, ?_, ?_, fun j _ hh => by simp at hh⟩, ⟨rfl, rfl, rfl, by simp, fun k hk _ => heap_alloc_old w.drew _ hk⟩, .inr rfl⟩
    · have hz1 : (Value.int IntKind.u8 0).cells.size = 1 := rfl
      simp only [Array.size_append, List.size_toArray, size_zeroCells, hz1, byt_length]
      omega
    · simp only [Array.toList_append, List.append_assoc, byt_append]
      rw [← List.append_assoc]
      refine List.take_left' ?_
      simp [byt_length]
/-- 'append(nil, s...)'. -/
theorem append_str_nil (s : List UInt8) (w : World) (hs : s ≠ []) (hlen : s.length ≤ 140737488355328) :
    ∃ v' w', AppS (.slice none 0 0) s w v' w' ∧ RowB w' v' s ∧ Below w.heap.size w w' ∧ v'.ownBlock = some w.heap.size := by
  obtain ⟨i, hi, hz, hs1, hb1⟩ := info_parts info8
  have hpos : 0 < s.length := List.length_pos_iff.2 hs
  have hr := run_append_nil_string (P := Tryz.prog) w 135 9 135 5 i (.int .u8 0) Tryz.underlying135 Tryz.underlying9 hi hz (S s) (by rw [S_size]; omega) (by rw [S_size]; omega) (by rw [hb1, S_size]; omega)
  have e1 : ((S s).data.map fun b => Value.int .u8 b.toNat) = (byt s).toArray := by
    apply Array.ext'
    simp [byt, S]
  rw [e1, S_size] at hr
  have hge := grownCap_ge w s.length 0 5
  have hcm := grownCap_le_maxLen w s.length 0 5 (by unfold maxLen; omega)
  refine ⟨_, _, hr, ⟨w.heap.size, _, _, (0, 0), rfl, heap_alloc_new w.drew _, hge, hcm, ?_, ?_, fun j _ hh => by simp at hh⟩, (below_drew (Below.refl _ w)).alloc (Nat.le_refl _) _, rfl⟩
  · have hz1 : (Value.int IntKind.u8 0).cells.size = 1 := rfl
    simp only [Array.size_append, List.size_toArray, size_zeroCells, hz1, byt_length]
    omega
  · simp only [Array.toList_append]
    refine List.take_left' ?_
    simp [byt_length]
/-- '[]byte(s)'. -/
theorem conv_str (s : List UInt8) (w : World) (hlen : s.length ≤ 140737488355328) :
    ∃ v' w', (convert 9 135 (.string (S s))).run Tryz.prog w = .ok v' w' ∧ RowB w' v' s ∧ Below w.heap.size w w' ∧ v'.ownBlock = some w.heap.size := by
  have hr := Lib.run_convert_string_bytes (P := Tryz.prog) w 9 135 5 (S s) Tryz.underlying9 Tryz.underlying135 Tryz.underlying5
  have hge := grownCap_ge w s.length 0 5
  have hcm := grownCap_le_maxLen w s.length 0 5 (by unfold maxLen; omega)
  have hsz : (Lib.bytesCells w 5 (S s)).size = grownCap w s.length 0 5 := by
    unfold Lib.bytesCells
    rw [Array.size_append, Array.size_map, Array.size_replicate]
    show s.length + (grownCap w s.length 0 5 - s.length) = _
    omega
  refine ⟨_, _, hr, ⟨w.heap.size, _, _, _, rfl, Lib.bytesWorld_at_new w _ (S s), hge, hcm, hsz, ?_, fun j hj hh => by
    have h1 : (Lib.bytesCells w 5 (S s)).size ≤ j := hh.1
    have h2 : j < grownCap w s.length 0 5 := hj
    omega⟩, ⟨rfl, rfl, rfl, by rw [Lib.bytesWorld_size]; omega, fun k hk => Lib.bytesWorld_at_old w _ _ k hk⟩, rfl⟩
  unfold Lib.bytesCells
  rw [Array.toList_append]
  have e1 : ((S s).data.map fun b => Value.int .u8 b.toNat).toList = byt s := by simp [byt, S]
  rw [e1]
  refine List.take_left' ?_
  simp [byt_length]
/-- 'string(v)'. -/
theorem conv_row (v : Value) (s : List UInt8) (w : World) (h : RowB w v s) : (convert 135 9 v).run Tryz.prog w = .ok (.string (S s)) w := by
  obtain ⟨g, cap, rfl, hc⟩ := h.cell
  have hr := run_convert_bytes_arg (P := Tryz.prog) w 135 5 Tryz.underlying135 Tryz.underlying5 g 0 s.length cap (s.map fun c => (c.toNat : Int)) (by simp) (fun i hi => by
    rw [Nat.zero_add, hc i hi]
    simp [List.getD_eq_getElem?_getD, hi]) 9 Tryz.underlying9
  rw [hr]
  have e : strOfNums (s.map fun c => (c.toNat : Int)) = S s := by
    show (⟨((s.map fun c => (c.toNat : Int)).map fun n => UInt8.ofNat n.toNat).toArray⟩ : ByteArray) = ⟨s.toArray⟩
    have e2 : ((s.map fun c => (c.toNat : Int)).map fun n => UInt8.ofNat n.toNat) = s := by
      rw [List.map_map]
      conv => rhs; rw [← List.map_id s]
      refine List.map_congr_left fun c _ => ?_
      show UInt8.ofNat ((c.toNat : Int)).toNat = c
      rw [Int.toNat_natCast, UInt8.ofNat_toNat]
    rw [e2]
  rw [e]
end Go.Proofs.YteeeakbgofjinaaGreat.rw
/-! JrRd1 -/
namespace Go.Proofs.YteeeakbgofjinaaGreat.jr
set_option linter.unusedVariables false
open Go.RowKit
open fl (S S_size)
open rw (Arr But below_box)
open pk (RD)

/-- Block b is the program's reader over the bytes l; o: what is left, none: it has failed. -/
def PRd (w : World) (b : Nat) (l : Bs) (o : Option Bs) : Prop :=
  ∃ a f : Int, RD w b (S l) a f ∧ ((∃ (r : Bs) (n : Nat), o = some r ∧ f = 0 ∧ a = n ∧ n ≤ l.length ∧ l.drop n = r) ∨ (o = none ∧ (f == 0) = false))
theorem PRd.lt {w : World} {b : Nat} {l : Bs} {o : Option Bs} (h : PRd w b l o) : b < w.heap.size := by
  obtain ⟨a, f, h, _⟩ := h
  exact h.lt
theorem PRd.below {w w' : World} {b : Nat} {l : Bs} {o : Option Bs} (h : PRd w b l o) (k : Below w.heap.size w w') : PRd w' b l o := by
  obtain ⟨a, f, h1, h2⟩ := h
  exact ⟨a, f, h1.of_below k h1.lt, h2⟩
theorem PRd.of {w w' : World} {b : Nat} {l : Bs} {o : Option Bs} (h : PRd w b l o) (k : w'.heap[b]? = w.heap[b]?) : PRd w' b l o := by
  obtain ⟨a, f, h1, h2⟩ := h
  exact ⟨a, f, k.trans h1, h2⟩
theorem PRd.new (w : World) (l : Bs) : PRd (w.alloc (.cells #[.string (S l), .int .i64 0, .int .i64 0] 212)) w.heap.size l (some l) :=
  ⟨0, 0, heap_alloc_new w _, .inl ⟨l, 0, rfl, rfl, rfl, Nat.zero_le _, rfl⟩⟩
theorem but_of {b : Nat} {w w' : World} (h : pk.Touch b w w') : But b w w' := ⟨h.os, h.tape, h.output, h.size, h.block⟩
theorem but_only {b : Nat} {w w' : World} (h : pk.Only b w w') : But b w w' := but_of h.touch

theorem dec_at (l : Bs) (n : Nat) (hn : n ≤ l.length) : pk.dec 0 0 ((S l).extract n (S l).size).data.toList = pk.dec 0 0 (l.drop n) := by
  rw [Lib.extract_data, S_size]
  congr 1
  show List.take (l.length - n) (List.drop n l) = _
  rw [List.take_of_length_le (by rw [List.length_drop]; omega)]
theorem dec_len (r : Bs) : (pk.dec 0 0 r).2.2.length ≤ r.length := go r 0 0
where
  go : ∀ (l : Bs) (i acc : Nat), (pk.dec i acc l).2.2.length ≤ l.length
  | [], i, acc => Nat.le_refl _
  | c :: r, i, acc => by
    unfold pk.dec
    split
    · exact Nat.zero_le _
    · split
      · exact Nat.zero_le _
      · split
        · simp
        · exact Nat.le_trans (go r _ _) (by simp)
theorem dec_end {l r : Bs} {a : Nat} (hr : l.drop a = r) {v : Nat} {t : Bs} (hD : pk.dec 0 0 r = (0, v, t)) : l.drop (l.length - t.length) = t := by
  obtain ⟨y, _, h2, _⟩ := pk.dec_one r 0 0 v t (by decide) (by decide) hD
  rw [← hr] at h2
  have h3 : l = (l.take a ++ Lib.uvarint y) ++ t := by rw [List.append_assoc, ← h2, List.take_append_drop]
  obtain ⟨A, hA⟩ : ∃ A, l = A ++ t := ⟨_, h3⟩
  clear h3 h2 hr hD
  subst hA
  rw [List.length_append, Nat.add_sub_cancel, List.drop_left]
theorem rdNum_eq {r : Bs} {e v : Nat} {t : Bs} (hD : pk.dec 0 0 r = (e, v, t)) : rdNum r = if e = 0 then some (v, t) else none := by unfold rdNum; rw [hD]
theorem fault_ne {e : Nat} (h : e ≠ 0) : (((e : Nat) : Int) == 0) = false := by rw [beq_eq_false_iff_ne]; omega

theorem prnum_any (b : Nat) (l : Bs) (o : Option Bs) (hl : l.length ≤ 281474976710656) (w : World) (h : PRd w b l o) :
    Calls Tryz.prog 158 #[.pointer (some ⟨b, 0, none⟩)] w fun e w' => e = .returned (.int .u64 (vN o : Nat)) ∧ But b w w' ∧ PRd w' b l (nN o) := by
  have hz := S_size l
  obtain ⟨a, f, hR, ⟨r, n, rfl, rfl, rfl, hn, hr⟩ | ⟨rfl, hf⟩⟩ := h
  · have hd := dec_at l n hn
    rw [hr] at hd
    have hrl : r.length = l.length - n := by rw [← hr, List.length_drop]
    have hlen := dec_len r
    cases hD : pk.dec 0 0 r with
    | mk e vt =>
      obtain ⟨v, t⟩ := vt
      rw [hD] at hd hlen
      have hq := rdNum_eq hD
      by_cases h0 : e = 0
      · subst h0
        rw [if_pos rfl] at hq
        obtain ⟨e1, e2⟩ := nN_of hq
        rw [e1, e2]
        refine (pk.rnum_ok b (S l) (by omega) n (by omega) w hR v t hd (by simp only at hlen; omega)).mono ?_
        rintro x w' ⟨h1, h2, h3⟩
        refine ⟨h1, but_of h3, _, 0, h2, .inl ⟨t, l.length - t.length, rfl, rfl, by rw [hz], Nat.sub_le _ _, dec_end hr hD⟩⟩
      · rw [if_neg h0] at hq
        rw [nN_bad hq, show vN (some r) = 0 from by unfold vN; rw [Option.bind_some, hq]; rfl]
        refine (pk.rnum_bad b (S l) (by omega) n (by omega) w hR _ hd h0).mono ?_
        rintro x w' ⟨h1, h2, h3⟩
        exact ⟨h1, but_of h3, _, _, h2, .inr ⟨rfl, fault_ne h0⟩⟩
  · refine (pk.rnum_faulty b (S l) a f hf w hR).mono ?_
    rintro x w' ⟨h1, h2, h3⟩
    exact ⟨h1, but_of h3, a, f, h2, .inr ⟨rfl, hf⟩⟩
theorem prcount_any (b : Nat) (l : Bs) (o : Option Bs) (m : Nat) (hm : m ≤ 1000000) (hl : l.length ≤ 281474976710656) (w : World) (h : PRd w b l o) :
    Calls Tryz.prog 135 #[.pointer (some ⟨b, 0, none⟩), .int .i64 (m : Nat)] w fun e w' => e = .returned (.int .i64 (vC m o : Nat)) ∧ But b w w' ∧ PRd w' b l (nC m o) := by
  have hz := S_size l
  obtain ⟨a, f, hR, ⟨r, n, rfl, rfl, rfl, hn, hr⟩ | ⟨rfl, hf⟩⟩ := h
  · have hd := dec_at l n hn
    rw [hr] at hd
    have hrl : r.length = l.length - n := by rw [← hr, List.length_drop]
    have hlen := dec_len r
    cases hD : pk.dec 0 0 r with
    | mk e vt =>
      obtain ⟨v, t⟩ := vt
      rw [hD] at hd hlen
      have hq := rdNum_eq hD
      by_cases h0 : e = 0
      · subst h0
        rw [if_pos rfl] at hq
        by_cases hv : v ≤ m
        · have hc : rdCount m r = some (v, t) := by unfold rdCount; rw [hq, Option.bind_some, if_pos hv]
          obtain ⟨e1, e2⟩ := nC_of hc
          rw [e1, e2]
          refine (pk.rcount_ok b (S l) (by omega) n (by omega) (m : Int) (by omega) w hR v t hd (by simp only at hlen; omega) (by omega)).mono ?_
          rintro x w' ⟨h1, h2, h3⟩
          refine ⟨h1, but_of h3, _, 0, h2, .inl ⟨t, l.length - t.length, rfl, rfl, by rw [hz], Nat.sub_le _ _, dec_end hr hD⟩⟩
        · have hc : rdCount m r = none := by unfold rdCount; rw [hq, Option.bind_some, if_neg hv]
          rw [(nC_bad hc).1, (nC_bad hc).2]
          refine (pk.rcount_long b (S l) (by omega) n (by omega) (m : Int) (by omega) w hR v t hd (by omega)).mono ?_
          rintro x w' ⟨h1, h2, h3⟩
          exact ⟨h1, but_of h3, _, _, h2, .inr ⟨rfl, by decide⟩⟩
      · rw [if_neg h0] at hq
        have hc : rdCount m r = none := by unfold rdCount; rw [hq]; rfl
        rw [(nC_bad hc).1, (nC_bad hc).2]
        refine (pk.rcount_bad b (S l) (by omega) n (by omega) (m : Int) (by omega) w hR _ hd h0).mono ?_
        rintro x w' ⟨h1, h2, h3⟩
        exact ⟨h1, but_of h3, _, _, h2, .inr ⟨rfl, fault_ne h0⟩⟩
  · refine (pk.rcount_faulty b (S l) a f hf (m : Int) (by omega) w hR).mono ?_
    rintro x w' ⟨h1, h2, h3⟩
    exact ⟨h1, but_of h3, a, f, h2, .inr ⟨rfl, hf⟩⟩
theorem prtext_any (b : Nat) (l : Bs) (o : Option Bs) (m : Nat) (hm : m ≤ 1000000) (hl : l.length ≤ 281474976710656) (w : World) (h : PRd w b l o) :
    Calls Tryz.prog 160 #[.pointer (some ⟨b, 0, none⟩), .int .i64 (m : Nat)] w fun e w' => e = .returned (.string (S (vT m o))) ∧ But b w w' ∧ PRd w' b l (nT m o) := by
  have hz := S_size l
  have hs0 : (⟨#[]⟩ : ByteArray) = S [] := rfl
  obtain ⟨a, f, hR, ⟨r, n, rfl, rfl, rfl, hn, hr⟩ | ⟨rfl, hf⟩⟩ := h
  · have hd := dec_at l n hn
    rw [hr] at hd
    have hrl : r.length = l.length - n := by rw [← hr, List.length_drop]
    have hlen := dec_len r
    cases hD : pk.dec 0 0 r with
    | mk e vt =>
      obtain ⟨v, t⟩ := vt
      rw [hD] at hd hlen
      have hq := rdNum_eq hD
      by_cases h0 : e = 0
      · subst h0
        rw [if_pos rfl] at hq
        simp only at hlen
        by_cases hv : v ≤ m
        · by_cases hs : v ≤ t.length
          · have hc : rdText m r = some (t.take v, t.drop v) := by unfold rdText; rw [hq, Option.bind_some, if_pos ⟨hv, hs⟩]
            obtain ⟨e1, e2⟩ := nT_of hc
            rw [e1, e2]
            refine (pk.rtext_ok b (S l) (by omega) n (by omega) (m : Int) (by omega) w hR v t hd (by omega) (by omega) hs).mono ?_
            rintro x w' ⟨h1, h2, h3⟩
            have hx : (S t).extract 0 v = S (t.take v) := by
              unfold S
              rw [ByteArray.extract_mk]
              congr 1
            refine ⟨by rw [h1]; show Ending.returned (Value.string ((S t).extract 0 v)) = _; rw [hx], but_of h3, _, 0, h2, .inl ⟨t.drop v, l.length - (t.length - v), rfl, rfl, by rw [hz], Nat.sub_le _ _, ?_⟩⟩
            have := dec_end hr hD
            have h5 : l.length - (t.length - v) = (l.length - t.length) + v := by omega
            rw [h5, ← List.drop_drop, this]
          · have hc : rdText m r = none := by unfold rdText; rw [hq, Option.bind_some, if_neg (fun h => hs h.2)]
            rw [(nT_bad hc).1, (nT_bad hc).2]
            refine (pk.rtext_bad3 b (S l) (by omega) n (by omega) (m : Int) (by omega) w hR v t hd (by omega) (by omega) (by omega)).mono ?_
            rintro x w' ⟨h1, h2, h3⟩
            exact ⟨h1, but_of h3, _, _, h2, .inr ⟨rfl, by decide⟩⟩
        · have hc : rdText m r = none := by unfold rdText; rw [hq, Option.bind_some, if_neg (fun h => hv h.1)]
          rw [(nT_bad hc).1, (nT_bad hc).2]
          refine (pk.rtext_long b (S l) (by omega) n (by omega) (m : Int) (by omega) w hR v t hd (by omega)).mono ?_
          rintro x w' ⟨h1, h2, h3⟩
          exact ⟨h1, but_of h3, _, _, h2, .inr ⟨rfl, by decide⟩⟩
      · rw [if_neg h0] at hq
        have hc : rdText m r = none := by unfold rdText; rw [hq]; rfl
        rw [(nT_bad hc).1, (nT_bad hc).2]
        refine (pk.rtext_bad1 b (S l) (by omega) n (by omega) (m : Int) (by omega) w hR _ hd h0).mono ?_
        rintro x w' ⟨h1, h2, h3⟩
        exact ⟨h1, but_of h3, _, _, h2, .inr ⟨rfl, fault_ne h0⟩⟩
  · refine (pk.rtext_faulty b (S l) a f hf (m : Int) (by omega) w hR).mono ?_
    rintro x w' ⟨h1, h2, h3⟩
    exact ⟨h1, but_of h3, a, f, h2, .inr ⟨rfl, hf⟩⟩
/-- Is all read? -/
def EndOut (b : Nat) (w : World) (o : Option Bs) (e : Ending) (w' : World) : Prop := But b w w' ∧ ((o = some [] ∧ e = .returned (.int .i64 0)) ∨ (o ≠ some [] ∧ ∃ n : Int, (n == 0) = false ∧ e = .returned (.int .i64 n)))
theorem prend_any (b : Nat) (l : Bs) (o : Option Bs) (hl : l.length ≤ 281474976710656) (w : World) (h : PRd w b l o) :
    Calls Tryz.prog 136 #[.pointer (some ⟨b, 0, none⟩)] w (EndOut b w o) := by
  have hz := S_size l
  obtain ⟨a, f, hR, ⟨r, n, rfl, rfl, rfl, hn, hr⟩ | ⟨rfl, hf⟩⟩ := h
  · have hrl : r.length = l.length - n := by rw [← hr, List.length_drop]
    by_cases he : r = []
    · subst he
      have hnl : n = (S l).size := by rw [hz]; simp at hrl; omega
      subst hnl
      refine (pk.end_ok b (S l) w hR (by omega)).mono ?_
      rintro x w' ⟨h1, _, h3⟩
      exact ⟨but_only h3, .inl ⟨rfl, h1⟩⟩
    · have : 0 < r.length := List.length_pos_iff.2 he
      refine (pk.end_rest b (S l) n w hR (by omega) (by omega)).mono ?_
      rintro x w' ⟨h1, _, h3⟩
      exact ⟨but_only h3, .inr ⟨fun e => he (Option.some.inj e), 9, by decide, h1⟩⟩
  · refine (pk.end_bad b (S l) a f hf w hR).mono ?_
    rintro x w' ⟨h1, h3⟩
    exact ⟨h3 ▸ But.refl b w, .inr ⟨by simp, f, hf, h1⟩⟩
end Go.Proofs.YteeeakbgofjinaaGreat.jr
/-! JrBu -/
namespace Go.Proofs.YteeeakbgofjinaaGreat.jr
set_option linter.unusedVariables false
open Go.RowKit
open fl (S S_size S_append S_inj)

abbrev tF := 139
theorem sizeB : (Tryz.prog.info? 137).map (·.size) = some 2 := by kernel_rfl
theorem liesB : liesAt Tryz.prog Tryz.prog.depth 139 (2 / Tryz.prog.cellsOf 139) 0 137 1 = true := by kernel_rfl
/-- The bytes l, in the builder at block b. -/
def Bld (B b : Nat) (l : List UInt8) (w : World) : Prop := Lib.IsBuilder 139 5 B b (Lib.byteCells l) w

set_option maxRecDepth 100000 in
theorem check_used (b : Nat) (w : World) (h0 : w.cell? ⟨b, 0, none⟩ = some (.pointer (some ⟨b, 0, none⟩))) :
    Calls Tryz.prog 147 #[.pointer (some ⟨b, 0, none⟩)] w fun e w' => e = .returned (.tuple #[]) ∧ w' = w := by
  obtain ⟨j, hj, _⟩ := Option.map_eq_some_iff.1 sizeB
  go_enter Tryz.func147, Tryz.ntmps147
  go_wp2
  rw [Lib.run_neq_ptr_same w _ Tryz.underlying134 hj]
  go_wp2
  exact bodyPost_end (results_none rfl _ _ _) rfl ⟨rfl, rfl⟩
set_option maxRecDepth 100000 in
theorem check_fresh (b : Nat) (w : World) (h0 : w.cell? ⟨b, 0, none⟩ = some (.pointer none)) (hsh : w.shape? b = some (139, 2)) (hfz : w.frozen? ⟨b, 0, none⟩ = false) :
    Calls Tryz.prog 147 #[.pointer (some ⟨b, 0, none⟩)] w fun e w' => e = .returned (.tuple #[]) ∧ w' = w.setCell ⟨b, 0, none⟩ (.pointer (some ⟨b, 0, none⟩)) := by
  obtain ⟨j, hj, hjs⟩ := Option.map_eq_some_iff.1 sizeB
  go_enter Tryz.func147, Tryz.ntmps147
  go_wp2
  rw [Lib.run_to_unsafe w ⟨b, 0, none⟩ Tryz.underlying134 Tryz.underlying218 hj (by rw [hjs]; decide) hsh (Nat.zero_lt_succ 1)]
  simp only [Result.andThen]
  rw [Oper.upon_value]
  go_wp2
  rw [run_callFunc_extern Tryz.func161 (by kernel_rfl) (by kernel_rfl) (by kernel_rfl) (e := Extern.AbiNoEscape.same) (by kernel_rfl)]
  rw [Lib.run_noEscape]
  simp only [Result.andThen]
  rw [Oper.upon_value]
  go_wp2
  rw [Lib.run_from_unsafe w ⟨b, 0, none⟩ Tryz.underlying218 Tryz.underlying134 hj hsh liesB]
  simp only [Result.andThen]
  rw [Oper.upon_value]
  go_wp2
  exact bodyPost_end (results_none rfl _ _ _) rfl ⟨rfl, rfl⟩
theorem check_any (B b : Nat) (bs : List Value) (w : World) (h : Lib.IsBuilder 139 5 B b bs w) :
    Calls Tryz.prog 147 #[.pointer (some ⟨b, 0, none⟩)] w fun e w' => e = .returned (.tuple #[]) ∧ (Lib.BuilderAt 139 5 B b (.pointer (some ⟨b, 0, none⟩)) bs w' ∧ Below B w w') := by
  rcases h with h | h
  · refine (check_fresh b w h.cell0 h.shape h.frozen0).mono ?_
    rintro e w' ⟨rfl, rfl⟩
    exact ⟨rfl, h.used _, (Below.refl B w).setCell (p := ⟨b, 0, none⟩) h.1 _⟩
  · refine (check_used b w h.cell0).mono ?_
    rintro e w' ⟨rfl, rfl⟩
    exact ⟨rfl, h, Below.refl B _⟩
set_option maxRecDepth 100000 in
theorem blen_any (B b : Nat) (l : List UInt8) (w : World) (h : Bld B b l w) :
    Calls Tryz.prog 113 #[.pointer (some ⟨b, 0, none⟩)] w fun e w' => e = .returned (.int .i64 (l.length : Nat)) ∧ w' = w := by
  obtain ⟨p, hB, v, hbk, hown, hne⟩ : ∃ p, Lib.BuilderAt 139 5 B b p (Lib.byteCells l) w := by
    rcases h with h | h
    · exact ⟨_, h⟩
    · exact ⟨_, h⟩
  obtain ⟨ao, cap, rfl⟩ : ∃ ao cap, v = .slice ao l.length cap := by
    rcases hown.2 with ⟨hv, h0⟩ | ⟨g, cap, cur, hv, _⟩
    · rw [Lib.byteCells_length] at h0
      exact ⟨none, 0, by rw [hv, h0]⟩
    · rw [Lib.byteCells_length] at hv
      exact ⟨_, _, hv⟩
  have c1 : w.cell? ⟨b, 1, none⟩ = some (.slice ao l.length cap) := by rw [Lib.cell_of_heap hbk]; rfl
  clear h hown hne hbk
  go_enter Tryz.func113, Tryz.ntmps113
  go_wp2
  go_ret
  exact ⟨rfl, rfl⟩
theorem infoU8 : (Tryz.prog.info? 5).map (fun i => (i.zero, i.size, i.bytes)) = some (some (.int .u8 0), 1, 1) := by kernel_rfl
set_option maxHeartbeats 2000000 in
set_option maxRecDepth 100000 in
theorem bwrite_any (B b : Nat) (l s : List UInt8) (w : World) (h : Bld B b l w) (hlen : l.length + s.length ≤ 140737488355328) (hBw : B ≤ w.heap.size) :
    Calls Tryz.prog 117 #[.pointer (some ⟨b, 0, none⟩), .string (S s)] w fun e w' => e = .returned (.tuple #[.int .i64 (s.length : Nat), .nilIface]) ∧ Bld B b (l ++ s) w' ∧ Below B w w' := by
  obtain ⟨i0, hi, hz0, hz1, hz2⟩ := info_parts infoU8
  have hss := S_size s
  go_enter Tryz.func117, Tryz.ntmps117
  go_wp2_with fail
  refine (check_any B b _ _ h).mono ?_
  rintro e w1 ⟨rfl, h1, hb1⟩
  obtain ⟨hB, v, hbk, hown, hne⟩ := h1
  have c0 : w1.cell? ⟨b, 0, none⟩ = some (.pointer (some ⟨b, 0, none⟩)) := by rw [Lib.cell_of_heap hbk]; rfl
  have c1 : w1.cell? ⟨b, 1, none⟩ = some v := by rw [Lib.cell_of_heap hbk]; rfl
  go_wp2_with (at_builtin; refine Lib.wpList_append_own_string _ rfl _ _ 135 9 rfl B 5 i0 Tryz.underlying135 Tryz.underlying9 hi hz0 hz1 hz2 _ _ _ rfl hown (S s) rfl ?c3 ?c4 ?c5 ?_)
  case c3 => unfold maxLen; rw [Lib.byteCells_length]; omega
  case c4 => rw [Lib.byteCells_length]; omega
  case c5 => have := hb1.size; omega
  intro v' w2 hown' hgrow _
  have hlt : b < w1.heap.size := by
    rcases Nat.lt_or_ge b w1.heap.size with h' | h'
    · exact h'
    · simp [Array.getElem?_eq_none h'] at hbk
  have hb2 : w2.heap[b]? = some (.cells #[.pointer (some ⟨b, 0, none⟩), v] 139 (0, 0)) := by
    rw [hgrow.block b hlt (fun e => hne e.symm)]
    exact hbk
  have d0 : w2.cell? ⟨b, 0, none⟩ = some (.pointer (some ⟨b, 0, none⟩)) := by rw [Lib.cell_of_heap hb2]; rfl
  have d1 : w2.cell? ⟨b, 1, none⟩ = some v := by rw [Lib.cell_of_heap hb2]; rfl
  have f1 : w2.frozen? ⟨b, 1, none⟩ = false := Lib.frozen_of_heap hb2 1
  obtain ⟨ao, n', cap, rfl⟩ : ∃ ao n' cap, v' = .slice ao n' cap := by
    rcases hown'.2 with ⟨hv, _⟩ | ⟨g, cap, cur, hv, _⟩
    · exact ⟨_, _, _, hv⟩
    · exact ⟨_, _, _, hv⟩
  have HE : Hid (Bld B b (l ++ s) (w2.setCell ⟨b, 1, none⟩ (.slice ao n' cap)) ∧ Below B w (w2.setCell ⟨b, 1, none⟩ (.slice ao n' cap))) := by
    refine ⟨.inr (Lib.BuilderAt.put (T := 139) (e := 5) hB hb2 (bs' := Lib.byteCells (l ++ s)) ?_ (by decide)), (hb1.grown hgrow (by have := hb1.size; omega) (fun k hk => (hown.lt k hk).1)).setCell (p := ⟨b, 1, none⟩) hB _⟩
    have e1 : Lib.byteCells (l ++ s) = Lib.byteCells l ++ Lib.strCells (S s) := by rw [rw.byt_str]; simp [Lib.byteCells, rw.byt]
    rw [e1]
    simpa [Lib.strCells_length, S_size] using hown'
  clear hown hown' hgrow hbk hb2 hne hb1
  go_wp2
  go_ret2
  exact ⟨rfl, HE.out⟩
set_option maxHeartbeats 2000000 in
set_option maxRecDepth 100000 in
theorem bstring_any (B b : Nat) (l : List UInt8) (w : World) (h : Bld B b l w) (h0 : l ≠ []) :
    Calls Tryz.prog 83 #[.pointer (some ⟨b, 0, none⟩)] w fun e w' => e = .returned (.string (S l)) ∧ Below B w w' := by
  obtain ⟨p, hB, v, hbk, hown, hne⟩ : ∃ p, Lib.BuilderAt 139 5 B b p (Lib.byteCells l) w := by
    rcases h with h | h
    · exact ⟨_, h⟩
    · exact ⟨_, h⟩
  have hl0 : l.length ≠ 0 := by simpa using h0
  rw [Lib.byteCells_length] at hown
  obtain ⟨g, cap, cur, rfl, hbg, hg, hnc, hcm, hcs, htake⟩ : ∃ g cap cur, v = .slice (some ⟨g, 0, none⟩) l.length cap ∧ B ≤ g ∧ w.heap[g]? = some (.cells cur 5 (0, 0)) ∧ l.length ≤ cap ∧ cap ≤ maxLen ∧ cur.size = cap * 1 ∧ cur.toList.take (l.length * 1) = Lib.byteCells l := by
    rcases hown.2 with ⟨_, hz⟩ | ⟨g, cap, cur, hv, r⟩
    · exact absurd hz hl0
    · exact ⟨g, cap, cur, hv, r⟩
  have c1 : w.drew.cell? ⟨b, 1, none⟩ = some (.slice (some ⟨g, 0, none⟩) l.length cap) := by
    have : w.drew.heap[b]? = some (.cells #[p, .slice (some ⟨g, 0, none⟩) l.length cap] 139 (0, 0)) := hbk
    rw [Lib.cell_of_heap this]; rfl
  have hSD : (Builtin.unsafeSliceData_ #[135] 185 #[.slice (some ⟨g, 0, none⟩) l.length cap]).run Tryz.prog w.drew = .ok (.pointer (some ⟨g, 0, none⟩)) w.drew :=
    Lib.run_unsafeSliceData_row _ _ _ _ _ _ (by omega)
  have hUS : (Builtin.unsafeString_ #[185, 3] 9 #[.pointer (some ⟨g, 0, none⟩), .int .i64 l.length]).run Tryz.prog w.drew = .ok (.string ⟨l.toArray⟩) (w.drew.freeze ⟨g, 0, none⟩ l.length) := by
    refine Lib.run_unsafeString_row w.drew 185 3 9 5 Tryz.underlying185 (by kernel_rfl) g cur.size (by have hg' : w.drew.heap[g]? = some (.cells cur 5 (0, 0)) := hg; simp [World.shape?, hg']) l h0 (by omega) (by unfold maxLen at hcm; omega) ?_
    intro j x hx
    exact hown.cells (g := g) rfl j (.int .u8 x.toNat) (by simp [Lib.byteCells, hx])
  have HB : Hid (Below B w (w.drew.freeze ⟨g, 0, none⟩ l.length)) := Lib.below_freeze (Below.drew (Below.refl B w)) (p := ⟨g, 0, none⟩) hbg _
  clear h hown hne hbk hg hnc hcm hcs htake hbg h0 hl0
  go_enter Tryz.func83, Tryz.ntmps83
  go_wp2
  go_region
  all_goals (go_wp2; go_ret; exact ⟨rfl, HB.out⟩)
theorem Bld.new (w : World) : Bld w.heap.size w.heap.size [] (w.alloc (.cells #[.pointer none, .slice none 0 0] 139)) := Lib.fresh_isBuilder _ _ w
theorem Bld.of {B b : Nat} {l : List UInt8} {w w' : World} (h : Bld B b l w) (k : Below w.heap.size w w') : Bld B b l w' := by
  have key : ∀ p, Lib.BuilderAt 139 5 B b p (Lib.byteCells l) w → Lib.BuilderAt 139 5 B b p (Lib.byteCells l) w' := by
    rintro p ⟨hB, v, hb, hown, hne⟩
    refine ⟨hB, v, (k.block b (Array.getElem?_eq_some_iff.1 hb).1).trans hb, ?_, hne⟩
    obtain ⟨h1, h2 | ⟨g, cap, cur, h3, h4, h5, h6⟩⟩ := hown
    · exact ⟨h1, .inl h2⟩
    · exact ⟨h1, .inr ⟨g, cap, cur, h3, h4, (k.block g (Array.getElem?_eq_some_iff.1 h5).1).trans h5, h6⟩⟩
  rcases h with h | h
  · exact .inl (key _ h)
  · exact .inr (key _ h)
end Go.Proofs.YteeeakbgofjinaaGreat.jr
/-! JrSize -/
namespace Go.Proofs.YteeeakbgofjinaaGreat.jr
set_option linter.unusedVariables false

theorem num_len {n : Nat} (h : n < 18446744073709551616) : (num n).length ≤ 10 := Lib.uvarint_length64 h
theorem text_len {s : Bs} (h : s.length < 18446744073709551616) : (text s).length ≤ 10 + s.length := by
  unfold text
  have := num_len h
  rw [List.length_append]
  omega
theorem nums_len : ∀ {l : List Nat}, (∀ x ∈ l, x < 18446744073709551616) → (l.flatMap num).length ≤ 10 * l.length
  | [], _ => by simp
  | a :: r, h => by
    have h1 := num_len (h a List.mem_cons_self)
    have h2 := nums_len (l := r) (fun x hx => h x (List.mem_cons_of_mem _ hx))
    rw [List.flatMap_cons, List.length_append, List.length_cons]
    omega
theorem hardB_len {h : Hd} (h1 : h.term < 18446744073709551616) (h2 : h.vote ≤ 5) (h3 : h.life < 18446744073709551616) : (hardB h).length ≤ 40 := by
  have a := num_len h1
  have b := num_len (n := h.vote) (by omega)
  have c := num_len h3
  have d := num_len (n := 3) (by decide)
  unfold hardB
  simp only [List.length_append]
  omega
theorem hardRec_len {h : Hd} (h1 : h.term < 18446744073709551616) (h2 : h.vote ≤ 5) (h3 : h.life < 18446744073709551616) : (hardRec h).length ≤ 48 := by
  have := hardB_len h1 h2 h3
  unfold hardRec
  rw [sl.frame_length]
  omega
theorem entB_len {i : Nat} {e : En} (hi : i < 18446744073709551616) (he : May e) (ht : e.term < 18446744073709551616) : (entB i e).length ≤ 2100 := by
  obtain ⟨h1, h2, h3⟩ := he
  have a := num_len hi
  have b := num_len ht
  have c := num_len (n := e.kind) (by omega)
  have d := num_len (n := 4) (by decide)
  have t := text_len (s := e.data) (by omega)
  unfold entB
  simp only [List.length_append]
  omega
theorem entRecs_len : ∀ {l : List En} {i : Nat}, i + l.length < 18446744073709551616 → (∀ e ∈ l, May e ∧ e.term < 18446744073709551616) → (entRecs i l).length ≤ 2108 * l.length
  | [], i, _, _ => by simp [entRecs]
  | e :: r, i, hi, h => by
    rw [List.length_cons] at hi
    have h0 := h e List.mem_cons_self
    have h1 := entB_len (i := i) (by omega) h0.1 h0.2
    have h2 := entRecs_len (l := r) (i := i + 1) (by omega) (fun x hx => h x (List.mem_cons_of_mem _ hx))
    rw [entRecs, List.length_append, List.length_cons]
    unfold entRec
    rw [sl.frame_length]
    omega
theorem pieceB_len (p : Bs) (h : p.length ≤ 4096) : (num 2 ++ text p).length ≤ 4116 := by
  have a := num_len (n := 2) (by decide)
  have t := text_len (s := p) (by omega)
  rw [List.length_append]
  omega
theorem pieceRecs_len : ∀ (n : Nat) (l : Bs), (pieceRecs n l).length ≤ 4124 * n
  | 0, l => by simp [pieceRecs]
  | n + 1, l => by
    have h1 := pieceB_len (l.take 4096) (by rw [List.length_take]; omega)
    have h2 := pieceRecs_len n (l.drop 4096)
    rw [pieceRecs, List.length_append]
    unfold pieceRec
    rw [sl.frame_length]
    omega
theorem baseB_len {s : St} (h : Ok s) : (baseB s).length ≤ 100 := by
  have a := num_len (n := s.base) (by have := h.base; omega)
  have b := num_len h.bterm
  have c := num_len (n := 1) (by decide)
  have d := num_len (n := s.image.length) (by have := h.image; omega)
  have hc := members_length h.conf
  have e := num_len (n := s.conf.length) (by omega)
  have f := nums_len (l := s.conf) (fun x hx => by have := (h.conf.1 x hx).2; omega)
  unfold baseB nums
  simp only [List.length_append]
  omega
theorem pieces_le {l : Bs} (h : l.length ≤ 262144) : pieces l ≤ 64 := by
  unfold pieces
  omega
theorem fileOf_len {s : St} (h : Ok s) (hl : s.l.length ≤ 1000000) : (fileOf s).length ≤ 300000 + 2108 * s.l.length := by
  have a := baseB_len h
  have b := pieceRecs_len (pieces s.image) s.image
  have b2 := pieces_le h.image
  have c := hardRec_len h.term h.vote h.life
  have d := entRecs_len (l := s.l) (i := s.base + 1) (by have := h.base; omega) h.l
  unfold fileOf
  simp only [List.length_append, sl.frame_length]
  omega

/-! ### How many entries -/
theorem rec_few {i : Nat} {x y : Rd} {b : Bs} (e : record i x b = some y) : y.s.l.length ≤ x.s.l.length + 1 := by
  obtain ⟨k, _, e⟩ := Option.bind_eq_some_iff.1 e
  split at e
  · obtain ⟨_, _, e⟩ := Option.bind_eq_some_iff.1 e
    obtain ⟨_, _, e⟩ := Option.bind_eq_some_iff.1 e
    obtain ⟨_, _, e⟩ := Option.bind_eq_some_iff.1 e
    obtain ⟨_, _, e⟩ := Option.bind_eq_some_iff.1 e
    obtain ⟨_, _, e⟩ := Option.bind_eq_some_iff.1 e
    split at e
    · cases e; exact Nat.le_succ _
    · cases e
  · split at e
    · obtain ⟨_, _, e⟩ := Option.bind_eq_some_iff.1 e
      split at e
      · cases e; exact Nat.le_succ _
      · cases e
    · split at e
      · obtain ⟨_, _, e⟩ := Option.bind_eq_some_iff.1 e
        obtain ⟨_, _, e⟩ := Option.bind_eq_some_iff.1 e
        obtain ⟨_, _, e⟩ := Option.bind_eq_some_iff.1 e
        split at e
        · cases e; exact Nat.le_succ _
        · cases e
      · split at e
        · obtain ⟨i, _, e⟩ := Option.bind_eq_some_iff.1 e
          obtain ⟨_, _, e⟩ := Option.bind_eq_some_iff.1 e
          obtain ⟨_, _, e⟩ := Option.bind_eq_some_iff.1 e
          obtain ⟨_, _, e⟩ := Option.bind_eq_some_iff.1 e
          split at e
          · cases e
            show (x.s.l.take (i.1 - x.s.base - 1) ++ [_]).length ≤ _
            rw [List.length_append, List.length_take, List.length_singleton]
            omega
          · cases e
        · cases e
theorem records_few : ∀ (l : List Bs) (i : Nat) (x y : Rd), records i x l = some y → y.s.l.length ≤ x.s.l.length + l.length
  | [], i, x, y, e => by cases e; exact Nat.le_refl _
  | b :: r, i, x, y, e => by
    obtain ⟨z, hz, e⟩ := Option.bind_eq_some_iff.1 e
    have h1 := rec_few hz
    have h2 := records_few r (i + 1) z y e
    rw [List.length_cons]
    omega
theorem readAll_few {l : List Bs} {s : St} (h : readAll l = some s) : s.l.length ≤ l.length := by
  obtain ⟨x, hx, e⟩ := Option.bind_eq_some_iff.1 h
  split at e
  · cases e
    have := records_few l 0 _ x hx
    rw [show (⟨zero, 0⟩ : Rd).s.l.length = 0 from rfl, Nat.zero_add] at this
    exact this
  · cases e
theorem found_few {b : Bs} {s : St} (h : (found b).1 = some s) : s.l.length * 8 ≤ b.length := by
  unfold found at h
  split at h
  · cases h
  · split at h
    · cases h
    · next x hx =>
      cases h
      have h1 := readAll_few hx
      have h2 := sl.scan_len b 0
      unfold sl.bodies at h1
      rw [List.length_map] at h1
      omega
theorem open2_few {d : dk.Dk} {b : Bs} {t : St} (e : (open2 d b).2.1 = some t) : t.l.length * 8 ≤ b.length := by
  have h3 : ∀ {d : dk.Dk} {s : St}, (open3 d s).2.1 = some t → t.l = s.l := by
    intro d s e
    unfold open3 at e
    split at e
    · cases e
    · cases e; rfl
  unfold open2 at e
  split at e
  · cases e
  · split at e
    · split at e
      · cases e
      · split at e
        · cases e
        · next s hs => rw [h3 e]; exact found_few hs
    · split at e
      · cases e
      · next s hs => rw [h3 e]; exact found_few hs
end Go.Proofs.YteeeakbgofjinaaGreat.jr
/-! PackNums -/
namespace Go.Proofs.YteeeakbgofjinaaGreat.pk
open Go.RowKit

/-- The bytes of numbers, one behind the other. -/
def each (l : List Nat) : List UInt8 := l.flatMap Lib.uvarint
theorem each_nil : each [] = [] := rfl
theorem each_cons (x : Nat) (l : List Nat) : each (x :: l) = Lib.uvarint x ++ each l := by simp [each]
theorem each_take_succ (l : List Nat) (k : Nat) (h : k < l.length) : each (l.take (k + 1)) = each (l.take k) ++ Lib.uvarint l[k] := by
  unfold each
  rw [List.take_succ_eq_append_getElem h, List.flatMap_append]
  simp only [List.flatMap_cons, List.flatMap_nil, List.append_nil]
theorem each_len (l : List Nat) (h : ∀ x ∈ l, x < 18446744073709551616) : (each l).length ≤ 10 * l.length := by
  induction l with
  | nil => simp [each]
  | cons x l ih =>
    have h1 := Lib.uvarint_length64 (h x (by simp))
    have h2 := ih (fun y hy => h y (by simp [hy]))
    rw [each_cons, List.length_append, List.length_cons]
    omega

set_option maxHeartbeats 4000000 in
set_option maxRecDepth 100000 in
theorem nums_some (b off cap : Nat) (l : List Nat) (hl : ∀ x ∈ l, x < 18446744073709551616) (hlen : 10 * l.length + 20 ≤ 140737488355328) (w : World) (hbw : b < w.heap.size)
    (hc : ∀ j (hj : j < l.length), w.cell? ⟨b, off + j, none⟩ = some (.int .u64 (l[j] : Nat))) :
    Calls Tryz.prog 157 #[.slice (some ⟨b, off, none⟩) l.length cap] w fun e w' => e = .returned (.string (S (Lib.uvarint l.length ++ each l))) ∧ Below w.heap.size w w' := by
  have hl10 := Lib.uvarint_length64 (x := l.length) (by omega)
  have hpos := Lib.uvarint_pos l.length
  obtain ⟨n, hn⟩ : ∃ n, n = l.length := ⟨_, rfl⟩
  have hnl : n ≤ 14073748835530 := by omega
  have HN := Lib.hid hn
  rw [← hn] at hl10 hpos
  rw [← hn]
  clear hn
  have hcH : Hid (∀ j (hj : j < l.length), w.cell? ⟨b, off + j, none⟩ = some (.int .u64 (l[j] : Nat))) := hc
  have hlH : Hid (∀ x ∈ l, x < 18446744073709551616) := hl
  clear hc hl hlen
  go_enter Tryz.func157, Tryz.ntmps157
  go_wp2_with fail
  refine (append_any w.heap.size 0 n (by omega) _ [] w (World.ownsRow_nil _ _ _ _) (Nat.le_refl _) (by omega)).mono ?_
  rintro e w1 ⟨v1, rfl, hown, hb1⟩
  rw [Nat.zero_add, List.nil_append] at hown
  go_wp2_with fail
  go_loopw [3, 12] (fun v i wr => ∃ k : Nat, k ≤ n ∧ i = .int .i64 k ∧ wr.ownsRow w.heap.size 5 1 v (Lib.uvarint n ++ each (l.take k)).length (Lib.byteCells (Lib.uvarint n ++ each (l.take k))) ∧ Below w.heap.size w wr)
    (fun _ i _ => n - (intOf i).toNat)
  case atStart => exact ⟨0, Nat.zero_le _, rfl, by simpa [each] using hown, hb1⟩
  case round =>
    obtain ⟨k, hk, rfl, hown1, hnx⟩ := hrel
    by_cases hlt : k < n
    · have hkl : k < l.length := by have := HN.out; omega
      obtain ⟨x, hx⟩ : ∃ x, x = l[k] := ⟨_, rfl⟩
      have hx64 : x < 18446744073709551616 := by rw [hx]; exact hlH.out _ (List.getElem_mem _)
      have hcell : wr.cell? ⟨b, off + k, none⟩ = some (.int .u64 (x : Int)) := by
        rw [hnx.cell (by exact hbw), hcH.out k hkl, hx]
      have hsz : (Lib.uvarint n ++ each (l.take k)).length + 10 ≤ 140737488355328 := by
        have h1 := each_len (l.take k) (fun y hy => hlH.out y (List.mem_of_mem_take hy))
        have h2 : (l.take k).length ≤ k := List.length_take_le _ _
        rw [List.length_append]
        omega
      have HX := Lib.hid hx
      clear hx
      have hB : w.heap.size ≤ wr.heap.size := hnx.size
      have hownH := Lib.hid hown1
      clear hown1 hown
      go_wp2_with fail
      refine (append_any w.heap.size _ x hx64 _ _ wr hownH.out hB hsz).mono ?_
      rintro e w2 ⟨v2, rfl, hown2, hb2⟩
      have hown3 := Lib.hid hown2
      clear hown2
      go_wp2
      go_roundw
      case rel =>
        refine ⟨k + 1, by omega, by go_num, ?_, hnx.trans hb2⟩
        have h := hown3.out
        rw [← Lib.byteCells_append, ← List.length_append, List.append_assoc] at h
        rw [each_take_succ l k hkl, ← HX.out]
        exact h
      case measure => simp [intOf]; omega
    · obtain rfl : k = n := by omega
      have htk : l.take k = l := List.take_of_length_le (by have := HN.out; omega)
      rw [htk] at hown1
      have hcv := conv_own wr _ _ _ (fun h => by have := congrArg List.length h; rw [List.length_append, List.length_nil] at this; omega) hown1
      clear hown1 hown
      go_wp2
      go_ret
      exact ⟨rfl, hnx⟩

set_option maxRecDepth 100000 in
theorem nums_zero (a : Option Addr) (cap : Nat) (w : World) :
    Calls Tryz.prog 157 #[.slice a 0 cap] w fun e w' => e = .returned (.string (S [0])) ∧ Below w.heap.size w w' := by
  have e0 : Lib.uvarint 0 = [0] := by rw [Lib.uvarint_small (by omega)]; rfl
  go_enter Tryz.func157, Tryz.ntmps157
  go_wp2_with fail
  refine (append_any w.heap.size 0 0 (by omega) _ [] w (World.ownsRow_nil _ _ _ _) (Nat.le_refl _) (by omega)).mono ?_
  rintro e w1 ⟨v1, rfl, hown, hb1⟩
  rw [Nat.zero_add, List.nil_append, e0] at hown
  have hcv := conv_own w1 _ _ [0] (by simp) hown
  clear hown e0
  go_wp2_with fail
  refine wp_loop_rounds 1 ?_
  rw [rounds_succ]
  go_wp2
  go_ret
  exact ⟨rfl, hb1⟩
end Go.Proofs.YteeeakbgofjinaaGreat.pk
/-! PackBackWalk -/
namespace Go.Proofs.YteeeakbgofjinaaGreat.pk
open Go.RowKit

/-- A slice of numbers that came in: it is empty, or it leads to a row of cells that hold them. -/
def Row64 (w : World) (a : Option Addr) (l : List Nat) : Prop :=
  l = [] ∨ ∃ b off, a = some ⟨b, off, none⟩ ∧ b < w.heap.size ∧ ∀ j (hj : j < l.length), w.cell? ⟨b, off + j, none⟩ = some (.int .u64 (l[j] : Nat))

theorem Row64.of_below {w w' : World} {a : Option Addr} {l : List Nat} (h : Row64 w a l) (k : Below w.heap.size w w') : Row64 w' a l := by
  rcases h with h | ⟨b, off, h1, h2, h3⟩
  · exact Or.inl h
  · exact Or.inr ⟨b, off, h1, Nat.lt_of_lt_of_le h2 k.size, fun j hj => (k.cell h2).trans (h3 j hj)⟩

theorem nums_row (a : Option Addr) (cap : Nat) (l : List Nat) (hl : ∀ x ∈ l, x < 18446744073709551616) (hlen : 10 * l.length + 20 ≤ 140737488355328) (w : World) (h : Row64 w a l) :
    Calls Tryz.prog 157 #[.slice a l.length cap] w fun e w' => e = .returned (.string (S (Lib.uvarint l.length ++ each l))) ∧ Below w.heap.size w w' := by
  rcases h with rfl | ⟨b, off, rfl, hb, hc⟩
  · have h0 := nums_zero a cap w
    rw [show ([0] : List UInt8) = Lib.uvarint ([] : List Nat).length ++ each [] from by rw [show ([] : List Nat).length = 0 from rfl, Lib.uvarint_small (by omega)]; rfl] at h0
    exact h0
  · exact nums_some b off cap l hl hlen w hb hc

end Go.Proofs.YteeeakbgofjinaaGreat.pk
/-! PackRef -/
namespace Go.Proofs.YteeeakbgofjinaaGreat.pk
open Go.RowKit

theorem bcell {W w1 : World} (hb : Below W.heap.size W w1) : ∀ b o, b < W.heap.size → w1.cell? ⟨b, o, none⟩ = W.cell? ⟨b, o, none⟩ := fun b o h => hb.cell (p := ⟨b, o, none⟩) h

def isByte : Option Value → Bool
  | some (.int .u8 _) => true
  | _ => false
def strOf : Option Value → ByteArray
  | some (.int .u8 x) => S [UInt8.ofNat x.toNat]
  | _ => S []
theorem isByte_u8 (x : Int) : isByte (some (.int .u8 x)) = true := rfl
theorem strOf_u8 (x : Int) : strOf (some (.int .u8 x)) = S [UInt8.ofNat x.toNat] := rfl

/-- 'string([]byte(one byte))', for the walk to take. -/
theorem conv_one (W : World) (b : Nat) (h : isByte (W.cell? ⟨b, 0, none⟩) = true) :
    (convert 135 9 (.slice (some ⟨b, 0, none⟩) 1 1)).run Tryz.prog W = .ok (.string (strOf (W.cell? ⟨b, 0, none⟩))) W := by
  cases hv : W.cell? ⟨b, 0, none⟩ with
  | none => rw [hv] at h; cases h
  | some v =>
    rw [hv] at h
    cases v with
    | int k x =>
      cases k <;> first | (cases h; done) | skip
      have hr := run_convert_bytes_arg (P := Tryz.prog) W 135 5 Tryz.underlying135 Tryz.underlying5 b 0 1 1 [x] rfl (fun i hi => by
        obtain rfl : i = 0 := by omega
        simpa using hv) 9 Tryz.underlying9
      rw [hr]
      rfl
    | _ => cases h

set_option maxHeartbeats 4000000 in
set_option maxRecDepth 100000 in
theorem refnum_any : ∀ (n : Nat), n < 18446744073709551616 → ∀ (w : World),
    Calls Tryz.prog 119 #[.int .u64 n] w fun e w' => e = .returned (.string (S (Lib.uvarint n))) ∧ Below w.heap.size w w' := by
  intro n
  induction n using Nat.strongRecOn with
  | _ n ih =>
    intro hn w
    have hib := isByte_u8
    have hso := strOf_u8
    have hcv := conv_one
    by_cases h128 : n < 128
    · have hu := Lib.hid (Lib.uvarint_small h128)
      clear ih
      go_enter Tryz.func119, Tryz.ntmps119
      go_wp2
      go_ret
      exact ⟨by rw [hu.out]; rfl, (Below.refl _ w).alloc (Nat.le_refl _) _⟩
    · have h128' : 128 ≤ n := by omega
      obtain ⟨q, hq⟩ : ∃ q : Nat, q = n / 128 := ⟨_, rfl⟩
      obtain ⟨c, hc⟩ : ∃ c : Nat, c = n % 128 + 128 := ⟨_, rfl⟩
      have HI := Lib.hid (ih q (by omega) (by omega))
      have hx0 : IntKind.u64.wrap ((n : Int) / 128) = (q : Int) := by
        rw [IntWalk.u64_in _ ⟨by omega, by omega⟩]; omega
      have hx1 : IntKind.u64.wrap ((n : Int).tmod 128 + 128) = (c : Int) := by
        rw [Int.tmod_eq_emod_of_nonneg (by omega), IntWalk.u64_in _ ⟨by omega, by omega⟩]; omega
      have hx2 : IntKind.u8.wrap (c : Int) = (c : Int) := by
        rw [IntKind.wrap_u8]; omega
      have hu : Hid (Lib.uvarint n = c.toUInt8 :: Lib.uvarint q) := by rw [hc, hq]; exact Lib.uvarint_big h128'
      have hl := Lib.uvarint_length64 (x := q) (by omega)
      have hz := S_size (Lib.uvarint q)
      have hz1 : (S (Lib.uvarint q)).size ≤ 10 := by omega
      have hz2 : ∀ c : UInt8, (S [c]).size = 1 := fun c => rfl
      clear ih h128 hl hz hq hc
      go_enter Tryz.func119, Tryz.ntmps119
      go_wp2_with fail
      go_region_with (go_at_call 119; refine (HI.out _).mono ?_; rintro e w1 ⟨rfl, hb1⟩; have hc1 := bcell hb1)
      all_goals go_wp2
      all_goals go_ret
      all_goals refine ⟨by rw [hu.out, S_append]; rfl, ?_⟩
      all_goals first
        | exact ((Below.refl _ w).alloc (Nat.le_refl _) _).drew.trans (hb1.mono (by simp))
        | exact ((Below.refl _ w).drew.trans (hb1.mono (by simp))).alloc (by have := hb1.size; simpa using this) _

theorem reftext_any (s : List UInt8) (hs : s.length ≤ 281474976710656) (w : World) :
    Calls Tryz.prog 87 #[.string (S s)] w fun e w' => e = .returned (.string (S (Lib.uvarint s.length ++ s))) ∧ Below w.heap.size w w' := by
  have hlen := Lib.uvarint_length64 (x := s.length) (by omega)
  have hS := S_size s
  have hS2 := S_size (Lib.uvarint s.length)
  go_enter Tryz.func87, Tryz.ntmps87
  go_wp2_with fail
  refine (refnum_any s.length (by omega) _).mono ?_
  rintro e w1 ⟨rfl, hb⟩
  go_wp2
  go_ret
  exact ⟨by rw [S_append]; rfl, hb⟩

set_option maxHeartbeats 4000000 in
set_option maxRecDepth 100000 in
theorem refnums_row (a : Option Addr) (cap : Nat) (l : List Nat) (hl : ∀ x ∈ l, x < 18446744073709551616) (hlen : l.length ≤ 1048576) (w : World) (hrow : Row64 w a l) :
    Calls Tryz.prog 86 #[.slice a l.length cap] w fun e w' => e = .returned (.string (S (Lib.uvarint l.length ++ each l))) ∧ Below w.heap.size w w' := by
  have hl10 := Lib.uvarint_length64 (x := l.length) (by omega)
  obtain ⟨c, hc⟩ : ∃ c, c = l.length := ⟨_, rfl⟩
  have hcl : c ≤ 1048576 := by omega
  rw [← hc] at hl10 ⊢
  have HC := Lib.hid hc
  have HL := Lib.hid hl
  have HR := Lib.hid hrow
  clear hc hl hlen hrow
  go_enter Tryz.func86, Tryz.ntmps86
  go_wp2_with fail
  refine (refnum_any c (by omega) _).mono ?_
  rintro e w1 ⟨rfl, hb1⟩
  go_wp2_with fail
  go_loopw [3, 4] (fun v i wr => ∃ k : Nat, k ≤ c ∧ i = .int .i64 k ∧ v = .string (S (Lib.uvarint c ++ each (l.take k))) ∧ Below w.heap.size w wr)
    (fun _ i _ => c - (intOf i).toNat)
  case atStart => exact ⟨0, by omega, rfl, by simp [each], hb1⟩
  case round =>
    obtain ⟨k, hk, rfl, rfl, hb2⟩ := hrel
    by_cases hlt : k < c
    · have hkl : k < l.length := by have := HC.out; omega
      obtain ⟨v, hv⟩ : ∃ v, v = l[k] := ⟨_, rfl⟩
      have hv64 : v < 18446744073709551616 := by rw [hv]; exact HL.out _ (List.getElem_mem _)
      rcases HR.out with h0 | ⟨b, off, rfl, hbw, hcell⟩
      · rw [h0] at hkl; simp at hkl
      · have hcell0 : wr.cell? ⟨b, off + k, none⟩ = some (.int .u64 (v : Nat)) := by
          rw [hb2.cell (by exact hbw), hcell k hkl, hv]
        have hv10 := Lib.uvarint_length64 hv64
        have z1 : (S (Lib.uvarint c ++ each (l.take k))).size ≤ 20971520 := by
          rw [S_size, List.length_append]
          have h1 := each_len (l.take k) (fun y hy => HL.out y (List.mem_of_mem_take hy))
          have h2 : (l.take k).length ≤ k := List.length_take_le _ _
          omega
        have z2 : (S (Lib.uvarint v)).size ≤ 10 := by rw [S_size]; exact hv10
        have HV := Lib.hid hv
        clear hcell hv HR hv10
        go_wp2_with fail
        refine (refnum_any v hv64 _).mono ?_
        rintro e w2 ⟨rfl, hb3⟩
        have hb4 : Below w.heap.size w w2 := hb2.trans (hb3.mono hb2.size)
        clear hb2 hb3
        go_wp2
        go_roundw
        case rel => exact ⟨k + 1, by omega, by go_num, by rw [S_append, each_take_succ l k hkl, ← HV.out, List.append_assoc], hb4⟩
        case measure => simp [intOf]; omega
    · obtain rfl : k = c := by omega
      go_wp2
      go_ret
      exact ⟨by rw [List.take_of_length_le (by have := HC.out; omega)]; rfl, hb2⟩
end Go.Proofs.YteeeakbgofjinaaGreat.pk
/-! JrW1 -/
namespace Go.Proofs.YteeeakbgofjinaaGreat.jr
set_option linter.unusedVariables false
open Go.RowKit
open fl (S S_size S_append S_inj)
open rw (Arr But Own bnext below_box below_drew below_drewN)

/-! ### Rows -/
def enSh : rw.Sh EnIn where
  t := 70
  st := 43
  k := 3
  bytes := 32
  z := .agg #[.int .u64 0, .int .i64 0, .string ⟨#[]⟩]
  enc := fun x => [.int .u64 (x.term : Nat), .int .i64 x.kind, .string (S x.data)]
  hu := Tryz.underlying43
  hi := by kernel_rfl
  hz := by rfl
  hk := by decide
  hb := by decide
  len := fun _ => rfl
  one := fun x u hu => by
    simp only [List.mem_cons, List.not_mem_nil, or_false] at hu
    rcases hu with rfl | rfl | rfl <;> rfl
def noSh : rw.Sh Int where
  t := 3
  st := 42
  k := 1
  bytes := 8
  z := .int .i64 0
  enc := fun x => [.int .i64 x]
  hu := Tryz.underlying42
  hi := by kernel_rfl
  hz := by rfl
  hk := by decide
  hb := by decide
  len := fun _ => rfl
  one := fun x u hu => by
    simp only [List.mem_cons, List.not_mem_nil, or_false] at hu
    rcases hu with rfl; rfl
def nuSh : rw.Sh Nat where
  t := 39
  st := 143
  k := 1
  bytes := 8
  z := .int .u64 0
  enc := fun x => [.int .u64 (x : Nat)]
  hu := Tryz.underlying143
  hi := by kernel_rfl
  hz := by rfl
  hk := by decide
  hb := by decide
  len := fun _ => rfl
  one := fun x u hu => by
    simp only [List.mem_cons, List.not_mem_nil, or_false] at hu
    rcases hu with rfl; rfl
theorem slN_at {w : World} {v : Value} {l : List Int} (h : rw.Sl noSh w v l) {j : Nat} (hj : j < l.length) : ∃ b off c, v = .slice (some ⟨b, off, none⟩) l.length c ∧ b < w.heap.size ∧ w.cell? ⟨b, off + j, none⟩ = some (.int .i64 l[j]) := by
  obtain ⟨a, c, rfl, hc, hr, hn⟩ := h
  obtain ⟨b, off, rfl, hb, hcell⟩ := hr.at _ hj
  have h0 := hcell 0 (by decide)
  exact ⟨b, off, c, rfl, hb, by simpa [noSh] using h0⟩
theorem slE_at {w : World} {v : Value} {l : List EnIn} (h : rw.Sl enSh w v l) {j : Nat} (hj : j < l.length) : ∃ b off c, v = .slice (some ⟨b, off, none⟩) l.length c ∧ b < w.heap.size ∧ w.cell? ⟨b, off + j * 3, none⟩ = some (.int .u64 (l[j].term : Nat)) ∧ w.cell? ⟨b, off + j * 3 + 1, none⟩ = some (.int .i64 l[j].kind) ∧ w.cell? ⟨b, off + j * 3 + 2, none⟩ = some (.string (S l[j].data)) := by
  obtain ⟨a, c, rfl, hc, hr, hn⟩ := h
  obtain ⟨b, off, rfl, hb, hcell⟩ := hr.at _ hj
  have h0 := hcell 0 (by decide)
  have h1 := hcell 1 (by decide)
  have h2 := hcell 2 (by decide)
  exact ⟨b, off, c, rfl, hb, by simpa [enSh] using h0, by simpa [enSh] using h1, by simpa [enSh] using h2⟩
theorem sl_form {α : Type} {s : rw.Sh α} {w : World} {v : Value} {l : List α} (h : rw.Sl s w v l) : ∃ a c, v = .slice a l.length c := by
  obtain ⟨a, c, h, _⟩ := h
  exact ⟨a, c, h⟩
theorem keep1 {W W' : World} {p : Addr} {v : Value} (h : W.cell? p = some v) (k : Below W.heap.size W W') : W'.cell? p = some v :=
  (World.cell?_of_block (k.block _ (World.block_lt_of_cell? _ _ h))).trans h

/-! ### What the layers below write -/
theorem pnum_any (x : Nat) (hx : x < 18446744073709551616) (w : World) : Calls Tryz.prog 114 #[.int .u64 (x : Nat)] w fun e w' => e = .returned (.string (S (num x))) ∧ Below w.heap.size w w' := pk.num_any x hx w
theorem ptext_any (s : Bs) (hs : s.length ≤ 281474976710656) (w : World) : Calls Tryz.prog 159 #[.string (S s)] w fun e w' => e = .returned (.string (S (text s))) ∧ Below w.heap.size w w' := pk.text_any s hs w
theorem each_eq : ∀ l : List Nat, pk.each l = l.flatMap num
  | [] => rfl
  | a :: r => by
    show _ = num a ++ r.flatMap num
    rw [← each_eq r]
    rfl
theorem pnums_any (v : Value) (l : List Nat) (hl : ∀ x ∈ l, x < 18446744073709551616) (hlen : l.length ≤ 1048576) (w : World) (h : rw.Sl nuSh w v l) :
    Calls Tryz.prog 157 #[v] w fun e w' => e = .returned (.string (S (nums l))) ∧ Below w.heap.size w w' := by
  obtain ⟨a, c, rfl, hc, hr, hn⟩ := h
  have hrow : pk.Row64 w a l := by
    rcases hr with h | ⟨b, off, h1, h2, h3⟩
    · exact .inl h
    · refine .inr ⟨b, off, h1, h2, fun j hj => ?_⟩
      have := h3 j hj 0 (by decide)
      simpa [nuSh] using this
  have := pk.nums_row a c l hl (by omega) w hrow
  rw [each_eq] at this
  exact this
theorem pframe_any (l : Bs) (hl : l.length ≤ 65536) (w : World) : Calls Tryz.prog 116 #[.string (S l)] w fun e w' => e = .returned (.tuple #[.string (S (sl.frame l)), .int .i64 0]) ∧ Below w.heap.size w w' := sl.frame_any l hl w

/-! ### A record -/
structure Rc where
  kind : Nat
  base : Nat
  bterm : Nat
  size : Nat
  piece : Bs
  h : Hd
  i : Nat
  e : En
def rcC (r : Rc) (cv lv : Value) : Array Value := #[.int .i64 (r.kind : Nat), .int .u64 (r.base : Nat), .int .u64 (r.bterm : Nat), cv, lv, .int .i64 (r.size : Nat), .string (S r.piece), .int .u64 (r.h.term : Nat), .int .i64 (r.h.vote : Nat), .int .u64 (r.h.life : Nat), .int .u64 (r.i : Nat), .int .u64 (r.e.term : Nat), .int .i64 (r.e.kind : Nat), .string (S r.e.data)]
def rcV (r : Rc) (cv lv : Value) : Value := .agg (rcC r cv lv)

def formC : Array Value := #[.nilFunc, .nilFunc, .func (.func 138) #[] #[], .func (.func 139) #[] #[], .func (.func 140) #[] #[], .func (.func 141) #[] #[],
  .func (.func 142) #[] #[], .func (.func 143) #[] #[], .func (.func 144) #[] #[], .func (.func 145) #[] #[]]
theorem results_forms {w : World} {fn : Func} {tmps : Array Value} {c : Array Value} (h : fn.results = #[.cell 0 179]) (ht : tmps[0]? = some (.pointer (some ⟨w.heap.size, 0, none⟩))) (hc : c.size = 10) :
    (results fn tmps).run Tryz.prog (w.alloc (.cells c 179)) = .ok (.agg c) (w.alloc (.cells c 179)) := by
  have hl := run_loadVar_new (P := Tryz.prog) w 179 c 5 178 (by kernel_rfl) (by rw [hc]; kernel_rfl)
  simp [results, h, ht, asAddr, hl]
set_option maxHeartbeats 4000000 in
set_option maxRecDepth 100000 in
theorem forms_any (w : World) : Calls Tryz.prog 115 #[] w fun e w' => e = .returned (.agg formC) ∧ Below w.heap.size w w' := by
  go_enter Tryz.func115, Tryz.ntmps115
  go_wp2
  exact bodyPost_ret (results_forms rfl rfl rfl) rfl ⟨rfl, (Below.refl _ w).alloc (Nat.le_refl _) _⟩

/-- What a method of a record starts from: the record in a box. -/
structure Boxd (w W : World) (cs : Array Value) : Prop where
  a : Arr W w.heap.size 142 cs
  b : Below w.heap.size w W
theorem Boxd.new (w : World) (cs : Array Value) : Boxd w (w.alloc (.cells cs 142)) cs := ⟨Arr.new w _ _, below_box w _⟩
theorem Boxd.next {w W W' : World} {cs : Array Value} (h : Boxd w W cs) (k : Below W.heap.size W W') : Boxd w W' cs := ⟨h.a.below k, bnext h.b k⟩

set_option maxHeartbeats 4000000 in
set_option maxRecDepth 100000 in
theorem wHard_any (r : Rc) (a1 : Option Addr) (n1 c1 : Nat) (a2 : Option Addr) (n2 c2 : Nat) (h1 : r.h.term < 18446744073709551616) (h2 : r.h.vote ≤ 5) (h3 : r.h.life < 18446744073709551616) (w : World) :
    Calls Tryz.prog 142 #[rcV r (.slice a1 n1 c1) (.slice a2 n2 c2)] w fun e w' => e = .returned (.string (S (num r.h.term ++ (num r.h.vote ++ num r.h.life)))) ∧ Below w.heap.size w w' := by
  obtain ⟨kind, base, bterm, size, piece, ⟨term, vote, life⟩, i, ⟨et, ek, ed⟩⟩ := r
  simp only at h1 h2 h3 ⊢
  have z1 := num_len h1
  have z2 := num_len (n := vote) (by omega)
  have z3 := num_len h3
  have y1 := S_size (num term)
  have y2 := S_size (num vote)
  have y3 := S_size (num life)
  have q1 : ¬ 9223372036854775807 < (num term).length + (num vote).length := by omega
  have q2 : ¬ 9223372036854775807 < (num term).length + (num vote).length + (num life).length := by omega
  have hv : IntKind.u64.wrap (vote : Int) = (vote : Int) := IntWalk.u64_in _ (by omega)
  have h2' : vote < 18446744073709551616 := by omega
  have X0 := Boxd.new w (rcC ⟨kind, base, bterm, size, piece, ⟨term, vote, life⟩, i, ⟨et, ek, ed⟩⟩ (.slice a1 n1 c1) (.slice a2 n2 c2))
  have HS : Hid (∀ W, Boxd w W (rcC ⟨kind, base, bterm, size, piece, ⟨term, vote, life⟩, i, ⟨et, ek, ed⟩⟩ (.slice a1 n1 c1) (.slice a2 n2 c2)) → (W.cell? ⟨w.heap.size, 7, none⟩ = some (.int .u64 (term : Nat)) ∧ W.cell? ⟨w.heap.size, 8, none⟩ = some (.int .i64 (vote : Nat)) ∧ W.cell? ⟨w.heap.size, 9, none⟩ = some (.int .u64 (life : Nat)))) := fun W h => ⟨h.a.cell rfl, h.a.cell rfl, h.a.cell rfl⟩
  unfold rcV rcC at *
  obtain ⟨W1, hW1⟩ : ∃ W1, w.alloc (.cells #[.int .i64 (kind : Nat), .int .u64 (base : Nat), .int .u64 (bterm : Nat), .slice a1 n1 c1, .slice a2 n2 c2, .int .i64 (size : Nat), .string (S piece), .int .u64 (term : Nat), .int .i64 (vote : Nat), .int .u64 (life : Nat), .int .u64 (i : Nat), .int .u64 (et : Nat), .int .i64 (ek : Nat), .string (S ed)] 142) = W1 := ⟨_, rfl⟩
  rw [hW1] at X0
  have k0 := HS.out _ (X0.next (below_drew (Below.refl _ _)))
  have X1 := Lib.hid (X0.next (below_drew (Below.refl _ _)))
  clear X0
  go_enter Tryz.func142, Tryz.ntmps142
  go_upto_region 1 with (fail)
  clear hW1
  go_region_held3 (fun W => W.cell? ⟨w.heap.size, 7, none⟩ = some (.int .u64 (term : Nat)) ∧ W.cell? ⟨w.heap.size, 8, none⟩ = some (.int .i64 (vote : Nat)) ∧ W.cell? ⟨w.heap.size, 9, none⟩ = some (.int .u64 (life : Nat)))
    (first | (with_reducible exact k0) | (with_reducible exact kx))
    (((go_at_call 114; with_reducible refine (pnum_any _ (by first | exact h1 | exact h2' | exact h3) _).mono ?_; rintro e w2 ⟨rfl, b2⟩; replace X1 := Lib.hid (X1.out.next b2); clear b2; have kx := HS.out _ X1.out)))
  have X2 := X1
  clear HS kx k0
  go_wp2
  go_ret
  exact ⟨congrArg (fun x => Ending.returned (Value.string x)) (by simp only [S_append, List.append_assoc]), X2.out.b⟩
set_option maxHeartbeats 4000000 in
set_option maxRecDepth 100000 in
theorem wEnt_any (r : Rc) (a1 : Option Addr) (n1 c1 : Nat) (a2 : Option Addr) (n2 c2 : Nat) (h1 : r.i < 18446744073709551616) (h2 : May r.e) (h3 : r.e.term < 18446744073709551616) (w : World) :
    Calls Tryz.prog 144 #[rcV r (.slice a1 n1 c1) (.slice a2 n2 c2)] w fun e w' => e = .returned (.string (S (num r.i ++ (num r.e.term ++ (num r.e.kind ++ text r.e.data))))) ∧ Below w.heap.size w w' := by
  obtain ⟨kind, base, bterm, size, piece, ⟨term, vote, life⟩, i, ⟨et, ek, ed⟩⟩ := r
  simp only at h1 h2 h3 ⊢
  obtain ⟨m1, m2, m3⟩ := h2
  simp only at m1 m2 m3
  have z1 := num_len h1
  have z2 := num_len (n := ek) (by omega)
  have z3 := num_len h3
  have z4 := text_len (s := ed) (by omega)
  have y1 := S_size (num i)
  have y2 := S_size (num et)
  have y3 := S_size (num ek)
  have y4 := S_size (text ed)
  have q1 : ¬ 9223372036854775807 < (num i).length + (num et).length := by omega
  have q2 : ¬ 9223372036854775807 < (num i).length + (num et).length + (num ek).length := by omega
  have q3 : ¬ 9223372036854775807 < (num i).length + (num et).length + (num ek).length + (text ed).length := by omega
  have hv : IntKind.u64.wrap (ek : Int) = (ek : Int) := IntWalk.u64_in _ (by omega)
  have h2' : ek < 18446744073709551616 := by omega
  have h4 : ed.length ≤ 281474976710656 := by omega
  have X0 := Boxd.new w (rcC ⟨kind, base, bterm, size, piece, ⟨term, vote, life⟩, i, ⟨et, ek, ed⟩⟩ (.slice a1 n1 c1) (.slice a2 n2 c2))
  have HS : Hid (∀ W, Boxd w W (rcC ⟨kind, base, bterm, size, piece, ⟨term, vote, life⟩, i, ⟨et, ek, ed⟩⟩ (.slice a1 n1 c1) (.slice a2 n2 c2)) → (W.cell? ⟨w.heap.size, 10, none⟩ = some (.int .u64 (i : Nat)) ∧ W.cell? ⟨w.heap.size, 11, none⟩ = some (.int .u64 (et : Nat)) ∧ W.cell? ⟨w.heap.size, 12, none⟩ = some (.int .i64 (ek : Nat)) ∧ W.cell? ⟨w.heap.size, 13, none⟩ = some (.string (S ed)))) := fun W h => ⟨h.a.cell rfl, h.a.cell rfl, h.a.cell rfl, h.a.cell rfl⟩
  unfold rcV rcC at *
  obtain ⟨W1, hW1⟩ : ∃ W1, w.alloc (.cells #[.int .i64 (kind : Nat), .int .u64 (base : Nat), .int .u64 (bterm : Nat), .slice a1 n1 c1, .slice a2 n2 c2, .int .i64 (size : Nat), .string (S piece), .int .u64 (term : Nat), .int .i64 (vote : Nat), .int .u64 (life : Nat), .int .u64 (i : Nat), .int .u64 (et : Nat), .int .i64 (ek : Nat), .string (S ed)] 142) = W1 := ⟨_, rfl⟩
  rw [hW1] at X0
  have k0 := HS.out _ (X0.next (below_drew (Below.refl _ _)))
  have X1 := Lib.hid (X0.next (below_drew (Below.refl _ _)))
  clear X0
  go_enter Tryz.func144, Tryz.ntmps144
  go_upto_region 1 with (fail)
  clear hW1
  go_region_held3 (fun W => W.cell? ⟨w.heap.size, 10, none⟩ = some (.int .u64 (i : Nat)) ∧ W.cell? ⟨w.heap.size, 11, none⟩ = some (.int .u64 (et : Nat)) ∧ W.cell? ⟨w.heap.size, 12, none⟩ = some (.int .i64 (ek : Nat)) ∧ W.cell? ⟨w.heap.size, 13, none⟩ = some (.string (S ed)))
    (first | (with_reducible exact k0) | (with_reducible exact kx))
    ((first | (go_at_call 114; with_reducible refine (pnum_any _ (by first | exact h1 | exact h2' | exact h3) _).mono ?_; rintro e w2 ⟨rfl, b2⟩; replace X1 := Lib.hid (X1.out.next b2); clear b2; have kx := HS.out _ X1.out) | (go_at_call 159; with_reducible refine (ptext_any _ h4 _).mono ?_; rintro e w2 ⟨rfl, b2⟩; replace X1 := Lib.hid (X1.out.next b2); clear b2; have kx := HS.out _ X1.out)))
  have X2 := X1
  clear HS kx k0
  go_wp2
  go_ret
  exact ⟨congrArg (fun x => Ending.returned (Value.string x)) (by simp only [S_append, List.append_assoc]), X2.out.b⟩
set_option maxHeartbeats 4000000 in
set_option maxRecDepth 100000 in
theorem wPiece_any (r : Rc) (a1 : Option Addr) (n1 c1 : Nat) (a2 : Option Addr) (n2 c2 : Nat) (h1 : r.piece.length ≤ 281474976710656) (h2 : True) (h3 : True) (w : World) :
    Calls Tryz.prog 140 #[rcV r (.slice a1 n1 c1) (.slice a2 n2 c2)] w fun e w' => e = .returned (.string (S (text r.piece))) ∧ Below w.heap.size w w' := by
  obtain ⟨kind, base, bterm, size, piece, ⟨term, vote, life⟩, i, ⟨et, ek, ed⟩⟩ := r
  simp only at h1 ⊢
  clear h2 h3
  have X0 := Boxd.new w (rcC ⟨kind, base, bterm, size, piece, ⟨term, vote, life⟩, i, ⟨et, ek, ed⟩⟩ (.slice a1 n1 c1) (.slice a2 n2 c2))
  have HS : Hid (∀ W, Boxd w W (rcC ⟨kind, base, bterm, size, piece, ⟨term, vote, life⟩, i, ⟨et, ek, ed⟩⟩ (.slice a1 n1 c1) (.slice a2 n2 c2)) → (W.cell? ⟨w.heap.size, 6, none⟩ = some (.string (S piece)))) := fun W h => h.a.cell rfl
  unfold rcV rcC at *
  obtain ⟨W1, hW1⟩ : ∃ W1, w.alloc (.cells #[.int .i64 (kind : Nat), .int .u64 (base : Nat), .int .u64 (bterm : Nat), .slice a1 n1 c1, .slice a2 n2 c2, .int .i64 (size : Nat), .string (S piece), .int .u64 (term : Nat), .int .i64 (vote : Nat), .int .u64 (life : Nat), .int .u64 (i : Nat), .int .u64 (et : Nat), .int .i64 (ek : Nat), .string (S ed)] 142) = W1 := ⟨_, rfl⟩
  rw [hW1] at X0
  have k0 := HS.out _ X0
  have X1 := Lib.hid X0
  clear X0
  go_enter Tryz.func140, Tryz.ntmps140
  go_wp2_with fail
  refine (ptext_any piece h1 _).mono ?_
  rintro e w2 ⟨rfl, b2⟩
  have X2 := Lib.hid (X1.out.next b2)
  clear b2 k0
  go_wp2_with fail
  go_ret
  exact ⟨rfl, X2.out.b⟩
end Go.Proofs.YteeeakbgofjinaaGreat.jr
/-! JrW2 -/
namespace Go.Proofs.YteeeakbgofjinaaGreat.jr
set_option linter.unusedVariables false
open Go.RowKit
open fl (S S_size S_append S_inj)
open rw (Arr But Own bnext below_box below_drew below_drewN)

def ints (l : List Nat) : List Int := l.map fun (x : Nat) => (x : Int)
theorem ints_length (l : List Nat) : (ints l).length = l.length := by simp [ints]
theorem ints_get (l : List Nat) (k : Nat) (h : k < l.length) : (ints l)[k]'(by rw [ints_length]; exact h) = ((l[k]'h : Nat) : Int) := by simp [ints]
structure Boxn (w W : World) (cs : Array Value) (v : Value) (l : List Nat) : Prop where
  x : Boxd w W cs
  o : rw.Sl nuSh W v l
theorem Boxn.next {w W W' : World} {cs : Array Value} {v : Value} {l : List Nat} (h : Boxn w W cs v l) (k : Below W.heap.size W W') : Boxn w W' cs v l := ⟨h.x.next k, h.o.later _ k⟩

set_option maxHeartbeats 4000000 in
set_option maxRecDepth 100000 in
theorem wBase_any (r : Rc) (cv : Value) (a2 : Option Addr) (n2 c2 : Nat) (conf : List Nat) (h1 : r.base < 18446744073709551616) (h2 : r.bterm < 18446744073709551616) (h3 : r.size ≤ 1048576) (hc : ∀ x ∈ conf, x < 18446744073709551616) (hcl : conf.length ≤ 1000) (w : World) (hs : rw.Sl noSh w cv (ints conf)) :
    Calls Tryz.prog 138 #[rcV r cv (.slice a2 n2 c2)] w fun e w' => e = .returned (.string (S (num r.base ++ (num r.bterm ++ (nums conf ++ num r.size))))) ∧ Below w.heap.size w w' := by
  obtain ⟨kind, base, bterm, size, piece, ⟨term, vote, life⟩, i, ⟨et, ek, ed⟩⟩ := r
  simp only at h1 h2 h3 ⊢
  obtain ⟨a1, c1, rfl⟩ := sl_form hs
  have hil := ints_length conf
  rw [hil] at *
  have z1 := num_len h1
  have z2 := num_len h2
  have z3 := num_len (n := size) (by omega)
  have z4 : (nums conf).length ≤ 10010 := by
    have := nums_len hc
    have := num_len (n := conf.length) (by omega)
    unfold nums
    rw [List.length_append]
    omega
  have y1 := S_size (num base)
  have y2 := S_size (num bterm)
  have y3 := S_size (num size)
  have y4 := S_size (nums conf)
  have q1 : ¬ 9223372036854775807 < (num base).length + (num bterm).length := by omega
  have q2 : ¬ 9223372036854775807 < (num base).length + (num bterm).length + (nums conf).length := by omega
  have q3 : ¬ 9223372036854775807 < (num base).length + (num bterm).length + (nums conf).length + (num size).length := by omega
  have hv : IntKind.u64.wrap (size : Int) = (size : Int) := IntWalk.u64_in _ (by omega)
  have h3' : size < 18446744073709551616 := by omega
  have X0 := Boxd.new w (rcC ⟨kind, base, bterm, size, piece, ⟨term, vote, life⟩, i, ⟨et, ek, ed⟩⟩ (.slice a1 conf.length c1) (.slice a2 n2 c2))
  have hs1 := hs.later _ X0.b
  unfold rcV rcC at *
  obtain ⟨cs, hcs⟩ : ∃ cs : Array Value, cs = #[.int .i64 (kind : Nat), .int .u64 (base : Nat), .int .u64 (bterm : Nat), .slice a1 conf.length c1, .slice a2 n2 c2, .int .i64 (size : Nat), .string (S piece), .int .u64 (term : Nat), .int .i64 (vote : Nat), .int .u64 (life : Nat), .int .u64 (i : Nat), .int .u64 (et : Nat), .int .i64 (ek : Nat), .string (S ed)] := ⟨_, rfl⟩
  rw [← hcs] at X0 hs1
  have HS : Hid (∀ W, Boxd w W cs → (W.cell? ⟨w.heap.size, 1, none⟩ = some (.int .u64 (base : Nat)) ∧ W.cell? ⟨w.heap.size, 2, none⟩ = some (.int .u64 (bterm : Nat)) ∧ W.cell? ⟨w.heap.size, 5, none⟩ = some (.int .i64 (size : Nat)))) :=
    fun W h => ⟨h.a.cell (by rw [hcs]; rfl), h.a.cell (by rw [hcs]; rfl), h.a.cell (by rw [hcs]; rfl)⟩
  have k3 := X0.a.cell (j := 3) (v := .slice a1 conf.length c1) (by rw [hcs]; rfl)
  obtain ⟨W1, hW1⟩ : ∃ W1, w.alloc (.cells cs 142) = W1 := ⟨_, rfl⟩
  rw [hW1] at X0 k3 hs1
  rw [hcs] at hW1
  have H1 := Lib.hid X0
  have HR1 := Lib.hid hs1
  clear X0 hs1 hs hil hcs
  go_enter Tryz.func138, Tryz.ntmps138
  go_wp2_with fail
  clear hW1 k3
  go_loopw [3, 10] (fun v j wr => ∃ k : Nat, j = .int .i64 k ∧ k ≤ conf.length ∧ Hid (Own nuSh wr W1.heap.size v (conf.take k) ∧ Below W1.heap.size W1 wr))
    (fun _ j _ => conf.length - (intOf j).toNat)
  case atStart => exact ⟨0, rfl, Nat.zero_le _, Own.nil _ _ _, Below.refl _ _⟩
  case round =>
    obtain ⟨k, rfl, hk, HI⟩ := hrel
    by_cases hlt : k < conf.length
    · have hki : (k : Int) < (conf.length : Int) := by omega
      obtain ⟨o, hB⟩ := HI.out
      obtain ⟨b, off, c, e, hb, c0⟩ := slN_at (HR1.out.later _ hB) (j := k) (by rw [ints_length]; exact hlt)
      injection e with e1 e2 e3
      subst e1 e3
      obtain ⟨x, hx⟩ : ∃ x, conf[k]'hlt = x := ⟨_, rfl⟩
      have hx2 : (ints conf)[k]'(by rw [ints_length]; exact hlt) = (x : Int) := by rw [← hx]; exact ints_get conf k hlt
      have hxm : x < 18446744073709551616 := hc x (hx ▸ List.getElem_mem hlt)
      rw [hx2] at c0
      have hwx : IntKind.u64.wrap (x : Int) = (x : Int) := IntWalk.u64_in _ (by omega)
      obtain ⟨o', w', g1, g2, g3⟩ := rw.append_one nuSh W1.heap.size _ (conf.take k) x (by rw [List.length_take]; omega) wr o hB.size
      have ht : conf.take (k + 1) = conf.take k ++ [x] := by rw [List.take_succ_eq_append_getElem hlt, hx]
      have HN : Hid (Own nuSh w' W1.heap.size o' (conf.take (k + 1)) ∧ Below W1.heap.size W1 w') := ⟨by rw [ht]; exact g2, hB.trans g3⟩
      have HR := Lib.hid g1
      clear g1 g2 g3 o hB HI hx hx2 ht e2
      go_wp2_with (at_builtin; refine rw.wpList_append_at _ _ _ rfl rfl _ _ _ _ rfl rfl HR.out ?_)
      go_roundw
      case rel => exact ⟨k + 1, by go_num, by omega, HN⟩
      case measure => simp [intOf]; omega
    · obtain rfl : k = conf.length := by omega
      have hki : ¬ (conf.length : Int) < (conf.length : Int) := by omega
      obtain ⟨o, hB⟩ := HI.out
      rw [List.take_length] at o
      have X1 := Lib.hid ((Boxn.mk (H1.out.next hB) o.sl).next (below_drew (Below.refl _ _)))
      obtain ⟨a7, c7, rfl⟩ := o.form
      have k0 := HS.out _ X1.out.x
      clear o hB HI H1 HR1 hk
      go_upto_region 7 with (fail)
      go_region_held3 (fun W => W.cell? ⟨w.heap.size, 1, none⟩ = some (.int .u64 (base : Nat)) ∧ W.cell? ⟨w.heap.size, 2, none⟩ = some (.int .u64 (bterm : Nat)) ∧ W.cell? ⟨w.heap.size, 5, none⟩ = some (.int .i64 (size : Nat)))
        (first | (with_reducible exact k0) | (with_reducible exact kx))
        (first | ((go_at_call 114; with_reducible refine (pnum_any _ (by first | exact h1 | exact h2 | exact h3') _).mono ?_; rintro e w2 ⟨rfl, b2⟩; replace X1 := Lib.hid (X1.out.next b2); clear b2; have kx := HS.out _ X1.out.x)) | ((go_at_call 157; with_reducible refine (pnums_any _ _ hc (by omega) _ X1.out.o).mono ?_; rintro e w2 ⟨rfl, b2⟩; replace X1 := Lib.hid (X1.out.next b2); clear b2; have kx := HS.out _ X1.out.x)))
      have X2 := X1
      clear HS kx k0
      go_wp2
      go_ret
      exact ⟨congrArg (fun x => Ending.returned (Value.string x)) (by simp only [S_append, List.append_assoc]), X2.out.x.b⟩
end Go.Proofs.YteeeakbgofjinaaGreat.jr
/-! JrW3 -/
namespace Go.Proofs.YteeeakbgofjinaaGreat.jr
set_option linter.unusedVariables false
open Go.RowKit
open fl (S S_size S_append S_inj)
open rw (Arr But Own bnext below_box below_drew below_drewN)

/-- The two functions of a kind's form. -/
structure Form (k : Nat) (wf rf : Nat) : Prop where
  idx : ∀ w, (Instr.index 179 (.agg formC) (.int .i64 (k : Nat))).run Tryz.prog w = .ok (.agg #[.func (.func wf) #[] #[], .func (.func rf) #[] #[]]) w
  ew : ∀ args w, (callFunc wf args).run Tryz.prog w = .ok (.enter wf args) w
  er : ∀ args w, (callFunc rf args).run Tryz.prog w = .ok (.enter rf args) w
theorem form1 : Form 1 138 139 := ⟨fun _ => by kernel_rfl, enters_of Tryz.func138 (by kernel_rfl) rfl, enters_of Tryz.func139 (by kernel_rfl) rfl⟩
theorem form2 : Form 2 140 141 := ⟨fun _ => by kernel_rfl, enters_of Tryz.func140 (by kernel_rfl) rfl, enters_of Tryz.func141 (by kernel_rfl) rfl⟩
theorem form3 : Form 3 142 143 := ⟨fun _ => by kernel_rfl, enters_of Tryz.func142 (by kernel_rfl) rfl, enters_of Tryz.func143 (by kernel_rfl) rfl⟩
theorem form4 : Form 4 144 145 := ⟨fun _ => by kernel_rfl, enters_of Tryz.func144 (by kernel_rfl) rfl, enters_of Tryz.func145 (by kernel_rfl) rfl⟩
theorem field_w (wf rf : Nat) (w : World) : (Instr.field 178 (.agg #[.func (.func wf) #[] #[], .func (.func rf) #[] #[]]) 0).run Tryz.prog w = .ok (.func (.func wf) #[] #[]) w := by kernel_rfl
theorem field_r (wf rf : Nat) (w : World) : (Instr.field 178 (.agg #[.func (.func wf) #[] #[], .func (.func rf) #[] #[]]) 1).run Tryz.prog w = .ok (.func (.func rf) #[] #[]) w := by kernel_rfl

/-- A record's frame behind the others, unless there are too many bytes. -/
def addF (l : Bs) (body : Bs) : Bs := if 1048576 < l.length then l else l ++ sl.frame body
/-- The builder beside the record's box. -/
structure Two (w W : World) (cs : Array Value) (B b : Nat) (l : Bs) : Prop where
  x : Boxd w W cs
  o : Bld B b l W
theorem Bld.le {B b : Nat} {l : Bs} {w : World} (h : Bld B b l w) : B ≤ w.heap.size := by
  rcases h with h | h
  · exact Nat.le_of_lt (Nat.lt_of_le_of_lt h.1 h.lt)
  · exact Nat.le_of_lt (Nat.lt_of_le_of_lt h.1 h.lt)
theorem Two.next {w W W' : World} {cs : Array Value} {B b : Nat} {l : Bs} (h : Two w W cs B b l) (k : Below W.heap.size W W') : Two w W' cs B b l := ⟨h.x.next k, h.o.of k⟩

set_option maxHeartbeats 4000000 in
set_option maxRecDepth 100000 in
theorem frec_any (B b : Nat) (l : Bs) (r : Rc) (a1 : Option Addr) (n1 c1 : Nat) (a2 : Option Addr) (n2 c2 : Nat) (wf rf : Nat) (hf : Form r.kind wf rf) (hk : 1 ≤ r.kind ∧ r.kind ≤ 4) (bd : Bs) (hbd : bd.length ≤ 60000) (hl : l.length ≤ 2000000) (w : World) (hb : Bld B b l w)
    (hw : ∀ W, Below w.heap.size w W → Calls Tryz.prog wf #[rcV r (.slice a1 n1 c1) (.slice a2 n2 c2)] W fun e w' => e = .returned (.string (S bd)) ∧ Below W.heap.size W w') :
    Calls Tryz.prog 82 #[.pointer (some ⟨b, 0, none⟩), rcV r (.slice a1 n1 c1) (.slice a2 n2 c2)] w fun e w' => e = .returned (.tuple #[]) ∧ Bld B b (addF l (num r.kind ++ bd)) w' ∧ Below B w w' := by
  obtain ⟨kind, base, bterm, size, piece, ⟨term, vote, life⟩, i, ⟨et, ek, ed⟩⟩ := r
  simp only at hf hk ⊢
  have hBw := hb.le
  have X0 : Two w (w.alloc (.cells (rcC ⟨kind, base, bterm, size, piece, ⟨term, vote, life⟩, i, ⟨et, ek, ed⟩⟩ (.slice a1 n1 c1) (.slice a2 n2 c2)) 142)) (rcC ⟨kind, base, bterm, size, piece, ⟨term, vote, life⟩, i, ⟨et, ek, ed⟩⟩ (.slice a1 n1 c1) (.slice a2 n2 c2)) B b l := ⟨Boxd.new w _, hb.of (below_box w _)⟩
  unfold rcV rcC at *
  obtain ⟨W1, hW1⟩ : ∃ W1, w.alloc (.cells #[.int .i64 (kind : Nat), .int .u64 (base : Nat), .int .u64 (bterm : Nat), .slice a1 n1 c1, .slice a2 n2 c2, .int .i64 (size : Nat), .string (S piece), .int .u64 (term : Nat), .int .i64 (vote : Nat), .int .u64 (life : Nat), .int .u64 (i : Nat), .int .u64 (et : Nat), .int .i64 (ek : Nat), .string (S ed)] 142) = W1 := ⟨_, rfl⟩
  rw [hW1] at X0
  have hL := blen_any B b l W1 X0.o
  have HX := Lib.hid X0
  by_cases hlong : 1048576 < l.length
  · have hi : (l.length : Int) > 1048576 := by omega
    have HE : Hid (Bld B b (addF l (num kind ++ bd)) W1 ∧ Below B w W1) := by
      unfold addF
      rw [if_pos hlong]
      exact ⟨X0.o, X0.x.b.mono hBw⟩
    clear X0 HX hw hf hlong hl hbd hb
    go_enter Tryz.func82, Tryz.ntmps82
    go_wp2_with fail
    refine hL.mono ?_
    rintro e w2 ⟨rfl, rfl⟩
    clear hL hW1
    go_wp2_with fail
    exact bodyPost_ret (results_none rfl _ _ _) rfl ⟨rfl, HE.out⟩
  · have hi : ¬ (l.length : Int) > 1048576 := by omega
    have hz := num_len (n := kind) (by omega)
    have y1 := S_size (num kind)
    have y2 := S_size bd
    have q1 : ¬ 9223372036854775807 < (num kind).length + bd.length := by omega
    have hkw : IntKind.u64.wrap (kind : Int) = (kind : Int) := IntWalk.u64_in _ (by omega)
    obtain ⟨body, hbody⟩ : ∃ body, num kind ++ bd = body := ⟨_, rfl⟩
    have hbl : body.length ≤ 65536 := by rw [← hbody, List.length_append]; omega
    have hsum : S (num kind) ++ S bd = S body := by rw [S_append, hbody]
    have HW : Hid (∀ W, Below w.heap.size w W → Calls Tryz.prog wf #[.agg #[.int .i64 (kind : Nat), .int .u64 (base : Nat), .int .u64 (bterm : Nat), .slice a1 n1 c1, .slice a2 n2 c2, .int .i64 (size : Nat), .string (S piece), .int .u64 (term : Nat), .int .i64 (vote : Nat), .int .u64 (life : Nat), .int .u64 (i : Nat), .int .u64 (et : Nat), .int .i64 (ek : Nat), .string (S ed)]] W fun e w' => e = .returned (.string (S bd)) ∧ Below W.heap.size W w') := hw
    have HA : Hid (addF l body = l ++ sl.frame body) := Lib.hid (show addF l body = l ++ sl.frame body by unfold addF; exact if_neg hlong)
    have hfl : l.length + (sl.frame body).length ≤ 140737488355328 := by rw [sl.frame_length]; omega
    have hBs := Lib.hid (And.intro hbl (And.intro hfl hBw))
    have hidx := hf.idx
    have eg := hf.ew
    have HC : Hid (∀ W, Two w W #[.int .i64 (kind : Nat), .int .u64 (base : Nat), .int .u64 (bterm : Nat), .slice a1 n1 c1, .slice a2 n2 c2, .int .i64 (size : Nat), .string (S piece), .int .u64 (term : Nat), .int .i64 (vote : Nat), .int .u64 (life : Nat), .int .u64 (i : Nat), .int .u64 (et : Nat), .int .i64 (ek : Nat), .string (S ed)] B b l →
        (W.cell? ⟨w.heap.size, 0, none⟩ = some (.int .i64 (kind : Nat)) ∧ W.cell? ⟨w.heap.size, 1, none⟩ = some (.int .u64 (base : Nat)) ∧ W.cell? ⟨w.heap.size, 2, none⟩ = some (.int .u64 (bterm : Nat)) ∧ W.cell? ⟨w.heap.size, 3, none⟩ = some (.slice a1 n1 c1) ∧ W.cell? ⟨w.heap.size, 4, none⟩ = some (.slice a2 n2 c2) ∧ W.cell? ⟨w.heap.size, 5, none⟩ = some (.int .i64 (size : Nat)) ∧ W.cell? ⟨w.heap.size, 6, none⟩ = some (.string (S piece)) ∧
          W.cell? ⟨w.heap.size, 7, none⟩ = some (.int .u64 (term : Nat)) ∧ W.cell? ⟨w.heap.size, 8, none⟩ = some (.int .i64 (vote : Nat)) ∧ W.cell? ⟨w.heap.size, 9, none⟩ = some (.int .u64 (life : Nat)) ∧ W.cell? ⟨w.heap.size, 10, none⟩ = some (.int .u64 (i : Nat)) ∧ W.cell? ⟨w.heap.size, 11, none⟩ = some (.int .u64 (et : Nat)) ∧ W.cell? ⟨w.heap.size, 12, none⟩ = some (.int .i64 (ek : Nat)) ∧ W.cell? ⟨w.heap.size, 13, none⟩ = some (.string (S ed)))) :=
      fun W h => ⟨h.x.a.cell rfl, h.x.a.cell rfl, h.x.a.cell rfl, h.x.a.cell rfl, h.x.a.cell rfl, h.x.a.cell rfl, h.x.a.cell rfl, h.x.a.cell rfl, h.x.a.cell rfl, h.x.a.cell rfl, h.x.a.cell rfl, h.x.a.cell rfl, h.x.a.cell rfl, h.x.a.cell rfl⟩
    have hfw := field_w wf rf
    rw [hbody]
    have hk5 : (0 : Int) ≤ (kind : Int) := by omega
    have hk6 : (kind : Int) < 5 := by omega
    have hkn : kind < 18446744073709551616 := by omega
    clear X0 hw hf hlong hl hbd hb hbody hbl hfl
    go_enter Tryz.func82, Tryz.ntmps82
    go_wp2_with fail
    refine hL.mono ?_
    rintro e w2 ⟨rfl, rfl⟩
    clear hL hW1
    have k0 := HC.out _ (HX.out.next (below_drew (Below.refl _ _)))
    have X1 := Lib.hid (HX.out.next (below_drew (Below.refl _ _)))
    clear HX
    go_upto_region 2 with (fail)
    go_region_held3 (fun W => W.cell? ⟨w.heap.size, 0, none⟩ = some (.int .i64 (kind : Nat)) ∧ W.cell? ⟨w.heap.size, 1, none⟩ = some (.int .u64 (base : Nat)) ∧ W.cell? ⟨w.heap.size, 2, none⟩ = some (.int .u64 (bterm : Nat)) ∧ W.cell? ⟨w.heap.size, 3, none⟩ = some (.slice a1 n1 c1) ∧ W.cell? ⟨w.heap.size, 4, none⟩ = some (.slice a2 n2 c2) ∧ W.cell? ⟨w.heap.size, 5, none⟩ = some (.int .i64 (size : Nat)) ∧ W.cell? ⟨w.heap.size, 6, none⟩ = some (.string (S piece)) ∧ W.cell? ⟨w.heap.size, 7, none⟩ = some (.int .u64 (term : Nat)) ∧ W.cell? ⟨w.heap.size, 8, none⟩ = some (.int .i64 (vote : Nat)) ∧ W.cell? ⟨w.heap.size, 9, none⟩ = some (.int .u64 (life : Nat)) ∧ W.cell? ⟨w.heap.size, 10, none⟩ = some (.int .u64 (i : Nat)) ∧ W.cell? ⟨w.heap.size, 11, none⟩ = some (.int .u64 (et : Nat)) ∧ W.cell? ⟨w.heap.size, 12, none⟩ = some (.int .i64 (ek : Nat)) ∧ W.cell? ⟨w.heap.size, 13, none⟩ = some (.string (S ed)))
      (first | (with_reducible exact k0) | (with_reducible exact kx))
      (first | (go_at_call 114; with_reducible refine (pnum_any _ hkn _).mono ?_; rintro e w2 ⟨rfl, b2⟩; replace X1 := Lib.hid (X1.out.next b2); clear b2; have kx := HC.out _ X1.out) | (go_at_call 115; with_reducible refine (forms_any _).mono ?_; rintro e w2 ⟨rfl, b2⟩; replace X1 := Lib.hid (X1.out.next b2); clear b2; have kx := HC.out _ X1.out) | (with_reducible refine (HW.out _ X1.out.x.b).mono ?_; rintro e w2 ⟨rfl, b2⟩; replace X1 := Lib.hid (X1.out.next b2); clear b2; have kx := HC.out _ X1.out))
    clear HC kx k0
    have hF := pframe_any body hBs.out.1 w2
    go_wp2_with fail
    refine hF.mono ?_
    rintro e w3 ⟨rfl, b3⟩
    have X3 := Lib.hid (X1.out.next b3)
    clear hF b3 X1
    have hWr := bwrite_any B b l (sl.frame body) w3 X3.out.o hBs.out.2.1 (Nat.le_trans hBs.out.2.2 X3.out.x.b.size)
    go_wp2_with fail
    refine hWr.mono ?_
    rintro e w4 ⟨rfl, o4, b4⟩
    have HE : Hid (Bld B b (addF l body) w4 ∧ Below B w w4) := by
      rw [HA.out]
      exact ⟨o4, (X3.out.x.b.mono hBs.out.2.2).trans b4⟩
    clear hWr o4 b4 X3
    go_wp2_with fail
    exact bodyPost_end (results_none rfl _ _ _) rfl ⟨rfl, HE.out⟩
end Go.Proofs.YteeeakbgofjinaaGreat.jr
/-! JrRefAt -/
namespace Go.Proofs.YteeeakbgofjinaaGreat.jr
set_option linter.unusedVariables false
open Go.RowKit
open fl (S S_size S_get)

/-- What At tells: the number, where it ends, the error's number. -/
def atV (l : List UInt8) (D : Nat × Nat × List UInt8) : Value := .tuple #[.int .u64 (D.2.1 : Nat), .int .i64 ((if D.1 = 0 then l.length - D.2.2.length else 0 : Nat) : Int), .int .i64 (D.1 : Nat)]
theorem unit_step (k : Nat) : 2 ^ (7 * (k + 1)) = 2 ^ (7 * k) * 128 := by rw [show 7 * (k + 1) = 7 * k + 7 by omega, Nat.pow_add]
theorem dec_rest : ∀ (l : List UInt8) (i acc : Nat), (pk.dec i acc l).2.2.length ≤ l.length
  | [], i, acc => Nat.le_refl _
  | c :: r, i, acc => by
    unfold pk.dec
    split
    · exact Nat.zero_le _
    · split
      · exact Nat.zero_le _
      · split
        · simp
        · exact Nat.le_trans (dec_rest r _ _) (by simp)
set_option maxHeartbeats 1000000 in
set_option maxRecDepth 100000 in
theorem refat_any (l : List UInt8) (a : Nat) (hl : l.length ≤ 281474976710656) (ha : a ≤ 281474976710656) (w : World) :
    Calls Tryz.prog 150 #[.string (S l), .int .i64 (a : Nat)] w fun e w' => e = .returned (atV l (pk.dec 0 0 (l.drop a))) ∧ w' = w := by
  have hz : (S l).size = l.length := S_size l
  obtain ⟨D, hDD⟩ : ∃ D, pk.dec 0 0 (l.drop a) = D := ⟨_, rfl⟩
  rw [hDD]
  have HDD := Lib.hid hDD
  clear hDD
  go_enter Tryz.func150, Tryz.ntmps150
  go_wp2_with fail
  go_loopw [1, 7, 8, 9, 10] (fun av nv uv iv cv wr => ∃ k p acc un : Nat, av = .int .i64 (p : Nat) ∧ nv = .int .u64 (acc : Nat) ∧ uv = .int .u64 (un : Nat) ∧ iv = .int .i64 (k : Nat) ∧ k ≤ 9 ∧ Hid (p = a + k ∧ un = 2 ^ (7 * k) ∧ acc < 2 ^ (7 * k) ∧ pk.dec k acc (l.drop p) = D) ∧ wr = w)
    (fun _ _ _ iv _ _ => 10 - (intOf iv).toNat)
  case atStart => exact ⟨0, a, 0, 1, rfl, rfl, rfl, rfl, by omega, ⟨rfl, rfl, by decide, HDD.out⟩, rfl⟩
  case round =>
    obtain ⟨k, p, acc, un, rfl, rfl, rfl, rfl, hk, HI, rfl⟩ := hrel
    obtain ⟨hp, hun, hacc, hD⟩ := HI.out
    have hki : (k : Int) < 10 := by omega
    by_cases hlt : p < l.length
    · have hlt' : p < (S l).size := by rw [hz]; exact hlt
      have hge : ¬ (p : Int) ≥ (l.length : Int) := by omega
      obtain ⟨c, hc⟩ : ∃ c, l[p]'hlt = c := ⟨_, rfl⟩
      have hx : ((S l)[p]'hlt').toNat = c.toNat := by rw [S_get l p hlt hlt', hc]
      obtain ⟨m, hm⟩ : ∃ m, c.toNat = m := ⟨_, rfl⟩
      have hm256 : m < 256 := hm ▸ c.toNat_lt
      rw [List.drop_eq_getElem_cons hlt, hc] at hD
      rw [hm] at hx
      unfold pk.dec at hD
      rw [hm, ← hun] at hD
      have hu9 : un ≤ 9223372036854775808 := by
        rw [hun]
        exact Nat.le_trans (Nat.pow_le_pow_right (by decide) (show 7 * k ≤ 63 by omega)) (by decide)
      have hp1 : IntKind.i64.wrap ((p : Int) + 1) = ((p + 1 : Nat) : Int) := by rw [IntWalk.i64_in _ (by omega)]; omega
      have hk1 : IntKind.i64.wrap ((k : Int) + 1) = ((k + 1 : Nat) : Int) := by rw [IntWalk.i64_in _ (by omega)]; omega
      by_cases h1 : k = 9 ∧ 1 < m
      · rw [if_pos h1] at hD
        have HR : Hid (atV l D = .tuple #[.int .u64 0, .int .i64 0, .int .i64 4]) := by rw [← hD]; rfl
        have hk9 : ((k : Int) == 9) = true := by rw [beq_iff_eq]; omega
        have hm1 : (m : Int) > 1 := by omega
        clear HI hp hun hacc hD hm hc h1 hk1 hu9
        go_wp2_with fail
        go_ret3
        exact ⟨congrArg Ending.returned HR.out.symm, rfl⟩
      rw [if_neg h1] at hD
      have h9 : ((k : Int) == 9) = false ∨ (((k : Int) == 9) = true ∧ ¬ (m : Int) > 1) := by
        by_cases h : k = 9
        · exact .inr ⟨by rw [beq_iff_eq]; omega, by have : ¬ 1 < m := fun h' => h1 ⟨h, h'⟩; omega⟩
        · exact .inl (by rw [beq_eq_false_iff_ne]; omega)
      by_cases h128 : m < 128
      · have hi128 : ¬ (m : Int) ≥ 128 := by omega
        by_cases h0 : 0 < k ∧ m = 0
        · rw [if_pos h0] at hD
          have HR : Hid (atV l D = .tuple #[.int .u64 0, .int .i64 0, .int .i64 4]) := by rw [← hD]; rfl
          have hm0 : ((m : Int) == 0) = true := by rw [beq_iff_eq]; omega
          have hk0 : (k : Int) > 0 := by omega
          clear HI hp hun hacc hD hm hc h1 hk1 hu9 h128 h0
          rcases h9 with h9 | ⟨h9, h91⟩
          all_goals (
            go_wp2_with fail
            go_ret3
            exact ⟨congrArg Ending.returned HR.out.symm, rfl⟩)
        · rw [if_neg h0, if_pos h128] at hD
          have hlim : acc + m * un < 18446744073709551616 := by rw [hun]; exact pk.nine_le hk h128 (fun h => by have : ¬ 1 < m := fun h' => h1 ⟨h, h'⟩; omega) acc hacc
          obtain ⟨q, hq⟩ : ∃ q, m * un = q := ⟨_, rfl⟩
          rw [hq] at hlim hD
          have hqi : (m : Int) * (un : Int) = (q : Int) := by rw [← hq]; exact (Int.natCast_mul m un).symm
          have hw1 : IntKind.u64.wrap ((m : Int) * (un : Int)) = (q : Int) := by rw [hqi, IntWalk.u64_in _ (by omega)]
          have hw2 : IntKind.u64.wrap ((acc : Int) + (q : Int)) = ((acc + q : Nat) : Int) := by rw [IntWalk.u64_in _ (by omega)]; omega
          have HR : Hid (atV l D = .tuple #[.int .u64 ((acc + q : Nat) : Int), .int .i64 ((p + 1 : Nat) : Int), .int .i64 0]) := by
            rw [← hD]
            unfold atV
            simp only [if_true]
            rw [List.length_drop, show l.length - (l.length - (p + 1)) = p + 1 by omega]
            rfl
          have h00 : ((m : Int) == 0) = false ∨ (((m : Int) == 0) = true ∧ ¬ (k : Int) > 0) := by
            by_cases h : m = 0
            · exact .inr ⟨by rw [beq_iff_eq]; omega, by have : ¬ 0 < k := fun h' => h0 ⟨h', h⟩; omega⟩
            · exact .inl (by rw [beq_eq_false_iff_ne]; omega)
          clear HI hp hun hacc hD hm hc h1 hk1 hu9 h128 h0 hq hlim hqi
          rcases h9 with h9 | ⟨h9, h91⟩
          all_goals (
            rcases h00 with h00 | ⟨h00, h01⟩
            all_goals (
              go_wp2_with fail
              go_ret3
              exact ⟨congrArg Ending.returned HR.out.symm, rfl⟩))
      · have hi128 : (m : Int) ≥ 128 := by omega
        have hk8 : k ≤ 8 := by
          have : ¬ k = 9 := fun h => h1 ⟨h, by omega⟩
          omega
        rw [if_neg (by omega), if_neg h128] at hD
        have hk9 : ((k : Int) == 9) = false := by rw [beq_eq_false_iff_ne]; omega
        have hmod : m % 128 = m - 128 := by omega
        rw [hmod] at hD
        have hlim : acc + (m - 128) * un < 2 ^ (7 * (k + 1)) := by
          have h3 : (m - 128) * un ≤ 127 * un := Nat.mul_le_mul_right _ (by omega)
          rw [unit_step, ← hun]
          omega
        have hpow : 2 ^ (7 * (k + 1)) ≤ 9223372036854775808 := Nat.le_trans (Nat.pow_le_pow_right (by decide) (show 7 * (k + 1) ≤ 63 by omega)) (by decide)
        have hun2 : un * 128 = 2 ^ (7 * (k + 1)) := by rw [unit_step, hun]
        obtain ⟨q, hq⟩ : ∃ q, (m - 128) * un = q := ⟨_, rfl⟩
        rw [hq] at hlim hD
        have hqi : ((m : Int) - 128) * (un : Int) = (q : Int) := by
          rw [← hq, Int.natCast_mul]
          congr 1
          omega
        have hw0 : IntKind.u8.wrap ((m : Int) - 128) = (m : Int) - 128 := IntWalk.u8_in _ (by omega)
        have hw00 : IntKind.u64.wrap ((m : Int) - 128) = (m : Int) - 128 := IntWalk.u64_in _ (by omega)
        have hw1 : IntKind.u64.wrap (((m : Int) - 128) * (un : Int)) = (q : Int) := by rw [hqi, IntWalk.u64_in _ (by omega)]
        have hw2 : IntKind.u64.wrap ((acc : Int) + (q : Int)) = ((acc + q : Nat) : Int) := by rw [IntWalk.u64_in _ (by omega)]; omega
        have hw3 : IntKind.u64.wrap ((un : Int) * 128) = ((un * 128 : Nat) : Int) := by rw [IntWalk.u64_in _ (by omega)]; omega
        have HN : Hid (p + 1 = a + (k + 1) ∧ un * 128 = 2 ^ (7 * (k + 1)) ∧ acc + q < 2 ^ (7 * (k + 1)) ∧ pk.dec (k + 1) (acc + q) (l.drop (p + 1)) = D) := ⟨by omega, hun2, hlim, hD⟩
        clear HI hp hun hacc hD hm hc h1 hu9 h128 h9 hmod hlim hpow hun2 hq hqi
        go_wp2_with fail
        go_roundw
        case rel => exact ⟨k + 1, p + 1, acc + q, un * 128, by go_num, by go_num, by go_num, by go_num, by omega, HN, by first | rfl | trivial⟩
        case measure => simp [intOf]; omega
    · have hge : (p : Int) ≥ (l.length : Int) := by omega
      rw [List.drop_of_length_le (by omega)] at hD
      have HR : Hid (atV l D = .tuple #[.int .u64 0, .int .i64 0, .int .i64 3]) := by rw [← hD]; rfl
      clear HI hp hun hacc hD
      go_wp2_with fail
      go_ret3
      exact ⟨congrArg Ending.returned HR.out.symm, rfl⟩
end Go.Proofs.YteeeakbgofjinaaGreat.jr
/-! JrRefRd -/
namespace Go.Proofs.YteeeakbgofjinaaGreat.jr
set_option linter.unusedVariables false
open Go.RowKit
open fl (S S_size S_get)
open rw (Arr But below_box below_drew below_drewN)

/-- A reader in memory: over the bytes l; o: what is left, none: it has failed. -/
def Rdr (w : World) (b : Nat) (l : Bs) (o : Option Bs) : Prop :=
  ∃ a er pl : Nat, Arr w b 190 #[.string (S l), .int .i64 (a : Nat), .int .i64 (er : Nat), .int .i64 (pl : Nat)] ∧ a ≤ l.length ∧
    ((∃ r, o = some r ∧ er = 0 ∧ l.drop a = r) ∨ (o = none ∧ er ≠ 0))
theorem Rdr.below {w w' : World} {b : Nat} {l : Bs} {o : Option Bs} (h : Rdr w b l o) (k : Below w.heap.size w w') : Rdr w' b l o := by
  obtain ⟨a, er, pl, h1, h2⟩ := h
  exact ⟨a, er, pl, h1.below k, h2⟩
theorem Rdr.new (w : World) (l : Bs) : Rdr (w.alloc (.cells #[.string (S l), .int .i64 0, .int .i64 0, .int .i64 0] 190)) w.heap.size l (some l) :=
  ⟨0, 0, 0, Arr.new w _ _, Nat.zero_le _, .inl ⟨l, rfl, rfl, rfl⟩⟩

theorem drop_end {A B l : Bs} (h : l = A ++ B) : l.drop (l.length - B.length) = B := by
  subst h
  rw [List.length_append, Nat.add_sub_cancel, List.drop_left]

set_option maxRecDepth 100000 in
theorem fail_any (b : Nat) (l : Bs) (a er pl e : Nat) (w : World) (h : Arr w b 190 #[.string (S l), .int .i64 (a : Nat), .int .i64 (er : Nat), .int .i64 (pl : Nat)]) :
    Calls Tryz.prog 151 #[.pointer (some ⟨b, 0, none⟩), .int .i64 (e : Nat)] w fun x w' => x = .returned (.tuple #[]) ∧ But b w w' ∧ Arr w' b 190 #[.string (S l), .int .i64 (a : Nat), .int .i64 (e : Nat), .int .i64 (a : Nat)] := by
  have c1 : w.cell? ⟨b, 1, none⟩ = some (.int .i64 (a : Nat)) := h.cell rfl
  have c2 : w.cell? ⟨b, 2, none⟩ = some (.int .i64 (er : Nat)) := h.cell rfl
  have f2 := h.frozen 2
  have A2 := h.set 2 (.int .i64 (e : Nat))
  have B2 := (But.refl b w).set 2 (.int .i64 (e : Nat))
  obtain ⟨W2, hW2⟩ : ∃ W2, w.setCell ⟨b, 2, none⟩ (.int .i64 (e : Nat)) = W2 := ⟨_, rfl⟩
  rw [hW2] at A2 B2
  have d1 : W2.cell? ⟨b, 1, none⟩ = some (.int .i64 (a : Nat)) := A2.cell rfl
  have d3 : W2.cell? ⟨b, 3, none⟩ = some (.int .i64 (pl : Nat)) := A2.cell rfl
  have f3 := A2.frozen 3
  have A3 := Lib.hid (A2.set 3 (.int .i64 (a : Nat)))
  have B3 := Lib.hid (B2.set 3 (.int .i64 (a : Nat)))
  clear A2 B2 h
  go_enter Tryz.func151, Tryz.ntmps151
  go_upto_region 1 with (fail)
  clear hW2 c1 c2 f2
  go_wp2
  exact bodyPost_end (results_none rfl _ _ _) rfl ⟨rfl, B3.out, A3.out⟩
set_option maxHeartbeats 1000000 in
set_option maxRecDepth 100000 in
theorem rnum_any (b : Nat) (l : Bs) (o : Option Bs) (hl : l.length ≤ 281474976710656) (w : World) (h : Rdr w b l o) :
    Calls Tryz.prog 121 #[.pointer (some ⟨b, 0, none⟩)] w fun e w' => e = .returned (.int .u64 ((((o.bind rdNum).map (·.1)).getD 0 : Nat) : Int)) ∧ But b w w' ∧ Rdr w' b l ((o.bind rdNum).map (·.2)) := by
  obtain ⟨a, er, pl, hA, ha, ⟨r, rfl, rfl, hr⟩ | ⟨rfl, he⟩⟩ := h
  · have c2 : w.cell? ⟨b, 2, none⟩ = some (.int .i64 0) := hA.cell rfl
    have c0 : w.cell? ⟨b, 0, none⟩ = some (.string (S l)) := hA.cell rfl
    have c1 : w.cell? ⟨b, 1, none⟩ = some (.int .i64 (a : Nat)) := hA.cell rfl
    have hAt := fun n => refat_any l a hl (by omega) (w.drewN n)
    rw [hr] at hAt
    have hrest := dec_rest r 0 0
    have hrl : r.length = l.length - a := by rw [← hr, List.length_drop]
    obtain ⟨D, hD⟩ : ∃ D, pk.dec 0 0 r = D := ⟨_, rfl⟩
    have hrd : rdNum r = if D.1 = 0 then some (D.2.1, D.2.2) else none := by unfold rdNum; rw [hD]
    have hdrop : D.1 = 0 → l.drop (l.length - D.2.2.length) = D.2.2 := fun h0 => by
      obtain ⟨y, _, h2, _⟩ := pk.dec_one r 0 0 D.2.1 D.2.2 (by decide) (by decide) (hD.trans (Prod.ext h0 rfl))
      rw [← hr] at h2
      exact drop_end (A := l.take a ++ Lib.uvarint y) (by rw [List.append_assoc, ← h2, List.take_append_drop])
    rw [hD] at hAt hrest
    simp only [Option.bind_some]
    rw [hrd]
    clear hrd hD
    obtain ⟨er', v, rest⟩ := D
    simp only at hdrop hrest ⊢
    unfold atV at hAt
    simp only at hAt
    by_cases h0 : er' = 0
    · subst h0
      simp only [if_true] at hAt
      rw [if_pos rfl]
      have hd := hdrop rfl
      obtain ⟨en, hen⟩ : ∃ en, l.length - rest.length = en := ⟨_, rfl⟩
      rw [hen] at hAt hd
      have HF : Hid (∀ n, But b w ((w.drewN n).setCell ⟨b, 1, none⟩ (.int .i64 (en : Nat))) ∧ Rdr ((w.drewN n).setCell ⟨b, 1, none⟩ (.int .i64 (en : Nat))) b l (some rest)) := fun n =>
        ⟨((But.refl b w).drewN n).set 1 _, en, 0, pl, (Arr.set (w := w.drewN n) hA 1 (.int .i64 (en : Nat))), by omega, .inl ⟨rest, rfl, rfl, hd⟩⟩
      have HC : Hid (∀ n, (w.drewN n).cell? ⟨b, 1, none⟩ = some (.int .i64 (a : Nat)) ∧ (w.drewN n).frozen? ⟨b, 1, none⟩ = false) := fun n => ⟨hA.cell (j := 1) rfl, hA.frozen 1⟩
      clear hA hr hrest hrl hdrop hd hen
      go_enter Tryz.func121, Tryz.ntmps121
      go_upto_region 3 with (fail)
      go_quiet (first | (go_at_call 150; refine Calls.quiet_of_same (hAt _)))
      have d1 := (HC.out nq).1
      have f1 := (HC.out nq).2
      go_wp2
      go_ret
      exact ⟨rfl, HF.out nq⟩
    · rw [if_neg h0] at hAt
      rw [if_neg h0]
      have hne : (er' : Int) != 0 := by simpa using h0
      have HF : Hid (∀ n, Calls Tryz.prog 151 #[.pointer (some ⟨b, 0, none⟩), .int .i64 (er' : Nat)] (w.drewN n) fun x w' => x = .returned (.tuple #[]) ∧ But b w w' ∧ Rdr w' b l none) := fun n =>
        (fail_any b l a 0 pl er' (w.drewN n) hA).mono fun x w' ⟨e1, e2, e3⟩ => ⟨e1, ((But.refl b w).drewN n).trans e2, a, er', a, e3, ha, .inr ⟨rfl, h0⟩⟩
      clear hA hr hrest hrl hdrop
      go_enter Tryz.func121, Tryz.ntmps121
      go_upto_region 3 with (fail)
      go_quiet (first | (go_at_call 150; refine Calls.quiet_of_same (hAt _)))
      have hF := HF.out nq
      clear HF
      go_wp2_with fail
      refine hF.mono ?_
      rintro e w3 ⟨rfl, e2, e3⟩
      have H3 : Hid (But b w w3 ∧ Rdr w3 b l none) := ⟨e2, e3⟩
      clear hF e2 e3
      go_wp2_with fail
      go_ret
      exact ⟨rfl, H3.out⟩
  · have c2 : w.cell? ⟨b, 2, none⟩ = some (.int .i64 (er : Nat)) := hA.cell rfl
    have hne : (er : Int) != 0 := by simpa using he
    have HF : Hid (Rdr w b l none) := ⟨a, er, pl, hA, ha, .inr ⟨rfl, he⟩⟩
    clear hA he
    go_enter Tryz.func121, Tryz.ntmps121
    go_wp2
    go_ret
    exact ⟨rfl, But.refl _ _, HF.out⟩
theorem rdNum_of {r : Bs} {D : Nat × Nat × List UInt8} (hD : pk.dec 0 0 r = D) : rdNum r = if D.1 = 0 then some (D.2.1, D.2.2) else none := by unfold rdNum; rw [hD]
theorem dec_drop {l r : Bs} {a : Nat} (hr : l.drop a = r) {D : Nat × Nat × List UInt8} (hD : pk.dec 0 0 r = D) (h0 : D.1 = 0) : l.drop (l.length - D.2.2.length) = D.2.2 := by
  obtain ⟨y, _, h2, _⟩ := pk.dec_one r 0 0 D.2.1 D.2.2 (by decide) (by decide) (hD.trans (Prod.ext h0 rfl))
  rw [← hr] at h2
  exact drop_end (A := l.take a ++ Lib.uvarint y) (by rw [List.append_assoc, ← h2, List.take_append_drop])
set_option maxHeartbeats 2000000 in
set_option maxRecDepth 100000 in
theorem rcount_any (b : Nat) (l : Bs) (o : Option Bs) (m : Nat) (hm : m ≤ 1000000) (hl : l.length ≤ 281474976710656) (w : World) (h : Rdr w b l o) :
    Calls Tryz.prog 122 #[.pointer (some ⟨b, 0, none⟩), .int .i64 (m : Nat)] w fun e w' => e = .returned (.int .i64 ((((o.bind (rdCount m)).map (·.1)).getD 0 : Nat) : Int)) ∧ But b w w' ∧ Rdr w' b l ((o.bind (rdCount m)).map (·.2)) := by
  obtain ⟨a, er, pl, hA, ha, ⟨r, rfl, rfl, hr⟩ | ⟨rfl, he⟩⟩ := h
  · have c2 : w.cell? ⟨b, 2, none⟩ = some (.int .i64 0) := hA.cell rfl
    have c0 : w.cell? ⟨b, 0, none⟩ = some (.string (S l)) := hA.cell rfl
    have c1 : w.cell? ⟨b, 1, none⟩ = some (.int .i64 (a : Nat)) := hA.cell rfl
    have hAt := fun n => refat_any l a hl (by omega) (w.drewN n)
    rw [hr] at hAt
    obtain ⟨D, hD⟩ : ∃ D, pk.dec 0 0 r = D := ⟨_, rfl⟩
    have hrd := rdNum_of hD
    have hdrop := dec_drop hr hD
    have hv := pk.dec_one r 0 0 D.2.1 D.2.2 (by decide) (by decide)
    rw [hD] at hAt hv
    unfold rdCount
    simp only [Option.bind_some]
    rw [hrd]
    clear hrd hD
    obtain ⟨er', v, rest⟩ := D
    simp only at hdrop hv ⊢
    unfold atV at hAt
    simp only at hAt
    have hmn : ¬ (m : Int) < 0 := by omega
    have hmg : (m : Int) ≥ 0 := by omega
    have hwm : IntKind.u64.wrap (m : Int) = (m : Int) := IntWalk.u64_in _ (by omega)
    have HF : Hid (∀ (k : Nat) n, k ≠ 0 → Calls Tryz.prog 151 #[.pointer (some ⟨b, 0, none⟩), .int .i64 (k : Nat)] (w.drewN n) fun x w' => x = .returned (.tuple #[]) ∧ But b w w' ∧ Rdr w' b l none) := fun k n hk =>
      (fail_any b l a 0 pl k (w.drewN n) hA).mono fun x w' ⟨e1, e2, e3⟩ => ⟨e1, ((But.refl b w).drewN n).trans e2, a, k, a, e3, ha, .inr ⟨rfl, hk⟩⟩
    by_cases h0 : er' = 0
    · subst h0
      simp only [if_true] at hAt
      rw [if_pos rfl]
      have hd := hdrop rfl
      obtain ⟨en, hen⟩ : ∃ en, l.length - rest.length = en := ⟨_, rfl⟩
      rw [hen] at hAt hd
      simp only [Option.bind_some]
      by_cases hvm : v ≤ m
      · rw [if_pos hvm]
        have hgt : ¬ (v : Int) > (m : Int) := by omega
        have hwv : IntKind.i64.wrap (v : Int) = (v : Int) := IntWalk.i64_in _ (by omega)
        have HG : Hid (∀ n, But b w ((w.drewN n).setCell ⟨b, 1, none⟩ (.int .i64 (en : Nat))) ∧ Rdr ((w.drewN n).setCell ⟨b, 1, none⟩ (.int .i64 (en : Nat))) b l (some rest)) := fun n =>
          ⟨((But.refl b w).drewN n).set 1 _, en, 0, pl, (Arr.set (w := w.drewN n) hA 1 (.int .i64 (en : Nat))), by omega, .inl ⟨rest, rfl, rfl, hd⟩⟩
        have HC : Hid (∀ n, (w.drewN n).cell? ⟨b, 1, none⟩ = some (.int .i64 (a : Nat)) ∧ (w.drewN n).frozen? ⟨b, 1, none⟩ = false) := fun n => ⟨hA.cell (j := 1) rfl, hA.frozen 1⟩
        clear hA hr hdrop hd hen hv HF hvm
        go_enter Tryz.func122, Tryz.ntmps122
        go_upto_region 3 with (fail)
        go_quiet (first | (go_at_call 150; refine Calls.quiet_of_same (hAt _)))
        have d1 := (HC.out nq).1
        have f1 := (HC.out nq).2
        go_wp2
        go_ret
        exact ⟨rfl, HG.out nq⟩
      · rw [if_neg hvm]
        have hgt : (v : Int) > (m : Int) := by omega
        clear hA hr hdrop hd hen hv hvm
        go_enter Tryz.func122, Tryz.ntmps122
        go_upto_region 3 with (fail)
        go_quiet (first | (go_at_call 150; refine Calls.quiet_of_same (hAt _)))
        have hF := HF.out 2 nq (by decide)
        rw [show ((2 : Nat) : Int) = 2 from rfl] at hF
        clear HF
        go_wp2_with fail
        refine hF.mono ?_
        rintro e w3 ⟨rfl, e2, e3⟩
        have H3 : Hid (But b w w3 ∧ Rdr w3 b l none) := ⟨e2, e3⟩
        clear hF e2 e3
        go_wp2_with fail
        go_ret
        exact ⟨rfl, H3.out⟩
    · rw [if_neg h0] at hAt
      rw [if_neg h0]
      have hne : (er' : Int) != 0 := by simpa using h0
      have hee : ((er' : Int) == 0) = false := by simpa using h0
      have HF' := Lib.hid (fun n => HF.out er' n h0)
      clear hA hr hdrop hv HF h0
      go_enter Tryz.func122, Tryz.ntmps122
      go_upto_region 3 with (fail)
      go_quiet (first | (go_at_call 150; refine Calls.quiet_of_same (hAt _)))
      have hF := HF'.out nq
      clear HF'
      go_wp2_with fail
      refine hF.mono ?_
      rintro e w3 ⟨rfl, e2, e3⟩
      have H3 : Hid (But b w w3 ∧ Rdr w3 b l none) := ⟨e2, e3⟩
      clear hF e2 e3
      go_wp2_with fail
      go_ret
      exact ⟨rfl, H3.out⟩
  · have c2 : w.cell? ⟨b, 2, none⟩ = some (.int .i64 (er : Nat)) := hA.cell rfl
    have hne : (er : Int) != 0 := by simpa using he
    have HF : Hid (Rdr w b l none) := ⟨a, er, pl, hA, ha, .inr ⟨rfl, he⟩⟩
    clear hA he
    go_enter Tryz.func122, Tryz.ntmps122
    go_wp2
    go_ret
    exact ⟨rfl, But.refl _ _, HF.out⟩
end Go.Proofs.YteeeakbgofjinaaGreat.jr
/-! JrRefRf -/
namespace Go.Proofs.YteeeakbgofjinaaGreat.jr
set_option linter.unusedVariables false
open Go.RowKit
open fl (S S_size S_get)
open rw (Arr But below_box below_drew below_drewN)

theorem cut_part (l : Bs) (a n : Nat) : (S l).extract a (a + n) = S ((l.drop a).take n) := by
  unfold S
  rw [ByteArray.extract_mk]
  congr 1
  apply Array.toList_inj.1
  simp [List.take_drop]

set_option maxHeartbeats 2000000 in
set_option maxRecDepth 100000 in
theorem rtext_any (b : Nat) (l : Bs) (o : Option Bs) (m : Nat) (hm : m ≤ 1000000) (hl : l.length ≤ 281474976710656) (w : World) (h : Rdr w b l o) :
    Calls Tryz.prog 123 #[.pointer (some ⟨b, 0, none⟩), .int .i64 (m : Nat)] w fun e w' => e = .returned (.string (S (((o.bind (rdText m)).map (·.1)).getD []))) ∧ But b w w' ∧ Rdr w' b l ((o.bind (rdText m)).map (·.2)) := by
  have hs0 : S [] = ⟨#[]⟩ := rfl
  obtain ⟨a, er, pl, hA, ha, ⟨r, rfl, rfl, hr⟩ | ⟨rfl, he⟩⟩ := h
  · have c2 : w.cell? ⟨b, 2, none⟩ = some (.int .i64 0) := hA.cell rfl
    have c0 : w.cell? ⟨b, 0, none⟩ = some (.string (S l)) := hA.cell rfl
    have c1 : w.cell? ⟨b, 1, none⟩ = some (.int .i64 (a : Nat)) := hA.cell rfl
    have hAt := fun n => refat_any l a hl (by omega) (w.drewN n)
    rw [hr] at hAt
    obtain ⟨D, hD⟩ : ∃ D, pk.dec 0 0 r = D := ⟨_, rfl⟩
    have hrd := rdNum_of hD
    have hdrop := dec_drop hr hD
    have hrest := dec_rest r 0 0
    have hrl : r.length ≤ l.length := by rw [← hr, List.length_drop]; omega
    rw [hD] at hAt hrest
    unfold rdText
    simp only [Option.bind_some]
    rw [hrd]
    clear hrd hD
    obtain ⟨er', v, rest⟩ := D
    simp only at hdrop hrest ⊢
    unfold atV at hAt
    simp only at hAt
    have hmn : ¬ (m : Int) < 0 := by omega
    have hmg : (m : Int) ≥ 0 := by omega
    have hwm : IntKind.u64.wrap (m : Int) = (m : Int) := IntWalk.u64_in _ (by omega)
    have HF : Hid (∀ (k : Nat) n, k ≠ 0 → Calls Tryz.prog 151 #[.pointer (some ⟨b, 0, none⟩), .int .i64 (k : Nat)] (w.drewN n) fun x w' => x = .returned (.tuple #[]) ∧ But b w w' ∧ Rdr w' b l none) := fun k n hk =>
      (fail_any b l a 0 pl k (w.drewN n) hA).mono fun x w' ⟨e1, e2, e3⟩ => ⟨e1, ((But.refl b w).drewN n).trans e2, a, k, a, e3, ha, .inr ⟨rfl, hk⟩⟩
    have HC0 : Hid (∀ n, (w.drewN n).cell? ⟨b, 0, none⟩ = some (.string (S l))) := fun n => hA.cell (j := 0) rfl
    by_cases h0 : er' = 0
    · subst h0
      simp only [if_true] at hAt
      rw [if_pos rfl]
      have hd := hdrop rfl
      obtain ⟨en, hen⟩ : ∃ en, l.length - rest.length = en := ⟨_, rfl⟩
      rw [hen] at hAt hd
      simp only [Option.bind_some]
      have hz : (S l).size = l.length := S_size l
      have hwl : IntKind.i64.wrap ((l.length : Int) - (en : Int)) = (rest.length : Int) := by rw [IntWalk.i64_in _ (by omega)]; omega
      have hwl2 : IntKind.u64.wrap (rest.length : Int) = (rest.length : Int) := IntWalk.u64_in _ (by omega)
      by_cases hvm : v ≤ m
      · have hgt : ¬ (v : Int) > (m : Int) := by omega
        by_cases hvl : v ≤ rest.length
        · rw [if_pos ⟨hvm, hvl⟩]
          have hgl : ¬ (v : Int) > (rest.length : Int) := by omega
          have hwv : IntKind.i64.wrap (v : Int) = (v : Int) := IntWalk.i64_in _ (by omega)
          obtain ⟨z, hzz⟩ : ∃ z, en + v = z := ⟨_, rfl⟩
          have hws : IntKind.i64.wrap ((en : Int) + (v : Int)) = (z : Int) := by rw [IntWalk.i64_in _ (by omega)]; omega
          obtain ⟨t, ht⟩ : ∃ t, rest.take v = t := ⟨_, rfl⟩
          have hsl := fun W => run_slice_string (P := Tryz.prog) W 9 (S l) .i64 .i64 (en : Int) (z : Int) Tryz.underlying9 (by omega) (by omega) (by rw [hz]; omega)
          have hex : (S l).extract ((en : Int)).toNat ((z : Int)).toNat = S t := by
            rw [Int.toNat_natCast, Int.toNat_natCast, ← hzz, cut_part, hd, ht]
          rw [hex] at hsl
          have HG : Hid (∀ n, ∃ W2, (w.drewN n).setCell ⟨b, 1, none⟩ (.int .i64 (z : Int)) = W2 ∧ W2.cell? ⟨b, 0, none⟩ = some (.string (S l)) ∧ W2.cell? ⟨b, 1, none⟩ = some (.int .i64 (z : Int)) ∧ Hid (∀ k, But b w (W2.drewN k) ∧ Rdr (W2.drewN k) b l (some (rest.drop v)))) := fun n => by
            have hA2 := (Arr.set (w := w.drewN n) hA 1 (.int .i64 (z : Int)))
            refine ⟨_, rfl, hA2.cell rfl, hA2.cell rfl, fun k => ⟨(((But.refl b w).drewN n).set 1 _).drewN k, z, 0, pl, hA2, by omega, .inl ⟨rest.drop v, rfl, rfl, ?_⟩⟩⟩
            rw [← hzz, ← List.drop_drop, hd]
          have HC : Hid (∀ n, (w.drewN n).cell? ⟨b, 1, none⟩ = some (.int .i64 (a : Nat)) ∧ (w.drewN n).frozen? ⟨b, 1, none⟩ = false) := fun n => ⟨hA.cell (j := 1) rfl, hA.frozen 1⟩
          have HT := Lib.hid ht
          clear hA hr hdrop hd hen HF hvm hvl hrest hrl hex ht hzz
          go_enter Tryz.func123, Tryz.ntmps123
          go_upto_region 3 with (fail)
          go_quiet (first | (go_at_call 150; refine Calls.quiet_of_same (hAt _)))
          have d0 := HC0.out nq
          have d1 := (HC.out nq).1
          have f1 := (HC.out nq).2
          obtain ⟨W2, hW2, y0, y1, HR⟩ := HG.out nq
          go_upto_region 12 with (fail)
          clear hW2 d0 d1 f1 HG c0 c1 c2
          have k0 : W2.drew.cell? ⟨b, 0, none⟩ = some (.string (S l)) ∧ W2.drew.cell? ⟨b, 1, none⟩ = some (.int .i64 (z : Int)) := ⟨y0, y1⟩
          go_region_held3 (fun W => W.cell? ⟨b, 0, none⟩ = some (.string (S l)) ∧ W.cell? ⟨b, 1, none⟩ = some (.int .i64 (z : Int))) (first | (with_reducible exact k0) | go_keep) (fail)
          go_wp2
          go_ret
          refine ⟨?_, HR.out 1⟩
          show Ending.returned (Value.string (S t)) = Ending.returned (Value.string (S (rest.take v)))
          rw [HT.out]
        · rw [if_neg (fun h => hvl h.2)]
          have hgl : (v : Int) > (rest.length : Int) := by omega
          clear hA hr hdrop hd hen hvm hvl hrest hrl
          go_enter Tryz.func123, Tryz.ntmps123
          go_upto_region 3 with (fail)
          go_quiet (first | (go_at_call 150; refine Calls.quiet_of_same (hAt _)))
          have d0 := HC0.out nq
          have hF := HF.out 3 nq (by decide)
          rw [show ((3 : Nat) : Int) = 3 from rfl] at hF
          clear HF
          go_wp2_with fail
          refine hF.mono ?_
          rintro e w3 ⟨rfl, e2, e3⟩
          have H3 : Hid (But b w w3 ∧ Rdr w3 b l none) := ⟨e2, e3⟩
          clear hF e2 e3
          go_wp2_with fail
          go_ret
          exact ⟨rfl, H3.out⟩
      · rw [if_neg (fun h => hvm h.1)]
        have hgt : (v : Int) > (m : Int) := by omega
        clear hA hr hdrop hd hen hvm hrest hrl
        go_enter Tryz.func123, Tryz.ntmps123
        go_upto_region 3 with (fail)
        go_quiet (first | (go_at_call 150; refine Calls.quiet_of_same (hAt _)))
        have hF := HF.out 2 nq (by decide)
        rw [show ((2 : Nat) : Int) = 2 from rfl] at hF
        clear HF
        go_wp2_with fail
        refine hF.mono ?_
        rintro e w3 ⟨rfl, e2, e3⟩
        have H3 : Hid (But b w w3 ∧ Rdr w3 b l none) := ⟨e2, e3⟩
        clear hF e2 e3
        go_wp2_with fail
        go_ret
        exact ⟨rfl, H3.out⟩
    · rw [if_neg h0] at hAt
      rw [if_neg h0]
      have hne : (er' : Int) != 0 := by simpa using h0
      have hee : ((er' : Int) == 0) = false := by simpa using h0
      have HF' := Lib.hid (fun n => HF.out er' n h0)
      clear hA hr hdrop HF h0 hrest hrl
      go_enter Tryz.func123, Tryz.ntmps123
      go_upto_region 3 with (fail)
      go_quiet (first | (go_at_call 150; refine Calls.quiet_of_same (hAt _)))
      have hF := HF'.out nq
      clear HF'
      go_wp2_with fail
      refine hF.mono ?_
      rintro e w3 ⟨rfl, e2, e3⟩
      have H3 : Hid (But b w w3 ∧ Rdr w3 b l none) := ⟨e2, e3⟩
      clear hF e2 e3
      go_wp2_with fail
      go_ret
      exact ⟨rfl, H3.out⟩
  · have c2 : w.cell? ⟨b, 2, none⟩ = some (.int .i64 (er : Nat)) := hA.cell rfl
    have hne : (er : Int) != 0 := by simpa using he
    have HF : Hid (Rdr w b l none) := ⟨a, er, pl, hA, ha, .inr ⟨rfl, he⟩⟩
    clear hA he
    go_enter Tryz.func123, Tryz.ntmps123
    go_wp2
    go_ret
    exact ⟨rfl, But.refl _ _, HF.out⟩
end Go.Proofs.YteeeakbgofjinaaGreat.jr
/-! JrW4 -/
namespace Go.Proofs.YteeeakbgofjinaaGreat.jr
set_option linter.unusedVariables false
open Go.RowKit
open fl (S S_size S_append S_inj)
open rw (Arr But Own bnext below_box below_drew below_drewN)

/-- What is written is what must be, or both are too long for each disk. -/
def Cutt (p q : Bs) : Prop := p.length ≤ 1200000 ∧ (p = q ∨ (1048576 < p.length ∧ 1048576 < q.length))
theorem Cutt.refl {p : Bs} (h : p.length ≤ 1200000) : Cutt p p := ⟨h, .inl rfl⟩
theorem Cutt.add {p q body : Bs} (h : Cutt p q) (hb : body.length ≤ 65536) : Cutt (addF p body) (q ++ sl.frame body) := by
  obtain ⟨h1, h2⟩ := h
  unfold addF
  split
  · next hl =>
    refine ⟨h1, .inr ⟨hl, ?_⟩⟩
    rw [List.length_append]
    rcases h2 with rfl | h2
    · omega
    · omega
  · next hl =>
    rcases h2 with rfl | h2
    · refine ⟨?_, .inl rfl⟩
      rw [List.length_append, sl.frame_length]
      omega
    · omega
theorem Cutt.ne {p q : Bs} (h : Cutt p q) (hq : q ≠ []) : p ≠ [] := by
  rcases h.2 with rfl | h
  · exact hq
  · intro e
    rw [e] at h
    simp at h
/-- What a row of frames is behind a method of it. -/
def FOut (B b : Nat) (w : World) (q : Bs) (e : Ending) (w' : World) : Prop := e = .returned (.tuple #[]) ∧ ∃ p, Bld B b p w' ∧ Cutt p q ∧ Below B w w'

theorem piece_part (s : Bs) (a z : Nat) (ha : a ≤ s.length) (hz : z = min (a + 4096) s.length) : (S s).extract a z = S ((s.drop a).take 4096) := by
  obtain ⟨n, rfl⟩ : ∃ n, z = a + n := ⟨z - a, by omega⟩
  rw [cut_part]
  congr 1
  by_cases h : a + 4096 ≤ s.length
  · rw [show n = 4096 by omega]
  · rw [List.take_of_length_le (by rw [List.length_drop]; omega), List.take_of_length_le (by rw [List.length_drop]; omega)]
theorem pieces_of {s : Bs} {k : Nat} (h1 : s.length ≤ k * 4096) (h2 : k * 4096 < s.length + 4096) : pieces s = k := by unfold pieces; omega

set_option maxHeartbeats 4000000 in
set_option maxRecDepth 100000 in
theorem image_any (B b : Nat) (p q s : Bs) (hp : Cutt p q) (hs : s.length ≤ 1048576) (w : World) (hb : Bld B b p w) :
    Calls Tryz.prog 103 #[.pointer (some ⟨b, 0, none⟩), .string (S s)] w (FOut B b w (q ++ pieceRecs (pieces s) s)) := by
  have hz := S_size s
  have HB := Lib.hid hb
  have HP := Lib.hid hp
  clear hb hp
  have HQ : Hid (∀ k, s.length ≤ k * 4096 → k * 4096 < s.length + 4096 → pieceRecs (pieces s) s = pieceRecs k s) := fun k h1 h2 => by rw [pieces_of h1 h2]
  generalize pieceRecs (pieces s) s = o at *
  go_enter Tryz.func103, Tryz.ntmps103
  go_wp2_with fail
  go_loopw [4] (fun j wr => ∃ k a : Nat, j = .int .i64 (a : Nat) ∧ Hid (a = k * 4096) ∧ a < s.length + 4096 ∧ Hid (∃ p', Bld B b p' wr ∧ Cutt p' (q ++ pieceRecs k s) ∧ Below B w wr))
    (fun j _ => s.length + 4096 - (intOf j).toNat)
  case atStart => exact ⟨0, 0, rfl, rfl, by omega, p, HB.out, by rw [show pieceRecs 0 s = [] from rfl, List.append_nil]; exact HP.out, Below.refl _ _⟩
  case round =>
    obtain ⟨k, a, rfl, hka, hk, HI⟩ := hrel
    by_cases hlt : a < s.length
    · have hki : (a : Int) < (s.length : Int) := by omega
      obtain ⟨z, hzz⟩ : ∃ z, min (a + 4096) s.length = z := ⟨_, rfl⟩
      obtain ⟨a4, ha4⟩ : ∃ a4, a + 4096 = a4 := ⟨_, rfl⟩
      have hw1 : IntKind.i64.wrap ((a : Int) + 4096) = (a4 : Int) := by rw [IntWalk.i64_in _ (by omega)]; omega
      have hmin : min (a4 : Int) (s.length : Int) = (z : Int) := by omega
      have hsl := fun W => run_slice_string (P := Tryz.prog) W 9 (S s) .i64 .i64 (a : Int) (z : Int) Tryz.underlying9 (by omega) (by omega) (by rw [hz]; omega)
      have hex : (S s).extract ((a : Int)).toNat ((z : Int)).toNat = S ((s.drop a).take 4096) := by
        rw [Int.toNat_natCast, Int.toNat_natCast]
        exact piece_part s a z (by omega) hzz.symm
      rw [hex] at hsl
      obtain ⟨p', o', c', b'⟩ := HI.out
      have hsn := pieceRecs_snoc k s
      rw [← hka.out] at hsn
      have hpl : ((s.drop a).take 4096).length ≤ 4096 := by rw [List.length_take]; omega
      generalize (s.drop a).take 4096 = t at *
      have hbl : (text t).length ≤ 60000 := by have := text_len (s := t) (by omega); omega
      have hR := frec_any B b p' ⟨2, 0, 0, 0, t, ⟨0, 0, 0⟩, 0, ⟨0, 0, []⟩⟩ none 0 0 none 0 0 _ _ form2 (show 1 ≤ 2 ∧ 2 ≤ 4 by omega) (text t) hbl (by have := c'.1; omega) wr o' (fun W _ => wPiece_any _ none 0 0 none 0 0 (by show t.length ≤ _; omega) trivial trivial W)
      unfold rcV rcC at hR
      have HN : Hid (∀ w', Bld B b (addF p' (num 2 ++ text t)) w' → Below B wr w' → ∃ p', Bld B b p' w' ∧ Cutt p' (q ++ pieceRecs (k + 1) s) ∧ Below B w w') := fun w' x1 x2 => by
        refine ⟨_, x1, ?_, b'.trans x2⟩
        rw [hsn, ← List.append_assoc]
        refine c'.add ?_
        have := pieceB_len t hpl
        omega
      have hs0 : S [] = ⟨#[]⟩ := rfl
      rw [hs0] at hR
      rw [show ((2 : Nat) : Int) = 2 from rfl, show ((0 : Nat) : Int) = 0 from rfl] at hR
      have HKA : Hid (a4 = (k + 1) * 4096) := Lib.hid (by have := hka.out; omega)
      have hal : a4 < s.length + 4096 := by omega
      have hal2 : a < a4 := by omega
      clear hsn hpl hbl hex hzz ha4 c' o' b' HI hka hs0
      go_wp2_with fail
      refine hR.mono ?_
      rintro e w2 ⟨rfl, x1, x2⟩
      have H2 := Lib.hid (HN.out w2 x1 x2)
      clear x1 x2 hR HN
      go_wp2_with fail
      go_roundw
      case rel => exact ⟨k + 1, a4, rfl, HKA, hal, H2⟩
      case measure => simp [intOf]; omega
    · have hki : ¬ (a : Int) < (s.length : Int) := by omega
      have HE : Hid (FOut B b w (q ++ o) (.returned (.tuple #[])) wr) := by
        obtain ⟨p', o', c', b'⟩ := HI.out
        rw [HQ.out k (by rw [← hka.out]; omega) (by rw [← hka.out]; omega)]
        exact ⟨rfl, p', o', c', b'⟩
      clear HI hka HQ
      go_wp2_with fail
      exact bodyPost_end (results_none rfl _ _ _) rfl HE.out

def ofEn (e : En) : EnIn := ⟨e.term, (e.kind : Int), e.data⟩
theorem toEn_ofEn (e : En) : toEn (ofEn e) = e := by
  cases e
  rfl
structure Good (e : EnIn) : Prop where
  may : MayIn e
  term : e.term < 18446744073709551616

set_option maxHeartbeats 4000000 in
set_option maxRecDepth 100000 in
theorem entries_any (B b : Nat) (p q : Bs) (from_ : Nat) (v : Value) (l : List EnIn) (hp : Cutt p q) (hl : ∀ e ∈ l, Good e) (hf : from_ + l.length < 18446744073709551616) (hll : l.length ≤ 1000000000) (w : World) (hb : Bld B b p w) (hs : ∀ W, Below B w W → rw.Sl enSh W v l) (hB0 : B ≤ w.heap.size) :
    Calls Tryz.prog 101 #[.pointer (some ⟨b, 0, none⟩), .int .u64 (from_ : Nat), v] w (FOut B b w (q ++ entRecs from_ (l.map toEn))) := by
  have HB := Lib.hid hb
  have HP := Lib.hid hp
  have HSl := Lib.hid hs
  have HL := Lib.hid hl
  obtain ⟨la, lc, rfl⟩ := sl_form (hs w (Below.refl _ _))
  have HO : Hid (entRecs from_ ((l.take l.length).map toEn) = entRecs from_ (l.map toEn)) := Lib.hid (by rw [List.take_length])
  clear hb hp hs hl
  generalize entRecs from_ (l.map toEn) = o at *
  go_enter Tryz.func101, Tryz.ntmps101
  go_wp2_with fail
  go_loopw [10] (fun j wr => ∃ k : Nat, j = .int .i64 (k : Nat) ∧ k ≤ l.length ∧ Hid (∃ p', Bld B b p' wr ∧ Cutt p' (q ++ entRecs from_ ((l.take k).map toEn)) ∧ Below B w wr))
    (fun j _ => l.length - (intOf j).toNat)
  case atStart => exact ⟨0, rfl, Nat.zero_le _, p, HB.out, by rw [show entRecs from_ ((l.take 0).map toEn) = [] from rfl, List.append_nil]; exact HP.out, Below.refl _ _⟩
  case round =>
    obtain ⟨k, rfl, hk, HI⟩ := hrel
    by_cases hlt : k < l.length
    · have hki : (k : Int) < (l.length : Int) := by omega
      obtain ⟨p', o', c', b'⟩ := HI.out
      have hs1 : rw.Sl enSh wr (.slice la l.length lc) l := HSl.out wr b'
      obtain ⟨rb, off, c, e, hrb, c0, c1, c2⟩ := slE_at hs1 hlt
      injection e with e1 e2 e3
      subst e1 e3
      have hg := HL.out _ (List.getElem_mem hlt)
      have ht : l.take (k + 1) = l.take k ++ [l[k]'hlt] := List.take_succ_eq_append_getElem hlt
      have hsn : entRecs from_ ((l.take (k + 1)).map toEn) = entRecs from_ ((l.take k).map toEn) ++ entRec (from_ + k) (toEn (l[k]'hlt)) := by
        rw [ht, List.map_append, List.map_cons, List.map_nil, entRecs_snoc, List.length_map, List.length_take, Nat.min_eq_left hk]
      obtain ⟨x, hx⟩ : ∃ x, l[k]'hlt = x := ⟨_, rfl⟩
      rw [hx] at c0 c1 c2 hg hsn
      obtain ⟨⟨m1, m2, m3⟩, hgt⟩ := hg
      obtain ⟨xt, xk, xd⟩ := x
      simp only at c0 c1 c2 m1 m2 m3 hgt
      obtain ⟨ek, rfl⟩ : ∃ ek : Nat, xk = (ek : Int) := ⟨xk.toNat, by omega⟩
      have hem : May ⟨xt, ek, xd⟩ := ⟨by show 1 ≤ ek; omega, by show ek ≤ 3; omega, m3⟩
      have hent : toEn ⟨xt, (ek : Int), xd⟩ = ⟨xt, ek, xd⟩ := rfl
      rw [hent] at hsn
      obtain ⟨fi, hfi⟩ : ∃ fi, from_ + k = fi := ⟨_, rfl⟩
      rw [hfi] at hsn
      have hw0 : IntKind.u64.wrap (k : Int) = (k : Int) := IntWalk.u64_in _ (by omega)
      have hw1 : IntKind.u64.wrap ((from_ : Int) + (k : Int)) = (fi : Int) := by rw [IntWalk.u64_in _ (by omega)]; omega
      have hfl : fi < 18446744073709551616 := by omega
      have heb := entB_len (i := fi) hfl hem hgt
      have hbl : (num fi ++ (num xt ++ (num ek ++ text xd))).length ≤ 60000 := by
        have : (entB fi ⟨xt, ek, xd⟩).length = (num 4).length + (num fi ++ (num xt ++ (num ek ++ text xd))).length := by unfold entB; rw [List.length_append]
        omega
      have hbx : Below wr.heap.size wr (wr.alloc (.cells #[.int .u64 (xt : Nat), .int .i64 (ek : Nat), .string (S xd)] 70)) := below_box _ _
      have hR := frec_any B b p' ⟨4, 0, 0, 0, [], ⟨0, 0, 0⟩, fi, ⟨xt, ek, xd⟩⟩ none 0 0 none 0 0 _ _ form4 (show 1 ≤ 4 ∧ 4 ≤ 4 by omega) (num fi ++ (num xt ++ (num ek ++ text xd))) hbl (by have := c'.1; omega) _ (o'.of hbx) (fun W _ => wEnt_any ⟨4, 0, 0, 0, [], ⟨0, 0, 0⟩, fi, ⟨xt, ek, xd⟩⟩ none 0 0 none 0 0 hfl hem hgt W)
      unfold rcV rcC at hR
      have HN : Hid (∀ w', Bld B b (addF p' (num 4 ++ (num fi ++ (num xt ++ (num ek ++ text xd))))) w' → Below B (wr.alloc (.cells #[.int .u64 (xt : Nat), .int .i64 (ek : Nat), .string (S xd)] 70)) w' → ∃ p', Bld B b p' w' ∧ Cutt p' (q ++ entRecs from_ ((l.take (k + 1)).map toEn)) ∧ Below B w w') := fun w' x1 x2 => by
        refine ⟨_, x1, ?_, b'.trans ((hbx.mono (Nat.le_trans hB0 b'.size)).trans x2)⟩
        rw [hsn]
        have h5 := c'.add (body := entB fi ⟨xt, ek, xd⟩) (by omega)
        rw [List.append_assoc] at h5
        exact h5
      have hs0 : S [] = ⟨#[]⟩ := rfl
      rw [hs0] at hR
      rw [show ((4 : Nat) : Int) = 4 from rfl, show ((0 : Nat) : Int) = 0 from rfl] at hR
      generalize num 4 ++ (num fi ++ (num xt ++ (num ek ++ text xd))) = body at *
      clear hsn hbl heb hem m1 m2 m3 hgt hent hx ht hs1 c' o' b' HI e2 hfi hbx hs0
      go_wp2_with fail
      refine hR.mono ?_
      rintro e w2 ⟨rfl, x1, x2⟩
      have H2 := Lib.hid (HN.out w2 x1 x2)
      clear x1 x2 hR HN c0 c1 c2
      go_wp2_with fail
      go_roundw
      case rel => exact ⟨k + 1, by go_num, by omega, H2⟩
      case measure => simp [intOf]; omega
    · obtain rfl : k = l.length := by omega
      have hki : ¬ (l.length : Int) < (l.length : Int) := by omega
      have HE : Hid (FOut B b w (q ++ o) (.returned (.tuple #[])) wr) := by
        obtain ⟨p', o', c', b'⟩ := HI.out
        rw [HO.out] at c'
        exact ⟨rfl, p', o', c', b'⟩
      clear HI HO
      go_wp2_with fail
      exact bodyPost_end (results_none rfl _ _ _) rfl HE.out
end Go.Proofs.YteeeakbgofjinaaGreat.jr
/-! JrW5 -/
namespace Go.Proofs.YteeeakbgofjinaaGreat.jr
set_option linter.unusedVariables false
open Go.RowKit
open fl (S S_size S_append S_inj)
open rw (Arr But Own bnext below_box below_drew below_drewN)

theorem addF_nil (body : Bs) : addF [] body = sl.frame body := by unfold addF; rw [if_neg (by decide)]; rfl
theorem frame_ne (b : Bs) : sl.frame b ≠ [] := by
  intro e
  have := sl.frame_length b
  rw [e] at this
  simp at this
  omega
theorem hs0 : S [] = ⟨#[]⟩ := rfl

set_option maxHeartbeats 4000000 in
set_option maxRecDepth 100000 in
theorem hardFrame_any (h : Hd) (h1 : h.term < 18446744073709551616) (h2 : h.vote ≤ 5) (h3 : h.life < 18446744073709551616) (w : World) :
    Calls Tryz.prog 37 #[.agg #[.int .u64 (h.term : Nat), .int .i64 (h.vote : Nat), .int .u64 (h.life : Nat)]] w fun e w' => e = .returned (.string (S (hardRec h))) ∧ Below w.heap.size w w' := by
  obtain ⟨term, vote, life⟩ := h
  simp only at h1 h2 h3 ⊢
  have b1 := below_box w (.cells #[.int .u64 (term : Nat), .int .i64 (vote : Nat), .int .u64 (life : Nat)] 41)
  have s1 : (w.alloc (.cells #[.int .u64 (term : Nat), .int .i64 (vote : Nat), .int .u64 (life : Nat)] 41)).heap.size = w.heap.size + 1 := rw.size_1 _ _
  have hb := Bld.new (w.alloc (.cells #[.int .u64 (term : Nat), .int .i64 (vote : Nat), .int .u64 (life : Nat)] 41))
  have b2 := below_box (w.alloc (.cells #[.int .u64 (term : Nat), .int .i64 (vote : Nat), .int .u64 (life : Nat)] 41)) (.cells #[.pointer none, .slice none 0 0] 139)
  have hB := bnext b1 b2
  rw [s1] at hb
  have hbl : (num term ++ (num vote ++ num life)).length ≤ 60000 := by
    have := num_len h1
    have := num_len (n := vote) (by omega)
    have := num_len h3
    simp only [List.length_append]
    omega
  have hR := frec_any _ _ [] ⟨3, 0, 0, 0, [], ⟨term, vote, life⟩, 0, ⟨0, 0, []⟩⟩ none 0 0 none 0 0 _ _ form3 (show 1 ≤ 3 ∧ 3 ≤ 4 by omega) _ hbl (by simp) _ hb (fun W _ => wHard_any ⟨3, 0, 0, 0, [], ⟨term, vote, life⟩, 0, ⟨0, 0, []⟩⟩ none 0 0 none 0 0 h1 h2 h3 W)
  unfold rcV rcC at hR
  rw [hs0, show ((3 : Nat) : Int) = 3 from rfl, show ((0 : Nat) : Int) = 0 from rfl, addF_nil] at hR
  change Calls _ _ _ _ (fun e w' => e = .returned (.tuple #[]) ∧ Bld _ _ (hardRec ⟨term, vote, life⟩) w' ∧ _) at hR
  have hne : hardRec ⟨term, vote, life⟩ ≠ [] := frame_ne _
  generalize hardRec ⟨term, vote, life⟩ = o at *
  have HB := Lib.hid hB
  have HN := Lib.hid hne
  clear hb b1 b2 hB hbl hne
  go_enter Tryz.func37, Tryz.ntmps37
  go_wp2_with fail
  refine hR.mono ?_
  rintro e w2 ⟨rfl, x1, x2⟩
  have hSt := bstring_any _ _ o w2 x1 HN.out
  have H2 := Lib.hid (And.intro (HB.out.trans (x2.mono (Nat.le_succ _))) x1)
  clear x1 x2 hR s1 HB
  go_wp2_with fail
  refine hSt.mono ?_
  rintro e w3 ⟨rfl, b3⟩
  have H3 := Lib.hid (H2.out.1.trans (b3.mono (Nat.le_succ _)))
  clear hSt b3 H2
  go_wp2_with fail
  go_ret
  exact ⟨rfl, H3.out⟩

/-- What is written of them. -/
def SOut (w : World) (q : Bs) (e : Ending) (w' : World) : Prop := ∃ p, e = .returned (.string (S p)) ∧ Cutt p q ∧ Below w.heap.size w w'
set_option maxHeartbeats 4000000 in
set_option maxRecDepth 100000 in
theorem entryFrames_any (from_ : Nat) (v : Value) (l : List EnIn) (hne : l ≠ []) (hl : ∀ e ∈ l, Good e) (hf : from_ + l.length < 18446744073709551616) (hll : l.length ≤ 1000000000) (w : World) (hs : rw.Sl enSh w v l) :
    Calls Tryz.prog 72 #[.int .u64 (from_ : Nat), v] w (SOut w (entRecs from_ (l.map toEn))) := by
  have hb := Bld.new w
  have hB := below_box w (.cells #[.pointer none, .slice none 0 0] 139)
  have hR := entries_any _ _ [] [] from_ v l (Cutt.refl (by simp)) hl hf hll _ hb (fun W k => hs.later _ (hB.trans k)) (by simp)
  have hne2 : entRecs from_ (l.map toEn) ≠ [] := by
    cases l with
    | nil => exact absurd rfl hne
    | cons a r =>
      rw [List.map_cons, entRecs]
      intro e
      exact frame_ne _ (List.append_eq_nil_iff.1 e).1
  rw [List.nil_append] at hR
  generalize entRecs from_ (l.map toEn) = o at *
  obtain ⟨la, lc, rfl⟩ := sl_form hs
  have HB := Lib.hid hB
  have HN := Lib.hid hne2
  clear hb hB hne2 hs hne hl hf hll
  go_enter Tryz.func72, Tryz.ntmps72
  go_wp2_with fail
  refine hR.mono ?_
  rintro e w2 ⟨rfl, p, x1, x2, x3⟩
  have hSt := bstring_any _ _ p w2 x1 (x2.ne HN.out)
  have H2 := Lib.hid (And.intro (HB.out.trans x3) x2)
  clear x1 x2 x3 hR HB
  go_wp2_with fail
  refine hSt.mono ?_
  rintro e w3 ⟨rfl, b3⟩
  have H3 : Hid (SOut w o (.returned (.string (S p))) w3) := ⟨p, rfl, H2.out.2, H2.out.1.trans b3⟩
  clear hSt b3 H2
  go_wp2_with fail
  go_ret
  exact H3.out

/-! ### A state's file -/
def stC (s : St) (cv lv : Value) : Array Value := #[.int .u64 (s.h.term : Nat), .int .i64 (s.h.vote : Nat), .int .u64 (s.h.life : Nat), .int .u64 (s.base : Nat), .int .u64 (s.bterm : Nat), cv, lv, .string (S s.image)]
def ens (l : List En) : List EnIn := l.map ofEn
theorem ens_to (l : List En) : (ens l).map toEn = l := by
  unfold ens
  rw [List.map_map]
  conv => rhs; rw [← List.map_id l]
  exact List.map_congr_left fun x _ => toEn_ofEn x
theorem ens_length (l : List En) : (ens l).length = l.length := by simp [ens]
theorem ens_good {s : St} (h : Ok s) : ∀ e ∈ ens s.l, Good e := by
  intro e he
  obtain ⟨x, hx, rfl⟩ := List.mem_map.1 he
  obtain ⟨⟨h1, h2, h3⟩, h4⟩ := h.l x hx
  exact ⟨⟨by show (1 : Int) ≤ (x.kind : Int); omega, by show (x.kind : Int) ≤ 3; omega, h3⟩, h4⟩
/-- A state as it lies at a block: its rows besides. -/
structure StAt (W : World) (sb : Nat) (t : TypeId) (s : St) (cv lv : Value) : Prop where
  a : Arr W sb t (stC s cv lv)
  c : rw.Sl noSh W cv (ints s.conf)
  l : rw.Sl enSh W lv (ens s.l)
theorem StAt.below {W W' : World} {sb : Nat} {t : TypeId} {s : St} {cv lv : Value} (h : StAt W sb t s cv lv) (k : Below W.heap.size W W') : StAt W' sb t s cv lv := ⟨h.a.below k, h.c.later _ k, h.l.later _ k⟩
/-- .. where only what is from B on may turn. -/
theorem StAt.since {w W W' : World} {B sb : Nat} {t : TypeId} {s : St} {cv lv : Value} (h : StAt w sb t s cv lv) (hB : w.heap.size ≤ B) (k : Below B w W) : StAt W sb t s cv lv := h.below (k.mono hB)
end Go.Proofs.YteeeakbgofjinaaGreat.jr
/-! JrRd2 -/
namespace Go.Proofs.YteeeakbgofjinaaGreat.jr
set_option linter.unusedVariables false
open Go.RowKit
open fl (S S_size S_append)
open rw (Arr But Own below_box bnext below_drew below_drewN)

theorem bodyPost_panic {P : Program} {fn : Func} {R : Ending → World → Prop} {a : Act} {w : World} {ch : List PanicEntry} (hd : a.defers = []) (hR : R (.panicked ch) w) : bodyPost P fn R (.panic ch) a w := ⟨hd, hR⟩
/-- The panic of what is wrong. -/
def wrongs : List PanicEntry := [{ v := .iface 26 (.int .i64 4), recovered := false }]
section
variable {α : Type} {s : rw.Sh α}
theorem own_of {w w' : World} {B : Nat} {v : Value} {l : List α} (h : Own s w B v l) (hb : ∀ q, v.ownBlock = some q → w'.heap[q]? = w.heap[q]?) : Own s w' B v l := by
  obtain ⟨h1, h2 | ⟨g, cap, cur, h3, h4, h5, h6⟩⟩ := h
  · exact ⟨h1, .inl h2⟩
  · exact ⟨h1, .inr ⟨g, cap, cur, h3, h4, (hb g (by rw [h3]; rfl)).trans h5, h6⟩⟩
theorem own_typed {w : World} {B : Nat} {v : Value} {l : List α} (h : Own s w B v l) {q : Nat} (hq : v.ownBlock = some q) : ∃ cs, w.heap[q]? = some (.cells cs s.t (0, 0)) := by
  obtain ⟨_, ⟨e, _⟩ | ⟨g, cap, cur, e, _, h5, _⟩⟩ := h
  · rw [e] at hq; cases hq
  · rw [e] at hq
    cases hq
    exact ⟨cur, h5⟩
theorem own_ne {w : World} {B q : Nat} {v : Value} {l : List α} (h : Own s w B v l) {t : TypeId} {cs : Array Value} {fr : Nat × Nat} (hq : w.heap[q]? = some (.cells cs t fr)) (ht : t ≠ s.t) : v.ownBlock ≠ some q := by
  intro e
  obtain ⟨c, hc⟩ := own_typed h e
  rw [hq] at hc
  cases hc
  exact ht rfl
theorem own_lt {w : World} {B : Nat} {v : Value} {l : List α} (h : Own s w B v l) {q : Nat} (hq : v.ownBlock = some q) : q < w.heap.size := by
  obtain ⟨cs, hc⟩ := own_typed h hq
  exact (Array.getElem?_eq_some_iff.1 hc).1
theorem own_but {w w' : World} {B q : Nat} {v : Value} {l : List α} (h : Own s w B v l) {t : TypeId} {cs : Array Value} {fr : Nat × Nat} (hq : w.heap[q]? = some (.cells cs t fr)) (ht : t ≠ s.t) (k : But q w w') : Own s w' B v l :=
  own_of h fun i hi => k.block i (own_lt h hi) fun e => own_ne h hq ht (e ▸ hi)
theorem own_lower {w : World} {B B' : Nat} {v : Value} {l : List α} (h : Own s w B v l) (hB : B' ≤ B) : Own s w B' v l := by
  obtain ⟨h1, h2 | ⟨g, cap, cur, h3, h4, h5⟩⟩ := h
  · exact ⟨h1, .inl h2⟩
  · exact ⟨h1, .inr ⟨g, cap, cur, h3, by omega, h5⟩⟩
end

def rdC (lv cv ev : Value) (s : St) (based : Bool) (m : Nat) : Array Value := #[lv, .int .u64 (s.h.term : Nat), .int .i64 (s.h.vote : Nat), .int .u64 (s.h.life : Nat), .int .u64 (s.base : Nat), .int .u64 (s.bterm : Nat), cv, ev, .string (S s.image), .bool based, .int .i64 (m : Nat)]
/-- Block rb is the program's reader of records, all of whose rows lie from B on. -/
structure Rz0 (W : World) (B rb : Nat) (lv cv ev : Value) (s : St) (based : Bool) (m : Nat) : Prop where
  le : B ≤ rb
  a : Arr W rb 172 (rdC lv cv ev s based m)
  c : Own noSh W B cv (ints s.conf)
  l : Own enSh W B ev (ens s.l)
def Rz (W : World) (B rb : Nat) (lv : Value) (s : St) (based : Bool) (m : Nat) : Prop := ∃ cv ev, Rz0 W B rb lv cv ev s based m
section
variable {W W' : World} {B rb : Nat} {lv cv ev : Value} {s : St} {based : Bool} {m : Nat}
theorem Rz0.below (h : Rz0 W B rb lv cv ev s based m) (k : Below W.heap.size W W') : Rz0 W' B rb lv cv ev s based m := ⟨h.le, h.a.below k, h.c.below noSh k, h.l.below enSh k⟩
theorem Rz.below (h : Rz W B rb lv s based m) (k : Below W.heap.size W W') : Rz W' B rb lv s based m := by
  obtain ⟨cv, ev, h⟩ := h
  exact ⟨cv, ev, h.below k⟩
theorem Rz0.ne (h : Rz0 W B rb lv cv ev s based m) {lb : Nat} {l : Bs} {o : Option Bs} (hp : PRd W lb l o) : rb ≠ lb := by
  obtain ⟨a, f, hp, _⟩ := hp
  intro e
  have h1 := h.a
  unfold Arr at h1
  unfold pk.RD at hp
  rw [e, hp] at h1
  cases h1
theorem Rz0.but (h : Rz0 W B rb lv cv ev s based m) {lb : Nat} {l : Bs} {o : Option Bs} (hp : PRd W lb l o) (k : But lb W W') : Rz0 W' B rb lv cv ev s based m := by
  have hne := h.ne hp
  obtain ⟨a, f, hp, _⟩ := hp
  exact ⟨h.le, k.arr h.a hne, own_but h.c hp (by decide) k, own_but h.l hp (by decide) k⟩
theorem Rz0.lt (h : Rz0 W B rb lv cv ev s based m) : rb < W.heap.size := h.a.lt
/-- A store into the reader that leaves the rows alone. -/
theorem Rz0.set (h : Rz0 W B rb lv cv ev s based m) (j : Nat) (u : Value) {lv' : Value} {s' : St} {based' : Bool} {m' : Nat} (he : (rdC lv cv ev s based m).setIfInBounds j u = rdC lv' cv ev s' based' m') (hc : s'.conf = s.conf) (hl : s'.l = s.l) : Rz0 (W.setCell ⟨rb, j, none⟩ u) B rb lv' cv ev s' based' m' := by
  have k : But rb W (W.setCell ⟨rb, j, none⟩ u) := (But.refl rb W).set j u
  refine ⟨h.le, ?_, ?_, ?_⟩
  · rw [← he]; exact h.a.set j u
  · rw [hc]; exact own_but h.c h.a (by decide) k
  · rw [hl]; exact own_but h.l h.a (by decide) k
theorem PRd.set {lb : Nat} {l : Bs} {o : Option Bs} (hp : PRd W lb l o) (h : Rz0 W B rb lv cv ev s based m) (j : Nat) (u : Value) : PRd (W.setCell ⟨rb, j, none⟩ u) lb l o :=
  hp.of (((But.refl rb W).set j u).block lb hp.lt fun e => h.ne hp e.symm)
theorem Rz0.since (h : Rz0 W B rb lv cv ev s based m) (j : Nat) (u : Value) : Below B W (W.setCell ⟨rb, j, none⟩ u) := (Below.refl B W).setCell h.le u
end
/-- What a step of the reading leaves, or the panic. -/
def ROut (B rb lb : Nat) (l : Bs) (W : World) (o : Option Pr) (e : Ending) (W' : World) : Prop :=
  Below B W W' ∧ match o with
  | none => e = .panicked wrongs
  | some y => e = .returned (.tuple #[]) ∧ Rz W' B rb (.pointer (some ⟨lb, 0, none⟩)) y.s y.based y.m ∧ PRd W' lb l y.o

set_option maxRecDepth 100000 in
theorem must_yes (rb : Nat) (w : World) : Calls Tryz.prog 109 #[.pointer (some ⟨rb, 0, none⟩), .bool true] w fun e w' => e = .returned (.tuple #[]) ∧ w = w' := by
  go_enter Tryz.func109, Tryz.ntmps109
  go_wp2
  exact bodyPost_end (results_none rfl _ _ _) rfl ⟨rfl, rfl⟩
set_option maxRecDepth 100000 in
theorem must_no (rb : Nat) (w : World) : Calls Tryz.prog 109 #[.pointer (some ⟨rb, 0, none⟩), .bool false] w fun e w' => e = .panicked wrongs ∧ w = w' := by
  go_enter Tryz.func109, Tryz.ntmps109
  go_wp2
  exact bodyPost_panic rfl ⟨rfl, rfl⟩
set_option maxRecDepth 100000 in
theorem whole_any {B rb : Nat} {lv : Value} {s : St} {based : Bool} {m : Nat} (w : World) (h : Rz w B rb lv s based m) :
    Calls Tryz.prog 110 #[.pointer (some ⟨rb, 0, none⟩)] w fun e w' => e = .returned (.bool (decide (based = true ∧ m = 0))) ∧ w = w' := by
  obtain ⟨cv, ev, h⟩ := h
  have c9 : w.cell? ⟨rb, 9, none⟩ = some (.bool based) := h.a.cell rfl
  have c10 : w.cell? ⟨rb, 10, none⟩ = some (.int .i64 (m : Nat)) := h.a.cell rfl
  clear h
  cases based with
  | false =>
    rw [show decide (false = true ∧ m = 0) = false by simp]
    go_enter Tryz.func110, Tryz.ntmps110
    go_wp2
    go_ret
    exact ⟨rfl, rfl⟩
  | true =>
    by_cases h0 : m = 0
    · have hb : ((m : Int) == 0) = true := by rw [beq_iff_eq]; omega
      rw [show decide (true = true ∧ m = 0) = true by simp [h0]]
      clear h0
      go_enter Tryz.func110, Tryz.ntmps110
      go_wp2
      go_ret
      exact ⟨rfl, rfl⟩
    · have hb : ((m : Int) == 0) = false := by rw [beq_eq_false_iff_ne]; omega
      rw [show decide (true = true ∧ m = 0) = false by simp [h0]]
      clear h0
      go_enter Tryz.func110, Tryz.ntmps110
      go_wp2
      go_ret
      exact ⟨rfl, rfl⟩

set_option maxHeartbeats 4000000 in
set_option maxRecDepth 100000 in
theorem piece_any (B rb lb : Nat) (l : Bs) (x : Pr) (hl : l.length ≤ 281474976710656) (hm : x.m ≤ 1000000) (hi : x.s.image.length ≤ 1000000) (hlb : B ≤ lb) (w : World) (h : Rz w B rb (.pointer (some ⟨lb, 0, none⟩)) x.s x.based x.m) (hp : PRd w lb l x.o) :
    Calls Tryz.prog 141 #[.pointer (some ⟨rb, 0, none⟩)] w (ROut B rb lb l w (ppiece x)) := by
  obtain ⟨s, based, m, o⟩ := x
  simp only at hm hi h hp
  have hvl := vT_le 4096 o
  unfold ppiece
  simp only
  obtain ⟨cv, ev, h⟩ := h
  have hBw : B ≤ w.heap.size := Nat.le_trans h.le (Nat.le_of_lt h.lt)
  have c10 : w.cell? ⟨rb, 10, none⟩ = some (.int .i64 (m : Nat)) := h.a.cell rfl
  have c0 : w.cell? ⟨rb, 0, none⟩ = some (.pointer (some ⟨lb, 0, none⟩)) := h.a.cell rfl
  by_cases h0 : m = 0
  · have hgt : decide (0 < m) = false := decide_eq_false (by omega)
    have hmu := must_no rb w
    have HE : Hid (ROut B rb lb l w none (.panicked wrongs) w) := ⟨Below.refl _ _, rfl⟩
    rw [if_pos h0]
    clear h hp h0
    go_enter Tryz.func141, Tryz.ntmps141
    go_wp2_with fail
    refine hmu.mono ?_
    rintro e w2 ⟨rfl, rfl⟩
    clear hmu
    go_wp2_with fail
    exact bodyPost_panic rfl HE.out
  · have hgt : decide (0 < m) = true := decide_eq_true (by omega)
    rw [if_neg h0]
    have hmu := must_yes rb w
    have hT := prtext_any lb l o 4096 (by decide) hl w hp
    rw [show ((4096 : Nat) : Int) = 4096 from rfl] at hT
    have HB : Hid (∀ W, But lb w W → Below B w W ∧ Rz0 W B rb (.pointer (some ⟨lb, 0, none⟩)) cv ev s based m) := fun W k => ⟨k.below hBw hlb, h.but hp k⟩
    generalize vT 4096 o = t at *
    generalize nT 4096 o = o2 at *
    have hz := S_size t
    have hz2 := S_size s.image
    obtain ⟨mm, hmm⟩ : ∃ mm, min m 4096 = mm := ⟨_, rfl⟩
    rw [hmm]
    have hmi : min (m : Int) 4096 = (mm : Int) := by omega
    by_cases h1 : t.length = mm
    · rw [if_pos h1]
      have hb1 : ((t.length : Int) == (mm : Int)) = true := by rw [beq_iff_eq]; omega
      have hw : IntKind.i64.wrap ((m : Int) - (t.length : Int)) = ((m - t.length : Nat) : Int) := by rw [IntWalk.i64_in _ (by omega)]; omega
      have q1 : ¬ 9223372036854775807 < s.image.length + t.length := by omega
      have hsum : S s.image ++ S t = S (s.image ++ t) := S_append _ _
      have HE : Hid (∀ W, Rz0 W B rb (.pointer (some ⟨lb, 0, none⟩)) cv ev s based m → PRd W lb l o2 → Below B w W → ROut B rb lb l w (some ⟨{ s with image := s.image ++ t }, based, m - t.length, o2⟩) (.returned (.tuple #[])) ((W.setCell ⟨rb, 8, none⟩ (.string (S (s.image ++ t)))).setCell ⟨rb, 10, none⟩ (.int .i64 ((m - t.length : Nat) : Int)))) := fun W x1 x2 x3 => by
        have y1 := x1.set 8 (.string (S (s.image ++ t))) (s' := { s with image := s.image ++ t }) (lv' := .pointer (some ⟨lb, 0, none⟩)) (based' := based) (m' := m) rfl rfl rfl
        have y2 := y1.set 10 (.int .i64 ((m - t.length : Nat) : Int)) (s' := { s with image := s.image ++ t }) (lv' := .pointer (some ⟨lb, 0, none⟩)) (based' := based) (m' := m - t.length) rfl rfl rfl
        exact ⟨(x3.trans (x1.since 8 _)).trans (y1.since 10 _), rfl, ⟨cv, ev, y2⟩, (x2.set x1 8 _).set y1 10 _⟩
      have HC : Hid (∀ W, Rz0 W B rb (.pointer (some ⟨lb, 0, none⟩)) cv ev s based m → W.cell? ⟨rb, 10, none⟩ = some (.int .i64 (m : Nat)) ∧ W.cell? ⟨rb, 8, none⟩ = some (.string (S s.image)) ∧ W.frozen? ⟨rb, 8, none⟩ = false ∧ W.frozen? ⟨rb, 10, none⟩ = false) := fun W x1 => ⟨x1.a.cell rfl, x1.a.cell rfl, x1.a.frozen 8, x1.a.frozen 10⟩
      clear h hp h0 hmm h1
      generalize s.image ++ t = it at *
      go_enter Tryz.func141, Tryz.ntmps141
      go_wp2_with fail
      refine hmu.mono ?_
      rintro e w2 ⟨rfl, rfl⟩
      clear hmu
      go_wp2_with fail
      refine hT.mono ?_
      rintro e w3 ⟨rfl, k3, p3⟩
      obtain ⟨b3, z3⟩ := HB.out w3 k3
      obtain ⟨d10, d8, f8, f10⟩ := HC.out w3 z3
      have H3 := Lib.hid (HE.out w3 z3 p3 b3)
      have hm2 := must_yes rb w3
      clear hT k3 p3 b3 z3 HB c0 c10 HE HC
      go_wp2_with fail
      refine hm2.mono ?_
      rintro e w4 ⟨rfl, rfl⟩
      clear hm2
      go_wp2_with fail
      exact bodyPost_end (results_none rfl _ _ _) rfl H3.out
    · rw [if_neg h1]
      have hb1 : ((t.length : Int) == (mm : Int)) = false := by rw [beq_eq_false_iff_ne]; omega
      have HC : Hid (∀ W, Rz0 W B rb (.pointer (some ⟨lb, 0, none⟩)) cv ev s based m → W.cell? ⟨rb, 10, none⟩ = some (.int .i64 (m : Nat))) := fun W x1 => x1.a.cell rfl
      clear h hp h0 hmm h1
      go_enter Tryz.func141, Tryz.ntmps141
      go_wp2_with fail
      refine hmu.mono ?_
      rintro e w2 ⟨rfl, rfl⟩
      clear hmu
      go_wp2_with fail
      refine hT.mono ?_
      rintro e w3 ⟨rfl, k3, p3⟩
      obtain ⟨b3, z3⟩ := HB.out w3 k3
      have d10 := HC.out w3 z3
      have H3 : Hid (ROut B rb lb l w none (.panicked wrongs) w3) := ⟨b3, rfl⟩
      have hm2 := must_no rb w3
      clear hT k3 p3 b3 z3 HB c0 c10 HC
      go_wp2_with fail
      refine hm2.mono ?_
      rintro e w4 ⟨rfl, rfl⟩
      clear hm2
      go_wp2_with fail
      exact bodyPost_panic rfl H3.out
end Go.Proofs.YteeeakbgofjinaaGreat.jr
