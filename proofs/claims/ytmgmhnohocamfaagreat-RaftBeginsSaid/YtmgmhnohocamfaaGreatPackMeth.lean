/-
  What a reader's Num, Text and Count answer, and how the reader stands behind them.
-/
import Derived.Test.YtmgmhnohocamfaaGreatPackReadW
namespace Go.Proofs.YtmgmhnohocamfaaGreat.pk
open Go.RowKit
set_option linter.unusedVariables false

/-- A piece and its row of steps, newly laid. -/
theorem laid (w : World) (m : Int) (fs : Array Value) (T : TypeId) :
    PS ((w.alloc (.cells #[.string ⟨#[]⟩, .int .i64 m, .int .u64 0, .string ⟨#[]⟩] 175)).alloc (.cells fs T)) w.heap.size ⟨#[]⟩ m 0 ⟨#[]⟩ ∧
    (∀ j, ((w.alloc (.cells #[.string ⟨#[]⟩, .int .i64 m, .int .u64 0, .string ⟨#[]⟩] 175)).alloc (.cells fs T)).cell? ⟨w.heap.size + 1, j, none⟩ = fs[j]?) ∧
    w.heap.size + 1 < ((w.alloc (.cells #[.string ⟨#[]⟩, .int .i64 m, .int .u64 0, .string ⟨#[]⟩] 175)).alloc (.cells fs T)).heap.size ∧
    Below w.heap.size w ((w.alloc (.cells #[.string ⟨#[]⟩, .int .i64 m, .int .u64 0, .string ⟨#[]⟩] 175)).alloc (.cells fs T)) := by
  refine ⟨?_, ?_, by simp, ((Below.refl _ w).alloc (Nat.le_refl _) _).alloc (by simp) _⟩
  · unfold PS
    rw [Below.heap_alloc _ _ _ (by simp)]
    exact heap_alloc_new w _
  · intro j
    have h := heap_alloc_new (w.alloc (.cells #[.string ⟨#[]⟩, .int .i64 m, .int .u64 0, .string ⟨#[]⟩] 175)) (.cells fs T)
    have e : (w.alloc (.cells #[.string ⟨#[]⟩, .int .i64 m, .int .u64 0, .string ⟨#[]⟩] 175)).heap.size = w.heap.size + 1 := by simp
    rw [e] at h
    exact cell_at h j

theorem touch_of {b : Nat} {w w2 w3 : World} (h : Below w.heap.size w w2) (t : Touch2 b w.heap.size w2 w3) : Touch b w w3 :=
  ⟨t.os.trans h.os, t.tape.trans h.tape, t.output.trans h.output, Nat.le_trans h.size t.size, fun k hk hb => (t.block k (Nat.lt_of_lt_of_le hk h.size) hb (by omega)).trans (h.block k hk)⟩

set_option maxHeartbeats 4000000 in
set_option maxRecDepth 100000 in
theorem rcount_ok (b : Nat) (s : ByteArray) (hs : s.size ≤ 281474976710656) (a : Nat) (ha : a ≤ s.size) (m : Int) (hm : m ≤ 9223372036854775807) (w : World) (hR : RD w b s a 0) (v : Nat) (r : List UInt8) (hD : dec 0 0 (s.extract a s.size).data.toList = (0, v, r)) (hr : r.length ≤ s.size) (hfit : (v : Int) ≤ max m 0) :
    Calls Tryz.prog 105 #[.pointer (some ⟨b, 0, none⟩), .int .i64 m] w fun e w' => e = .returned (.int .i64 v) ∧ RD w' b s (s.size - r.length : Nat) 0 ∧ Touch b w w' := by
  have hmf : ∀ (fn : Fn) (first cap : Array Value) (w : World), (Instr.makeFunc fn first cap).run Tryz.prog w = .ok (.func fn first cap) w := fun _ _ _ _ => rfl
  obtain ⟨hP, hS, hl, hb⟩ := laid w m #[.func (.func 131) #[.pointer (some ⟨w.heap.size, 0, none⟩)] #[], .func (.func 132) #[.pointer (some ⟨w.heap.size, 0, none⟩)] #[]] 159
  have hlt := hR.lt
  have hR2 := hR.of_below hb hlt
  have hv64 : v ≤ 9223372036854775807 := by omega
  have hread := read_ok2 b w.heap.size (w.heap.size + 1) 2 (by omega) (by omega) (by omega) s hs a ha m hm _ hR2 hP hl (hS 0) (hS 1) v r hD hr hfit
  have HR := Lib.hid hread
  have HB := Lib.hid hb
  clear hread hP hS hb hR2 hR
  go_enter Tryz.func105, Tryz.ntmps105
  go_wp2_with fail
  refine HR.out.mono ?_
  rintro e w3 ⟨rfl, hR3, hP3, t3⟩
  have tt := touch_of HB.out t3
  obtain ⟨d0, d1, d2, d3, e0, e1, e2, e3⟩ := hP3.cells
  have T3 := Lib.hid t3
  clear t3
  go_wp2
  go_ret
  exact ⟨rfl, hR3, tt⟩

set_option maxHeartbeats 4000000 in
set_option maxRecDepth 100000 in
theorem rcount_nil (m : Int) (w : World) :
    Calls Tryz.prog 105 #[.pointer none, .int .i64 m] w fun e w' => e = .returned (.int .i64 0) ∧ Below w.heap.size w w' := by
  have hmf : ∀ (fn : Fn) (first cap : Array Value) (w : World), (Instr.makeFunc fn first cap).run Tryz.prog w = .ok (.func fn first cap) w := fun _ _ _ _ => rfl
  have hb : Below w.heap.size w ((w.alloc (.cells #[.string ⟨#[]⟩, .int .i64 m, .int .u64 0, .string ⟨#[]⟩] 175)).alloc (.cells #[.func (.func 131) #[.pointer (some ⟨w.heap.size, 0, none⟩)] #[], .func (.func 132) #[.pointer (some ⟨w.heap.size, 0, none⟩)] #[]] 159)) := ((Below.refl _ w).alloc (Nat.le_refl _) _).alloc (by simp) _
  have HB := Lib.hid hb
  clear hb
  go_enter Tryz.func105, Tryz.ntmps105
  go_wp2_with fail
  refine (read_nil w.heap.size (.slice (some ⟨w.heap.size + 1, 0, none⟩) 2 2) _).mono ?_
  rintro e w3 ⟨rfl, rfl⟩
  go_wp2
  go_ret
  exact ⟨rfl, HB.out⟩

end Go.Proofs.YtmgmhnohocamfaaGreat.pk
