/-
  What a reader's read leaves: the walks.
-/
import Derived.Test.YtmgmhnohocamfaaGreatPackMem
import Derived.Test.YtmgmhnohocamfaaGreatPackNumber
import Derived.Test.YtmgmhnohocamfaaGreatPackBound
import Derived.Test.YtmgmhnohocamfaaGreatPackBytes
namespace Go.Proofs.YtmgmhnohocamfaaGreat.pk
open Go.RowKit
set_option linter.unusedVariables false

set_option maxHeartbeats 4000000 in
set_option maxRecDepth 100000 in
theorem read_nil (pb : Nat) (v : Value) (w : World) :
    Calls Tryz.prog 130 #[.pointer none, .pointer (some ⟨pb, 0, none⟩), v] w fun e w' => e = .returned (.tuple #[]) ∧ w' = w := by
  go_enter Tryz.func130, Tryz.ntmps130
  go_wp2
  exact bodyPost_ret (results_none rfl _ _ _) rfl ⟨rfl, rfl⟩

set_option maxHeartbeats 4000000 in
set_option maxRecDepth 100000 in
theorem read_faulty (rb pb : Nat) (s : ByteArray) (a f : Int) (hf : (f == 0) = false) (v : Value) (w : World) (hR : RD w rb s a f) :
    Calls Tryz.prog 130 #[.pointer (some ⟨rb, 0, none⟩), .pointer (some ⟨pb, 0, none⟩), v] w fun e w' => e = .returned (.tuple #[]) ∧ w' = w := by
  obtain ⟨c0, c1, c2, f0, f1, f2⟩ := hR.cells
  have hf2 : (f != 0) = true := by simpa using hf
  go_enter Tryz.func130, Tryz.ntmps130
  go_wp2
  exact bodyPost_ret (results_none rfl _ _ _) rfl ⟨rfl, rfl⟩

/-- The reader's fault is laid, the piece made empty. -/
theorem spoilt {rb pb : Nat} (hrp : rb ≠ pb) {s lft t : ByteArray} {a f m n : Int} {w : World} (hR : RD w rb s a f) (hP : PS w pb lft m n t) (E : Int) :
    RD (((((w.setCell ⟨rb, 2, none⟩ (.int .i64 E)).setCell ⟨pb, 0, none⟩ (.string ⟨#[]⟩)).setCell ⟨pb, 1, none⟩ (.int .i64 0)).setCell ⟨pb, 2, none⟩ (.int .u64 0)).setCell ⟨pb, 3, none⟩ (.string ⟨#[]⟩)) rb s a E ∧
    PS (((((w.setCell ⟨rb, 2, none⟩ (.int .i64 E)).setCell ⟨pb, 0, none⟩ (.string ⟨#[]⟩)).setCell ⟨pb, 1, none⟩ (.int .i64 0)).setCell ⟨pb, 2, none⟩ (.int .u64 0)).setCell ⟨pb, 3, none⟩ (.string ⟨#[]⟩)) pb ⟨#[]⟩ 0 0 ⟨#[]⟩ ∧
    Touch2 rb pb w (((((w.setCell ⟨rb, 2, none⟩ (.int .i64 E)).setCell ⟨pb, 0, none⟩ (.string ⟨#[]⟩)).setCell ⟨pb, 1, none⟩ (.int .i64 0)).setCell ⟨pb, 2, none⟩ (.int .u64 0)).setCell ⟨pb, 3, none⟩ (.string ⟨#[]⟩)) := by
  have o1 : Only rb w (w.setCell ⟨rb, 2, none⟩ (.int .i64 E)) := (Only.refl rb w).setCell 2 _
  have h1 := hR.set2 E
  have hP1 := hP.of_only o1 (Ne.symm hrp)
  refine ⟨h1.of_only (((((Only.refl pb _).setCell 0 _).setCell 1 _).setCell 2 _).setCell 3 _) hrp, (((hP1.set0 _).set1 _).set2 _).set3 _, ?_⟩
  exact (((((Touch2.refl rb pb w).set_l 2 _).set_r 0 _).set_r 1 _).set_r 2 _).set_r 3 _

/-- The reader has moved on. -/
theorem advanced {rb pb : Nat} (hrp : rb ≠ pb) {s lft t : ByteArray} {a f m n : Int} {w : World} (hR : RD w rb s a f) (hP : PS w pb lft m n t) (x y : Int) (hxy : x = y) :
    RD (w.setCell ⟨rb, 1, none⟩ (.int .i64 x)).drew rb s y f ∧ PS (w.setCell ⟨rb, 1, none⟩ (.int .i64 x)).drew pb lft m n t ∧ Touch2 rb pb w (w.setCell ⟨rb, 1, none⟩ (.int .i64 x)).drew := by
  subst hxy
  exact ⟨(hR.set1 x).drew, (hP.of_only ((Only.refl rb w).setCell 1 _) (Ne.symm hrp)).drew, ((Touch2.refl rb pb w).set_l 1 _).drew⟩

set_option maxHeartbeats 4000000 in
set_option maxRecDepth 100000 in
theorem read_bad1 (rb pb sb n cap : Nat) (hn : 1 ≤ n) (hrp : rb ≠ pb) (hsp : sb ≠ pb) (hsr : sb ≠ rb) (s : ByteArray) (hs : s.size ≤ 281474976710656) (a : Nat) (ha : a ≤ s.size) (m : Int) (hm : m ≤ 9223372036854775807) (w : World)
    (hR : RD w rb s a 0) (hP : PS w pb ⟨#[]⟩ m 0 ⟨#[]⟩) (hsl : sb < w.heap.size) (hS0 : w.cell? ⟨sb, 0, none⟩ = some (.func (.func 131) #[.pointer (some ⟨pb, 0, none⟩)] #[]))
    (D : Nat × Nat × List UInt8) (hD : dec 0 0 (s.extract a s.size).data.toList = D) (hbad : D.1 ≠ 0) :
    Calls Tryz.prog 130 #[.pointer (some ⟨rb, 0, none⟩), .pointer (some ⟨pb, 0, none⟩), .slice (some ⟨sb, 0, none⟩) n cap] w fun e w' => e = .returned (.tuple #[]) ∧ RD w' rb s a D.1 ∧ PS w' pb ⟨#[]⟩ 0 0 ⟨#[]⟩ ∧ Touch2 rb pb w w' := by
  obtain ⟨c0, c1, c2, f0, f1, f2⟩ := hR.cells
  obtain ⟨d0, d1, d2, d3, e0, e1, e2, e3⟩ := hP.cells
  have hx : (s.extract a s.size).size ≤ 9223372036854775807 := by simp; omega
  go_enter Tryz.func130, Tryz.ntmps130
  go_wp2
  go_region
  all_goals go_wp2_with fail
  have o1 : Only pb w (w.setCell ⟨pb, 0, none⟩ (.string (s.extract a s.size))).drew := ((Only.refl pb w).setCell 0 _).drew
  have hP1 := (hP.set0 (s.extract a s.size)).drew
  have hR1 := hR.of_only o1 hrp
  have t1 : Touch2 rb pb w _ := o1.touch.two_r
  have k0 := (o1.cell (p := ⟨sb, 0, none⟩) hsp).trans hS0
  have hl1 : sb < (w.setCell ⟨pb, 0, none⟩ (.string (s.extract a s.size))).drew.heap.size := by have := o1.size; omega
  generalize (w.setCell ⟨pb, 0, none⟩ (.string (s.extract a s.size))).drew = w1 at *
  clear c0 c1 c2 f0 f1 f2 d0 d1 d2 d3 e0 e1 e2 e3 o1 hS0
  have hN := number_any pb _ m ⟨#[]⟩ w1 hP1 hx
  have hbz : (((D.1 : Nat) : Int) != 0) = true := by simp; omega
  rw [hD] at hN
  clear hD
  refine wp_loop_rounds 1 ?_
  rw [rounds_succ]
  go_wp2_with fail
  refine hN.mono ?_
  rintro e w2 ⟨lft, nn, rfl, hP2, _, o2⟩
  have hR2 := hR1.of_only o2 hrp
  have t2 := t1.trans o2.touch.two_r
  clear hP1 hR1 t1 o2 hN k0
  obtain ⟨c0, c1, c2, f0, f1, f2⟩ := hR2.cells
  obtain ⟨d0, d1, d2, d3, e0, e1, e2, e3⟩ := hP2.cells
  go_wp2
  obtain ⟨q1, q2, q3⟩ := spoilt hrp hR2 hP2 D.1
  exact bodyPost_ret (results_none rfl _ _ _) rfl ⟨rfl, q1, q2, t2.trans q3⟩

set_option maxHeartbeats 4000000 in
set_option maxRecDepth 100000 in
theorem read_ok1 (rb pb sb cap : Nat) (hrp : rb ≠ pb) (hsp : sb ≠ pb) (hsr : sb ≠ rb) (s : ByteArray) (hs : s.size ≤ 281474976710656) (a : Nat) (ha : a ≤ s.size) (m : Int) (hm : m ≤ 9223372036854775807) (w : World)
    (hR : RD w rb s a 0) (hP : PS w pb ⟨#[]⟩ m 0 ⟨#[]⟩) (hsl : sb < w.heap.size) (hS0 : w.cell? ⟨sb, 0, none⟩ = some (.func (.func 131) #[.pointer (some ⟨pb, 0, none⟩)] #[]))
    (v : Nat) (r : List UInt8) (hD : dec 0 0 (s.extract a s.size).data.toList = (0, v, r)) (hr : r.length ≤ s.size) :
    Calls Tryz.prog 130 #[.pointer (some ⟨rb, 0, none⟩), .pointer (some ⟨pb, 0, none⟩), .slice (some ⟨sb, 0, none⟩) 1 cap] w fun e w' => e = .returned (.tuple #[]) ∧ RD w' rb s (s.size - r.length : Nat) 0 ∧ PS w' pb (S r) m v ⟨#[]⟩ ∧ Touch2 rb pb w w' := by
  obtain ⟨c0, c1, c2, f0, f1, f2⟩ := hR.cells
  obtain ⟨d0, d1, d2, d3, e0, e1, e2, e3⟩ := hP.cells
  have hx : (s.extract a s.size).size ≤ 9223372036854775807 := by simp; omega
  go_enter Tryz.func130, Tryz.ntmps130
  go_wp2
  go_region
  all_goals go_wp2_with fail
  have o1 : Only pb w (w.setCell ⟨pb, 0, none⟩ (.string (s.extract a s.size))).drew := ((Only.refl pb w).setCell 0 _).drew
  have hP1 := (hP.set0 (s.extract a s.size)).drew
  have hR1 := hR.of_only o1 hrp
  have t1 : Touch2 rb pb w _ := o1.touch.two_r
  have k0 := (o1.cell (p := ⟨sb, 0, none⟩) hsp).trans hS0
  have hl1 : sb < (w.setCell ⟨pb, 0, none⟩ (.string (s.extract a s.size))).drew.heap.size := by have := o1.size; omega
  generalize (w.setCell ⟨pb, 0, none⟩ (.string (s.extract a s.size))).drew = w1 at *
  clear c0 c1 c2 f0 f1 f2 d0 d1 d2 d3 e0 e1 e2 e3 o1 hS0
  have hN := number_any pb _ m ⟨#[]⟩ w1 hP1 hx
  have hrs : (S r).size ≤ s.size := by rw [S_size]; exact hr
  have hend : ((s.size : Int) - ((S r).size : Int)) = ((s.size - r.length : Nat) : Int) := by rw [S_size]; omega
  have hend1 := Lib.hid hend
  clear hend
  rw [hD] at hN
  clear hD
  refine wp_loop_rounds 2 ?_
  rw [rounds_succ]
  go_wp2_with fail
  refine hN.mono ?_
  rintro e w2 ⟨lft, nn, rfl, hP2, hv, o2⟩
  obtain ⟨rfl, rfl⟩ := hv rfl
  have hR2 := hR1.of_only o2 hrp
  have t2 := t1.trans o2.touch.two_r
  have hl2 : sb < w2.heap.size := by have := o2.size; omega
  clear hP1 hR1 t1 o2 hN hv hl1 k0
  obtain ⟨c0, c1, c2, f0, f1, f2⟩ := hR2.cells
  obtain ⟨d0, d1, d2, d3, e0, e1, e2, e3⟩ := hP2.cells
  go_wp2_with fail
  rw [rounds_succ]
  go_wp2_with fail
  go_region
  all_goals go_wp2
  have hend := hend1.out
  obtain ⟨q1, q2, q3⟩ := advanced hrp hR2 hP2 _ _ hend
  exact bodyPost_end (results_none rfl _ _ _) rfl ⟨rfl, q1, q2, t2.trans q3⟩

set_option maxHeartbeats 4000000 in
set_option maxRecDepth 100000 in
theorem read_bad2 (rb pb sb n cap : Nat) (hn : 2 ≤ n) (hrp : rb ≠ pb) (hsp : sb ≠ pb) (hsr : sb ≠ rb) (s : ByteArray) (hs : s.size ≤ 281474976710656) (a : Nat) (ha : a ≤ s.size) (m : Int) (hm : m ≤ 9223372036854775807) (w : World)
    (hR : RD w rb s a 0) (hP : PS w pb ⟨#[]⟩ m 0 ⟨#[]⟩) (hsl : sb < w.heap.size) (hS0 : w.cell? ⟨sb, 0, none⟩ = some (.func (.func 131) #[.pointer (some ⟨pb, 0, none⟩)] #[])) (hS1 : w.cell? ⟨sb, 1, none⟩ = some (.func (.func 132) #[.pointer (some ⟨pb, 0, none⟩)] #[]))
    (v : Nat) (r : List UInt8) (hD : dec 0 0 (s.extract a s.size).data.toList = (0, v, r)) (hlong : max m 0 < (v : Int)) :
    Calls Tryz.prog 130 #[.pointer (some ⟨rb, 0, none⟩), .pointer (some ⟨pb, 0, none⟩), .slice (some ⟨sb, 0, none⟩) n cap] w fun e w' => e = .returned (.tuple #[]) ∧ RD w' rb s a 2 ∧ PS w' pb ⟨#[]⟩ 0 0 ⟨#[]⟩ ∧ Touch2 rb pb w w' := by
  obtain ⟨c0, c1, c2, f0, f1, f2⟩ := hR.cells
  obtain ⟨d0, d1, d2, d3, e0, e1, e2, e3⟩ := hP.cells
  have hx : (s.extract a s.size).size ≤ 9223372036854775807 := by simp; omega
  go_enter Tryz.func130, Tryz.ntmps130
  go_wp2
  go_region
  all_goals go_wp2_with fail
  have o1 : Only pb w (w.setCell ⟨pb, 0, none⟩ (.string (s.extract a s.size))).drew := ((Only.refl pb w).setCell 0 _).drew
  have hP1 := (hP.set0 (s.extract a s.size)).drew
  have hR1 := hR.of_only o1 hrp
  have t1 : Touch2 rb pb w _ := o1.touch.two_r
  have k0 := (o1.cell (p := ⟨sb, 0, none⟩) hsp).trans hS0
  have k1 := (o1.cell (p := ⟨sb, 1, none⟩) hsp).trans hS1
  have hl1 : sb < (w.setCell ⟨pb, 0, none⟩ (.string (s.extract a s.size))).drew.heap.size := by have := o1.size; omega
  generalize (w.setCell ⟨pb, 0, none⟩ (.string (s.extract a s.size))).drew = w1 at *
  clear c0 c1 c2 f0 f1 f2 d0 d1 d2 d3 e0 e1 e2 e3 o1 hS0 hS1
  have hN := number_any pb _ m ⟨#[]⟩ w1 hP1 hx
  rw [hD] at hN
  clear hD
  refine wp_loop_rounds 2 ?_
  rw [rounds_succ]
  go_wp2_with fail
  refine hN.mono ?_
  rintro e w2 ⟨lft, nn, rfl, hP2, hv, o2⟩
  obtain ⟨rfl, rfl⟩ := hv rfl
  have hR2 := hR1.of_only o2 hrp
  have t2 := t1.trans o2.touch.two_r
  have g1 := (o2.cell (p := ⟨sb, 1, none⟩) hsp).trans k1
  have hl2 : sb < w2.heap.size := by have := o2.size; omega
  clear hP1 hR1 t1 o2 hN hv hl1 k0 k1
  obtain ⟨c0, c1, c2, f0, f1, f2⟩ := hR2.cells
  obtain ⟨d0, d1, d2, d3, e0, e1, e2, e3⟩ := hP2.cells
  go_wp2_with fail
  rw [rounds_succ]
  go_wp2_with fail
  refine (bound_long pb _ m v ⟨#[]⟩ w2 hP2 hm hlong).mono ?_
  rintro e w3 ⟨rfl, rfl⟩
  have hR3 := hR2.drew
  have hP3 := hP2.drew
  have t3 := t2.drew
  go_wp2
  obtain ⟨q1, q2, q3⟩ := spoilt hrp hR3 hP3 2
  exact bodyPost_ret (results_none rfl _ _ _) rfl ⟨rfl, q1, q2, t3.trans q3⟩

set_option maxHeartbeats 4000000 in
set_option maxRecDepth 100000 in
theorem read_ok2 (rb pb sb cap : Nat) (hrp : rb ≠ pb) (hsp : sb ≠ pb) (hsr : sb ≠ rb) (s : ByteArray) (hs : s.size ≤ 281474976710656) (a : Nat) (ha : a ≤ s.size) (m : Int) (hm : m ≤ 9223372036854775807) (w : World)
    (hR : RD w rb s a 0) (hP : PS w pb ⟨#[]⟩ m 0 ⟨#[]⟩) (hsl : sb < w.heap.size) (hS0 : w.cell? ⟨sb, 0, none⟩ = some (.func (.func 131) #[.pointer (some ⟨pb, 0, none⟩)] #[])) (hS1 : w.cell? ⟨sb, 1, none⟩ = some (.func (.func 132) #[.pointer (some ⟨pb, 0, none⟩)] #[]))
    (v : Nat) (r : List UInt8) (hD : dec 0 0 (s.extract a s.size).data.toList = (0, v, r)) (hr : r.length ≤ s.size) (hfit : (v : Int) ≤ max m 0) :
    Calls Tryz.prog 130 #[.pointer (some ⟨rb, 0, none⟩), .pointer (some ⟨pb, 0, none⟩), .slice (some ⟨sb, 0, none⟩) 2 cap] w fun e w' => e = .returned (.tuple #[]) ∧ RD w' rb s (s.size - r.length : Nat) 0 ∧ PS w' pb (S r) m v ⟨#[]⟩ ∧ Touch2 rb pb w w' := by
  obtain ⟨c0, c1, c2, f0, f1, f2⟩ := hR.cells
  obtain ⟨d0, d1, d2, d3, e0, e1, e2, e3⟩ := hP.cells
  have hx : (s.extract a s.size).size ≤ 9223372036854775807 := by simp; omega
  go_enter Tryz.func130, Tryz.ntmps130
  go_wp2
  go_region
  all_goals go_wp2_with fail
  have o1 : Only pb w (w.setCell ⟨pb, 0, none⟩ (.string (s.extract a s.size))).drew := ((Only.refl pb w).setCell 0 _).drew
  have hP1 := (hP.set0 (s.extract a s.size)).drew
  have hR1 := hR.of_only o1 hrp
  have t1 : Touch2 rb pb w _ := o1.touch.two_r
  have k0 := (o1.cell (p := ⟨sb, 0, none⟩) hsp).trans hS0
  have k1 := (o1.cell (p := ⟨sb, 1, none⟩) hsp).trans hS1
  have hl1 : sb < (w.setCell ⟨pb, 0, none⟩ (.string (s.extract a s.size))).drew.heap.size := by have := o1.size; omega
  generalize (w.setCell ⟨pb, 0, none⟩ (.string (s.extract a s.size))).drew = w1 at *
  clear c0 c1 c2 f0 f1 f2 d0 d1 d2 d3 e0 e1 e2 e3 o1 hS0 hS1
  have hN := number_any pb _ m ⟨#[]⟩ w1 hP1 hx
  have hrs : (S r).size ≤ s.size := by rw [S_size]; exact hr
  have hend : ((s.size : Int) - ((S r).size : Int)) = ((s.size - r.length : Nat) : Int) := by rw [S_size]; omega
  have hend1 := Lib.hid hend
  clear hend
  rw [hD] at hN
  clear hD
  refine wp_loop_rounds 3 ?_
  rw [rounds_succ]
  go_wp2_with fail
  refine hN.mono ?_
  rintro e w2 ⟨lft, nn, rfl, hP2, hv, o2⟩
  obtain ⟨rfl, rfl⟩ := hv rfl
  have hR2 := hR1.of_only o2 hrp
  have t2 := t1.trans o2.touch.two_r
  have g1 := (o2.cell (p := ⟨sb, 1, none⟩) hsp).trans k1
  have hl2 : sb < w2.heap.size := by have := o2.size; omega
  clear hP1 hR1 t1 o2 hN hv hl1 k0 k1
  obtain ⟨c0, c1, c2, f0, f1, f2⟩ := hR2.cells
  obtain ⟨d0, d1, d2, d3, e0, e1, e2, e3⟩ := hP2.cells
  go_wp2_with fail
  rw [rounds_succ]
  go_wp2_with fail
  refine (bound_ok pb _ m v ⟨#[]⟩ w2 hP2 hm hfit).mono ?_
  rintro e w3 ⟨rfl, rfl⟩
  have hR3 := hR2.drew
  have hP3 := hP2.drew
  have t3 := t2.drew
  have hl3 : sb < w2.drew.heap.size := hl2
  generalize w2.drew = w3 at *
  clear hP2 hR2 t2 hl2 g1
  clear c0 c1 c2 f0 f1 f2 d0 d1 d2 d3 e0 e1 e2 e3
  obtain ⟨c0, c1, c2, f0, f1, f2⟩ := hR3.cells
  obtain ⟨d0, d1, d2, d3, e0, e1, e2, e3⟩ := hP3.cells
  go_wp2_with fail
  rw [rounds_succ]
  go_wp2_with fail
  go_region
  all_goals go_wp2
  have hend := hend1.out
  obtain ⟨q1, q2, q3⟩ := advanced hrp hR3 hP3 _ _ hend
  exact bodyPost_end (results_none rfl _ _ _) rfl ⟨rfl, q1, q2, t3.trans q3⟩

end Go.Proofs.YtmgmhnohocamfaaGreat.pk
