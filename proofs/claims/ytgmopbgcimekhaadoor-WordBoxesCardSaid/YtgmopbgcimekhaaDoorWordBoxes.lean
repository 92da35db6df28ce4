/-
  The walk of WordBoxes.
-/
import Derived.Test.YtgmopbgcimekhaaDoorWordAlive
import Derived.Laws.Rows
import Derived.Deep.CutRange
import Derived.Lib.SlBytesConst
import Derived.Deep.WholeRow
namespace Go.Proofs.YtgmopbgcimekhaaDoor.wo
open Go.RowKit

/-- The letters of INBOX, the first k made small where they are to be. -/
def inc (b0 b1 b2 b3 b4 : Bool) (k : Nat) : Array Value := #[.int .u8 (if 0 < k ∧ b0 = true then 105 else 73 : Int), .int .u8 (if 1 < k ∧ b1 = true then 110 else 78 : Int), .int .u8 (if 2 < k ∧ b2 = true then 98 else 66 : Int), .int .u8 (if 3 < k ∧ b3 = true then 111 else 79 : Int), .int .u8 (if 4 < k ∧ b4 = true then 120 else 88 : Int)]
theorem inc_set0 (b1 b2 b3 b4 : Bool) : (inc true b1 b2 b3 b4 0).setIfInBounds 0 (.int .u8 105) = inc true b1 b2 b3 b4 1 := by simp [inc]
theorem inc_skip0 (b1 b2 b3 b4 : Bool) : inc false b1 b2 b3 b4 0 = inc false b1 b2 b3 b4 1 := by simp [inc]
theorem inc_set1 (b0 b2 b3 b4 : Bool) : (inc b0 true b2 b3 b4 1).setIfInBounds 1 (.int .u8 110) = inc b0 true b2 b3 b4 2 := by simp [inc]
theorem inc_skip1 (b0 b2 b3 b4 : Bool) : inc b0 false b2 b3 b4 1 = inc b0 false b2 b3 b4 2 := by simp [inc]
theorem inc_set2 (b0 b1 b3 b4 : Bool) : (inc b0 b1 true b3 b4 2).setIfInBounds 2 (.int .u8 98) = inc b0 b1 true b3 b4 3 := by simp [inc]
theorem inc_skip2 (b0 b1 b3 b4 : Bool) : inc b0 b1 false b3 b4 2 = inc b0 b1 false b3 b4 3 := by simp [inc]
theorem inc_set3 (b0 b1 b2 b4 : Bool) : (inc b0 b1 b2 true b4 3).setIfInBounds 3 (.int .u8 111) = inc b0 b1 b2 true b4 4 := by simp [inc]
theorem inc_skip3 (b0 b1 b2 b4 : Bool) : inc b0 b1 b2 false b4 3 = inc b0 b1 b2 false b4 4 := by simp [inc]
theorem inc_set4 (b0 b1 b2 b3 : Bool) : (inc b0 b1 b2 b3 true 4).setIfInBounds 4 (.int .u8 120) = inc b0 b1 b2 b3 true 5 := by simp [inc]
theorem inc_skip4 (b0 b1 b2 b3 : Bool) : inc b0 b1 b2 b3 false 4 = inc b0 b1 b2 b3 false 5 := by simp [inc]
theorem set_marked {w : World} {b i : Nat} {cs : Array Value} {T : TypeId} {fr : Nat × Nat} (hb : w.heap[b]? = some (.cells cs T fr)) (v : Value) :
    (w.setCell ⟨b, i, none⟩ v).heap[b]? = some (.cells (cs.setIfInBounds i v) T fr) := by
  simp [World.setCell, Array.getElem?_modify, hb]
theorem frozen_marked {w : World} {b i : Nat} {cs : Array Value} {T : TypeId} (hb : w.heap[b]? = some (.cells cs T (5, 6))) (hi : i < 5) : w.frozen? ⟨b, i, none⟩ = false := by
  simp [World.frozen?, hb]
  omega
theorem inc_conv (W : World) (g : Nat) (b0 b1 b2 b3 b4 : Bool) (h : W.heap[g]? = some (.cells (inc b0 b1 b2 b3 b4 5) 5 (5, 6))) :
    (convert 37 9 (.slice (some ⟨g, 0, none⟩) 5 5)).run Tryd.prog W = .ok (.string (S (inb b0 b1 b2 b3 b4))) W := by
  have hr := run_convert_bytes_arg (P := Tryd.prog) W 37 5 Tryd.underlying37 Tryd.underlying5 g 0 5 5 ((inb b0 b1 b2 b3 b4).map fun c => (c.toNat : Int)) rfl (fun i hi => by
    rw [Nat.zero_add, cell_of_row _ _ _ _ _ _ h]
    match i, hi with
    | 0, _ => cases b0 <;> rfl
    | 1, _ => cases b1 <;> rfl
    | 2, _ => cases b2 <;> rfl
    | 3, _ => cases b3 <;> rfl
    | 4, _ => cases b4 <;> rfl) 9 Tryd.underlying9
  rw [hr]
  congr 2
  apply ByteArray.ext
  apply Array.toList_inj.1
  rw [strOfNums_data, List.map_map, S_data]
  conv => rhs; rw [← List.map_id (inb b0 b1 b2 b3 b4)]
  apply List.map_congr_left
  intro x _
  simp

set_option maxHeartbeats 4000000 in
set_option maxRecDepth 100000 in
theorem wordboxes_any (l : List UInt8) (hl : l.length ≤ 140737488355328) (b0 b1 b2 b3 b4 : Bool) (w : World) (hT : Tab w) :
    Calls Tryd.prog 8 #[.string (S l), .agg #[.bool b0, .bool b1, .bool b2, .bool b3, .bool b4]] w fun e w' => e = .returned (.bool true) ∧ Below w.heap.size w w' := by
  have hz := S_size l
  have hin := box_any (inb b0 b1 b2 b3 b4) (by simp [inb])
  rw [(inb_box b0 b1 b2 b3 b4).1, (inb_box b0 b1 b2 b3 b4).2] at hin
  change ∀ w, Calls Tryd.prog 24 #[.string (S (inb b0 b1 b2 b3 b4))] w fun e w' => e = .returned (.tuple #[.string ⟨#[73, 78, 66, 79, 88]⟩, .bool true]) ∧ Below w.heap.size w w' at hin
  have HIN := Lib.hid hin
  clear hin
  have hbx := box_any l hl
  go_enter Tryd.func8, Tryd.ntmps8
  go_wp2_with fail
  have hS0 : (w.alloc (.cells #[.bool b0, .bool b1, .bool b2, .bool b3, .bool b4] 36)).heap[w.heap.size]? = some (.cells #[.bool b0, .bool b1, .bool b2, .bool b3, .bool b4] 36 (0, 0)) := heap_alloc_new w _
  have hb0 : Below w.heap.size w (w.alloc (.cells #[.bool b0, .bool b1, .bool b2, .bool b3, .bool b4] 36)) := (Below.refl _ w).alloc (Nat.le_refl _) _
  have hs0 : (w.alloc (.cells #[.bool b0, .bool b1, .bool b2, .bool b3, .bool b4] 36)).heap.size = w.heap.size + 1 := by simp
  have hal := alive_any _ (hT.later hb0)
  clear hT
  generalize w.alloc (.cells #[.bool b0, .bool b1, .bool b2, .bool b3, .bool b4] 36) = w0 at *
  refine hal.mono ?_
  rintro e w1 ⟨rfl, hb1⟩
  have hS1 := (hb1.block w.heap.size (by omega)).trans hS0
  have hB1 := hb0.trans (hb1.mono (by omega))
  have hs1 := hb1.size
  clear hS0 hb0 hb1
  have hcc := Lib.run_convert_bytes_const (P := Tryd.prog) w1 37 5 #[.int .u8 73, .int .u8 78, .int .u8 66, .int .u8 79, .int .u8 88] 5 5 Tryd.underlying37 Tryd.underlying5
  go_upto_region 4 with (fail)
  have hS2 := (Below.heap_alloc w1 (.cells #[.int .u8 73, .int .u8 78, .int .u8 66, .int .u8 79, .int .u8 88] 5 (5, 6)) w.heap.size (by omega)).trans hS1
  have hI2 : (w1.alloc (.cells #[.int .u8 73, .int .u8 78, .int .u8 66, .int .u8 79, .int .u8 88] 5 (5, 6))).heap[w1.heap.size]? = some (.cells (inc b0 b1 b2 b3 b4 0) 5 (5, 6)) := by
    rw [show inc b0 b1 b2 b3 b4 0 = #[.int .u8 73, .int .u8 78, .int .u8 66, .int .u8 79, .int .u8 88] by simp [inc]]
    exact heap_alloc_new w1 _
  have hB2 := hB1.alloc (by omega) (.cells #[.int .u8 73, .int .u8 78, .int .u8 66, .int .u8 79, .int .u8 88] 5 (5, 6))
  clear hcc
  change Code.wp _ _ _ _ (w1.alloc (.cells #[.int .u8 73, .int .u8 78, .int .u8 66, .int .u8 79, .int .u8 88] 5 (5, 6)))
  generalize w1.alloc (.cells #[.int .u8 73, .int .u8 78, .int .u8 66, .int .u8 79, .int .u8 88] 5 (5, 6)) = w2 at *
  obtain ⟨bi, hbi⟩ : ∃ bi, bi = w1.heap.size := ⟨_, rfl⟩
  rw [← hbi] at hI2 ⊢
  have hbw : w.heap.size < bi := by omega
  clear hbi hS1 hB1 hs1 hs0
  go_wp2_with fail
  go_loopw [6] (fun i wr => ∃ k : Nat, i = .int .i64 k ∧ k ≤ 5 ∧ wr.heap[w.heap.size]? = some (.cells #[.bool b0, .bool b1, .bool b2, .bool b3, .bool b4] 36 (0, 0)) ∧ wr.heap[bi]? = some (.cells (inc b0 b1 b2 b3 b4 k) 5 (5, 6)) ∧ Below w.heap.size w wr)
    (fun i _ => 5 - (intOf i).toNat)
  case atStart => exact ⟨0, rfl, by omega, hS2, hI2, hB2⟩
  case round =>
    clear hS2 hI2 hB2
    obtain ⟨k, rfl, hk, hS, hI, hB⟩ := hrel
    by_cases hlt : k < 5
    · clear HIN hbx
      have h5 : k = 0 ∨ k = 1 ∨ k = 2 ∨ k = 3 ∨ k = 4 := by omega
      obtain rfl | rfl | rfl | rfl | rfl := h5
      · rcases Bool.eq_false_or_eq_true b0 with hb0 | hb0
        all_goals subst hb0
        · have c1 : wr.cell? ⟨w.heap.size, 0, none⟩ = some (.bool true) := (cell_of_row _ _ _ _ _ _ hS).trans rfl
          have c2 : wr.cell? ⟨bi, 0, none⟩ = some (.int .u8 73) := (cell_of_row _ _ _ _ _ _ hI).trans (by simp [inc])
          have f2 : wr.frozen? ⟨bi, 0, none⟩ = false := frozen_marked hI (by decide)
          have hI2 := set_marked (i := 0) hI (.int .u8 105)
          have hS2 := (Below.heap_setCell wr ⟨bi, 0, none⟩ (.int .u8 105) w.heap.size (by simp; omega)).trans hS
          have hB2 := hB.setCell (p := ⟨bi, 0, none⟩) (by simp; omega) (.int .u8 105)
          rw [inc_set0] at hI2
          have HH := Lib.hid (And.intro hS2 (And.intro hI2 hB2))
          clear hS hI hB hS2 hI2 hB2
          go_wp2_with fail
          go_roundw
          case rel => exact ⟨1, rfl, by omega, HH.out.1, HH.out.2.1, HH.out.2.2⟩
          case measure => simp [intOf]
        · have c1 : wr.cell? ⟨w.heap.size, 0, none⟩ = some (.bool false) := (cell_of_row _ _ _ _ _ _ hS).trans rfl
          rw [inc_skip0] at hI
          have HH := Lib.hid (And.intro hS (And.intro hI hB))
          clear hS hI hB
          go_wp2_with fail
          go_roundw
          case rel => exact ⟨1, rfl, by omega, HH.out.1, HH.out.2.1, HH.out.2.2⟩
          case measure => simp [intOf]
      · rcases Bool.eq_false_or_eq_true b1 with hb1 | hb1
        all_goals subst hb1
        · have c1 : wr.cell? ⟨w.heap.size, 1, none⟩ = some (.bool true) := (cell_of_row _ _ _ _ _ _ hS).trans rfl
          have c2 : wr.cell? ⟨bi, 1, none⟩ = some (.int .u8 78) := (cell_of_row _ _ _ _ _ _ hI).trans (by simp [inc])
          have f2 : wr.frozen? ⟨bi, 1, none⟩ = false := frozen_marked hI (by decide)
          have hI2 := set_marked (i := 1) hI (.int .u8 110)
          have hS2 := (Below.heap_setCell wr ⟨bi, 1, none⟩ (.int .u8 110) w.heap.size (by simp; omega)).trans hS
          have hB2 := hB.setCell (p := ⟨bi, 1, none⟩) (by simp; omega) (.int .u8 110)
          rw [inc_set1] at hI2
          have HH := Lib.hid (And.intro hS2 (And.intro hI2 hB2))
          clear hS hI hB hS2 hI2 hB2
          go_wp2_with fail
          go_roundw
          case rel => exact ⟨2, rfl, by omega, HH.out.1, HH.out.2.1, HH.out.2.2⟩
          case measure => simp [intOf]
        · have c1 : wr.cell? ⟨w.heap.size, 1, none⟩ = some (.bool false) := (cell_of_row _ _ _ _ _ _ hS).trans rfl
          rw [inc_skip1] at hI
          have HH := Lib.hid (And.intro hS (And.intro hI hB))
          clear hS hI hB
          go_wp2_with fail
          go_roundw
          case rel => exact ⟨2, rfl, by omega, HH.out.1, HH.out.2.1, HH.out.2.2⟩
          case measure => simp [intOf]
      · rcases Bool.eq_false_or_eq_true b2 with hb2 | hb2
        all_goals subst hb2
        · have c1 : wr.cell? ⟨w.heap.size, 2, none⟩ = some (.bool true) := (cell_of_row _ _ _ _ _ _ hS).trans rfl
          have c2 : wr.cell? ⟨bi, 2, none⟩ = some (.int .u8 66) := (cell_of_row _ _ _ _ _ _ hI).trans (by simp [inc])
          have f2 : wr.frozen? ⟨bi, 2, none⟩ = false := frozen_marked hI (by decide)
          have hI2 := set_marked (i := 2) hI (.int .u8 98)
          have hS2 := (Below.heap_setCell wr ⟨bi, 2, none⟩ (.int .u8 98) w.heap.size (by simp; omega)).trans hS
          have hB2 := hB.setCell (p := ⟨bi, 2, none⟩) (by simp; omega) (.int .u8 98)
          rw [inc_set2] at hI2
          have HH := Lib.hid (And.intro hS2 (And.intro hI2 hB2))
          clear hS hI hB hS2 hI2 hB2
          go_wp2_with fail
          go_roundw
          case rel => exact ⟨3, rfl, by omega, HH.out.1, HH.out.2.1, HH.out.2.2⟩
          case measure => simp [intOf]
        · have c1 : wr.cell? ⟨w.heap.size, 2, none⟩ = some (.bool false) := (cell_of_row _ _ _ _ _ _ hS).trans rfl
          rw [inc_skip2] at hI
          have HH := Lib.hid (And.intro hS (And.intro hI hB))
          clear hS hI hB
          go_wp2_with fail
          go_roundw
          case rel => exact ⟨3, rfl, by omega, HH.out.1, HH.out.2.1, HH.out.2.2⟩
          case measure => simp [intOf]
      · rcases Bool.eq_false_or_eq_true b3 with hb3 | hb3
        all_goals subst hb3
        · have c1 : wr.cell? ⟨w.heap.size, 3, none⟩ = some (.bool true) := (cell_of_row _ _ _ _ _ _ hS).trans rfl
          have c2 : wr.cell? ⟨bi, 3, none⟩ = some (.int .u8 79) := (cell_of_row _ _ _ _ _ _ hI).trans (by simp [inc])
          have f2 : wr.frozen? ⟨bi, 3, none⟩ = false := frozen_marked hI (by decide)
          have hI2 := set_marked (i := 3) hI (.int .u8 111)
          have hS2 := (Below.heap_setCell wr ⟨bi, 3, none⟩ (.int .u8 111) w.heap.size (by simp; omega)).trans hS
          have hB2 := hB.setCell (p := ⟨bi, 3, none⟩) (by simp; omega) (.int .u8 111)
          rw [inc_set3] at hI2
          have HH := Lib.hid (And.intro hS2 (And.intro hI2 hB2))
          clear hS hI hB hS2 hI2 hB2
          go_wp2_with fail
          go_roundw
          case rel => exact ⟨4, rfl, by omega, HH.out.1, HH.out.2.1, HH.out.2.2⟩
          case measure => simp [intOf]
        · have c1 : wr.cell? ⟨w.heap.size, 3, none⟩ = some (.bool false) := (cell_of_row _ _ _ _ _ _ hS).trans rfl
          rw [inc_skip3] at hI
          have HH := Lib.hid (And.intro hS (And.intro hI hB))
          clear hS hI hB
          go_wp2_with fail
          go_roundw
          case rel => exact ⟨4, rfl, by omega, HH.out.1, HH.out.2.1, HH.out.2.2⟩
          case measure => simp [intOf]
      · rcases Bool.eq_false_or_eq_true b4 with hb4 | hb4
        all_goals subst hb4
        · have c1 : wr.cell? ⟨w.heap.size, 4, none⟩ = some (.bool true) := (cell_of_row _ _ _ _ _ _ hS).trans rfl
          have c2 : wr.cell? ⟨bi, 4, none⟩ = some (.int .u8 88) := (cell_of_row _ _ _ _ _ _ hI).trans (by simp [inc])
          have f2 : wr.frozen? ⟨bi, 4, none⟩ = false := frozen_marked hI (by decide)
          have hI2 := set_marked (i := 4) hI (.int .u8 120)
          have hS2 := (Below.heap_setCell wr ⟨bi, 4, none⟩ (.int .u8 120) w.heap.size (by simp; omega)).trans hS
          have hB2 := hB.setCell (p := ⟨bi, 4, none⟩) (by simp; omega) (.int .u8 120)
          rw [inc_set4] at hI2
          have HH := Lib.hid (And.intro hS2 (And.intro hI2 hB2))
          clear hS hI hB hS2 hI2 hB2
          go_wp2_with fail
          go_roundw
          case rel => exact ⟨5, rfl, by omega, HH.out.1, HH.out.2.1, HH.out.2.2⟩
          case measure => simp [intOf]
        · have c1 : wr.cell? ⟨w.heap.size, 4, none⟩ = some (.bool false) := (cell_of_row _ _ _ _ _ _ hS).trans rfl
          rw [inc_skip4] at hI
          have HH := Lib.hid (And.intro hS (And.intro hI hB))
          clear hS hI hB
          go_wp2_with fail
          go_roundw
          case rel => exact ⟨5, rfl, by omega, HH.out.1, HH.out.2.1, HH.out.2.2⟩
          case measure => simp [intOf]
    · obtain rfl : k = 5 := by omega
      have hcv := inc_conv wr bi b0 b1 b2 b3 b4 hI
      clear hS hI hlt hk
      go_wp2_with fail
      refine (HIN.out wr).mono ?_
      rintro e w3 ⟨rfl, hb3⟩
      have hB3 := hB.trans (hb3.mono hB.size)
      clear hcv hB hb3
      cases hok : boxOk l with
      | false =>
        rw [hok, show boxOf l = [] by unfold boxOf; rw [hok]; rfl] at hbx
        change ∀ w, Calls Tryd.prog 24 #[.string (S l)] w fun e w' => e = .returned (.tuple #[.string ⟨#[]⟩, .bool false]) ∧ Below w.heap.size w w' at hbx
        clear hok
        go_wp2_with fail
        refine (hbx w3).mono ?_
        rintro e w4 ⟨rfl, hb4⟩
        have hB4 := hB3.trans (hb4.mono hB3.size)
        go_wp2_with fail
        go_ret
        exact ⟨rfl, hB4⟩
      | true =>
        obtain ⟨g1, g2, g3, g4⟩ := box_again hok
        have hbx2 := box_any (boxOf l) (by omega)
        rw [g1, g2] at hbx2
        rw [hok] at hbx
        have hu1 := upper_any (boxOf l) (by omega)
        have hu2 := upper_any l hl
        rw [g4] at hu1
        have hza := S_size (boxOf l)
        rw [g3] at hza
        clear g1 g2 g3 g4 hok
        generalize boxOf l = a at *
        generalize upper l = u at *
        go_wp2_with fail
        refine (hbx w3).mono ?_
        rintro e w4 ⟨rfl, hb4⟩
        have hB4 := hB3.trans (hb4.mono hB3.size)
        go_wp2_with fail
        refine (hbx2 w4).mono ?_
        rintro e w5 ⟨rfl, hb5⟩
        have hB5 := hB4.trans (hb5.mono hB4.size)
        go_wp2_with fail
        refine (hu1 w5).mono ?_
        rintro e w6 ⟨rfl, hb6⟩
        have hB6 := hB5.trans (hb6.mono hB5.size)
        go_wp2_with fail
        refine (hu2 w6).mono ?_
        rintro e w7 ⟨rfl, hb7⟩
        have hB7 := hB6.trans (hb7.mono hB6.size)
        go_wp2_with fail
        go_ret
        exact ⟨rfl, hB7⟩
end Go.Proofs.YtgmopbgcimekhaaDoor.wo
