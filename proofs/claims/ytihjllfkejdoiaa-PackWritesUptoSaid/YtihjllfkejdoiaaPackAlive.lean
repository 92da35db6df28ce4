/-
  posthornlaw01.alive answers true.
-/
import Derived.Test.YtihjllfkejdoiaaPackMeth
import Derived.Test.YtihjllfkejdoiaaPackRead1
import Derived.Test.YtihjllfkejdoiaaPackNums
namespace Go.Proofs.Ytihjllfkejdoiaa.pk
open Go.RowKit

theorem uv300 : Lib.uvarint 300 = [172, 2] := by
  rw [Lib.uvarint_big (by omega), Lib.uvarint_small (by omega)]; rfl
theorem uv128 : Lib.uvarint 128 = [128, 1] := by
  rw [Lib.uvarint_big (by omega), Lib.uvarint_small (by omega)]; rfl
theorem uv1 : Lib.uvarint 1 = [1] := by rw [Lib.uvarint_small (by omega)]; rfl
theorem uv2 : Lib.uvarint 2 = [2] := by rw [Lib.uvarint_small (by omega)]; rfl

theorem num300 (w : World) : Calls Try.prog 9 #[.int .u64 300] w fun e w' => e = .returned (.string ⟨#[172, 2]⟩) ∧ Below w.heap.size w w' := by
  have h := num_any 300 (by omega) w
  rw [uv300] at h
  exact h
theorem textab (w : World) : Calls Try.prog 11 #[.string ⟨#[97, 98]⟩] w fun e w' => e = .returned (.string ⟨#[2, 97, 98]⟩) ∧ Below w.heap.size w w' := by
  have h := text_any [97, 98] (by simp) w
  rw [show ([97, 98] : List UInt8).length = 2 from rfl, uv2] at h
  exact h
theorem nums2 (b : Nat) (w : World) (hb : b < w.heap.size) (h0 : w.cell? ⟨b, 0, none⟩ = some (.int .u64 1)) (h1 : w.cell? ⟨b, 1, none⟩ = some (.int .u64 128)) :
    Calls Try.prog 13 #[.slice (some ⟨b, 0, none⟩) 2 2] w fun e w' => e = .returned (.string ⟨#[2, 1, 128, 1]⟩) ∧ Below w.heap.size w w' := by
  have h := nums_some b 0 2 [1, 128] (by simp) (by simp) w hb (fun j hj => by
    match j, hj with
    | 0, _ => simpa using h0
    | 1, _ => simpa using h1)
  rw [show ([1, 128] : List Nat).length = 2 from rfl, uv2, each_cons, each_cons, each_nil, uv1, uv128] at h
  exact h

set_option maxHeartbeats 4000000 in
set_option maxRecDepth 100000 in
theorem alive_any (w : World) : Calls Try.prog 8 #[] w fun e w' => e = .returned (.bool true) ∧ Below w.heap.size w w' := by
  go_enter Try.func8, Try.ntmps8
  go_wp2_with fail
  refine (open_any ⟨#[172, 2, 2, 97, 98, 5]⟩ w).mono ?_
  rintro e w1 ⟨rfl, hw1⟩
  have hb1 : Below w.heap.size w w1 := by rw [hw1]; exact (Below.refl _ w).alloc (Nat.le_refl _) _
  have hR1 : RD w1 w.heap.size ⟨#[172, 2, 2, 97, 98, 5]⟩ (0 : Nat) 0 := by rw [hw1]; exact heap_alloc_new w _
  clear hw1
  have l1 := hR1.lt
  go_wp2_with fail
  refine (num300 w1).mono ?_
  rintro e w2 ⟨rfl, hb2⟩
  have hR2 := hR1.of_below hb2 l1
  have hB2 : Below w.heap.size w w2 := hb1.trans (hb2.mono (by omega))
  clear hR1 hb1 hb2 l1
  have l2 := hR2.lt
  go_wp2_with fail
  refine (textab w2).mono ?_
  rintro e w3 ⟨rfl, hb3⟩
  have hR3 := hR2.of_below hb3 l2
  have hB3 : Below w.heap.size w w3 := hB2.trans (hb3.mono (by omega))
  clear hR2 hB2 hb3 l2
  have l3 := hR3.lt
  go_wp2_with fail
  refine (nums2 w3.heap.size _ (by simp) (by simp) (by simp)).mono ?_
  rintro e w4 ⟨rfl, hb4⟩
  have hb34 : Below w3.heap.size w3 w4 := ((Below.refl _ w3).alloc (Nat.le_refl _) _).trans (hb4.mono (by simp))
  have hR4 := hR3.of_below hb34 l3
  have hB4 : Below w.heap.size w w4 := hB3.trans (hb34.mono (by omega))
  clear hR3 hB3 hb34 hb4 l3
  go_wp2_with fail
  refine (rnum_ok w.heap.size ⟨#[172, 2, 2, 97, 98, 5]⟩ (by decide) 0 (by decide) w4 hR4 300 [2, 97, 98, 5] (by rfl) (by decide)).mono ?_
  rintro e w5 ⟨rfl, hR5, t5⟩
  have hB5 : Below w.heap.size w w5 := hB4.trans (t5.below (Nat.le_refl _) (by have := hR4.lt; omega))
  clear hR4 hB4 t5
  go_wp2_with fail
  refine (rtext_ok w.heap.size ⟨#[172, 2, 2, 97, 98, 5]⟩ (by decide) 2 (by decide) 2 (by omega) w5 hR5 2 [97, 98, 5] (by rfl) (by decide) (by decide) (by decide)).mono ?_
  rintro e w6 ⟨rfl, hR6, t6⟩
  have hB6 : Below w.heap.size w w6 := hB5.trans (t6.below (Nat.le_refl _) (by have := hR5.lt; omega))
  clear hR5 hB5 t6
  have hx : (S [97, 98, 5]).extract 0 2 = ⟨#[97, 98]⟩ := by rfl
  rw [hx]
  go_wp2_with fail
  have hR6' : RD w6 w.heap.size ⟨#[172, 2, 2, 97, 98, 5]⟩ (5 : Nat) 0 := hR6
  refine (left_any w.heap.size ⟨#[172, 2, 2, 97, 98, 5]⟩ 5 0 w6 hR6' (by decide) (by decide)).mono ?_
  rintro e w7 ⟨q, rfl, rfl⟩
  have hR7 := hR6'.drewN q
  have hB7 : Below w.heap.size w (w6.drewN q) := hB6.trans (((Only.refl w.heap.size w6).drewN q).below (Nat.le_refl _))
  clear hR6 hR6' hB6
  have hx1 : (((⟨#[172, 2, 2, 97, 98, 5]⟩ : ByteArray).size - 5 : Nat) : Int) = 1 := by decide
  rw [hx1]
  go_wp2_with fail
  refine (end_rest w.heap.size ⟨#[172, 2, 2, 97, 98, 5]⟩ 5 _ hR7 (by decide) (by decide)).mono ?_
  rintro e w8 ⟨rfl, hR8, t8⟩
  have hB8 := hB7.trans (t8.below (Nat.le_refl _))
  clear hR7 hB7 hR8 t8
  go_wp2
  go_ret
  exact ⟨rfl, hB8⟩
end Go.Proofs.Ytihjllfkejdoiaa.pk
