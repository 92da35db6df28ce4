/-
  posthornlaw01.PackOne answers true.
-/
import Derived.Test.YtihjllfkejdoiaaPackAlive
import Derived.Test.YtihjllfkejdoiaaPackForm
namespace Go.Proofs.Ytihjllfkejdoiaa.pk
open Go.RowKit

set_option maxHeartbeats 4000000 in
set_option maxRecDepth 100000 in
theorem packone_any (s : ByteArray) (hs : s.size ≤ 281474976710656) (w : World) : Calls Try.prog 5 #[.string s] w fun e w' => e = .returned (.bool true) ∧ Below w.heap.size w w' := by
  go_enter Try.func5, Try.ntmps5
  go_wp2_with fail
  refine (alive_any w).mono ?_
  rintro e w1 ⟨rfl, hb1⟩
  go_wp2_with fail
  refine (open_any s w1).mono ?_
  rintro e w2 ⟨rfl, hw2⟩
  have hb2 : Below w.heap.size w w2 := by rw [hw2]; exact hb1.alloc hb1.size _
  have hR2 : RD w2 w1.heap.size s (0 : Nat) 0 := by rw [hw2]; exact heap_alloc_new w1 _
  have hge : w.heap.size ≤ w1.heap.size := hb1.size
  clear hw2 hb1
  generalize w1.heap.size = rb at *
  go_wp2_with fail
  go_loopw [4] (fun i wr => ∃ k a : Nat, i = .int .i64 k ∧ k ≤ a ∧ a ≤ s.size ∧ RD wr rb s a 0 ∧ Below w.heap.size w wr)
    (fun i _ => s.size + 1 - (intOf i).toNat)
  case atStart => exact ⟨0, 0, rfl, by omega, by omega, hR2, hb2⟩
  case round =>
    obtain ⟨k, a, rfl, hka, has, hR3, hb3⟩ := hrel
    clear hR2 hb2
    have hk : k ≤ s.size := by omega
    go_wp2_with fail
    refine (left_any rb s a 0 wr hR3 has (by omega)).mono ?_
    rintro e w4 ⟨q4, rfl, rfl⟩
    have hR4 := hR3.drewN q4
    have hb4 : Below w.heap.size w (wr.drewN q4) := hb3.trans (((Only.refl rb wr).drewN q4).below hge)
    clear hR3 hb3
    generalize wr.drewN q4 = w4 at *
    have hsub : ((s.size : Int) - ((s.size - a : Nat) : Int)) = (a : Int) := by omega
    go_wp2_with fail
    obtain ⟨D, hD⟩ : ∃ D, dec 0 0 (s.extract a s.size).data.toList = D := ⟨_, rfl⟩
    by_cases hbad : D.1 = 0
    · obtain ⟨d0, v, r⟩ := D
      obtain rfl : d0 = 0 := hbad
      obtain ⟨y, hv, hl, _, hv64⟩ := dec_one _ 0 0 v r (by omega) (by decide) hD
      obtain rfl : v = y := by simpa using hv
      clear hv
      have hdl : (s.extract a s.size).data.toList = s.data.toList.drop a := by
        rw [Lib.extract_data, List.take_of_length_le (by rw [List.length_drop, ← Lib.size_eq]; omega)]
      rw [hdl] at hl
      have hlen := congrArg List.length hl
      rw [List.length_drop, ← Lib.size_eq, List.length_append] at hlen
      have hpos := Lib.uvarint_pos v
      have hr : r.length ≤ s.size := by omega
      obtain ⟨a', ha'⟩ : ∃ a', a' = s.size - r.length := ⟨_, rfl⟩
      have hE : s.extract a a' = S (Lib.uvarint v) := by
        apply ByteArray.ext
        apply Array.toList_inj.1
        rw [Lib.extract_data, S_data, hl, List.take_left' (by omega)]
      have ha1 : a < a' := by omega
      have ha2 : a' ≤ s.size := by omega
      have hDh := Lib.hid hD
      clear hD hdl hlen hl
      refine (rnum_ok rb s hs a has w4 hR4 v r hDh.out hr).mono ?_
      rintro e w5 ⟨rfl, hR5, t5⟩
      rw [← ha'] at hR5
      clear ha' hr
      have hb5 : Below w.heap.size w w5 := hb4.trans (t5.below hge (by have := hR4.lt; omega))
      clear hR4 hb4 t5
      have HE := Lib.hid hE
      clear hE
      go_wp2_with fail
      refine (fault_ok rb s a' w5 hR5).mono ?_
      rintro e w6 ⟨q6, rfl, rfl⟩
      have hR6 := hR5.drewN q6
      have hb6 : Below w.heap.size w (w5.drewN q6) := hb5.trans (((Only.refl rb w5).drewN q6).below hge)
      clear hR5 hb5
      generalize w5.drewN q6 = w6 at *
      go_wp2_with fail
      refine (num_any v hv64 w6).mono ?_
      rintro e w7 ⟨rfl, hb7⟩
      have hR7 := hR6.of_below hb7 hR6.lt
      have hb8 : Below w.heap.size w w7 := hb6.trans (hb7.mono (by have := hR6.lt; omega))
      clear hR6 hb6 hb7
      go_wp2_with fail
      refine (left_any rb s a' 0 w7 hR7 ha2 (by omega)).mono ?_
      rintro e w9 ⟨q9, rfl, rfl⟩
      have hR9 := hR7.drewN q9
      have hb9 : Below w.heap.size w (w7.drewN q9) := hb8.trans (((Only.refl rb w7).drewN q9).below hge)
      clear hR7 hb8
      generalize w7.drewN q9 = w9 at *
      have hsub2 : ((s.size : Int) - ((s.size - a' : Nat) : Int)) = (a' : Int) := by omega
      have hsl := run_slice_string (P := Try.prog) w9 9 s .i64 .i64 (a : Int) (a' : Int) Try.underlying9 (by omega) (by omega) (by omega)
      rw [Int.toNat_natCast, Int.toNat_natCast, HE.out] at hsl
      go_wp2
      go_roundw
      case rel => exact ⟨k + 1, a', by go_num, by omega, ha2, hR9, hb9⟩
      case measure => simp [intOf]; omega
    · have h34 : D.1 = 3 ∨ D.1 = 4 := by
        rcases dec_err (s.extract a s.size).data.toList 0 0 with h | h | h
        · rw [hD] at h; exact absurd h hbad
        · rw [hD] at h; exact Or.inl h
        · rw [hD] at h; exact Or.inr h
      refine (rnum_bad rb s hs a has w4 hR4 D hD hbad).mono ?_
      rintro e w5 ⟨rfl, hR5, t5⟩
      have hb5 : Below w.heap.size w w5 := hb4.trans (t5.below hge (by have := hR4.lt; omega))
      clear hR4 hb4 t5 hD
      obtain ⟨d0, v, r⟩ := D
      have hR5' : RD w5 rb s a d0 := hR5
      clear hR5 hbad
      rcases h34 with rfl | rfl
      all_goals
        go_wp2_with fail
        refine (fault_bad rb s a _ (by decide) w5 hR5').mono ?_
        rintro e w6 ⟨q6, rfl, rfl⟩
        have hb6 : Below w.heap.size w (w5.drewN q6) := hb5.trans (((Only.refl rb w5).drewN q6).below hge)
        clear hb5
        go_wp2
        go_ret
        exact ⟨rfl, hb6⟩
end Go.Proofs.Ytihjllfkejdoiaa.pk
