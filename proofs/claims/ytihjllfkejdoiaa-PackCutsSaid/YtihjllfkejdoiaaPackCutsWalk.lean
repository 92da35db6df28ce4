/-
  posthornlaw01.PackCuts answers true.
-/
import Derived.Test.YtihjllfkejdoiaaPackAlive
import Derived.Test.YtihjllfkejdoiaaPackForm
namespace Go.Proofs.Ytihjllfkejdoiaa.pk
open Go.RowKit

set_option maxHeartbeats 4000000 in
set_option maxRecDepth 100000 in
theorem packcuts_any (n : Nat) (hn : n < 18446744073709551616) (s : List UInt8) (hs : s.length ≤ 140737488355328) (m : Int) (w : World) :
    Calls Try.prog 6 #[.int .u64 n, .string (S s), .int .i64 m] w fun e w' => e = .returned (.bool true) ∧ Below w.heap.size w w' := by
  have hl1 := Lib.uvarint_length64 hn
  have hl2 := Lib.uvarint_length64 (x := s.length) (by omega)
  have hp1 := Lib.uvarint_pos n
  have hp2 := Lib.uvarint_pos s.length
  go_enter Try.func6, Try.ntmps6
  go_wp2_with fail
  refine (alive_any w).mono ?_
  rintro e w1 ⟨rfl, hb1⟩
  go_wp2_with fail
  refine (num_any n hn w1).mono ?_
  rintro e w2 ⟨rfl, hb2⟩
  have hB2 : Below w.heap.size w w2 := hb1.trans (hb2.mono hb1.size)
  clear hb1 hb2
  go_wp2_with fail
  refine (text_any s (by omega) w2).mono ?_
  rintro e w3 ⟨rfl, hb3⟩
  have hB3 : Below w.heap.size w w3 := hB2.trans (hb3.mono hB2.size)
  clear hB2 hb3
  have hU : 0 ≤ IntKind.u64.wrap m := by
    simp only [IntKind.wrap, IntKind.bits, IntKind.signed]
    simp
    omega
  obtain ⟨L, hL⟩ : ∃ L, L = Lib.uvarint n ++ (Lib.uvarint s.length ++ s) := ⟨_, rfl⟩
  have hLl : L.length = (S (Lib.uvarint n)).size + (S (Lib.uvarint s.length ++ s)).size := by rw [hL, S_size, S_size, List.length_append]
  have hAB : S (Lib.uvarint n) ++ S (Lib.uvarint s.length ++ s) = S L := by rw [S_append, hL]
  have hA1 : 1 ≤ (S (Lib.uvarint n)).size := by rw [S_size]; omega
  have hA2 : (S (Lib.uvarint n)).size ≤ 10 := by rw [S_size]; omega
  have hB2 : (S (Lib.uvarint s.length ++ s)).size ≤ 140737488355338 := by rw [S_size, List.length_append]; omega
  generalize S (Lib.uvarint n) = A at *
  generalize S (Lib.uvarint s.length ++ s) = B at *
  obtain ⟨x, hx⟩ : ∃ x : Nat, IntKind.u64.wrap m % ((A.size : Int) + (B.size : Int)) = (x : Int) := ⟨_, (Int.toNat_of_nonneg (Int.emod_nonneg _ (by omega))).symm⟩
  have hxl : x < A.size + B.size := by
    have := Int.emod_lt_of_pos (IntKind.u64.wrap m) (b := (A.size : Int) + (B.size : Int)) (by omega)
    omega
  have HL := Lib.hid hL
  have HAB := Lib.hid hAB
  have HLl := Lib.hid hLl
  clear hL hAB hLl
  go_wp2_with fail
  have hT : (A ++ B).extract 0 x = S (L.take x) := by
    rw [HAB.out]
    apply ByteArray.ext
    apply Array.toList_inj.1
    rw [Lib.extract_data, S_data, S_data]
    simp
  rw [hT]
  refine (open_any (S (L.take x)) w3).mono ?_
  rintro e w4 ⟨rfl, hw4⟩
  have hb4 : Below w.heap.size w w4 := by rw [hw4]; exact hB3.alloc hB3.size _
  have hR4 : RD w4 w3.heap.size (S (L.take x)) (0 : Nat) 0 := by rw [hw4]; exact heap_alloc_new w3 _
  have hge : w.heap.size ≤ w3.heap.size := hB3.size
  clear hw4 hB3 hT
  generalize w3.heap.size = rb at *
  obtain ⟨T, hTd⟩ : ∃ T, T = L.take x := ⟨_, rfl⟩
  rw [← hTd] at hR4 ⊢
  have hTl : T.length ≤ 140737488355348 := by rw [hTd, List.length_take]; omega
  have hST : (S T).size ≤ 281474976710656 := by rw [S_size]; omega
  have hD0 : ((S T).extract 0 (S T).size).data.toList = T := by rw [Lib.extract_data, S_data, S_size]; simp
  have HTd := Lib.hid hTd
  clear hTd
  go_wp2_with fail
  by_cases hc1 : x < (Lib.uvarint n).length
  · have hd : dec 0 0 ((S T).extract 0 (S T).size).data.toList = (3, 0, []) := by
      rw [hD0, HTd.out, HL.out, List.take_append_of_le_length (by omega)]
      exact dec_cut n 0 0 x (by omega) (by omega) (by simpa using hn) hc1
    clear hD0
    refine (rnum_bad rb (S T) hST 0 (by omega) w4 hR4 (3, 0, []) hd (by decide)).mono ?_
    rintro e w5 ⟨rfl, hR5, t5⟩
    have hb5 : Below w.heap.size w w5 := hb4.trans (t5.below hge (by have := hR4.lt; omega))
    clear hR4 hb4 t5 hd
    have hR5' : RD w5 rb (S T) (0 : Nat) (3 : Int) := hR5
    clear hR5
    go_wp2_with fail
    have hsl := S_size s
    refine (rtext_faulty rb (S T) (0 : Nat) 3 (by decide) _ (by omega) w5 hR5').mono ?_
    rintro e w6 ⟨rfl, hR6, t6⟩
    have hb6 : Below w.heap.size w w6 := hb5.trans (t6.below hge (by have := hR5'.lt; omega))
    clear hR5' hb5 t6
    go_wp2_with fail
    refine (fault_bad rb (S T) (0 : Nat) 3 (by decide) w6 hR6).mono ?_
    rintro e w7 ⟨q7, rfl, rfl⟩
    have hR7 := hR6.drewN q7
    have hb7 : Below w.heap.size w (w6.drewN q7) := hb6.trans (((Only.refl rb w6).drewN q7).below hge)
    clear hR6 hb6
    generalize w6.drewN q7 = w7 at *
    go_wp2_with fail
    refine (end_bad rb (S T) (0 : Nat) 3 (by decide) w7 hR7).mono ?_
    rintro e w8 ⟨rfl, rfl⟩
    go_wp2
    go_ret
    exact ⟨rfl, hb7⟩
  · obtain ⟨T2, hT2⟩ : ∃ T2, T2 = (Lib.uvarint s.length ++ s).take (x - (Lib.uvarint n).length) := ⟨_, rfl⟩
    have hTT : T = Lib.uvarint n ++ T2 := by
      rw [HTd.out, HL.out, hT2, List.take_append, List.take_of_length_le (by omega)]
    have hd : dec 0 0 ((S T).extract 0 (S T).size).data.toList = (0, n, T2) := by
      rw [hD0, hTT, dec_back T2 n 0 0 (by omega) (by omega) (by simpa using hn)]
      simp
    clear hD0
    have hTTl : (S T).size = (Lib.uvarint n).length + T2.length := by rw [S_size, hTT, List.length_append]
    obtain ⟨a, ha⟩ : ∃ a, a = (S T).size - T2.length := ⟨_, rfl⟩
    have hD1 : ((S T).extract a (S T).size).data.toList = T2 := by
      rw [Lib.extract_data, S_data, hTT, show a = (Lib.uvarint n).length by omega, List.drop_left, List.take_of_length_le (by rw [← hTT]; omega)]
    have haT : a ≤ (S T).size := by omega
    have hr2 : T2.length ≤ (S T).size := by omega
    refine (rnum_ok rb (S T) hST 0 (by omega) w4 hR4 n T2 hd hr2).mono ?_
    rintro e w5 ⟨rfl, hR5, t5⟩
    rw [← ha] at hR5
    have hb5 : Below w.heap.size w w5 := hb4.trans (t5.below hge (by have := hR4.lt; omega))
    have HT2 := Lib.hid hT2
    have HTTl := Lib.hid hTTl
    clear hR4 hb4 t5 hd ha hTT hT2 hTTl
    have hsl := S_size s
    have hLs : A.size + B.size = (Lib.uvarint n).length + (Lib.uvarint s.length).length + s.length := by
      rw [← HLl.out, HL.out, List.length_append, List.length_append]; omega
    have HLs := Lib.hid hLs
    clear hLs
    go_wp2_with fail
    by_cases hc2 : x - (Lib.uvarint n).length < (Lib.uvarint s.length).length
    · have hd2 : dec 0 0 ((S T).extract a (S T).size).data.toList = (3, 0, []) := by
        rw [hD1, HT2.out, List.take_append_of_le_length (by omega)]
        exact dec_cut s.length 0 0 _ (by omega) (by omega) (by simp; omega) hc2
      clear hD1
      refine (rtext_bad1 rb (S T) hST a haT _ (by omega) w5 hR5 (3, 0, []) hd2 (by decide)).mono ?_
      rintro e w6 ⟨rfl, hR6', t6⟩
      have hR6 : RD w6 rb (S T) a (3 : Int) := hR6'
      have hb6 : Below w.heap.size w w6 := hb5.trans (t6.below hge (by have := hR5.lt; omega))
      clear hR5 hb5 t6 hd2 hR6'
      go_wp2_with fail
      refine (fault_bad rb (S T) _ 3 (by decide) w6 hR6).mono ?_
      rintro e w7 ⟨q7, rfl, rfl⟩
      have hR7 := hR6.drewN q7
      have hb7 : Below w.heap.size w (w6.drewN q7) := hb6.trans (((Only.refl rb w6).drewN q7).below hge)
      clear hR6 hb6
      generalize w6.drewN q7 = w7 at *
      go_wp2_with fail
      refine (end_bad rb (S T) _ 3 (by decide) w7 hR7).mono ?_
      rintro e w8 ⟨rfl, rfl⟩
      go_wp2
      go_ret
      exact ⟨rfl, hb7⟩
    · obtain ⟨T3, hT3⟩ : ∃ T3, T3 = s.take (x - (Lib.uvarint n).length - (Lib.uvarint s.length).length) := ⟨_, rfl⟩
      have hT23 : T2 = Lib.uvarint s.length ++ T3 := by
        rw [HT2.out, hT3, List.take_append, List.take_of_length_le (by omega)]
      have hd2 : dec 0 0 ((S T).extract a (S T).size).data.toList = (0, s.length, T3) := by
        rw [hD1, hT23, dec_back T3 s.length 0 0 (by omega) (by omega) (by simp; omega)]
        simp
      have hr3 : T3.length ≤ (S T).size := by
        have h := congrArg List.length hT23
        rw [List.length_append] at h
        omega
      have hT3l : T3.length < s.length := by
        have := HLs.out
        rw [hT3, List.length_take]
        omega
      clear hD1 hT23
      refine (rtext_bad3 rb (S T) hST a haT _ (by omega) w5 hR5 s.length T3 hd2 hr3 (by omega) hT3l).mono ?_
      rintro e w6 ⟨rfl, hR6', t6⟩
      have hR6 : RD w6 rb (S T) a (3 : Int) := hR6'
      have hb6 : Below w.heap.size w w6 := hb5.trans (t6.below hge (by have := hR5.lt; omega))
      have HT3 := Lib.hid hT3
      clear hR5 hb5 t6 hd2 hR6' hT3
      go_wp2_with fail
      refine (fault_bad rb (S T) _ 3 (by decide) w6 hR6).mono ?_
      rintro e w7 ⟨q7, rfl, rfl⟩
      have hR7 := hR6.drewN q7
      have hb7 : Below w.heap.size w (w6.drewN q7) := hb6.trans (((Only.refl rb w6).drewN q7).below hge)
      clear hR6 hb6
      generalize w6.drewN q7 = w7 at *
      go_wp2_with fail
      refine (end_bad rb (S T) _ 3 (by decide) w7 hR7).mono ?_
      rintro e w8 ⟨rfl, rfl⟩
      go_wp2
      go_ret
      exact ⟨rfl, hb7⟩
end Go.Proofs.Ytihjllfkejdoiaa.pk
