/-
  posthornlaw01.PackBack answers true.
-/
import Derived.Test.YtihjllfkejdoiaaPackAlive
import Derived.Test.YtihjllfkejdoiaaPackAt
import Derived.Deep.RegionHeld3
namespace Go.Proofs.Ytihjllfkejdoiaa.pk
open Go.RowKit

/-- A slice of numbers that came in: it is empty, or it leads to a row of cells that hold them. -/
def Row64 (w : World) (a : Option Addr) (l : List Nat) : Prop :=
  l = [] ∨ ∃ b off, a = some ⟨b, off, none⟩ ∧ b < w.heap.size ∧ ∀ j (hj : j < l.length), w.cell? ⟨b, off + j, none⟩ = some (.int .u64 (l[j] : Nat))

theorem Row64.of_below {w w' : World} {a : Option Addr} {l : List Nat} (h : Row64 w a l) (k : Below w.heap.size w w') : Row64 w' a l := by
  rcases h with h | ⟨b, off, h1, h2, h3⟩
  · exact Or.inl h
  · exact Or.inr ⟨b, off, h1, Nat.lt_of_lt_of_le h2 k.size, fun j hj => (k.cell h2).trans (h3 j hj)⟩

theorem nums_row (a : Option Addr) (cap : Nat) (l : List Nat) (hl : ∀ x ∈ l, x < 18446744073709551616) (hlen : 10 * l.length + 20 ≤ 140737488355328) (w : World) (h : Row64 w a l) :
    Calls Try.prog 13 #[.slice a l.length cap] w fun e w' => e = .returned (.string (S (Lib.uvarint l.length ++ each l))) ∧ Below w.heap.size w w' := by
  rcases h with rfl | ⟨b, off, rfl, hb, hc⟩
  · have h0 := nums_zero a cap w
    rw [show ([0] : List UInt8) = Lib.uvarint ([] : List Nat).length ++ each [] from by rw [show ([] : List Nat).length = 0 from rfl, Lib.uvarint_small (by omega)]; rfl] at h0
    exact h0
  · exact nums_some b off cap l hl hlen w hb hc

set_option maxHeartbeats 4000000 in
set_option maxRecDepth 100000 in
theorem packback_any (n : Nat) (hn : n < 18446744073709551616) (s : List UInt8) (a : Option Addr) (cap : Nat) (l : List Nat) (hl : ∀ x ∈ l, x < 18446744073709551616) (y : List UInt8)
    (hs : s.length ≤ 1048576) (hlen : l.length ≤ 1048576) (hy : y.length ≤ 1048576) (w : World) (hrow : Row64 w a l) :
    Calls Try.prog 4 #[.int .u64 n, .string (S s), .slice a l.length cap, .string (S y)] w fun e w' => e = .returned (.bool true) ∧ Below w.heap.size w w' := by
  have hl1 := Lib.uvarint_length64 hn
  have hl2 := Lib.uvarint_length64 (x := s.length) (by omega)
  have hl3 := Lib.uvarint_length64 (x := l.length) (by omega)
  have hle := each_len l hl
  have HL := Lib.hid hl
  have HR := Lib.hid hrow
  clear hl hrow
  obtain ⟨c, hc⟩ : ∃ c, c = l.length := ⟨_, rfl⟩
  have hcl : c ≤ 1048576 := by omega
  rw [← hc] at hl3 hle ⊢
  have HC := Lib.hid hc
  clear hc hlen
  go_enter Try.func4, Try.ntmps4
  go_wp2_with fail
  refine (alive_any w).mono ?_
  rintro e w1 ⟨rfl, hb1⟩
  go_wp2_with fail
  refine (num_any n hn w1).mono ?_
  rintro e w2 ⟨rfl, hb2⟩
  have hB2 : Below w.heap.size w w2 := hb1.trans (hb2.mono hb1.size)
  clear hb1 hb2
  go_wp2_with fail
  refine (text_any s (by omega) w2).mono ?_
  rintro e w3 ⟨rfl, hb3⟩
  have hB3 : Below w.heap.size w w3 := hB2.trans (hb3.mono hB2.size)
  clear hB2 hb3
  have z1 : (S (Lib.uvarint n)).size ≤ 10 := by rw [S_size]; exact hl1
  have z2 : (S (Lib.uvarint s.length ++ s)).size ≤ 2097152 := by rw [S_size, List.length_append]; omega
  have z3 : (S (Lib.uvarint c ++ each l)).size ≤ 20971520 := by rw [S_size, List.length_append]; have := HC.out; omega
  have z4 : (S y).size ≤ 1048576 := by rw [S_size]; exact hy
  obtain ⟨T, hTd⟩ : ∃ T, T = Lib.uvarint n ++ (Lib.uvarint s.length ++ (s ++ (Lib.uvarint c ++ (each l ++ y)))) := ⟨_, rfl⟩
  have hTl : T.length ≤ 281474976710656 := by
    rw [hTd]
    simp only [List.length_append]
    have := HC.out
    omega
  have hST : S (Lib.uvarint n) ++ S (Lib.uvarint s.length ++ s) ++ S (Lib.uvarint c ++ each l) ++ S y = S T := by
    rw [S_append, S_append, S_append, hTd]
    simp
  have hnums := nums_row a cap l HL.out (by have := HC.out; omega) w3 (HR.out.of_below hB3)
  rw [← HC.out] at hnums
  generalize hA : S (Lib.uvarint n) = A at *
  generalize hB : S (Lib.uvarint s.length ++ s) = B at *
  generalize hCc : S (Lib.uvarint c ++ each l) = C at *
  generalize hY : S y = Y at *
  have HTd := Lib.hid hTd
  have HST := Lib.hid hST
  have HY := Lib.hid hY
  have HN := Lib.hid hnums
  clear hTd hST hA hB hCc hY hnums
  go_wp2_with fail
  refine HN.out.mono ?_
  rintro e w4 ⟨rfl, hb4⟩
  have hB4 : Below w.heap.size w w4 := hB3.trans (hb4.mono hB3.size)
  clear hB3 hb4 HN
  go_wp2_with fail
  rw [HST.out]
  refine (open_any (S T) w4).mono ?_
  rintro e w5 ⟨rfl, hw5⟩
  have hb5 : Below w.heap.size w w5 := by rw [hw5]; exact hB4.alloc hB4.size _
  have hR5 : At w5 w4.heap.size T T := ⟨by rw [hw5, Nat.sub_self]; exact heap_alloc_new w4 _, [], rfl⟩
  have hge : w.heap.size ≤ w4.heap.size := hB4.size
  clear hw5 hB4
  generalize w4.heap.size = rb at *
  have hR5' : At w5 rb T (Lib.uvarint n ++ (Lib.uvarint s.length ++ (s ++ (Lib.uvarint c ++ (each l ++ y))))) := by rw [← HTd.out]; exact hR5
  clear hR5
  go_wp2_with fail
  refine (num_at rb T hTl n hn _ w5 hR5').mono ?_
  rintro e w6 ⟨rfl, hR6, t6⟩
  have hb6 : Below w.heap.size w w6 := hb5.trans (t6.below hge (by have := hR5'.lt; omega))
  clear hR5' hb5 t6
  go_wp2_with fail
  refine (text_at rb T hTl s ((S s).size : Int) (by rw [S_size]; omega) (by rw [S_size]; omega) _ w6 hR6).mono ?_
  rintro e w7 ⟨rfl, hR7, t7⟩
  have hb7 : Below w.heap.size w w7 := hb6.trans (t7.below hge (by have := hR6.lt; omega))
  clear hR6 hb6 t7
  go_wp2_with fail
  refine (count_at rb T hTl c (c : Int) (by omega) (by omega) _ w7 hR7).mono ?_
  rintro e w8 ⟨rfl, hR8, t8⟩
  have hb8 : Below w.heap.size w w8 := hb7.trans (t8.below hge (by have := hR7.lt; omega))
  clear hR7 hb7 t8
  go_wp2_with fail
  go_loopw [10] (fun i wr => ∃ k : Nat, k ≤ c ∧ i = .int .i64 k ∧ At wr rb T (each (l.drop k) ++ y) ∧ Below w.heap.size w wr)
    (fun i _ => c - (intOf i).toNat)
  case atStart => exact ⟨0, by omega, rfl, hR8, hb8⟩
  case round =>
    obtain ⟨k, hk, rfl, hR9, hb9⟩ := hrel
    clear hR8 hb8
    by_cases hlt : k < c
    · have hkl : k < l.length := by have := HC.out; omega
      obtain ⟨v, hv⟩ : ∃ v, v = l[k] := ⟨_, rfl⟩
      have hv64 : v < 18446744073709551616 := by rw [hv]; exact HL.out _ (List.getElem_mem _)
      have hdrop : each (l.drop k) ++ y = Lib.uvarint v ++ (each (l.drop (k + 1)) ++ y) := by
        rw [List.drop_eq_getElem_cons hkl, each_cons, ← hv, List.append_assoc]
      rw [hdrop] at hR9
      rcases HR.out with h0 | ⟨b, off, rfl, hbw, hcell⟩
      · rw [h0] at hkl; simp at hkl
      · have hcell0 : wr.cell? ⟨b, off + k, none⟩ = some (.int .u64 (v : Nat)) := by
          rw [hb9.cell (by exact hbw), hcell k hkl, hv]
        have hbr : b ≠ rb := by omega
        have hbwr : b < wr.heap.size := Nat.lt_of_lt_of_le hbw hb9.size
        have hk0 : (0 : Int) ≤ (k : Int) := by omega
        have hk1 : (k : Int) < (c : Int) := by omega
        have HV := Lib.hid hv
        have HR9 := Lib.hid hR9
        have HB9 := Lib.hid hb9
        clear hcell hv hdrop hR9 hb9 HR
        go_wp2_with fail
        go_region_held3 (fun w' => w'.cell? ⟨b, off + k, none⟩ = some (.int .u64 (v : Nat)))
          (first
            | go_keep
            | (rw [t10.cell (by simpa using hbwr) (by simpa using hbr)]; simpa using hcell0))
          ((go_at_call 16; refine (num_at rb T hTl v hv64 _ _ (by exact HR9.out.drew)).mono ?_; rintro e w10 ⟨rfl, hR10, t10⟩))
        all_goals go_wp2
        all_goals exact ⟨⟨k + 1, by omega, by go_num, hR10, (HB9.out.drew).trans (t10.below hge (by have := HB9.out.size; simpa using this))⟩, by simp [intOf]; omega⟩
    · obtain rfl : k = c := by omega
      have hnil : each (l.drop k) ++ y = y := by rw [List.drop_of_length_le (by have := HC.out; omega)]; rfl
      rw [hnil] at hR9
      have hylen : Y.size = y.length := by rw [← HY.out, S_size]
      clear hnil
      go_wp2_with fail
      refine (fault_at rb T y wr hR9).mono ?_
      rintro e w10 ⟨q, rfl, rfl⟩
      have hR10 := hR9.drewN q
      have hb10 : Below w.heap.size w (wr.drewN q) := hb9.trans (((Only.refl rb wr).drewN q).below hge)
      clear hR9 hb9
      generalize wr.drewN q = w10 at *
      go_wp2_with fail
      refine (left_at rb T hTl y w10 hR10).mono ?_
      rintro e w11 ⟨q1, rfl, rfl⟩
      have hR11 := hR10.drewN q1
      have hb11 : Below w.heap.size w (w10.drewN q1) := hb10.trans (((Only.refl rb w10).drewN q1).below hge)
      clear hR10 hb10
      generalize w10.drewN q1 = w11 at *
      by_cases hy0 : y = []
      · subst hy0
        obtain rfl : Y = ⟨#[]⟩ := HY.out.symm
        go_wp2_with fail
        refine (end_at_nil rb T hTl w11 hR11).mono ?_
        rintro e w12 ⟨rfl, t12⟩
        have hb12 := hb11.trans (t12.below hge (by have := hR11.lt; omega))
        go_wp2
        go_ret
        exact ⟨rfl, hb12⟩
      · have hyp : 0 < y.length := List.length_pos_iff.2 hy0
        have hYe : (Y.toList == []) = false := by
          rw [← HY.out, Lib.toList_data, S_data]
          simpa using hy0
        clear hy0
        go_wp2_with fail
        refine (end_at_rest rb T hTl y hyp w11 hR11).mono ?_
        rintro e w12 ⟨rfl, t12⟩
        have hb12 := hb11.trans (t12.below hge (by have := hR11.lt; omega))
        go_wp2
        go_ret
        exact ⟨rfl, hb12⟩
end Go.Proofs.Ytihjllfkejdoiaa.pk
