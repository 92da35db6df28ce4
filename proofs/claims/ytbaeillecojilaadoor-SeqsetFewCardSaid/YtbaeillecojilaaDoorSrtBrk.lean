/-
  The library's exchange of three numbers by a generator of its own: the row's part is a permutation.
-/
import Derived.Test.YtbaeillecojilaaDoorSrtPart
import Derived.Test.YtbaeillecojilaaDoorShelf
import Derived.Sort.Walk7a
namespace Go.Proofs.YtbaeillecojilaaDoor.sq
open Go.RowKit
open Go.Sort (swp PermIn SortedIn ltInt SWO bitsLen)

/-- The generator's next number; its cell holds it. -/
theorem next_any (rb X : Nat) (hX : X < 18446744073709551616) (w : World) (hc : w.cell? ⟨rb, 0, none⟩ = some (.int .u64 X)) (hf : w.frozen? ⟨rb, 0, none⟩ = false) :
    Calls Tryd.prog 85 #[.pointer (some ⟨rb, 0, none⟩)] w fun e w' => ∃ C : Nat, C < 18446744073709551616 ∧ e = .returned (.int .u64 C) ∧ w' = (w.setCell ⟨rb, 0, none⟩ (.int .u64 C)).drewN 3 := by
  obtain ⟨A, hA⟩ : ∃ A : Nat, A = X ^^^ (X * 8192 % 18446744073709551616) := ⟨_, rfl⟩
  obtain ⟨B, hB⟩ : ∃ B : Nat, B = A ^^^ (A / 128) := ⟨_, rfl⟩
  obtain ⟨C, hC⟩ : ∃ C : Nat, C = B ^^^ (B * 131072 % 18446744073709551616) := ⟨_, rfl⟩
  have lA : A < 18446744073709551616 := by rw [hA]; exact Nat.xor_lt_two_pow (n := 64) (by omega) (by omega)
  have lB : B < 18446744073709551616 := by rw [hB]; exact Nat.xor_lt_two_pow (n := 64) (by omega) (by omega)
  have lC : C < 18446744073709551616 := by rw [hC]; exact Nat.xor_lt_two_pow (n := 64) (by omega) (by omega)
  have e1 : bits .xor .u64 (X : Int) (IntKind.u64.wrap ((X : Int) * 8192)) = (A : Int) := by
    rw [IntKind.wrap_u64, show ((X : Int) * 8192 % 18446744073709551616) = ((X * 8192 % 18446744073709551616 : Nat) : Int) by omega, bits_xor_u64_nat _ _ hX (by omega), hA]
  have e2 : bits .xor .u64 (A : Int) ((A : Int) / 128) = (B : Int) := by
    rw [show ((A : Int) / 128) = ((A / 128 : Nat) : Int) by omega, bits_xor_u64_nat _ _ lA (by omega), hB]
  have e3 : bits .xor .u64 (B : Int) (IntKind.u64.wrap ((B : Int) * 131072)) = (C : Int) := by
    rw [IntKind.wrap_u64, show ((B : Int) * 131072 % 18446744073709551616) = ((B * 131072 % 18446744073709551616 : Nat) : Int) by omega, bits_xor_u64_nat _ _ lB (by omega), hC]
  have HC : Hid (C < 18446744073709551616) := lC
  clear hA hB hC
  have hss : ∀ v v', (w.setCell ⟨rb, 0, none⟩ v).setCell ⟨rb, 0, none⟩ v' = w.setCell ⟨rb, 0, none⟩ v' := setCell_setCell w rb 0
  go_enter Tryd.func85, Tryd.ntmps85
  go_wp2
  go_region
  all_goals go_wp2
  all_goals go_region
  all_goals go_wp2
  all_goals go_region
  all_goals go_wp2
  go_ret
  exact ⟨C, HC.out, rfl, rfl⟩

theorem power_any (n : Nat) (h1 : 1 ≤ n) (hn : n < 4611686018427387904) (w : World) :
    Calls Tryd.prog 84 #[.int .i64 n] w fun e w' => (∃ M : Nat, e = .returned (.int .u64 M) ∧ 1 ≤ M ∧ M ≤ 2 * n) ∧ w' = w := by
  have hLen : ∀ w, Calls Tryd.prog 56 #[.int .u64 (n : Int)] w fun e w' => e = .returned (.int .i64 (bitsLen n : Nat)) ∧ w' = w := fun w => by
    have h := Tryd.bits_Len (n : Int) w (by omega) (by omega)
    rwa [Int.toNat_natCast, bitLen_eq _ (by omega)] at h
  have hk : bitsLen n ≤ 62 := (Go.Sort.bitsLen_le_iff n 62).2 (by omega)
  have hp := wrap_two_pow (bitsLen n) hk
  obtain ⟨M, hM⟩ : ∃ M : Nat, M = 1 <<< bitsLen n := ⟨_, rfl⟩
  have hM1 : 1 ≤ M := by rw [hM, Nat.one_shiftLeft]; exact Nat.two_pow_pos _
  have hM2 : M ≤ 2 * n := by rw [hM, Nat.one_shiftLeft]; exact Go.Sort.two_pow_bitsLen_le (by omega)
  rw [← hM] at hp
  have HM := Lib.hid (And.intro hM1 hM2)
  clear hM hM1 hM2
  go_enter Tryd.func84, Tryd.ntmps84
  go_wp2_with (first | (go_at_call 56; refine (hLen _).mono ?_; rintro e w' ⟨rfl, rfl⟩))
  go_ret
  exact ⟨⟨M, rfl, HM.out⟩, rfl⟩

/-- The row, and the generator's cell. -/
structure RandAt (w : World) (g : Nat) (d : Array Int) (rb : Nat) (wr : World) : Prop where
  st : St w g d wr
  old : w.heap.size ≤ rb
  cell : ∃ X : Nat, X < 18446744073709551616 ∧ wr.cell? ⟨rb, 0, none⟩ = some (.int .u64 X)
  fz : wr.frozen? ⟨rb, 0, none⟩ = false
theorem RandAt.start {w : World} {g : Nat} {d : Array Int} (hR : RowI w g d) (hg : g < w.heap.size) (L : Nat) (hL : L < 18446744073709551616) (T : TypeId) : RandAt w g d w.heap.size (w.alloc (.cells #[.int .u64 L] T)) := by
  have hb := (World.grownBy_alloc w (.cells #[.int .u64 L] T) none).block g hg (by simp)
  exact ⟨⟨World.grownBy_alloc w _ _, fun t ht => ⟨(World.cell?_of_block (a := ⟨g, t, none⟩) hb).trans (hR t ht).1, (World.frozen?_of_block (a := ⟨g, t, none⟩) hb).trans (hR t ht).2⟩, by simp; omega⟩,
    Nat.le_refl _, ⟨L, hL, by rw [World.cell?_alloc_new]; rfl⟩, World.frozen?_alloc_at _ _ _ _ rfl⟩
theorem RandAt.next {w wr : World} {g rb : Nat} {d : Array Int} (h : RandAt w g d rb wr) (hg : g < w.heap.size) (C : Nat) (hC : C < 18446744073709551616) (q : Nat) : RandAt w g d rb ((wr.setCell ⟨rb, 0, none⟩ (.int .u64 C)).drewN q) := by
  have hne : g ≠ rb := by have := h.old; omega
  have hG := h.st.grown
  refine ⟨⟨⟨hG.os, hG.tape, hG.output, by simpa using hG.size, fun k hk hn => ?_⟩, fun t ht => ?_, by simpa using h.st.lt⟩, h.old, ⟨C, hC, ?_⟩, ?_⟩
  · show (wr.setCell _ _).heap[k]? = _
    rw [Below.heap_setCell wr _ _ _ (show k ≠ rb by have := h.old; omega)]
    exact hG.block k hk hn
  · show (wr.setCell _ _).cell? _ = _ ∧ (wr.setCell _ _).frozen? _ = _
    rw [World.cell?_setCell_other _ _ _ _ (by first | (simp; done) | (simp; omega)), frozen_set]
    exact h.st.row t ht
  · obtain ⟨X, _, hX⟩ := h.cell
    show (wr.setCell _ _).cell? _ = _
    exact World.cell?_setCell_same' _ _ _ (by rw [hX]; rfl)
  · show (wr.setCell _ _).frozen? _ = _
    rw [frozen_set]; exact h.fz
theorem RandAt.swap {w wr : World} {g rb : Nat} {d : Array Int} (h : RandAt w g d rb wr) (hg : g < w.heap.size) (q : Nat) {i j : Nat} (hi : i < d.size) (hj : j < d.size) : RandAt w g (swp d i j) rb (((wr.drewN q).setCell ⟨g, i, none⟩ (.int .u64 d[j]!)).setCell ⟨g, j, none⟩ (.int .u64 d[i]!)) := by
  have hne : g ≠ rb := by have := h.old; omega
  obtain ⟨X, hX, hc⟩ := h.cell
  refine ⟨h.st.swap q hi hj, h.old, ⟨X, hX, ?_⟩, ?_⟩
  · rw [World.cell?_setCell_other _ _ _ _ (by first | (simp; done) | (simp; omega)), World.cell?_setCell_other _ _ _ _ (by first | (simp; done) | (simp; omega))]
    exact hc
  · rw [frozen_set, frozen_set]; exact h.fz

set_option maxHeartbeats 2000000 in
set_option maxRecDepth 100000 in
theorem break_any (g cap a b : Nat) (d : Array Int) (w : World) (hR : RowI w g d) (hg : g < w.heap.size) (hab : a + 8 ≤ b) (hb : b ≤ d.size) (hsz : d.size < 4611686018427387904) :
    Calls Tryd.prog 68 #[.slice (some ⟨g, 0, none⟩) d.size cap, .int .i64 a, .int .i64 b] w fun e w' =>
      e = .returned (.tuple #[]) ∧ ∃ d', PermIn a b d d' ∧ St w g d' w' := by
  obtain ⟨l, hl⟩ : ∃ l, b - a = l := ⟨_, rfl⟩
  have hw1 : IntKind.i64.wrap ((b : Int) - (a : Int)) = (l : Int) := wrapi (by omega) (by omega)
  obtain ⟨q, hq⟩ : ∃ q, l / 4 = q := ⟨_, rfl⟩
  have hw2 : IntKind.i64.wrap ((l : Int) / 4) = (q : Int) := wrapi (by omega) (by omega)
  have hwq : IntKind.i64.wrap (q : Int) = (q : Int) := wrapi rfl (by omega)
  obtain ⟨q2, hq2⟩ : ∃ q2, q * 2 = q2 := ⟨_, rfl⟩
  have hw3 : IntKind.i64.wrap ((q : Int) * 2) = (q2 : Int) := wrapi (by omega) (by omega)
  obtain ⟨z, hz⟩ : ∃ z, a + q2 = z := ⟨_, rfl⟩
  have hw4 : IntKind.i64.wrap ((a : Int) + (q2 : Int)) = (z : Int) := wrapi (by omega) (by omega)
  obtain ⟨z0, hz0⟩ : ∃ z0, z - 1 = z0 := ⟨_, rfl⟩
  have hw5 : IntKind.i64.wrap ((z : Int) - 1) = (z0 : Int) := wrapi (by omega) (by omega)
  obtain ⟨z1, hz1⟩ : ∃ z1, z + 1 = z1 := ⟨_, rfl⟩
  have hw6 : IntKind.i64.wrap ((z : Int) + 1) = (z1 : Int) := wrapi (by omega) (by omega)
  have h8 : (8 : Int) ≤ (l : Int) := by omega
  have hl8 : 8 ≤ l := by omega
  have hlz : l < 4611686018427387904 := by omega
  have HI : Hid (a ≤ z0 ∧ z1 < b ∧ z0 ≤ z1 + 1 ∧ a + l = b) := Lib.hid (by omega)
  have HS := Lib.hid (RandAt.start hR hg l (by omega) 103)
  have hP := fun W => power_any l (by omega) hlz W
  clear hR hl hq hq2 hz hz0 hz1
  go_enter Tryd.func68, Tryd.ntmps68
  go_wp2_with fail
  refine (hP _).mono ?_
  rintro e w1 ⟨⟨M, rfl, hM1, hM2⟩, rfl⟩
  clear hP
  go_wp2_with fail
  go_loopw [9] (fun vi wr => ∃ (i : Nat) (dk : Array Int), vi = .int .i64 i ∧ Hid (z0 ≤ i ∧ i ≤ z1 + 1) ∧ dk.size = d.size ∧ Hid (PermIn a b d dk) ∧ Hid (RandAt w g dk w.heap.size wr)) (fun vi _ => z1 + 1 - (intOf vi).toNat)
  case atStart => exact ⟨z0, d, rfl, Lib.hid ⟨Nat.le_refl _, HI.out.2.2.1⟩, rfl, Lib.hid (Go.Sort.permIn_refl _ _ _), HS⟩
  case round =>
    clear HS
    obtain ⟨i, dk, rfl, HZ, hsk, HP, HK⟩ := hrel
    by_cases hi : i ≤ z1
    · have hiz : (i : Int) ≤ (z1 : Int) := by omega
      obtain ⟨X, hX, hcB⟩ := HK.out.cell
      have hfB := HK.out.fz
      have hN := next_any w.heap.size X hX wr hcB hfB
      clear hX hcB hfB
      have hib : i < b := by have := HI.out; omega
      have hia : a ≤ i := by have := HI.out; have := HZ.out; omega
      have hid : i < d.size := by omega
      have hidz : (i : Int) < (d.size : Int) := by omega
      have hwi : IntKind.i64.wrap ((i : Int) + 1) = ((i + 1 : Nat) : Int) := wrapi (by omega) (by omega)
      go_wp2_with fail
      refine hN.mono ?_
      rintro e w1 ⟨C, hC, rfl, hw⟩
      have HK1 : Hid (RandAt w g dk w.heap.size w1) := Lib.hid (by rw [hw]; exact HK.out.next hg C hC 3)
      obtain ⟨O, hO⟩ : ∃ O : Nat, O = C &&& (M - 1) := ⟨_, rfl⟩
      have lO : O ≤ M - 1 := by rw [hO]; exact Nat.and_le_right
      have eAnd : bits .and .u64 (C : Int) ((M : Int) - 1) = (O : Int) := by
        rw [show ((M : Int) - 1) = ((M - 1 : Nat) : Int) by omega, bits_and_u64_nat _ _ hC (by omega), hO]
      clear hw hO hN HK
      obtain ⟨G, hG, hcw, hfw⟩ := HK1.out.st.fam
      rw [hsk] at hcw hfw
      by_cases hOl : l ≤ O
      · have hOlz : (l : Int) ≤ (O : Int) := by omega
        obtain ⟨y, hy⟩ : ∃ y, O - l = y := ⟨_, rfl⟩
        have hwy : IntKind.i64.wrap ((O : Int) - (l : Int)) = (y : Int) := wrapi (by omega) (by omega)
        obtain ⟨x, hx⟩ : ∃ x, a + y = x := ⟨_, rfl⟩
        have hwx : IntKind.i64.wrap ((a : Int) + (y : Int)) = (x : Int) := wrapi (by omega) (by have := HI.out; omega)
        have hxb : x < b := by have := HI.out; omega
        have hax : a ≤ x := by omega
        have hxd : x < d.size := by omega
        have hxdz : (x : Int) < (d.size : Int) := by omega
        clear hy hx
        have hseen := fun v => HK1.out.st.seen (a := i) (q := x) (by omega) hG v
        have HG := Lib.hid hG
        clear hG
        go_wp2
        go_region
        all_goals go_wp2
        go_roundw
        case rel =>
          refine ⟨i + 1, swp dk i x, by first | rfl | go_num, Lib.hid (by have := HZ.out; omega), by rw [Go.Sort.size_swp]; exact hsk, Lib.hid (Go.Sort.permIn_trans _ _ _ _ _ HP.out (Go.Sort.swp_permIn _ _ _ _ _ (by omega) (by omega) (by omega) (by omega) (by omega))), ?_⟩
          have := HK1.out.swap hg 1 (i := i) (j := x) (by omega) (by omega)
          rw [← HG.out, ← HG.out] at this
          exact Lib.hid this
        case measure => first | (simp [intOf]; done) | (simp [intOf]; omega)
      · have hOlz : (O : Int) < (l : Int) := by omega
        obtain ⟨x, hx⟩ : ∃ x, a + O = x := ⟨_, rfl⟩
        have hwx : IntKind.i64.wrap ((a : Int) + (O : Int)) = (x : Int) := wrapi (by omega) (by have := HI.out; omega)
        have hxb : x < b := by have := HI.out; omega
        have hax : a ≤ x := by omega
        have hxd : x < d.size := by omega
        have hxdz : (x : Int) < (d.size : Int) := by omega
        clear hx
        have hseen := fun v => HK1.out.st.seen (a := i) (q := x) (by omega) hG v
        have HG := Lib.hid hG
        clear hG
        go_wp2
        go_region
        all_goals go_wp2
        go_roundw
        case rel =>
          refine ⟨i + 1, swp dk i x, by first | rfl | go_num, Lib.hid (by have := HZ.out; omega), by rw [Go.Sort.size_swp]; exact hsk, Lib.hid (Go.Sort.permIn_trans _ _ _ _ _ HP.out (Go.Sort.swp_permIn _ _ _ _ _ (by omega) (by omega) (by omega) (by omega) (by omega))), ?_⟩
          have := HK1.out.swap hg 1 (i := i) (j := x) (by omega) (by omega)
          rw [← HG.out, ← HG.out] at this
          exact Lib.hid this
        case measure => first | (simp [intOf]; done) | (simp [intOf]; omega)
    · have hiz : (z1 : Int) < (i : Int) := by omega
      go_wp2
      go_end0
      exact ⟨rfl, dk, HP.out, HK.out.st⟩
end Go.Proofs.YtbaeillecojilaaDoor.sq
