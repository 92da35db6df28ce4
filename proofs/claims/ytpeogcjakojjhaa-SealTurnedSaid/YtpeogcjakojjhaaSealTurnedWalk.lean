/-
  The law SealTurned: the call answers true. (The walk.)
-/
import Derived.Test.YtpeogcjakojjhaaSealAlive
import Derived.Test.YtpeogcjakojjhaaSealParts
import Derived.Lib.ConvBytes
namespace Go.Proofs.Ytpeogcjakojjhaa.sl
open Go.RowKit

/-- 'string(b)' of a row of bytes. -/
theorem conv_list (W : World) (b cap : Nat) (g : List UInt8) (hc : ∀ i (h : i < g.length), W.cell? ⟨b, i, none⟩ = some (.int .u8 (g[i].toNat : Nat))) :
    (convert 51 9 (.slice (some ⟨b, 0, none⟩) g.length cap)).run Try.prog W = .ok (.string (S g)) W := by
  have h := run_convert_bytes_arg (P := Try.prog) W 51 5 Try.underlying51 Try.underlying5 b 0 g.length cap (g.map fun b => (b.toNat : Int)) (by simp) (fun i hi => by
    rw [Nat.zero_add, hc i hi]
    simp [List.getElem?_eq_getElem hi]) 9 Try.underlying9
  rw [h]
  congr 2
  apply ByteArray.ext
  apply Array.toList_inj.1
  rw [strOfNums_data, List.map_map, S_data]
  conv => rhs; rw [← List.map_id g]
  apply List.map_congr_left
  intro x _
  simp

set_option maxHeartbeats 1000000 in
set_option maxRecDepth 100000 in
theorem turned_zero (l : List UInt8) (a : Int) (w : World) :
    Calls Try.prog 8 #[.string (S l), .int .i64 a, .int .u8 0] w fun e w' => e = .returned (.bool true) ∧ Below w.heap.size w w' := by
  go_enter Try.func8, Try.ntmps8
  go_wp2_with fail
  refine (alive_any _).mono ?_
  rintro e w1 ⟨rfl, hb1⟩
  go_wp2
  go_ret
  exact ⟨rfl, hb1⟩

set_option maxHeartbeats 1000000 in
set_option maxRecDepth 100000 in
theorem turned_long (l : List UInt8) (hl : 65536 < l.length) (a : Int) (y : Nat) (hy0 : 0 < y) (hy : y < 256) (w : World) :
    Calls Try.prog 8 #[.string (S l), .int .i64 a, .int .u8 y] w fun e w' => e = .returned (.bool true) ∧ Below w.heap.size w w' := by
  have hz := S_size l
  go_enter Try.func8, Try.ntmps8
  go_wp2_with fail
  refine (alive_any _).mono ?_
  rintro e w1 ⟨rfl, hb1⟩
  go_wp2
  go_ret
  exact ⟨rfl, hb1⟩

set_option maxHeartbeats 1000000 in
set_option maxRecDepth 100000 in
theorem turned_main (l f : List UInt8) (hl : l.length ≤ 65536) (hf : Hid (frame l = f)) (hfl : f.length = 8 + l.length) (a : Int) (y x v v' : Nat) (hy0 : 0 < y) (hy : y < 256)
    (hx : (IntKind.u64.wrap a).tmod (8 + (l.length : Int) - 4) = (x : Int)) (hxl : 4 + x < 8 + l.length) (hv : v < 256) (hv2 : v' < 256) (hfv : Hid (f.getD (4 + x) 0 = UInt8.ofNat v)) (hv' : bits .xor .u8 (v : Int) (y : Int) = (v' : Int))
    (hcut : Hid (cut (f.set (4 + x) (UInt8.ofNat v')) = ([], 0, 5))) (w : World) :
    Calls Try.prog 8 #[.string (S l), .int .i64 a, .int .u8 y] w fun e w' => e = .returned (.bool true) ∧ Below w.heap.size w w' := by
  have hz := S_size l
  have hzf := S_size f
  have hyb : ((y : Int) == 0) = false := by simp; omega
  have hcv1 := fun W => Go.Lib.run_convert_string_bytes (P := Try.prog) W 9 51 5 (S f) Try.underlying9 Try.underlying51 Try.underlying5
  have hcl : ∀ W : World, (Go.Lib.bytesWorld W 5 (S f)).cell? ⟨W.heap.size, 4 + x, none⟩ = some (.int .u8 v) := fun W => by
    rw [Go.Lib.bytesWorld_cell W _ (S f) (4 + x) (by omega), S_data, hfv.out]
    congr 2
    simp
    omega
  have hfr : ∀ W : World, (Go.Lib.bytesWorld W 5 (S f)).frozen? ⟨W.heap.size, 4 + x, none⟩ = false := fun W => by
    simp only [World.frozen?, Go.Lib.bytesWorld_at_new]
    simp [Go.Lib.bytesCells]
    omega
  have hcv2 : ∀ (W : World) (c : Nat), (convert 51 9 (.slice (some ⟨W.heap.size, 0, none⟩) (8 + l.length) c)).run Try.prog ((Go.Lib.bytesWorld W 5 (S f)).setCell ⟨W.heap.size, 4 + x, none⟩ (.int .u8 v')) = .ok (.string (S (f.set (4 + x) (UInt8.ofNat v')))) ((Go.Lib.bytesWorld W 5 (S f)).setCell ⟨W.heap.size, 4 + x, none⟩ (.int .u8 v')) := fun W c => by
    have h := conv_list ((Go.Lib.bytesWorld W 5 (S f)).setCell ⟨W.heap.size, 4 + x, none⟩ (.int .u8 v')) W.heap.size c (f.set (4 + x) (UInt8.ofNat v')) (fun i hi => by
      rw [List.length_set] at hi
      by_cases he : 4 + x = i
      · subst he
        rw [World.cell?_setCell_same' _ _ _ (by rw [hcl W]; rfl), List.getElem_set_self]
        congr 2
        simp
        omega
      · rw [World.cell?_setCell_other _ _ _ _ (by first | (simp; done) | (simp; omega)), Go.Lib.bytesWorld_cell W _ (S f) i (by omega), S_data, List.getElem_set_ne he]
        simp [List.getElem?_eq_getElem hi])
    rw [List.length_set, hfl] at h
    exact h
  have hbw : ∀ W : World, Below W.heap.size W ((Go.Lib.bytesWorld W 5 (S f)).setCell ⟨W.heap.size, 4 + x, none⟩ (.int .u8 v')) := fun W => by
    refine Below.trans (b := Go.Lib.bytesWorld W 5 (S f)) ⟨rfl, rfl, rfl, by rw [Go.Lib.bytesWorld_size]; omega, fun k hk => Go.Lib.bytesWorld_at_old W _ _ k hk⟩ ?_
    exact (Below.refl _ _).setCell (p := ⟨W.heap.size, 4 + x, none⟩) (Nat.le_refl _) _
  have hF := frame_any l hl
  rw [hf.out] at hF
  have hFH := Lib.hid hF
  have hC := cut_any (f.set (4 + x) (UInt8.ofNat v')) (by rw [List.length_set]; omega)
  rw [hcut.out] at hC
  have hCH := Lib.hid hC
  clear hF hC
  go_enter Try.func8, Try.ntmps8
  go_wp2_with fail
  refine (alive_any _).mono ?_
  rintro e w1 ⟨rfl, hb1⟩
  go_wp2_with fail
  refine (hFH.out _).mono ?_
  rintro e w2 ⟨rfl, hb2⟩
  go_wp2_with fail
  have hb3 := (hb1.trans (hb2.mono hb1.size)).trans ((hbw w2).mono (Nat.le_trans hb1.size hb2.size))
  refine (hCH.out _).mono ?_
  rintro e w4 ⟨rfl, hb4⟩
  go_wp2
  go_ret
  exact ⟨rfl, hb3.trans (hb4.mono hb3.size)⟩

theorem xor8 {a b : Nat} (ha : a < 256) (hb : b < 256) : bits .xor .u8 (a : Int) (b : Int) = ((a ^^^ b : Nat) : Int) ∧ a ^^^ b < 256 := by
  have hx : a ^^^ b < 2 ^ 8 := Nat.xor_lt_two_pow (by omega) (by omega)
  have h1 : (BitVec.ofInt 8 (a : Int)).toNat = a := by
    rw [BitVec.ofInt_natCast, BitVec.toNat_ofNat]; exact Nat.mod_eq_of_lt (by omega)
  have h2 : (BitVec.ofInt 8 (b : Int)).toNat = b := by
    rw [BitVec.ofInt_natCast, BitVec.toNat_ofNat]; exact Nat.mod_eq_of_lt (by omega)
  refine ⟨?_, hx⟩
  show IntKind.u8.wrap ((BitVec.ofInt 8 (a : Int) ^^^ BitVec.ofInt 8 (b : Int)).toNat : Int) = _
  rw [BitVec.toNat_xor, h1, h2, IntKind.wrap_u8]
  omega

theorem sealturned_any (l : List UInt8) (hl : l.length ≤ 9223372036854775807) (a : Int) (y : Nat) (hy : y < 256) (w : World) :
    Calls Try.prog 8 #[.string (S l), .int .i64 a, .int .u8 y] w fun e w' => e = .returned (.bool true) ∧ Below w.heap.size w w' := by
  by_cases hy0 : y = 0
  · subst hy0
    exact turned_zero l a w
  · by_cases hlong : 65536 < l.length
    · exact turned_long l hlong a y (by omega) hy w
    · have hfl := frame_length l
      have hU : 0 ≤ IntKind.u64.wrap a := by
        simp only [IntKind.wrap, IntKind.bits, IntKind.signed]
        simp
        omega
      obtain ⟨x, hx⟩ : ∃ x : Nat, IntKind.u64.wrap a % (8 + (l.length : Int) - 4) = (x : Int) := ⟨_, (Int.toNat_of_nonneg (Int.emod_nonneg _ (by omega))).symm⟩
      have hxl : 4 + x < 8 + l.length := by
        have := Int.emod_lt_of_pos (IntKind.u64.wrap a) (b := 8 + (l.length : Int) - 4) (by omega)
        omega
      have hx' : (IntKind.u64.wrap a).tmod (8 + (l.length : Int) - 4) = (x : Int) := by rw [Int.tmod_eq_emod_of_nonneg hU, hx]
      have hkl : 4 + x < (frame l).length := by omega
      have hv := ((frame l)[4 + x]).toNat_lt
      obtain ⟨hx1, hx2⟩ := xor8 (a := ((frame l)[4 + x]).toNat) (b := y) (by omega) hy
      have hne : UInt8.ofNat (((frame l)[4 + x]).toNat ^^^ y) ≠ (frame l)[4 + x] := by
        intro h
        have h2 := congrArg UInt8.toNat h
        rw [UInt8.toNat_ofNat', Nat.mod_eq_of_lt (by omega)] at h2
        have h3 : ((frame l)[4 + x]).toNat ^^^ (((frame l)[4 + x]).toNat ^^^ y) = ((frame l)[4 + x]).toNat ^^^ ((frame l)[4 + x]).toNat := by rw [h2]
        rw [← Nat.xor_assoc, Nat.xor_self, Nat.zero_xor] at h3
        exact hy0 h3
      exact turned_main l (frame l) (by omega) (Lib.hid rfl) hfl a y x ((frame l)[4 + x]).toNat _ (by omega) hy hx' hxl (by omega) hx2 (Lib.hid (by
        rw [List.getD_eq_getElem?_getD, List.getElem?_eq_getElem hkl]
        simp)) hx1 (Lib.hid (cut_turned l (by omega) (4 + x) (by omega) hkl _ hne)) w
end Go.Proofs.Ytpeogcjakojjhaa.sl
