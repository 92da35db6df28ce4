/-
  What the program's small, the law's great answer.
-/
import Derived.Test.YtiaggnpkmigbhaaDoorFlagMem
namespace Go.Proofs.YtiaggnpkmigbhaaDoor.fl
open Go.RowKit

/-- A row of bytes in a block of the call's own. -/
structure RowAt (g : Nat) (t : List UInt8) (W : World) : Prop where
  c : ∀ i (h : i < t.length), W.cell? ⟨g, i, none⟩ = some (.int .u8 (t[i].toNat : Nat))
  f : ∀ i, i < t.length → W.frozen? ⟨g, i, none⟩ = false
theorem RowAt.later {g : Nat} {t : List UInt8} {w w' : World} (h : RowAt g t w) {B : Nat} (hb : Below B w w') (hg : g < B) : RowAt g t w' :=
  ⟨fun i hi => (hb.cell (p := ⟨g, i, none⟩) hg).trans (h.c i hi), fun i hi => (hb.frozen (p := ⟨g, i, none⟩) hg).trans (h.f i hi)⟩
theorem RowAt.bytes (w : World) (l : List UInt8) : RowAt w.heap.size l (Lib.bytesWorld w 5 (S l)) where
  c := fun i hi => by
    rw [Lib.bytesWorld_cell w _ (S l) i (by rw [S_size]; exact hi), S_data]
    simp [List.getElem?_eq_getElem hi]
  f := fun i hi => by
    simp only [World.frozen?, Lib.bytesWorld_at_new]
    simp [Lib.bytesCells]
    have : i < (S l).size := by rw [S_size]; exact hi
    rw [S_size] at this ⊢
    omega
theorem bytes_below (w : World) (s : ByteArray) : Below w.heap.size w (Lib.bytesWorld w 5 s) :=
  ⟨rfl, rfl, rfl, by rw [Lib.bytesWorld_size]; omega, fun k hk => Lib.bytesWorld_at_old w _ s k hk⟩
theorem frozen_setCell (w : World) (a b : Addr) (v : Value) : (w.setCell a v).frozen? b = w.frozen? b := by
  by_cases h : b.block = a.block
  · simp only [World.frozen?, World.setCell, Array.getElem?_modify, h]
    cases hw : w.heap[a.block]? with
    | none => simp
    | some o => cases o <;> simp
  · simp only [World.frozen?]
    rw [Below.heap_setCell w a v b.block h]
theorem RowAt.set {g : Nat} {t : List UInt8} {w : World} (h : RowAt g t w) (k : Nat) (hk : k < t.length) (d : UInt8) : RowAt g (t.set k d) (w.setCell ⟨g, k, none⟩ (.int .u8 (d.toNat : Nat))) where
  c := fun i hi => by
    rw [List.length_set] at hi
    by_cases he : k = i
    · subst he
      rw [World.cell?_setCell_same' _ _ _ (by rw [h.c k hk]; rfl), List.getElem_set_self]
    · rw [World.cell?_setCell_other _ _ _ _ (by first | (simp; done) | (simp; omega)), h.c i hi, List.getElem_set_ne he]
  f := fun i hi => by
    rw [List.length_set] at hi
    rw [frozen_setCell]
    exact h.f i hi
set_option maxRecDepth 100000 in
theorem conv_row (W : World) (g cap : Nat) (t : List UInt8) (h : RowAt g t W) :
    (convert 48 9 (.slice (some ⟨g, 0, none⟩) t.length cap)).run Tryd.prog W = .ok (.string (S t)) W := by
  have hr := run_convert_bytes_arg (P := Tryd.prog) W 48 5 Tryd.underlying48 Tryd.underlying5 g 0 t.length cap (t.map fun b => (b.toNat : Int)) (by simp) (fun i hi => by
    rw [Nat.zero_add, h.c i hi]
    simp [List.getElem?_eq_getElem hi]) 9 Tryd.underlying9
  rw [hr]
  congr 2
  apply ByteArray.ext
  apply Array.toList_inj.1
  rw [strOfNums_data, List.map_map, S_data]
  conv => rhs; rw [← List.map_id t]
  apply List.map_congr_left
  intro x _
  simp

/-- The first k bytes great. -/
def lpart (l : List UInt8) (k : Nat) : List UInt8 := lower (l.take k) ++ l.drop k
theorem lpart_zero (l : List UInt8) : lpart l 0 = l := by simp [lpart, lower]
theorem lpart_all (l : List UInt8) : lpart l l.length = lower l := by simp [lpart]
theorem lpart_length (l : List UInt8) (k : Nat) : (lpart l k).length = l.length := by
  unfold lpart
  rw [List.length_append, lower_length, List.length_take, List.length_drop]
  omega
theorem lpart_get (l : List UInt8) (k : Nat) (h : k < l.length) (h' : k < (lpart l k).length) : (lpart l k)[k]'h' = l[k] := by
  simp only [lpart]
  rw [List.getElem_append_right (by rw [lower_length, List.length_take]; omega)]
  simp only [lower_length, List.length_take, List.getElem_drop]
  congr 1
  omega
theorem lpart_succ (l : List UInt8) (k : Nat) (h : k < l.length) : lpart l (k + 1) = (lpart l k).set k (low1 l[k]) := by
  unfold lpart
  rw [lower_take l k h, List.drop_eq_getElem_cons h, List.append_assoc]
  have hl : (lower (l.take k)).length = k := by rw [lower_length, List.length_take]; omega
  rw [List.set_append_right _ _ (by omega), hl, Nat.sub_self]
  rfl
theorem lpart_same (l : List UInt8) (k : Nat) (h : k < l.length) (hu : low1 l[k] = l[k]) : lpart l (k + 1) = lpart l k := by
  rw [lpart_succ l k h, hu]
  have := lpart_get l k h (by rw [lpart_length]; exact h)
  rw [← this, List.set_getElem_self]

/-- The first k bytes great. -/
def gpart (l : List UInt8) (k : Nat) : List UInt8 := upper (l.take k) ++ l.drop k
theorem gpart_zero (l : List UInt8) : gpart l 0 = l := by simp [gpart, upper]
theorem gpart_all (l : List UInt8) : gpart l l.length = upper l := by simp [gpart]
theorem gpart_length (l : List UInt8) (k : Nat) : (gpart l k).length = l.length := by
  unfold gpart
  rw [List.length_append, upper_length, List.length_take, List.length_drop]
  omega
theorem gpart_get (l : List UInt8) (k : Nat) (h : k < l.length) (h' : k < (gpart l k).length) : (gpart l k)[k]'h' = l[k] := by
  simp only [gpart]
  rw [List.getElem_append_right (by rw [upper_length, List.length_take]; omega)]
  simp only [upper_length, List.length_take, List.getElem_drop]
  congr 1
  omega
theorem gpart_succ (l : List UInt8) (k : Nat) (h : k < l.length) : gpart l (k + 1) = (gpart l k).set k (up1 l[k]) := by
  unfold gpart
  rw [upper_take l k h, List.drop_eq_getElem_cons h, List.append_assoc]
  have hl : (upper (l.take k)).length = k := by rw [upper_length, List.length_take]; omega
  rw [List.set_append_right _ _ (by omega), hl, Nat.sub_self]
  rfl
theorem gpart_same (l : List UInt8) (k : Nat) (h : k < l.length) (hu : up1 l[k] = l[k]) : gpart l (k + 1) = gpart l k := by
  rw [gpart_succ l k h, hu]
  have := gpart_get l k h (by rw [gpart_length]; exact h)
  rw [← this, List.set_getElem_self]

set_option maxHeartbeats 1000000 in
set_option maxRecDepth 100000 in
theorem small_any (l : List UInt8) (hl : l.length ≤ 140737488355328) (w : World) :
    Calls Tryd.prog 27 #[.string (S l)] w fun e w' => e = .returned (.string (S (lower l))) ∧ Below w.heap.size w w' := by
  have hz := S_size l
  have hcv1 := fun W => Lib.run_convert_string_bytes (P := Tryd.prog) W 9 48 5 (S l) Tryd.underlying9 Tryd.underlying48 Tryd.underlying5
  rw [S_size] at hcv1
  go_enter Tryd.func27, Tryd.ntmps27
  go_upto_region 2 with (fail)
  have r0 := RowAt.bytes w l
  have b2 := bytes_below w (S l)
  have s2 : (Lib.bytesWorld w 5 (S l)).heap.size = w.heap.size + 1 := by rw [Lib.bytesWorld_size]
  generalize grownCap w l.length 0 5 = cap
  generalize Lib.bytesWorld w 5 (S l) = w2 at *
  have H0 : Hid (RowAt w.heap.size (lpart l 0) w2 ∧ w.heap.size + 1 ≤ w2.heap.size ∧ Below w.heap.size w w2) := ⟨by rw [lpart_zero]; exact r0, by omega, b2⟩
  clear hcv1 r0 b2 s2
  go_wp2_with fail
  go_loopw [10] (fun i wr => ∃ k : Nat, i = .int .i64 k ∧ k ≤ l.length ∧ Hid (RowAt w.heap.size (lpart l k) wr ∧ w.heap.size + 1 ≤ wr.heap.size ∧ Below w.heap.size w wr))
    (fun i _ => l.length - (intOf i).toNat)
  case atStart => exact ⟨0, rfl, Nat.zero_le _, H0⟩
  case round =>
    clear H0
    obtain ⟨k, rfl, hk, HH⟩ := hrel
    by_cases hlt : k < l.length
    · have hlp : k < (lpart l k).length := by rw [lpart_length]; exact hlt
      obtain ⟨d, hd⟩ : ∃ d, l[k]'hlt = d := ⟨_, rfl⟩
      have hcell := HH.out.1.c k hlp
      rw [lpart_get l k hlt hlp, hd] at hcell
      have hfr := HH.out.1.f k hlp
      have hki : (k : Int) < (l.length : Int) := by omega
      have hdl := UInt8.toNat_lt d
      obtain ⟨x, hx⟩ : ∃ x, d.toNat = x := ⟨_, rfl⟩
      rw [hx] at hcell hdl
      by_cases hsm : 65 ≤ x ∧ x ≤ 90
      · have hu : low1 d = UInt8.ofNat (x + 32) := by unfold low1; rw [hx, if_pos hsm]
        have hu2 : (UInt8.ofNat (x + 32)).toNat = x + 32 := by rw [UInt8.toNat_ofNat']; omega
        have hps := lpart_succ l k hlt
        rw [hd, hu] at hps
        have hx1 : (65 : Int) ≤ (x : Int) := by omega
        have hx2 : (x : Int) ≤ 90 := by omega
        have hB4 := HH.out.2.2
        have r4 := HH.out.1.set k hlp (UInt8.ofNat (x + 32))
        have b4 := hB4.setCell (p := ⟨w.heap.size, k, none⟩) (Nat.le_refl _) (Value.int .u8 ((UInt8.ofNat (x + 32)).toNat : Nat))
        rw [← hps] at r4
        have hv : ((UInt8.ofNat (x + 32)).toNat : Int) = (x : Int) - 65 + 97 := by rw [hu2]; omega
        rw [hv] at r4 b4
        have HN : Hid (RowAt w.heap.size (lpart l (k + 1)) (wr.setCell ⟨w.heap.size, k, none⟩ (.int .u8 ((x : Int) - 65 + 97))) ∧ w.heap.size + 1 ≤ (wr.setCell ⟨w.heap.size, k, none⟩ (.int .u8 ((x : Int) - 65 + 97))).heap.size ∧ Below w.heap.size w (wr.setCell ⟨w.heap.size, k, none⟩ (.int .u8 ((x : Int) - 65 + 97)))) := ⟨r4, by have := HH.out.2.1; simp; omega, b4⟩
        clear HH hps r4 hB4 b4 hv hu2 hu hd hx hsm
        go_wp2_with fail
        go_roundw
        case rel => exact ⟨k + 1, by go_num, by omega, HN⟩
        case measure => simp [intOf]; omega
      · have hu : low1 d = d := by unfold low1; rw [hx, if_neg hsm]
        have hps := lpart_same l k hlt (by rw [hd]; exact hu)
        have HN : Hid (RowAt w.heap.size (lpart l (k + 1)) wr ∧ w.heap.size + 1 ≤ wr.heap.size ∧ Below w.heap.size w wr) := ⟨by rw [hps]; exact HH.out.1, HH.out.2⟩
        clear hps hu hd hx HH
        by_cases h97 : 65 ≤ x
        · have ha : (65 : Int) ≤ (x : Int) := by omega
          have hb : ¬ (x : Int) ≤ 90 := by omega
          clear hsm
          go_wp2_with fail
          go_roundw
          case rel => exact ⟨k + 1, by go_num, by omega, HN⟩
          case measure => simp [intOf]; omega
        · have ha : ¬ (65 : Int) ≤ (x : Int) := by omega
          clear hsm
          go_wp2_with fail
          go_roundw
          case rel => exact ⟨k + 1, by go_num, by omega, HN⟩
          case measure => simp [intOf]; omega
    · obtain rfl : k = l.length := by omega
      rw [lpart_all] at HH
      have hul := lower_length l
      have hcv := conv_row wr w.heap.size cap (lower l) HH.out.1
      rw [hul] at hcv
      have hB := HH.out.2.2
      clear HH hul
      go_wp2_with fail
      go_ret
      exact ⟨rfl, hB⟩

set_option maxHeartbeats 1000000 in
set_option maxRecDepth 100000 in
theorem great_any (l : List UInt8) (hl : l.length ≤ 140737488355328) (w : World) :
    Calls Tryd.prog 26 #[.string (S l)] w fun e w' => e = .returned (.string (S (upper l))) ∧ Below w.heap.size w w' := by
  have hz := S_size l
  have hcv1 := fun W => Lib.run_convert_string_bytes (P := Tryd.prog) W 9 48 5 (S l) Tryd.underlying9 Tryd.underlying48 Tryd.underlying5
  rw [S_size] at hcv1
  go_enter Tryd.func26, Tryd.ntmps26
  go_upto_region 2 with (fail)
  have r0 := RowAt.bytes w l
  have b2 := bytes_below w (S l)
  have s2 : (Lib.bytesWorld w 5 (S l)).heap.size = w.heap.size + 1 := by rw [Lib.bytesWorld_size]
  generalize grownCap w l.length 0 5 = cap
  generalize Lib.bytesWorld w 5 (S l) = w2 at *
  have H0 : Hid (RowAt w.heap.size (gpart l 0) w2 ∧ w.heap.size + 1 ≤ w2.heap.size ∧ Below w.heap.size w w2) := ⟨by rw [gpart_zero]; exact r0, by omega, b2⟩
  clear hcv1 r0 b2 s2
  go_wp2_with fail
  go_loopw [4] (fun i wr => ∃ k : Nat, i = .int .i64 k ∧ k ≤ l.length ∧ Hid (RowAt w.heap.size (gpart l k) wr ∧ w.heap.size + 1 ≤ wr.heap.size ∧ Below w.heap.size w wr))
    (fun i _ => l.length - (intOf i).toNat)
  case atStart => exact ⟨0, rfl, Nat.zero_le _, H0⟩
  case round =>
    clear H0
    obtain ⟨k, rfl, hk, HH⟩ := hrel
    by_cases hlt : k < l.length
    · have hlp : k < (gpart l k).length := by rw [gpart_length]; exact hlt
      obtain ⟨d, hd⟩ : ∃ d, l[k]'hlt = d := ⟨_, rfl⟩
      have hcell := HH.out.1.c k hlp
      rw [gpart_get l k hlt hlp, hd] at hcell
      have hfr := HH.out.1.f k hlp
      have hki : (k : Int) < (l.length : Int) := by omega
      have hdl := UInt8.toNat_lt d
      obtain ⟨x, hx⟩ : ∃ x, d.toNat = x := ⟨_, rfl⟩
      rw [hx] at hcell hdl
      by_cases hsm : 97 ≤ x ∧ x ≤ 122
      · have hu : up1 d = UInt8.ofNat (x - 32) := by unfold up1; rw [hx, if_pos hsm]
        have hu2 : (UInt8.ofNat (x - 32)).toNat = x - 32 := by rw [UInt8.toNat_ofNat']; omega
        have hps := gpart_succ l k hlt
        rw [hd, hu] at hps
        have hx1 : (97 : Int) ≤ (x : Int) := by omega
        have hx2 : (x : Int) ≤ 122 := by omega
        have hB4 := HH.out.2.2
        have r4 := HH.out.1.set k hlp (UInt8.ofNat (x - 32))
        have b4 := hB4.setCell (p := ⟨w.heap.size, k, none⟩) (Nat.le_refl _) (Value.int .u8 ((UInt8.ofNat (x - 32)).toNat : Nat))
        rw [← hps] at r4
        have hv : ((UInt8.ofNat (x - 32)).toNat : Int) = (x : Int) - 32 := by rw [hu2]; omega
        rw [hv] at r4 b4
        have HN : Hid (RowAt w.heap.size (gpart l (k + 1)) (wr.setCell ⟨w.heap.size, k, none⟩ (.int .u8 ((x : Int) - 32))) ∧ w.heap.size + 1 ≤ (wr.setCell ⟨w.heap.size, k, none⟩ (.int .u8 ((x : Int) - 32))).heap.size ∧ Below w.heap.size w (wr.setCell ⟨w.heap.size, k, none⟩ (.int .u8 ((x : Int) - 32)))) := ⟨r4, by have := HH.out.2.1; simp; omega, b4⟩
        clear HH hps r4 hB4 b4 hv hu2 hu hd hx hsm
        go_wp2_with fail
        go_roundw
        case rel => exact ⟨k + 1, by go_num, by omega, HN⟩
        case measure => simp [intOf]; omega
      · have hu : up1 d = d := by unfold up1; rw [hx, if_neg hsm]
        have hps := gpart_same l k hlt (by rw [hd]; exact hu)
        have HN : Hid (RowAt w.heap.size (gpart l (k + 1)) wr ∧ w.heap.size + 1 ≤ wr.heap.size ∧ Below w.heap.size w wr) := ⟨by rw [hps]; exact HH.out.1, HH.out.2⟩
        clear hps hu hd hx HH
        by_cases h97 : 97 ≤ x
        · have ha : (97 : Int) ≤ (x : Int) := by omega
          have hb : ¬ (x : Int) ≤ 122 := by omega
          clear hsm
          go_wp2_with fail
          go_roundw
          case rel => exact ⟨k + 1, by go_num, by omega, HN⟩
          case measure => simp [intOf]; omega
        · have ha : ¬ (97 : Int) ≤ (x : Int) := by omega
          clear hsm
          go_wp2_with fail
          go_roundw
          case rel => exact ⟨k + 1, by go_num, by omega, HN⟩
          case measure => simp [intOf]; omega
    · obtain rfl : k = l.length := by omega
      rw [gpart_all] at HH
      have hul := upper_length l
      have hcv := conv_row wr w.heap.size cap (upper l) HH.out.1
      rw [hul] at hcv
      have hB := HH.out.2.2
      clear HH hul
      go_wp2_with fail
      go_ret
      exact ⟨rfl, hB⟩

end Go.Proofs.YtiaggnpkmigbhaaDoor.fl
