/-
  What the program's Upper answers.
-/
import Derived.Test.YtgmopbgcimekhaaDoorWordMay
import Derived.Laws.Rows
import Derived.Lib.ConvBytes
import Derived.Deep.CutRange
namespace Go.Proofs.YtgmopbgcimekhaaDoor.wo
open Go.RowKit

theorem S_empty_no {l : List UInt8} (h : 0 < l.length) : (S l).toList.isEmpty = false := by
  rw [← decide_eq_emptyBytes]
  exact decide_eq_false (fun e => by
    have := congrArg ByteArray.size e
    rw [S_size] at this
    simp at this
    rw [this] at h
    simp at h)

/-- A row of bytes in a block of the call's own. -/
structure RowAt (g : Nat) (t : List UInt8) (W : World) : Prop where
  c : ∀ i (h : i < t.length), W.cell? ⟨g, i, none⟩ = some (.int .u8 (t[i].toNat : Nat))
  f : ∀ i, i < t.length → W.frozen? ⟨g, i, none⟩ = false
theorem RowAt.later {g : Nat} {t : List UInt8} {w w' : World} (h : RowAt g t w) {B : Nat} (hb : Below B w w') (hg : g < B) : RowAt g t w' :=
  ⟨fun i hi => (hb.cell (p := ⟨g, i, none⟩) hg).trans (h.c i hi), fun i hi => (hb.frozen (p := ⟨g, i, none⟩) hg).trans (h.f i hi)⟩
theorem RowAt.bytes (w : World) (l : List UInt8) : RowAt w.heap.size l (Lib.bytesWorld w 5 (S l)) where
  c := fun i hi => by
    rw [Lib.bytesWorld_cell w _ (S l) i (by rw [S_size]; exact hi), S_data]
    simp [List.getElem?_eq_getElem hi]
  f := fun i hi => by
    simp only [World.frozen?, Lib.bytesWorld_at_new]
    simp [Lib.bytesCells]
    have : i < (S l).size := by rw [S_size]; exact hi
    rw [S_size] at this ⊢
    omega
theorem bytes_below (w : World) (s : ByteArray) : Below w.heap.size w (Lib.bytesWorld w 5 s) :=
  ⟨rfl, rfl, rfl, by rw [Lib.bytesWorld_size]; omega, fun k hk => Lib.bytesWorld_at_old w _ s k hk⟩
theorem frozen_setCell (w : World) (a b : Addr) (v : Value) : (w.setCell a v).frozen? b = w.frozen? b := by
  by_cases h : b.block = a.block
  · simp only [World.frozen?, World.setCell, Array.getElem?_modify, h]
    cases hw : w.heap[a.block]? with
    | none => simp
    | some o => cases o <;> simp
  · simp only [World.frozen?]
    rw [Below.heap_setCell w a v b.block h]
theorem RowAt.set {g : Nat} {t : List UInt8} {w : World} (h : RowAt g t w) (k : Nat) (hk : k < t.length) (d : UInt8) : RowAt g (t.set k d) (w.setCell ⟨g, k, none⟩ (.int .u8 (d.toNat : Nat))) where
  c := fun i hi => by
    rw [List.length_set] at hi
    by_cases he : k = i
    · subst he
      rw [World.cell?_setCell_same' _ _ _ (by rw [h.c k hk]; rfl), List.getElem_set_self]
    · rw [World.cell?_setCell_other _ _ _ _ (by first | (simp; done) | (simp; omega)), h.c i hi, List.getElem_set_ne he]
  f := fun i hi => by
    rw [List.length_set] at hi
    rw [frozen_setCell]
    exact h.f i hi
theorem conv_row (W : World) (g cap : Nat) (t : List UInt8) (h : RowAt g t W) :
    (convert 37 9 (.slice (some ⟨g, 0, none⟩) t.length cap)).run Tryd.prog W = .ok (.string (S t)) W := by
  have hr := run_convert_bytes_arg (P := Tryd.prog) W 37 5 Tryd.underlying37 Tryd.underlying5 g 0 t.length cap (t.map fun b => (b.toNat : Int)) (by simp) (fun i hi => by
    rw [Nat.zero_add, h.c i hi]
    simp [List.getElem?_eq_getElem hi]) 9 Tryd.underlying9
  rw [hr]
  congr 2
  apply ByteArray.ext
  apply Array.toList_inj.1
  rw [strOfNums_data, List.map_map, S_data]
  conv => rhs; rw [← List.map_id t]
  apply List.map_congr_left
  intro x _
  simp

theorem FromAt.set {lo hi b1 b2 : Nat} {w : World} (h : FromAt lo hi b1 b2 w) {g i : Nat} (h1 : b1 ≠ g) (h2 : b2 ≠ g) (v : Value) : FromAt lo hi b1 b2 (w.setCell ⟨g, i, none⟩ v) :=
  ⟨(World.cell?_setCell_other _ _ _ _ (by first | (simp; done) | (simp; omega))).trans h.c1, (World.cell?_setCell_other _ _ _ _ (by first | (simp; done) | (simp; omega))).trans h.c2⟩

/-- The first k bytes great. -/
def part (l : List UInt8) (k : Nat) : List UInt8 := upper (l.take k) ++ l.drop k
theorem part_zero (l : List UInt8) : part l 0 = l := by simp [part, upper]
theorem part_all (l : List UInt8) : part l l.length = upper l := by simp [part]
theorem part_length (l : List UInt8) (k : Nat) : (part l k).length = l.length := by
  unfold part
  rw [List.length_append, upper_length, List.length_take, List.length_drop]
  omega
theorem part_get (l : List UInt8) (k : Nat) (h : k < l.length) (h' : k < (part l k).length) : (part l k)[k]'h' = l[k] := by
  simp only [part]
  rw [List.getElem_append_right (by rw [upper_length, List.length_take]; omega)]
  simp only [upper_length, List.length_take, List.getElem_drop]
  congr 1
  omega
theorem part_succ (l : List UInt8) (k : Nat) (h : k < l.length) : part l (k + 1) = (part l k).set k (up1 l[k]) := by
  unfold part
  rw [upper_take l k h, List.drop_eq_getElem_cons h, List.append_assoc]
  have hl : (upper (l.take k)).length = k := by rw [upper_length, List.length_take]; omega
  rw [List.set_append_right _ _ (by omega), hl, Nat.sub_self]
  rfl
theorem part_same (l : List UInt8) (k : Nat) (h : k < l.length) (hu : up1 l[k] = l[k]) : part l (k + 1) = part l k := by
  rw [part_succ l k h, hu]
  have := part_get l k h (by rw [part_length]; exact h)
  rw [← this, List.set_getElem_self]

set_option maxRecDepth 100000 in
theorem upper_any (l : List UInt8) (hl : l.length ≤ 140737488355328) (w : World) :
    Calls Tryd.prog 12 #[.string (S l)] w fun e w' => e = .returned (.string (S (upper l))) ∧ Below w.heap.size w w' := by
  have hz := S_size l
  have hcv1 := fun W => Lib.run_convert_string_bytes (P := Tryd.prog) W 9 37 5 (S l) Tryd.underlying9 Tryd.underlying37 Tryd.underlying5
  rw [S_size] at hcv1
  have hf := from_any 97 122
  go_enter Tryd.func12, Tryd.ntmps12
  go_wp2_with fail
  refine (hf _).mono ?_
  rintro e w1 ⟨rfl, f1, s1, b1⟩
  go_upto_region 3 with (fail)
  have r0 := RowAt.bytes w1 l
  have b2 := bytes_below w1 (S l)
  have f2 := f1.later b2
  have s2 : (Lib.bytesWorld w1 5 (S l)).heap.size = w.heap.size + 3 := by rw [Lib.bytesWorld_size, s1]
  have b12 := b1.trans (b2.mono (show w.heap.size ≤ w1.heap.size by omega))
  rw [s1] at r0
  generalize grownCap w1 l.length 0 5 = cap
  generalize Lib.bytesWorld w1 5 (S l) = w2 at *
  have H0 : Hid (RowAt (w.heap.size + 2) (part l 0) w2 ∧ FromAt 97 122 w.heap.size (w.heap.size + 1) w2 ∧ w.heap.size + 3 ≤ w2.heap.size ∧ Below w.heap.size w w2) := ⟨by rw [part_zero]; exact r0, f2, by omega, b12⟩
  have hc1 := from1_any 97 122 w.heap.size (w.heap.size + 1)
  clear hcv1 hf f1 s1 b1 r0 b2 f2 s2 b12
  go_wp2_with fail
  go_loopw [12] (fun i wr => ∃ k : Nat, i = .int .i64 k ∧ k ≤ l.length ∧ Hid (RowAt (w.heap.size + 2) (part l k) wr ∧ FromAt 97 122 w.heap.size (w.heap.size + 1) wr ∧ w.heap.size + 3 ≤ wr.heap.size ∧ Below w.heap.size w wr))
    (fun i _ => l.length - (intOf i).toNat)
  case atStart => exact ⟨0, rfl, Nat.zero_le _, H0⟩
  case round =>
    clear H0
    obtain ⟨k, rfl, hk, HH⟩ := hrel
    by_cases hlt : k < l.length
    · have hlp : k < (part l k).length := by rw [part_length]; exact hlt
      obtain ⟨d, hd⟩ : ∃ d, l[k]'hlt = d := ⟨_, rfl⟩
      have hcell := HH.out.1.c k hlp
      rw [part_get l k hlt hlp, hd] at hcell
      have hki : (k : Int) < (l.length : Int) := by omega
      have hcd := hc1 d wr HH.out.2.1
      obtain ⟨x, hx⟩ : ∃ x, d.toNat = x := ⟨_, rfl⟩
      by_cases hsm : 97 ≤ x ∧ x ≤ 122
      · have hu : up1 d = UInt8.ofNat (x - 32) := by unfold up1; rw [hx, if_pos hsm]
        have hu2 : (UInt8.ofNat (x - 32)).toNat = x - 32 := by rw [UInt8.toNat_ofNat']; omega
        have hps := part_succ l k hlt
        rw [hd, hu] at hps
        have HPS := Lib.hid hps
        rw [hx] at hcell hcd
        rw [decide_eq_true hsm.1, decide_eq_true hsm.2] at hcd
        have hx1 := hsm.1
        have hx2 := hsm.2
        clear hps hu hd hx hsm hc1
        go_wp2_with fail
        refine hcd.mono ?_
        rintro e w3 ⟨rfl, b3⟩
        have r3 := HH.out.1.later b3 (by have := HH.out.2.2.1; omega)
        have f3 := HH.out.2.1.later b3
        have s3 := b3.size
        have hb3 := HH.out.2.2.2.trans (b3.mono (by have := HH.out.2.2.1; omega))
        have hfr := r3.f k hlp
        have hce := r3.c k hlp
        have hs4 := HH.out.2.2.1
        have r4 := r3.set k hlp (UInt8.ofNat (x - 32))
        have f4 := f3.set (g := w.heap.size + 2) (i := k) (by omega) (by omega) (Value.int .u8 ((UInt8.ofNat (x - 32)).toNat : Nat))
        have b4 := hb3.setCell (p := ⟨w.heap.size + 2, k, none⟩) (by show w.heap.size ≤ w.heap.size + 2; omega) (Value.int .u8 ((UInt8.ofNat (x - 32)).toNat : Nat))
        rw [← HPS.out] at r4
        have hv : ((UInt8.ofNat (x - 32)).toNat : Int) = (x : Int) - 97 + 65 := by rw [hu2]; omega
        rw [hv] at r4 f4 b4
        have HN : Hid (RowAt (w.heap.size + 2) (part l (k + 1)) (w3.setCell ⟨w.heap.size + 2, k, none⟩ (.int .u8 ((x : Int) - 97 + 65))) ∧ FromAt 97 122 w.heap.size (w.heap.size + 1) (w3.setCell ⟨w.heap.size + 2, k, none⟩ (.int .u8 ((x : Int) - 97 + 65))) ∧ w.heap.size + 3 ≤ (w3.setCell ⟨w.heap.size + 2, k, none⟩ (.int .u8 ((x : Int) - 97 + 65))).heap.size ∧ Below w.heap.size w (w3.setCell ⟨w.heap.size + 2, k, none⟩ (.int .u8 ((x : Int) - 97 + 65)))) := ⟨r4, f4, by simp; omega, b4⟩
        clear HH HPS r3 f3 hb3 r4 f4 b4 hv hs4 hu2 b3 s3
        go_wp2_with fail
        go_roundw
        case rel => exact ⟨k + 1, by go_num, by omega, HN⟩
        case measure => simp [intOf]; omega
      · have hu : up1 d = d := by unfold up1; rw [hx, if_neg hsm]
        have hps := part_same l k hlt (by rw [hd]; exact hu)
        rw [hx] at hcell hcd
        have hb : (decide (97 ≤ x) && decide (x ≤ 122)) = false := by
          by_cases h1 : 97 ≤ x
          · rw [decide_eq_false (show ¬ x ≤ 122 by omega), Bool.and_false]
          · rw [decide_eq_false h1, Bool.false_and]
        rw [hb] at hcd
        have HPS := Lib.hid hps
        clear hps hu hd hx hsm hc1 hb
        go_wp2_with fail
        refine hcd.mono ?_
        rintro e w3 ⟨rfl, b3⟩
        have HN : Hid (RowAt (w.heap.size + 2) (part l (k + 1)) w3 ∧ FromAt 97 122 w.heap.size (w.heap.size + 1) w3 ∧ w.heap.size + 3 ≤ w3.heap.size ∧ Below w.heap.size w w3) := by
          have hs4 := HH.out.2.2.1
          have s3 := b3.size
          refine ⟨?_, HH.out.2.1.later b3, by omega, HH.out.2.2.2.trans (b3.mono (by omega))⟩
          rw [HPS.out]
          exact HH.out.1.later b3 (by omega)
        clear HH HPS b3
        go_wp2_with fail
        go_roundw
        case rel => exact ⟨k + 1, by go_num, by omega, HN⟩
        case measure => simp [intOf]; omega
    · obtain rfl : k = l.length := by omega
      rw [part_all] at HH
      have hul := upper_length l
      have hcv := conv_row wr (w.heap.size + 2) cap (upper l) HH.out.1
      rw [hul] at hcv
      have hB := HH.out.2.2.2
      clear HH hc1 hul
      go_wp2_with fail
      go_ret
      exact ⟨rfl, hB⟩
end Go.Proofs.YtgmopbgcimekhaaDoor.wo
