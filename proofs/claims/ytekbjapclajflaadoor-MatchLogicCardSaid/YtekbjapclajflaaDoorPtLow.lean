/-
  What the program's lower, goesOn, Holds answer.
-/
import Derived.Test.YtekbjapclajflaaDoorPtMath
namespace Go.Proofs.YtekbjapclajflaaDoor.pt
open Go.RowKit Go.Shelf fl
attribute [local go_sem] Oper.semAt_some

/-- A row of bytes in a block of the call's own. -/
structure RowAt (g : Nat) (t : List UInt8) (W : World) : Prop where
  c : ∀ i (h : i < t.length), W.cell? ⟨g, i, none⟩ = some (.int .u8 (t[i].toNat : Nat))
  f : ∀ i, i < t.length → W.frozen? ⟨g, i, none⟩ = false
theorem RowAt.later {g : Nat} {t : List UInt8} {w w' : World} (h : RowAt g t w) {B : Nat} (hb : Below B w w') (hg : g < B) : RowAt g t w' :=
  ⟨fun i hi => (hb.cell (p := ⟨g, i, none⟩) hg).trans (h.c i hi), fun i hi => (hb.frozen (p := ⟨g, i, none⟩) hg).trans (h.f i hi)⟩
theorem RowAt.bytes (w : World) (l : List UInt8) : RowAt w.heap.size l (Lib.bytesWorld w 5 (S l)) where
  c := fun i hi => by
    rw [Lib.bytesWorld_cell w _ (S l) i (by rw [S_size]; exact hi), S_data]
    simp [List.getElem?_eq_getElem hi]
  f := fun i hi => by
    simp only [World.frozen?, Lib.bytesWorld_at_new]
    simp [Lib.bytesCells]
    have : i < (S l).size := by rw [S_size]; exact hi
    rw [S_size] at this ⊢
    omega
theorem bytes_below (w : World) (s : ByteArray) : Below w.heap.size w (Lib.bytesWorld w 5 s) :=
  ⟨rfl, rfl, rfl, by rw [Lib.bytesWorld_size]; omega, fun k hk => Lib.bytesWorld_at_old w _ s k hk⟩
theorem frozen_setCell (w : World) (a b : Addr) (v : Value) : (w.setCell a v).frozen? b = w.frozen? b := by
  by_cases h : b.block = a.block
  · simp only [World.frozen?, World.setCell, Array.getElem?_modify, h]
    cases hw : w.heap[a.block]? with
    | none => simp
    | some o => cases o <;> simp
  · simp only [World.frozen?]
    rw [Below.heap_setCell w a v b.block h]
theorem RowAt.set {g : Nat} {t : List UInt8} {w : World} (h : RowAt g t w) (k : Nat) (hk : k < t.length) (d : UInt8) : RowAt g (t.set k d) (w.setCell ⟨g, k, none⟩ (.int .u8 (d.toNat : Nat))) where
  c := fun i hi => by
    rw [List.length_set] at hi
    by_cases he : k = i
    · subst he
      rw [World.cell?_setCell_same' _ _ _ (by rw [h.c k hk]; rfl), List.getElem_set_self]
    · rw [World.cell?_setCell_other _ _ _ _ (by first | (simp; done) | (simp; omega)), h.c i hi, List.getElem_set_ne he]
  f := fun i hi => by
    rw [List.length_set] at hi
    rw [frozen_setCell]
    exact h.f i hi
set_option maxRecDepth 100000 in
theorem conv_row (W : World) (g cap : Nat) (t : List UInt8) (h : RowAt g t W) :
    (convert 66 9 (.slice (some ⟨g, 0, none⟩) t.length cap)).run Tryd.prog W = .ok (.string (S t)) W := by
  have hr := run_convert_bytes_arg (P := Tryd.prog) W 66 5 Tryd.underlying66 Tryd.underlying5 g 0 t.length cap (t.map fun b => (b.toNat : Int)) (by simp) (fun i hi => by
    rw [Nat.zero_add, h.c i hi]
    simp [List.getElem?_eq_getElem hi]) 9 Tryd.underlying9
  rw [hr]
  congr 2
  apply ByteArray.ext
  apply Array.toList_inj.1
  rw [strOfNums_data, List.map_map, S_data]
  conv => rhs; rw [← List.map_id t]
  apply List.map_congr_left
  intro x _
  simp

/-- The first k bytes small. -/
def part (l : List UInt8) (k : Nat) : List UInt8 := lower (l.take k) ++ l.drop k
theorem lower_take (l : List UInt8) (k : Nat) (h : k < l.length) : lower (l.take (k + 1)) = lower (l.take k) ++ [lo1 l[k]] := by
  unfold lower
  rw [List.take_succ_eq_append_getElem h, List.map_append]
  rfl
theorem part_zero (l : List UInt8) : part l 0 = l := by simp [part, lower]
theorem part_all (l : List UInt8) : part l l.length = lower l := by simp [part]
theorem part_length (l : List UInt8) (k : Nat) : (part l k).length = l.length := by
  unfold part
  rw [List.length_append, lower_length, List.length_take, List.length_drop]
  omega
theorem part_get (l : List UInt8) (k : Nat) (h : k < l.length) (h' : k < (part l k).length) : (part l k)[k]'h' = l[k] := by
  simp only [part]
  rw [List.getElem_append_right (by rw [lower_length, List.length_take]; omega)]
  simp only [lower_length, List.length_take, List.getElem_drop]
  congr 1
  omega
theorem part_succ (l : List UInt8) (k : Nat) (h : k < l.length) : part l (k + 1) = (part l k).set k (lo1 l[k]) := by
  unfold part
  rw [lower_take l k h, List.drop_eq_getElem_cons h, List.append_assoc]
  have hl : (lower (l.take k)).length = k := by rw [lower_length, List.length_take]; omega
  rw [List.set_append_right _ _ (by omega), hl, Nat.sub_self]
  rfl
theorem part_same (l : List UInt8) (k : Nat) (h : k < l.length) (hu : lo1 l[k] = l[k]) : part l (k + 1) = part l k := by
  rw [part_succ l k h, hu]
  have := part_get l k h (by rw [part_length]; exact h)
  rw [← this, List.set_getElem_self]


set_option maxRecDepth 100000 in
theorem lower_any (l : List UInt8) (hl : l.length ≤ 140737488355328) (w : World) :
    Calls Tryd.prog 28 #[.string (S l)] w fun e w' => e = .returned (.string (S (lower l))) ∧ Below w.heap.size w w' := by
  have hz := S_size l
  have hcv1 := fun W => Lib.run_convert_string_bytes (P := Tryd.prog) W 9 66 5 (S l) Tryd.underlying9 Tryd.underlying66 Tryd.underlying5
  rw [S_size] at hcv1
  go_enter Tryd.func28, Tryd.ntmps28
  go_upto_region 2 with (fail)
  have r0 := RowAt.bytes w l
  have b2 := bytes_below w (S l)
  have s2 : (Lib.bytesWorld w 5 (S l)).heap.size = w.heap.size + 1 := by rw [Lib.bytesWorld_size]
  generalize grownCap w l.length 0 5 = cap
  generalize Lib.bytesWorld w 5 (S l) = w2 at *
  have H0 : Hid (RowAt w.heap.size (part l 0) w2 ∧ w.heap.size + 1 ≤ w2.heap.size ∧ Below w.heap.size w w2) := ⟨by rw [part_zero]; exact r0, by omega, b2⟩
  clear hcv1 r0 b2 s2
  go_wp2_with fail
  go_loopw [10] (fun i wr => ∃ k : Nat, i = .int .i64 k ∧ k ≤ l.length ∧ Hid (RowAt w.heap.size (part l k) wr ∧ w.heap.size + 1 ≤ wr.heap.size ∧ Below w.heap.size w wr))
    (fun i _ => l.length - (intOf i).toNat)
  case atStart => exact ⟨0, rfl, Nat.zero_le _, H0⟩
  case round =>
    clear H0
    obtain ⟨k, rfl, hk, HH⟩ := hrel
    by_cases hlt : k < l.length
    · have hlp : k < (part l k).length := by rw [part_length]; exact hlt
      obtain ⟨d, hd⟩ : ∃ d, l[k]'hlt = d := ⟨_, rfl⟩
      have hcell := HH.out.1.c k hlp
      rw [part_get l k hlt hlp, hd] at hcell
      have hki : (k : Int) < (l.length : Int) := by omega
      obtain ⟨x, hx⟩ : ∃ x, d.toNat = x := ⟨_, rfl⟩
      have hx256 : x < 256 := hx ▸ d.toNat_lt
      by_cases hsm : 65 ≤ x ∧ x ≤ 90
      · have hu : lo1 d = UInt8.ofNat (x + 32) := by unfold lo1; rw [hx, if_pos hsm]
        have hu2 : (UInt8.ofNat (x + 32)).toNat = x + 32 := by rw [UInt8.toNat_ofNat']; omega
        have hps := part_succ l k hlt
        rw [hd, hu] at hps
        have HPS := Lib.hid hps
        rw [hx] at hcell
        have hx1 : (65 : Int) ≤ (x : Int) := by omega
        have hx2 : (x : Int) ≤ 90 := by omega
        have hfr := HH.out.1.f k hlp
        have hs4 := HH.out.2.1
        have r4 := HH.out.1.set k hlp (UInt8.ofNat (x + 32))
        have b4 := HH.out.2.2.setCell (p := ⟨w.heap.size, k, none⟩) (Nat.le_refl _) (Value.int .u8 ((UInt8.ofNat (x + 32)).toNat : Nat))
        rw [← HPS.out] at r4
        obtain ⟨y, hy⟩ : ∃ y : Nat, x + 32 = y := ⟨_, rfl⟩
        have v1 : IntKind.u8.wrap ((x : Int) - 65) = ((x - 65 : Nat) : Int) := by rw [IntWalk.u8_in _ (by omega)]; omega
        obtain ⟨z, hzz⟩ : ∃ z, x - 65 = z := ⟨_, rfl⟩
        rw [hzz] at v1
        have v2 : IntKind.u8.wrap ((z : Int) + 97) = (y : Int) := by rw [IntWalk.u8_in _ (by omega)]; omega
        rw [hu2, hy] at r4 b4
        have HN : Hid (RowAt w.heap.size (part l (k + 1)) (wr.setCell ⟨w.heap.size, k, none⟩ (.int .u8 (y : Nat))) ∧ w.heap.size + 1 ≤ (wr.setCell ⟨w.heap.size, k, none⟩ (.int .u8 (y : Nat))).heap.size ∧ Below w.heap.size w (wr.setCell ⟨w.heap.size, k, none⟩ (.int .u8 (y : Nat)))) := ⟨r4, by simp; omega, b4⟩
        clear HH HPS r4 b4 hs4 hu2 hps hu hsm hd hx hx256 hzz hy
        go_wp2_with fail
        go_roundw
        case rel => exact ⟨k + 1, by go_num, by omega, HN⟩
        case measure => simp [intOf]; omega
      · have hu : lo1 d = d := by unfold lo1; rw [hx, if_neg hsm]
        have hps := part_same l k hlt (by rw [hd]; exact hu)
        rw [hx] at hcell
        have HN : Hid (RowAt w.heap.size (part l (k + 1)) wr ∧ w.heap.size + 1 ≤ wr.heap.size ∧ Below w.heap.size w wr) := by rw [hps]; exact HH
        clear hps hu hd hx HH
        by_cases h1 : 65 ≤ x
        · have hx1 : (65 : Int) ≤ (x : Int) := by omega
          have hx2 : ¬ (x : Int) ≤ 90 := by omega
          clear hsm
          go_wp2_with fail
          go_roundw
          case rel => exact ⟨k + 1, by go_num, by omega, HN⟩
          case measure => simp [intOf]; omega
        · have hx1 : ¬ (65 : Int) ≤ (x : Int) := by omega
          clear hsm
          go_wp2_with fail
          go_roundw
          case rel => exact ⟨k + 1, by go_num, by omega, HN⟩
          case measure => simp [intOf]; omega
    · obtain rfl : k = l.length := by omega
      have r5 := HH.out.1
      rw [part_all] at r5
      have hcv := conv_row wr w.heap.size cap (lower l) r5
      rw [lower_length] at hcv
      have HB := Lib.hid HH.out.2.2
      clear HH r5
      go_wp2_with fail
      go_ret
      exact ⟨rfl, HB.out⟩

set_option maxRecDepth 100000 in
theorem holds_any (s p : List UInt8) (hs : s.length < 4294967281) (hp : p.length ≤ 140737488355328) (M : Int) (w : World) (h0 : 0 < w.heap.size) (hM : w.cell? ⟨0, 0, none⟩ = some (.int .i64 M)) :
    Calls Tryd.prog 22 #[.string (S s), .string (S p)] w fun e w' => e = .returned (.bool (Lib.contains (upper s) (upper p))) ∧ Below w.heap.size w w' := by
  have u1 := fun W => lower_any s (by omega) W
  have u2 := fun W => lower_any p (by omega) W
  have hcl := contains_lower s p
  have hA := lower_length s
  have HC := Lib.hid (fun W hW => Tryd.strings_Contains (S (lower s)) (S (lower p)) M W (by rw [S_size]; omega) hW)
  simp only [S_data] at HC
  rw [hcl] at HC
  clear hA hcl
  generalize lower s = a at *
  generalize lower p = b at *
  generalize Lib.contains (upper s) (upper p) = r at *
  go_enter Tryd.func22, Tryd.ntmps22
  go_wp2_with fail
  refine (u1 _).mono ?_
  rintro e w1 ⟨rfl, b1⟩
  go_wp2_with fail
  refine (u2 _).mono ?_
  rintro e w2 ⟨rfl, b2⟩
  have b12 := Below.andThen b1 b2
  have hM2 := (b12.cell (p := ⟨0, 0, none⟩) h0).trans hM
  clear u1 u2 b1 b2 hM
  have hcc := HC.out w2 hM2
  clear HC
  go_wp2_with fail
  refine hcc.mono ?_
  rintro e w3 ⟨rfl, rfl⟩
  go_wp2_with fail
  go_ret
  exact ⟨rfl, b12⟩

/-- Does a line go on with the one ahead of it? -/
def goesOn (l : List UInt8) : Bool := match l with
  | [] => false
  | c :: _ => c == 32 || c == 9
theorem idx_blanks (c : UInt8) : decide (0 ≤ Lib.indexByte [32, 9] c) = (c == 32 || c == 9) := by
  unfold Lib.indexByte
  by_cases h1 : c = 32
  · subst h1; rfl
  · have e1 : ((32 : UInt8) == c) = false := beq_eq_false_iff_ne.2 (fun h => h1 h.symm)
    have e1' : (c == (32 : UInt8)) = false := beq_eq_false_iff_ne.2 h1
    rw [e1, e1']
    by_cases h2 : c = 9
    · subst h2; rfl
    · have e2 : ((9 : UInt8) == c) = false := beq_eq_false_iff_ne.2 (fun h => h2 h.symm)
      have e2' : (c == (9 : UInt8)) = false := beq_eq_false_iff_ne.2 h2
      have e3 : Lib.indexByte [9] c = -1 := by
        unfold Lib.indexByte
        rw [e2]
        rfl
      rw [e3, e2']
      rfl

set_option maxRecDepth 100000 in
theorem goesOn_any (l : List UInt8) (w : World) :
    Calls Tryd.prog 46 #[.string (S l)] w fun e w' => e = .returned (.bool (goesOn l)) ∧ w' = w := by
  cases l with
  | nil =>
    go_enter Tryd.func46, Tryd.ntmps46
    rw [S_nil]
    go_wp2_with fail
    go_ret
    exact ⟨rfl, rfl⟩
  | cons c r =>
    have hz := S_size (c :: r)
    have hne : (S (c :: r)).toList.isEmpty = false := S_empty_no (by simp)
    have hlt : 0 < (S (c :: r)).size := by rw [S_size]; simp
    have hg : (S (c :: r))[0]'hlt = c := rfl
    have hi := Tryd.strings_IndexByte ⟨#[32, 9]⟩ (c.toNat : Nat) w
    rw [show ((c.toNat : Int)).toNat.toUInt8 = c by simp, show (⟨#[32, 9]⟩ : ByteArray).data.toList = [32, 9] from rfl] at hi
    have hk := idx_blanks c
    have hgo : goesOn (c :: r) = (c == 32 || c == 9) := rfl
    rw [← hgo] at hk
    have h0 : (0 : Int) < ((S (c :: r)).size : Int) := by omega
    generalize goesOn (c :: r) = b at *
    generalize Lib.indexByte [32, 9] c = i at *
    clear hgo
    rw [hz] at h0
    go_enter Tryd.func46, Tryd.ntmps46
    go_wp2_with fail
    refine hi.mono ?_
    rintro e w1 ⟨rfl, rfl⟩
    go_wp2_with fail
    go_ret
    exact ⟨by simp, rfl⟩
end Go.Proofs.YtekbjapclajflaaDoor.pt
