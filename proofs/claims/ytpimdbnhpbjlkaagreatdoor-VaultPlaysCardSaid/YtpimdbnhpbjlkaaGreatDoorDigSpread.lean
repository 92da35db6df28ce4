/-
  What the program's spread answers: a word for each round.
-/
import Derived.Test.YtpimdbnhpbjlkaaGreatDoorDigRight
import Derived.Test.YtpimdbnhpbjlkaaGreatDoorDigBlock
import Derived.Laws.CopyOwn
import Derived.Deep.CutRange
namespace Go.Proofs.YtpimdbnhpbjlkaaGreatDoor.dg
open Go.RowKit

theorem low0_int {P : Nat} (h : P < 4294967296) : bits BinOp.xor IntKind.u32 (bits BinOp.xor IntKind.u32 (turnI (P : Nat) 7) (turnI (P : Nat) 18)) ((P : Int) / 8) = ((low0 P : Nat) : Int) := by
  have kp : (P : Int) / 8 = ((shr 3 P : Nat) : Int) := by unfold shr; simp
  have k7 : turnI (P : Nat) 7 = (rot 7 P : Nat) := turnI_eq P 7
  have k18 : turnI (P : Nat) 18 = (rot 18 P : Nat) := turnI_eq P 18
  rw [k7, k18, kp, xor32 (rot_lt h) (rot_lt h), xor32 (xor_lt (rot_lt h) (rot_lt h)) (shr_lt h)]
  rfl
theorem low1_int {P : Nat} (h : P < 4294967296) : bits BinOp.xor IntKind.u32 (bits BinOp.xor IntKind.u32 (turnI (P : Nat) 17) (turnI (P : Nat) 19)) ((P : Int) / 1024) = ((low1 P : Nat) : Int) := by
  have kp : (P : Int) / 1024 = ((shr 10 P : Nat) : Int) := by unfold shr; simp
  have k7 : turnI (P : Nat) 17 = (rot 17 P : Nat) := turnI_eq P 17
  have k18 : turnI (P : Nat) 19 = (rot 19 P : Nat) := turnI_eq P 19
  rw [k7, k18, kp, xor32 (rot_lt h) (rot_lt h), xor32 (xor_lt (rot_lt h) (rot_lt h)) (shr_lt h)]
  rfl
theorem S_drop (l : List UInt8) (k : Nat) : (S l).extract k (S l).size = S (l.drop k) := by
  apply ByteArray.ext
  apply Array.toList_inj.1
  rw [Lib.extract_data, S_data, S_data, S_size, List.take_of_length_le]
  rw [List.length_drop]; omega

theorem words_one {cs : Array Value} {n : Nat} {f : Nat → Nat} (hs : cs.size = n) (h : ∀ j, j < n → cs[j]? = some (.int .u32 (f j : Nat))) : cs.all (·.oneCell') = true := by
  rw [Array.all_eq_true]
  intro i hi
  have := h i (by omega)
  rw [Array.getElem?_eq_getElem hi] at this
  rw [Option.some.inj this]
  rfl
theorem Arr.setRow {w : World} {b : Nat} {t : TypeId} {cs : Array Value} (h : Arr w b t cs) (ds : Array Value) : Arr (w.setRow b ds) b t ds := setRow_heap w b cs ds t (0, 0) h

set_option maxRecDepth 100000 in
set_option maxHeartbeats 4000000 in
theorem spread_any (m : List UInt8) (hm : m.length = 64) (w : World) :
    Calls Tryz.prog 89 #[.string (S m)] w fun e w' => ∃ cs : Array Value, e = .returned (.agg cs) ∧ cs.size = 64 ∧ (∀ j, j < 64 → cs[j]? = some (.int .u32 (wd m j))) ∧ Below w.heap.size w w' := by
  have hz := S_size m
  go_enter Tryz.func89, Tryz.ntmps89
  go_wp2_with fail
  obtain ⟨Z, hZ⟩ : ∃ Z : Array Value, Z = Array.replicate 64 (.int .u32 0) := ⟨_, rfl⟩
  obtain ⟨W, hW⟩ : ∃ W, (w.alloc (.cells Z 105)).alloc (.cells Z 105) = W := ⟨_, rfl⟩
  have hsz : W.heap.size = w.heap.size + 2 := by rw [← hW]; simp
  have aR : Arr W w.heap.size 105 Z := by
    rw [← hW]; exact (Arr.new w _ _).alloc _
  have aW : Arr W (w.heap.size + 1) 105 Z := by
    rw [← hW]
    have h := Arr.new (w.alloc (.cells Z 105)) 105 Z
    rw [World.size_alloc] at h
    exact h
  have hB : Below w.heap.size w W := by
    rw [← hW]
    exact ((Below.refl _ w).alloc (Nat.le_refl _) _).alloc (by simp) _
  have hZs : Z.size = 64 := by rw [hZ]; simp
  change Code.wp _ _ _ _ ((w.alloc (.cells (Array.replicate 64 (.int .u32 0)) 105)).alloc (.cells (Array.replicate 64 (.int .u32 0)) 105))
  rw [← hZ, hW]
  clear hZ hW
  go_loopw [10] (fun i wr => ∃ (t : Nat) (cs : Array Value), i = .int .i64 t ∧ t ≤ 16 ∧ Arr wr (w.heap.size + 1) 105 cs ∧ cs.size = 64 ∧ (∀ j, j < t → cs[j]? = some (.int .u32 (wd m j))) ∧ Touch (w.heap.size + 1) W wr)
    (fun i _ => 16 - (intOf i).toNat)
  case atStart => exact ⟨0, Z, rfl, by omega, aW, hZs, (fun j h => absurd h (by omega)), Touch.refl _ _⟩
  case round =>
    obtain ⟨t, cs, rfl, ht, aC, hcs, hcw, hT⟩ := hrel
    by_cases hlt : t < 16
    · have hsl := fun W => run_slice_string_l (P := Tryz.prog) (w := W) (t := 9) (s := S m) Tryz.underlying9 .i64 ((t : Int) * 4) (by omega) (by omega)
      have et : ((t : Int) * 4).toNat = 4 * t := by omega
      simp only [et, S_drop] at hsl
      have hwd : wd m t = word (m.drop (4 * t)) 0 := by rw [wd_small hlt, word_drop]
      obtain ⟨old, hold⟩ : ∃ old, cs[t]? = some old := ⟨_, Array.getElem?_eq_getElem (by omega)⟩
      have e1 : wr.drew.cell? _ = _ := aC.cell hold
      have e2 : wr.drew.frozen? _ = _ := aC.frozen t
      have hti : (t : Int) < 16 := by omega
      have h64 : (t : Int) < 64 := by omega
      have HCS := Lib.hid hcw
      clear hcw hold et
      have HWD := Lib.hid hwd
      clear hwd
      have hcall := word_any (m.drop (4 * t)) (by rw [List.length_drop]; omega)
      go_wp2_with fail
      refine (hcall _).mono ?_
      rintro e w' ⟨rfl, rfl⟩
      rw [← HWD.out]
      go_wp2
      go_roundw
      case rel => exact ⟨t + 1, cs.setIfInBounds t (.int .u32 (wd m t)), by go_num, by omega, aC.drew.set t _, by simpa using hcs, set_words hcs (by omega) HCS.out, hT.drew.setCell t _⟩
      case measure => simp [intOf]; omega
    · obtain rfl : t = 16 := by omega
      have aR' := aR
      clear aR aW
      have HCS := Lib.hid hcw
      clear hcw
      go_wp2_with fail
      go_loopw [5] (fun i wq => ∃ (t : Nat) (ds : Array Value), i = .int .i64 t ∧ 16 ≤ t ∧ t ≤ 64 ∧ Arr wq (w.heap.size + 1) 105 ds ∧ ds.size = 64 ∧ (∀ j, j < t → ds[j]? = some (.int .u32 (wd m j))) ∧ Touch (w.heap.size + 1) W wq)
        (fun i _ => 64 - (intOf i).toNat)
      case atStart => exact ⟨16, cs, rfl, by omega, by omega, aC, hcs, HCS.out, hT⟩
      case round =>
        clear aC hcs HCS hT
        clear cs
        obtain ⟨t, cs, rfl, h16, ht, aC, hcs, hcw, hT⟩ := hrel
        by_cases hlt : t < 64
        · have c15 := aC.cell (hcw (t - 15) (by omega))
          have c2 := aC.cell (hcw (t - 2) (by omega))
          have c7 := hcw (t - 7) (by omega)
          have c16 := hcw (t - 16) (by omega)
          have hwd : wd m t = add (add (add (low1 (wd m (t - 2))) (wd m (t - 7))) (low0 (wd m (t - 15)))) (wd m (t - 16)) := wd_big (by omega)
          have lP := wd_lt m (t - 15)
          have lQ := wd_lt m (t - 2)
          have lA := wd_lt m (t - 7)
          have lC := wd_lt m (t - 16)
          have HCS := Lib.hid hcw
          clear hcw
          generalize wd m (t - 15) = P at *
          generalize wd m (t - 2) = Q at *
          generalize wd m (t - 7) = A at *
          generalize wd m (t - 16) = C at *
          have l0 := low0_lt lP
          have l1 := low1_lt lQ
          have i0 := low0_int lP
          have i1 := low1_int lQ
          obtain ⟨u, hu⟩ : ∃ u, low0 P = u := ⟨_, rfl⟩
          obtain ⟨v, hv⟩ : ∃ v, low1 Q = v := ⟨_, rfl⟩
          rw [hu] at l0 i0 hwd
          rw [hv] at l1 i1 hwd
          have hvv : ((v : Int) + (A : Int) + (u : Int) + (C : Int)) % 4294967296 = ((wd m t : Nat) : Int) := by
            rw [hwd]
            unfold add
            omega
          have HV := Lib.hid hvv
          have HI0 := Lib.hid i0
          have HI1 := Lib.hid i1
          clear hvv hwd hu hv i0 i1
          obtain ⟨old, hold⟩ : ∃ old, cs[t]? = some old := ⟨_, Array.getElem?_eq_getElem (by omega)⟩
          have h0b : (t : Int) < 64 := by omega
          have h16c : (16 : Int) ≤ (t : Int) := by omega
          have n15 : ((t : Int) - 15).toNat = t - 15 := by omega
          have n2 : ((t : Int) - 2).toNat = t - 2 := by omega
          have n7 : ((t : Int) - 7).toNat = t - 7 := by omega
          have n16 : ((t : Int) - 16).toNat = t - 16 := by omega
          have w15 : IntKind.i64.wrap ((t : Int) - 15) = (t : Int) - 15 := IntWalk.i64_in _ (by omega)
          have w2 : IntKind.i64.wrap ((t : Int) - 2) = (t : Int) - 2 := IntWalk.i64_in _ (by omega)
          have w7 : IntKind.i64.wrap ((t : Int) - 7) = (t : Int) - 7 := IntWalk.i64_in _ (by omega)
          have w16 : IntKind.i64.wrap ((t : Int) - 16) = (t : Int) - 16 := IntWalk.i64_in _ (by omega)
          go_wp2_with fail
          go_quiet (fail)
          go_wp2_with (go_at_call 90; refine (right_int _ _ (by omega) (by omega) (by omega) (by omega) _).mono ?_; rintro e w' ⟨rfl, rfl⟩)
          rw [HI0.out, HI1.out]
          have gA := aC.drewN nq
          have gT := hT.drewN nq
          generalize wr.drewN nq = w3 at *
          have d7 : w3.drew.cell? _ = _ := gA.cell c7
          have d16 : w3.drew.cell? _ = _ := gA.cell c16
          have e1 : w3.drew.cell? _ = _ := gA.cell hold
          have e2 : w3.drew.frozen? _ = _ := gA.frozen t
          clear c2 c15 c7 c16 hold aC hT
          go_region
          all_goals go_wp2_with fail
          all_goals rw [HV.out]
          all_goals go_roundw
          case rel =>
            have hR : ∃ (t' : Nat) (ds : Array Value), Value.int .i64 ((t : Int) + 1) = .int .i64 t' ∧ 16 ≤ t' ∧ t' ≤ 64 ∧ Arr (w3.drew.setCell ⟨w.heap.size + 1, t, none⟩ (.int .u32 (wd m t))) (w.heap.size + 1) 105 ds ∧ ds.size = 64 ∧ (∀ j, j < t' → ds[j]? = some (.int .u32 (wd m j))) ∧ Touch (w.heap.size + 1) W (w3.drew.setCell ⟨w.heap.size + 1, t, none⟩ (.int .u32 (wd m t))) :=
              ⟨t + 1, cs.setIfInBounds t (.int .u32 (wd m t)), by go_num, by omega, by omega, gA.drew.set t _, by simpa using hcs, set_words hcs hlt HCS.out, gT.drew.setCell t _⟩
            exact ⟨_, _, _, _, _, _, _, _, _, _, _, _, _, _, _, _, _, _, _, _, _, _, _, _, _, _, _, _, _, _, _, _, _, _, _, _, _, _, _, _, _, _, _, _, _, _, _, _, hR, rfl⟩
          case measure => simp [intOf]; omega
        · obtain rfl : t = 64 := by omega
          have gR := hT.arr aR' (by omega)
          have hone := words_one hcs hcw
          have HCS := Lib.hid hcw
          clear hcw
          go_upto_region 14 with (fail)
          refine wp_region_lit (wpList_load_row rfl 105 (.tmp 3) rfl (w.heap.size + 1) rfl 105 cs (0, 0) _ aC Tryz.underlying105 rfl (by rw [hcs]; kernel_rfl) ?_)
          refine wpList_store_row rfl 105 (.tmp 2) (.tmp 64) rfl w.heap.size cs rfl rfl 105 Z gR (by rw [hcs]; kernel_rfl) (by rw [hZs, hcs]) hone ?_
          have gR2 := gR.setRow cs
          go_wp2_with fail
          refine bodyPost_ret (v := .agg cs) (results_cell_row rfl _ _ w.heap.size 105 _ (0, 0) _ rfl gR2 Tryz.underlying105 rfl (by rw [hcs]; kernel_rfl)) rfl ?_
          exact ⟨cs, rfl, hcs, HCS.out, below_setRow (hB.trans (hT.below (by omega) (by omega))) (Nat.le_refl _) cs⟩
end Go.Proofs.YtpimdbnhpbjlkaaGreatDoor.dg
