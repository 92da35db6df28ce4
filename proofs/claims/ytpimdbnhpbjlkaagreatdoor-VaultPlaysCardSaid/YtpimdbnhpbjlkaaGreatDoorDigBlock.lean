/-
  What the reference's block answers: the state behind a block.
-/
import Derived.Test.YtpimdbnhpbjlkaaGreatDoorDigTurn
import Derived.Test.YtpimdbnhpbjlkaaGreatDoorDigWords
import Derived.Test.YtpimdbnhpbjlkaaGreatDoorDigMem
import Derived.BigRegion
import Derived.Deep.QuietTactic
import Derived.BigQuiet
import Derived.Deep.RegionWith
import Derived.StillTailTactics
import Derived.Deep.RegionHeld3
namespace Go.Proofs.YtpimdbnhpbjlkaaGreatDoor.dg
open Go.RowKit

def stCells (s : St) : Array Value := #[.int .u32 s.a, .int .u32 s.b, .int .u32 s.c, .int .u32 s.d, .int .u32 s.e, .int .u32 s.f, .int .u32 s.g, .int .u32 s.h]

theorem addI (x y : Nat) : ((x : Int) + (y : Int)) % 4294967296 = ((add x y : Nat) : Int) := by unfold add; omega
theorem zeros {n : Nat} (j : Nat) (h : j < n) : (Array.replicate n (Value.int .u32 0))[j]? = some (.int .u32 0) := by
  rw [Array.getElem?_eq_getElem (by simpa using h)]; simp

/-- The first words: read of the block's bytes. -/
theorem bytes_word (m : List UInt8) (hm : m.length = 64) (t : Nat) (ht : t < 16) (w : World) (b off : Nat) (hc : ∀ i (h : i < m.length), w.cell? ⟨b, off + i, none⟩ = some (.int .u8 (m[i].toNat : Nat))) :
    w.cell? ⟨b, off + 4 * t, none⟩ = some (.int .u8 (byteAt m (4 * t))) ∧ w.cell? ⟨b, off + (4 * t + 1), none⟩ = some (.int .u8 (byteAt m (4 * t + 1))) ∧ w.cell? ⟨b, off + (4 * t + 2), none⟩ = some (.int .u8 (byteAt m (4 * t + 2))) ∧ w.cell? ⟨b, off + (4 * t + 3), none⟩ = some (.int .u8 (byteAt m (4 * t + 3))) := by
  have e : ∀ i (h : i < m.length), byteAt m i = m[i].toNat := fun i h => by
    unfold byteAt
    rw [List.getD_eq_getElem?_getD, List.getElem?_eq_getElem h]
    rfl
  refine ⟨?_, ?_, ?_, ?_⟩ <;> (rw [hc _ (by omega), e _ (by omega)])

theorem set_words {m : List UInt8} {cs : Array Value} {t : Nat} (hcs : cs.size = 64) (ht : t < 64) (h : ∀ j, j < t → cs[j]? = some (.int .u32 (wd m j))) :
    ∀ j, j < t + 1 → (cs.setIfInBounds t (.int .u32 (wd m t)))[j]? = some (.int .u32 (wd m j)) := by
  intro j hj
  by_cases he : j = t
  · subst he
    rw [Array.getElem?_setIfInBounds_self_of_lt (by omega)]
  · rw [Array.getElem?_setIfInBounds_ne (fun e => he e.symm)]
    exact h j (by omega)

set_option maxRecDepth 100000 in
set_option maxHeartbeats 4000000 in
theorem block_any (s : St) (hs : s.ok) (m : List UInt8) (hm : m.length = 64) (b off cap : Nat) (w : World) (hb : b < w.heap.size) (hc : ∀ i (h : i < m.length), w.cell? ⟨b, off + i, none⟩ = some (.int .u8 (m[i].toNat : Nat)))
    (K : Array Value) (hKc : ∀ t, t < 64 → K[t]? = some (.int .u32 (key t))) :
    Calls Tryz.prog 75 #[.agg (stCells s), .slice (some ⟨b, off, none⟩) 64 cap, .agg K] w fun e w' => e = .returned (.agg (stCells (press s m))) ∧ Below w.heap.size w w' := by
  have HK := Lib.hid hKc
  go_enter Tryz.func75, Tryz.ntmps75
  go_wp2_with fail
  obtain ⟨Z, hZ⟩ : ∃ Z : Array Value, Z = Array.replicate 64 (.int .u32 0) := ⟨_, rfl⟩
  obtain ⟨Y, hY⟩ : ∃ Y : Array Value, Y = Array.replicate 8 (.int .u32 0) := ⟨_, rfl⟩
  obtain ⟨W, hW⟩ : ∃ W, (((w.alloc (.cells (stCells s) 107)).alloc (.cells K 105)).alloc (.cells Y 107)).alloc (.cells Z 105) = W := ⟨_, rfl⟩
  have hsz : W.heap.size = w.heap.size + 4 := by rw [← hW]; simp
  have aX : Arr W w.heap.size 107 (stCells s) := by
    rw [← hW]; exact (((Arr.new w _ _).alloc _).alloc _).alloc _
  have aK : Arr W (w.heap.size + 1) 105 K := by
    rw [← hW]
    have h := Arr.new (w.alloc (.cells (stCells s) 107)) 105 K
    rw [World.size_alloc] at h
    exact (h.alloc _).alloc _
  have aR : Arr W (w.heap.size + 2) 107 Y := by
    rw [← hW]
    have h := Arr.new ((w.alloc (.cells (stCells s) 107)).alloc (.cells K 105)) 107 Y
    rw [World.size_alloc, World.size_alloc] at h
    exact h.alloc _
  have aW : Arr W (w.heap.size + 3) 105 Z := by
    rw [← hW]
    have h := Arr.new (((w.alloc (.cells (stCells s) 107)).alloc (.cells K 105)).alloc (.cells Y 107)) 105 Z
    rw [World.size_alloc, World.size_alloc, World.size_alloc] at h
    exact h
  have hB : Below w.heap.size w W := by
    rw [← hW]
    exact ((((Below.refl _ w).alloc (Nat.le_refl _) _).alloc (by simp) _).alloc (by simp; omega) _).alloc (by simp; omega) _
  have hcW : ∀ i (h : i < m.length), W.cell? ⟨b, off + i, none⟩ = some (.int .u8 (m[i].toNat : Nat)) := fun i h => (hB.cell (p := ⟨b, off + i, none⟩) hb).trans (hc i h)
  have hZs : Z.size = 64 := by rw [hZ]; simp
  have HY8 := Lib.hid hY
  have HY : Hid (∀ j, j < 8 → Y[j]? = some (.int .u32 0)) := by rw [hY]; exact fun j h => zeros j h
  change Code.wp _ _ _ _ ((((w.alloc (.cells (stCells s) 107)).alloc (.cells K 105)).alloc (.cells (Array.replicate 8 (.int .u32 0)) 107)).alloc (.cells (Array.replicate 64 (.int .u32 0)) 105))
  rw [← hZ, ← hY, hW]
  have HCW := Lib.hid hcW
  clear hZ hY hW hc hcW hKc
  have hbW : b < W.heap.size := by omega
  go_loopw [8] (fun i wr => ∃ (t : Nat) (cs : Array Value), i = .int .i64 t ∧ t ≤ 64 ∧ Arr wr (w.heap.size + 3) 105 cs ∧ cs.size = 64 ∧ (∀ j, j < t → cs[j]? = some (.int .u32 (wd m j))) ∧ Touch (w.heap.size + 3) W wr)
    (fun i _ => 64 - (intOf i).toNat)
  case atStart => exact ⟨0, Z, rfl, by omega, aW, hZs, (fun j h => absurd h (by omega)), Touch.refl _ _⟩
  case round =>
    obtain ⟨t, cs, rfl, ht, aC, hcs, hcw, hT⟩ := hrel
    by_cases hlt : t < 64
    · by_cases h16 : t < 16
      · obtain ⟨c0, c1, c2, c3⟩ := bytes_word m hm t h16 W b off HCW.out
        have d0 := (hT.cell (p := ⟨b, off + 4 * t, none⟩) hbW (by simp; omega)).trans c0
        have d1 := (hT.cell (p := ⟨b, off + (4 * t + 1), none⟩) hbW (by simp; omega)).trans c1
        have d2 := (hT.cell (p := ⟨b, off + (4 * t + 2), none⟩) hbW (by simp; omega)).trans c2
        have d3 := (hT.cell (p := ⟨b, off + (4 * t + 3), none⟩) hbW (by simp; omega)).trans c3
        have l0 := byteAt_lt m (4 * t)
        have l1 := byteAt_lt m (4 * t + 1)
        have l2 := byteAt_lt m (4 * t + 2)
        have l3 := byteAt_lt m (4 * t + 3)
        have hwd : Hid (wd m t = ((byteAt m (4 * t) * 256 + byteAt m (4 * t + 1)) * 256 + byteAt m (4 * t + 2)) * 256 + byteAt m (4 * t + 3)) := wd_small h16
        generalize byteAt m (4 * t) = x0 at *
        generalize byteAt m (4 * t + 1) = x1 at *
        generalize byteAt m (4 * t + 2) = x2 at *
        generalize byteAt m (4 * t + 3) = x3 at *
        obtain ⟨old, hold⟩ : ∃ old, cs[t]? = some old := ⟨_, Array.getElem?_eq_getElem (by omega)⟩
        have e1 := aC.cell hold
        have e2 := aC.frozen t
        have hti : (t : Int) < 16 := by omega
        have HCS := Lib.hid hcw
        clear c0 c1 c2 c3 hcw hold
        have hv : (x0 : Int) * 16777216 + (x1 : Int) * 65536 + (x2 : Int) * 256 + (x3 : Int) = ((wd m t : Nat) : Int) := by rw [hwd.out]; omega
        have HV := Lib.hid hv
        clear hv
        go_wp2
        go_region
        all_goals go_wp2
        all_goals rw [HV.out]
        all_goals go_roundw
        case rel => exact ⟨t + 1, cs.setIfInBounds t (.int .u32 (wd m t)), by go_num, by omega, aC.set t _, by simpa using hcs, set_words hcs hlt HCS.out, (hT.setCell t _).drew⟩
        case measure => simp [intOf]; omega
      · have hti : (16 : Int) ≤ (t : Int) := by omega
        have c15 := aC.cell (hcw (t - 15) (by omega))
        have c2 := aC.cell (hcw (t - 2) (by omega))
        have c7 := aC.cell (hcw (t - 7) (by omega))
        have c16 := aC.cell (hcw (t - 16) (by omega))
        have hwd : Hid (wd m t = add (add (add (low1 (wd m (t - 2))) (wd m (t - 7))) (low0 (wd m (t - 15)))) (wd m (t - 16))) := wd_big (by omega)
        have lP := wd_lt m (t - 15)
        have lQ := wd_lt m (t - 2)
        have lA := wd_lt m (t - 7)
        have lC := wd_lt m (t - 16)
        have HCS := Lib.hid hcw
        clear hcw
        generalize wd m (t - 15) = P at *
        generalize wd m (t - 2) = Q at *
        generalize wd m (t - 7) = A at *
        generalize wd m (t - 16) = C at *
        obtain ⟨old, hold⟩ : ∃ old, cs[t]? = some old := ⟨_, Array.getElem?_eq_getElem (by omega)⟩
        have e1 := aC.cell hold
        have e2 := aC.frozen t
        have h7a : (0 : Int) ≤ (t : Int) - 7 := by omega
        have h7b : (t : Int) - 7 < 64 := by omega
        have h16a : (0 : Int) ≤ (t : Int) - 16 := by omega
        have h16b : (t : Int) - 16 < 64 := by omega
        have h0b : (t : Int) < 64 := by omega
        have h7c : (7 : Int) ≤ (t : Int) := by omega
        have n7 : ((t : Int) - 7).toNat = t - 7 := by omega
        have n16 : ((t : Int) - 16).toNat = t - 16 := by omega
        have w7 : IntKind.i64.wrap ((t : Int) - 7) = (t : Int) - 7 := IntWalk.i64_in _ (by omega)
        have w16 : IntKind.i64.wrap ((t : Int) - 16) = (t : Int) - 16 := IntWalk.i64_in _ (by omega)
        have k17 : turnI (Q : Nat) 17 = (rot 17 Q : Nat) := turnI_eq Q 17
        have k19 : turnI (Q : Nat) 19 = (rot 19 Q : Nat) := turnI_eq Q 19
        have k7 : turnI (P : Nat) 7 = (rot 7 P : Nat) := turnI_eq P 7
        have k18 : turnI (P : Nat) 18 = (rot 18 P : Nat) := turnI_eq P 18
        have b17 := rot_lt (n := 17) lQ
        have b19 := rot_lt (n := 19) lQ
        have b7 := rot_lt (n := 7) lP
        have b18 := rot_lt (n := 18) lP
        have bq := shr_lt (n := 10) lQ
        have bp := shr_lt (n := 3) lP
        have kq : (Q : Int) / 1024 = ((shr 10 Q : Nat) : Int) := by unfold shr; simp
        have kp : (P : Int) / 8 = ((shr 3 P : Nat) : Int) := by unfold shr; simp
        have y1 := xor32 b17 b19
        have y2 := xor32 (xor_lt b17 b19) bq
        have y3 := xor32 b7 b18
        have y4 := xor32 (xor_lt b7 b18) bp
        have z2 := xor_lt (xor_lt b17 b19) bq
        have z4 := xor_lt (xor_lt b7 b18) bp
        have z1 := xor_lt b17 b19
        have z3 := xor_lt b7 b18
        unfold low1 low0 at hwd
        generalize rot 17 Q = r17 at *
        generalize rot 19 Q = r19 at *
        generalize rot 7 P = r7 at *
        generalize rot 18 P = r18 at *
        generalize shr 10 Q = q10 at *
        generalize shr 3 P = p3 at *
        generalize r17 ^^^ r19 = v1 at *
        generalize v1 ^^^ q10 = v2 at *
        generalize r7 ^^^ r18 = v3 at *
        generalize v3 ^^^ p3 = v4 at *
        have hv : (bits BinOp.xor IntKind.u32 (bits BinOp.xor IntKind.u32 (turnI (Q : Nat) 17) (turnI (Q : Nat) 19)) (q10 : Nat) + (A : Int) + bits BinOp.xor IntKind.u32 (bits BinOp.xor IntKind.u32 (turnI (P : Nat) 7) (turnI (P : Nat) 18)) (p3 : Nat) + (C : Int)) % 4294967296 = ((wd m t : Nat) : Int) := by
          rw [k17, k19, k7, k18, y1, y2, y3, y4, hwd.out]
          unfold add
          omega
        have HV := Lib.hid hv
        clear hv k17 k19 k7 k18 y1 y2 y3 y4
        clear hold
        have g7 : wr.drew.drew.cell? ⟨w.heap.size + 1 + 1 + 1, t - 7, none⟩ = some (.int .u32 A) := c7
        have g16 : wr.drew.drew.cell? ⟨w.heap.size + 1 + 1 + 1, t - 16, none⟩ = some (.int .u32 C) := c16
        have ge1 : wr.drew.drew.cell? ⟨w.heap.size + 1 + 1 + 1, t, none⟩ = some old := e1
        have ge2 : wr.drew.drew.frozen? ⟨w.heap.size + 1 + 1 + 1, t, none⟩ = false := e2
        have gA : Arr wr.drew.drew (w.heap.size + 3) 105 cs := aC
        have gT : Touch (w.heap.size + 3) W wr.drew.drew := hT.drew.drew
        clear c7 c16 e1 e2
        go_wp2
        go_region
        all_goals go_wp2_with fail
        refine wp_region_still_tail 29 (by kernel_rfl) (by kernel_rfl) ?_
        change wpStill _ _ wr.drew.drew (fun a' => wpList _ _ _ _ a' wr.drew.drew) _ _
        generalize wr.drew.drew = w3 at *
        simp only [List.take_succ_cons, List.take_zero, List.drop_succ_cons, List.drop_zero]
        repeat still_step
        still_call (turn_int _ _ (by omega) (by omega) (by omega) (by omega) _)
        repeat still_step
        still_call (turn_int _ _ (by omega) (by omega) (by omega) (by omega) _)
        repeat still_step
        still_call (turn_int _ _ (by omega) (by omega) (by omega) (by omega) _)
        repeat still_step
        still_call (turn_int _ _ (by omega) (by omega) (by omega) (by omega) _)
        repeat still_step
        try refine wpStill_nil ?_
        go_wp2
        rw [HV.out]
        go_roundw
        case rel => exact ⟨t + 1, cs.setIfInBounds t (.int .u32 (wd m t)), by go_num, by omega, gA.set t _, by simpa using hcs, set_words hcs hlt HCS.out, gT.setCell t _⟩
        case measure => simp [intOf]; omega
    · obtain rfl : t = 64 := by omega
      have gX := hT.arr aX (by omega)
      have gK := hT.arr aK (by omega)
      have gR := hT.arr aR (by omega)
      clear aX aK aR aW
      have x0 := gX.cell (j := 0) (v := .int .u32 s.a) rfl
      have x1 := gX.cell (j := 1) (v := .int .u32 s.b) rfl
      have x2 := gX.cell (j := 2) (v := .int .u32 s.c) rfl
      have x3 := gX.cell (j := 3) (v := .int .u32 s.d) rfl
      have x4 := gX.cell (j := 4) (v := .int .u32 s.e) rfl
      have x5 := gX.cell (j := 5) (v := .int .u32 s.f) rfl
      have x6 := gX.cell (j := 6) (v := .int .u32 s.g) rfl
      have x7 := gX.cell (j := 7) (v := .int .u32 s.h) rfl
      have HCS := Lib.hid hcw
      clear hcw
      go_wp2_with fail
      go_quiet (fail)
      go_wp2_with fail
      go_loopw [11, 12, 13, 14, 15, 16, 17, 18, 19] (fun va vb vc vd ve vf vg vh i wq => ∃ n : Nat, i = .int .i64 n ∧ n ≤ 64 ∧ va = .int .u32 (rounds m s n).a ∧ vb = .int .u32 (rounds m s n).b ∧ vc = .int .u32 (rounds m s n).c ∧ vd = .int .u32 (rounds m s n).d ∧ ve = .int .u32 (rounds m s n).e ∧ vf = .int .u32 (rounds m s n).f ∧ vg = .int .u32 (rounds m s n).g ∧ vh = .int .u32 (rounds m s n).h ∧
          Arr wq w.heap.size 107 (stCells s) ∧ Arr wq (w.heap.size + 1) 105 K ∧ Arr wq (w.heap.size + 2) 107 Y ∧ Arr wq (w.heap.size + 3) 105 cs ∧ Touch (w.heap.size + 3) W wq)
        (fun _ _ _ _ _ _ _ _ i _ => 64 - (intOf i).toNat)
      case atStart => exact ⟨0, rfl, by omega, rfl, rfl, rfl, rfl, rfl, rfl, rfl, rfl, gX, gK, gR, aC, hT.drewN _⟩
      case round =>
        clear x0 x1 x2 x3 x4 x5 x6 x7 gX gK gR aC hT
        obtain ⟨n, rfl, hn, rfl, rfl, rfl, rfl, rfl, rfl, rfl, rfl, gX, gK, gR, gC, hT⟩ := hrel
        have hok := rounds_ok m hs n
        by_cases hlt : n < 64
        · have hr : Hid (rounds m s (n + 1) = round (rounds m s n) (key n) (wd m n)) := rfl
          have ck := gK.cell (HK.out n hlt)
          have cw := gC.cell (HCS.out n hlt)
          have lk := key_lt n
          have lw := wd_lt m n
          generalize key n = k at *
          generalize wd m n = x at *
          generalize rounds m s n = z at *
          obtain ⟨a, b', c, d, e, f, g, hh⟩ := z
          obtain ⟨la, lb, lc, ld, le, lf, lg, lh⟩ := hok
          simp only at *
          have h0b : (n : Int) < 64 := by omega
          go_wp2_with fail
          go_quiet (first | (go_at_call 88; refine Calls.quiet_of_same (turn_int _ _ ?_ ?_ ?_ ?_ _) <;> omega))
          have v1 : turnI (e : Nat) 6 = (rot 6 e : Nat) := turnI_eq e 6
          have v2 : turnI (e : Nat) 11 = (rot 11 e : Nat) := turnI_eq e 11
          have v3 : turnI (e : Nat) 25 = (rot 25 e : Nat) := turnI_eq e 25
          have hT1 : (((hh : Int) + bits BinOp.xor IntKind.u32 (bits BinOp.xor IntKind.u32 (turnI (e : Nat) 6) (turnI (e : Nat) 11)) (turnI (e : Nat) 25) + bits BinOp.xor IntKind.u32 (bits BinOp.and IntKind.u32 (e : Nat) (f : Nat)) (bits BinOp.and IntKind.u32 (bits BinOp.xor IntKind.u32 (if IntKind.u32.signed = true then -1 else IntKind.u32.max) (e : Nat)) (g : Nat)) + (k : Int)) % 4294967296 + (x : Int)) % 4294967296 = ((one ⟨a, b', c, d, e, f, g, hh⟩ k x : Nat) : Int) := by
            have w1 : (if IntKind.u32.signed = true then (-1 : Int) else IntKind.u32.max) = IntKind.u32.max := rfl
            rw [v1, v2, v3, xor32 (rot_lt le) (rot_lt le), xor32 (xor_lt (rot_lt le) (rot_lt le)) (rot_lt le), w1, not32 le, and32 le lf, and32 (by omega) lg, xor32 (and_lt lf) (and_lt lg)]
            unfold one add big1 pick
            simp only
            omega
          rw [hT1]
          clear hT1 v1 v2 v3
          have lT := add_lt (add (add (add hh (big1 e)) (pick e f g)) k) x
          obtain ⟨T1, hT1d⟩ : ∃ T1, T1 = one ⟨a, b', c, d, e, f, g, hh⟩ k x := ⟨_, rfl⟩
          have lT1 : T1 < 4294967296 := by rw [hT1d]; exact lT
          rw [← hT1d]
          have HT1 := Lib.hid hT1d
          clear hT1d lT
          go_wp2_with (go_at_call 88; refine (turn_int _ _ (by omega) (by omega) (by omega) (by omega) _).mono ?_; rintro e w' ⟨rfl, rfl⟩)
          have v1 : turnI (a : Nat) 2 = (rot 2 a : Nat) := turnI_eq a 2
          have v2 : turnI (a : Nat) 13 = (rot 13 a : Nat) := turnI_eq a 13
          have v3 : turnI (a : Nat) 22 = (rot 22 a : Nat) := turnI_eq a 22
          have hA : ((T1 : Int) + (bits BinOp.xor IntKind.u32 (bits BinOp.xor IntKind.u32 (turnI (a : Nat) 2) (turnI (a : Nat) 13)) (turnI (a : Nat) 22) + bits BinOp.xor IntKind.u32 (bits BinOp.xor IntKind.u32 (bits BinOp.and IntKind.u32 (a : Nat) (b' : Nat)) (bits BinOp.and IntKind.u32 (a : Nat) (c : Nat))) (bits BinOp.and IntKind.u32 (b' : Nat) (c : Nat)))) % 4294967296 = ((round ⟨a, b', c, d, e, f, g, hh⟩ k x).a : Nat) := by
            rw [v1, v2, v3, xor32 (rot_lt la) (rot_lt la), xor32 (xor_lt (rot_lt la) (rot_lt la)) (rot_lt la), and32 la lb, and32 la lc, and32 lb lc, xor32 (and_lt lb) (and_lt lc), xor32 (xor_lt (and_lt lb) (and_lt lc)) (and_lt lc), HT1.out]
            unfold round two add big0 most
            simp only
            omega
          have hE : ((d : Int) + (T1 : Int)) % 4294967296 = ((round ⟨a, b', c, d, e, f, g, hh⟩ k x).e : Nat) := by
            rw [HT1.out]
            unfold round add
            simp only
            omega
          rw [hA, hE]
          refine ⟨⟨_, _, _, _, _, _, _, _, _, ⟨n + 1, rfl, by omega, rfl, rfl, rfl, rfl, rfl, rfl, rfl, rfl, gX, gK, gR, gC, hT.drewN _⟩, ?_, ?_, ?_, ?_, ?_, ?_, ?_, ?_, by go_num⟩, by simp [intOf]; omega⟩ <;> (rw [hr.out]; try rfl)
        · obtain rfl : n = 64 := by omega
          have x0 := gX.cell (j := 0) (v := .int .u32 s.a) rfl
          have x1 := gX.cell (j := 1) (v := .int .u32 s.b) rfl
          have x2 := gX.cell (j := 2) (v := .int .u32 s.c) rfl
          have x3 := gX.cell (j := 3) (v := .int .u32 s.d) rfl
          have x4 := gX.cell (j := 4) (v := .int .u32 s.e) rfl
          have x5 := gX.cell (j := 5) (v := .int .u32 s.f) rfl
          have x6 := gX.cell (j := 6) (v := .int .u32 s.g) rfl
          have x7 := gX.cell (j := 7) (v := .int .u32 s.h) rfl
          have y0 : wr.cell? ⟨w.heap.size + 1 + 1, 0, none⟩ = some (.int .u32 0) := gR.cell (HY.out 0 (by omega))
          have z0 : wr.frozen? ⟨w.heap.size + 1 + 1, 0, none⟩ = false := gR.frozen 0
          have y1 : wr.cell? ⟨w.heap.size + 1 + 1, 1, none⟩ = some (.int .u32 0) := gR.cell (HY.out 1 (by omega))
          have z1 : wr.frozen? ⟨w.heap.size + 1 + 1, 1, none⟩ = false := gR.frozen 1
          have y2 : wr.cell? ⟨w.heap.size + 1 + 1, 2, none⟩ = some (.int .u32 0) := gR.cell (HY.out 2 (by omega))
          have z2 : wr.frozen? ⟨w.heap.size + 1 + 1, 2, none⟩ = false := gR.frozen 2
          have y3 : wr.cell? ⟨w.heap.size + 1 + 1, 3, none⟩ = some (.int .u32 0) := gR.cell (HY.out 3 (by omega))
          have z3 : wr.frozen? ⟨w.heap.size + 1 + 1, 3, none⟩ = false := gR.frozen 3
          have y4 : wr.cell? ⟨w.heap.size + 1 + 1, 4, none⟩ = some (.int .u32 0) := gR.cell (HY.out 4 (by omega))
          have z4 : wr.frozen? ⟨w.heap.size + 1 + 1, 4, none⟩ = false := gR.frozen 4
          have y5 : wr.cell? ⟨w.heap.size + 1 + 1, 5, none⟩ = some (.int .u32 0) := gR.cell (HY.out 5 (by omega))
          have z5 : wr.frozen? ⟨w.heap.size + 1 + 1, 5, none⟩ = false := gR.frozen 5
          have y6 : wr.cell? ⟨w.heap.size + 1 + 1, 6, none⟩ = some (.int .u32 0) := gR.cell (HY.out 6 (by omega))
          have z6 : wr.frozen? ⟨w.heap.size + 1 + 1, 6, none⟩ = false := gR.frozen 6
          have y7 : wr.cell? ⟨w.heap.size + 1 + 1, 7, none⟩ = some (.int .u32 0) := gR.cell (HY.out 7 (by omega))
          have z7 : wr.frozen? ⟨w.heap.size + 1 + 1, 7, none⟩ = false := gR.frozen 7
          have hfb := (hB.trans (hT.below (by omega) (by omega)))
          clear gX gK gC
          have HGR := Lib.hid gR
          clear gR
          go_wp2
          have gR := HGR.out
          simp only [addI]
          have hrow := ((((((((gR.set 0 (.int .u32 (add s.a (rounds m s 64).a : Nat))).set 1 (.int .u32 (add s.b (rounds m s 64).b : Nat))).set 2 (.int .u32 (add s.c (rounds m s 64).c : Nat))).set 3 (.int .u32 (add s.d (rounds m s 64).d : Nat))).set 4 (.int .u32 (add s.e (rounds m s 64).e : Nat))).set 5 (.int .u32 (add s.f (rounds m s 64).f : Nat))).set 6 (.int .u32 (add s.g (rounds m s 64).g : Nat))).set 7 (.int .u32 (add s.h (rounds m s 64).h : Nat)))
          have hcs8 : (((((((((Y.setIfInBounds 0 (.int .u32 (add s.a (rounds m s 64).a : Nat))).setIfInBounds 1 (.int .u32 (add s.b (rounds m s 64).b : Nat))).setIfInBounds 2 (.int .u32 (add s.c (rounds m s 64).c : Nat))).setIfInBounds 3 (.int .u32 (add s.d (rounds m s 64).d : Nat))).setIfInBounds 4 (.int .u32 (add s.e (rounds m s 64).e : Nat))).setIfInBounds 5 (.int .u32 (add s.f (rounds m s 64).f : Nat))).setIfInBounds 6 (.int .u32 (add s.g (rounds m s 64).g : Nat))).setIfInBounds 7 (.int .u32 (add s.h (rounds m s 64).h : Nat)))) = stCells (press s m) := by
            rw [HY8.out]
            rfl
          rw [hcs8] at hrow
          refine bodyPost_ret (v := .agg (stCells (press s m))) (results_cell_row rfl _ _ (w.heap.size + 2) 107 _ (0, 0) _ rfl hrow Tryz.underlying107 rfl (by kernel_rfl)) rfl ?_
          exact ⟨rfl, ((((((((hfb.setCell (p := ⟨w.heap.size + 1 + 1, 0, none⟩) (by simp; omega) (.int .u32 (add s.a (rounds m s 64).a : Nat))).setCell (p := ⟨w.heap.size + 1 + 1, 1, none⟩) (by simp; omega) (.int .u32 (add s.b (rounds m s 64).b : Nat))).setCell (p := ⟨w.heap.size + 1 + 1, 2, none⟩) (by simp; omega) (.int .u32 (add s.c (rounds m s 64).c : Nat))).setCell (p := ⟨w.heap.size + 1 + 1, 3, none⟩) (by simp; omega) (.int .u32 (add s.d (rounds m s 64).d : Nat))).setCell (p := ⟨w.heap.size + 1 + 1, 4, none⟩) (by simp; omega) (.int .u32 (add s.e (rounds m s 64).e : Nat))).setCell (p := ⟨w.heap.size + 1 + 1, 5, none⟩) (by simp; omega) (.int .u32 (add s.f (rounds m s 64).f : Nat))).setCell (p := ⟨w.heap.size + 1 + 1, 6, none⟩) (by simp; omega) (.int .u32 (add s.g (rounds m s 64).g : Nat))).setCell (p := ⟨w.heap.size + 1 + 1, 7, none⟩) (by simp; omega) (.int .u32 (add s.h (rounds m s 64).h : Nat)))⟩
end Go.Proofs.YtpimdbnhpbjlkaaGreatDoor.dg
