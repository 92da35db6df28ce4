/-
  What the program's mix answers: the state behind a block.
-/
import Derived.Test.YtpimdbnhpbjlkaaGreatDoorDigSpread
namespace Go.Proofs.YtpimdbnhpbjlkaaGreatDoor.dg
open Go.RowKit

/-- The table of the program's constants reads as it is laid. -/
def Keys (w : World) : Prop := ∀ t, t < 64 → w.cell? ⟨0, t, none⟩ = some (.int .u32 (key t : Nat))
theorem Keys.pos {w : World} (h : Keys w) : 0 < w.heap.size := World.block_lt_of_cell? _ _ (h 0 (by omega))
theorem Keys.below {B : Nat} {w w' : World} (h : Keys w) (hb : Below B w w') (hB : 0 < B) : Keys w' := fun t ht => (World.cell?_of_block (w := w) (a := ⟨0, t, none⟩) (hb.block 0 hB)).trans (h t ht)
theorem Keys.drew {w : World} (h : Keys w) : Keys w.drew := h
theorem Keys.drewN {w : World} (h : Keys w) (n : Nat) : Keys (w.drewN n) := h

/-- The state's cells, of which the first k are summed. -/
def part (s t : St) (k : Nat) : Array Value := #[.int .u32 (if 0 < k then add s.a t.a else s.a : Nat), .int .u32 (if 1 < k then add s.b t.b else s.b : Nat), .int .u32 (if 2 < k then add s.c t.c else s.c : Nat), .int .u32 (if 3 < k then add s.d t.d else s.d : Nat), .int .u32 (if 4 < k then add s.e t.e else s.e : Nat), .int .u32 (if 5 < k then add s.f t.f else s.f : Nat), .int .u32 (if 6 < k then add s.g t.g else s.g : Nat), .int .u32 (if 7 < k then add s.h t.h else s.h : Nat)]
theorem stCells_one (s : St) : (stCells s).all (·.oneCell') = true := by simp [stCells, Value.oneCell']
theorem part_zero (s t : St) : part s t 0 = stCells s := rfl
theorem part_get0 (s t : St) : (part s t 0)[0]? = some (.int .u32 (s.a : Nat)) := by simp [part]
theorem part_set0 (s t : St) : (part s t 0).setIfInBounds 0 (.int .u32 (add s.a t.a : Nat)) = part s t 1 := by simp [part]
theorem part_get1 (s t : St) : (part s t 1)[1]? = some (.int .u32 (s.b : Nat)) := by simp [part]
theorem part_set1 (s t : St) : (part s t 1).setIfInBounds 1 (.int .u32 (add s.b t.b : Nat)) = part s t 2 := by simp [part]
theorem part_get2 (s t : St) : (part s t 2)[2]? = some (.int .u32 (s.c : Nat)) := by simp [part]
theorem part_set2 (s t : St) : (part s t 2).setIfInBounds 2 (.int .u32 (add s.c t.c : Nat)) = part s t 3 := by simp [part]
theorem part_get3 (s t : St) : (part s t 3)[3]? = some (.int .u32 (s.d : Nat)) := by simp [part]
theorem part_set3 (s t : St) : (part s t 3).setIfInBounds 3 (.int .u32 (add s.d t.d : Nat)) = part s t 4 := by simp [part]
theorem part_get4 (s t : St) : (part s t 4)[4]? = some (.int .u32 (s.e : Nat)) := by simp [part]
theorem part_set4 (s t : St) : (part s t 4).setIfInBounds 4 (.int .u32 (add s.e t.e : Nat)) = part s t 5 := by simp [part]
theorem part_get5 (s t : St) : (part s t 5)[5]? = some (.int .u32 (s.f : Nat)) := by simp [part]
theorem part_set5 (s t : St) : (part s t 5).setIfInBounds 5 (.int .u32 (add s.f t.f : Nat)) = part s t 6 := by simp [part]
theorem part_get6 (s t : St) : (part s t 6)[6]? = some (.int .u32 (s.g : Nat)) := by simp [part]
theorem part_set6 (s t : St) : (part s t 6).setIfInBounds 6 (.int .u32 (add s.g t.g : Nat)) = part s t 7 := by simp [part]
theorem part_get7 (s t : St) : (part s t 7)[7]? = some (.int .u32 (s.h : Nat)) := by simp [part]
theorem part_set7 (s t : St) : (part s t 7).setIfInBounds 7 (.int .u32 (add s.h t.h : Nat)) = part s t 8 := by simp [part]
theorem part_last (s t : St) : part s t 8 = stCells ⟨add s.a t.a, add s.b t.b, add s.c t.c, add s.d t.d, add s.e t.e, add s.f t.f, add s.g t.g, add s.h t.h⟩ := rfl
theorem part_end (m : List UInt8) (s : St) : part s (rounds m s 64) 8 = stCells (press s m) := by
  rw [part_last]
  unfold press
  rfl

set_option maxRecDepth 100000 in
set_option maxHeartbeats 4000000 in
theorem mix_any (s : St) (hs : s.ok) (m : List UInt8) (hm : m.length = 64) (w : World) (hK : Keys w) :
    Calls Tryz.prog 76 #[.agg (stCells s), .string (S m)] w fun e w' => e = .returned (.agg (stCells (press s m))) ∧ Below w.heap.size w w' := by
  have hpos := hK.pos
  go_enter Tryz.func76, Tryz.ntmps76
  go_wp2_with fail
  refine (spread_any m hm _).mono ?_
  rintro e w2 ⟨cs, rfl, hcs, hcw, hb2⟩
  obtain ⟨Y, hY⟩ : ∃ Y : Array Value, Y = #[.int .u32 0, .int .u32 0, .int .u32 0, .int .u32 0, .int .u32 0, .int .u32 0, .int .u32 0, .int .u32 0] := ⟨_, rfl⟩
  rw [← hY] at hb2
  have hY8 : Y.size = 8 := by rw [hY]; rfl
  have hb1 : Below w.heap.size w ((w.alloc (.cells (stCells s) 107)).alloc (.cells Y 107)) := ((Below.refl _ w).alloc (Nat.le_refl _) _).alloc (by simp) _
  have aS1 : Arr ((w.alloc (.cells (stCells s) 107)).alloc (.cells Y 107)) w.heap.size 107 (stCells s) := (Arr.new w _ _).alloc _
  have aR1 : Arr ((w.alloc (.cells (stCells s) 107)).alloc (.cells Y 107)) (w.heap.size + 1) 107 Y := by
    have h := Arr.new (w.alloc (.cells (stCells s) 107)) 107 Y
    rw [World.size_alloc] at h
    exact h
  have hs1 : ((w.alloc (.cells (stCells s) 107)).alloc (.cells Y 107)).heap.size = w.heap.size + 2 := by simp
  clear hY
  generalize ((w.alloc (.cells (stCells s) 107)).alloc (.cells Y 107)) = W1 at *
  have hbw : Below w.heap.size w w2 := hb1.trans (hb2.mono (by omega))
  have aS2 : Arr w2 w.heap.size 107 (stCells s) := (hb2.block _ aS1.lt).trans aS1
  have aR2 : Arr w2 (w.heap.size + 1) 107 Y := (hb2.block _ aR1.lt).trans aR1
  have hs2 := hb2.size
  rw [hs1] at hs2
  have hone := words_one hcs hcw
  have HCS := Lib.hid hcw
  clear hb1 hb2 aS1 aR1 hs1 hcw
  go_upto_region 2 with (first | (refine wpList_store_row rfl 105 (.tmp 5) (.tmp 20) rfl w2.heap.size cs rfl rfl 105 _ (heap_alloc_new w2 _) (by rw [hcs]; kernel_rfl) (by rw [hcs]; kernel_rfl) hone ?_; rw [World.setRow_alloc_new]))
  have aS := aS2.alloc (.cells cs 105)
  have aR := aR2.alloc (.cells cs 105)
  have aW := Arr.new w2 105 cs
  have hb := hbw.alloc (by omega) (.cells cs 105)
  have hsz : (w2.alloc (.cells cs 105)).heap.size = w2.heap.size + 1 := by simp
  generalize w2.alloc (.cells cs 105) = w3 at *
  clear aS2 aR2 hbw hone
  generalize w2.heap.size = bw at *
  have x0 := aS.cell (j := 0) (v := .int .u32 s.a) rfl
  have x1 := aS.cell (j := 1) (v := .int .u32 s.b) rfl
  have x2 := aS.cell (j := 2) (v := .int .u32 s.c) rfl
  have x3 := aS.cell (j := 3) (v := .int .u32 s.d) rfl
  have x4 := aS.cell (j := 4) (v := .int .u32 s.e) rfl
  have x5 := aS.cell (j := 5) (v := .int .u32 s.f) rfl
  have x6 := aS.cell (j := 6) (v := .int .u32 s.g) rfl
  have x7 := aS.cell (j := 7) (v := .int .u32 s.h) rfl
  go_wp2_with fail
  go_quiet (fail)
  go_wp2_with fail
  replace aS := aS.drewN nq
  replace aR := aR.drewN nq
  replace aW := aW.drewN nq
  replace hb := below_drewN hb nq
  replace hsz : (w3.drewN nq).heap.size = bw + 1 := hsz
  clear x0 x1 x2 x3 x4 x5 x6 x7
  generalize w3.drewN nq = w4 at *
  clear w3
  have x4 := aS.cell (j := 4) (v := .int .u32 s.e) rfl
  have x5 := aS.cell (j := 5) (v := .int .u32 s.f) rfl
  have x6 := aS.cell (j := 6) (v := .int .u32 s.g) rfl
  have x7 := aS.cell (j := 7) (v := .int .u32 s.h) rfl
  go_quiet (fail)
  go_wp2_with fail
  clear x4 x5 x6 x7
  replace aS := aS.drewN nq
  replace aR := aR.drewN nq
  replace aW := aW.drewN nq
  replace hb := below_drewN hb nq
  replace hsz : (w4.drewN nq).heap.size = bw + 1 := hsz
  generalize w4.drewN nq = w5 at *
  have hKs : Keys w5 := hK.below hb hpos
  go_loopw [6, 7, 8, 9, 10, 11, 12, 13, 37] (fun va vb vc vd ve vf vg vh i wq => ∃ n : Nat, i = .int .i64 n ∧ n ≤ 64 ∧ va = .int .u32 (rounds m s n).a ∧ vb = .int .u32 (rounds m s n).b ∧ vc = .int .u32 (rounds m s n).c ∧ vd = .int .u32 (rounds m s n).d ∧ ve = .int .u32 (rounds m s n).e ∧ vf = .int .u32 (rounds m s n).f ∧ vg = .int .u32 (rounds m s n).g ∧ vh = .int .u32 (rounds m s n).h ∧
      ∃ q, wq = w5.drewN q)
    (fun _ _ _ _ _ _ _ _ i _ => 64 - (intOf i).toNat)
  case atStart => exact ⟨0, rfl, by omega, rfl, rfl, rfl, rfl, rfl, rfl, rfl, rfl, 0, rfl⟩
  case round =>
    obtain ⟨n, rfl, hn, rfl, rfl, rfl, rfl, rfl, rfl, rfl, rfl, q, rfl⟩ := hrel
    replace aS := aS.drewN q
    replace aR := aR.drewN q
    replace aW := aW.drewN q
    replace hb := below_drewN hb q
    replace hKs := hKs.drewN q
    have hw6 : ∀ k, (w5.drewN q).drewN k = w5.drewN (q + k) := fun k => by simp
    have HW6 := Lib.hid hw6
    have hsz6 : (w5.drewN q).heap.size = bw + 1 := hsz
    clear hw6 hsz
    generalize hw5 : w5.drewN q = w6 at *
    have HW5 := Lib.hid hw5
    clear hw5
    have hok := rounds_ok m hs n
    by_cases hlt : n < 64
    · have hr : Hid (rounds m s (n + 1) = round (rounds m s n) (key n) (wd m n)) := rfl
      have ck := hKs n hlt
      have cw := aW.cell (HCS.out n hlt)
      have lk := key_lt n
      have lw := wd_lt m n
      generalize key n = k at *
      generalize wd m n = x at *
      generalize rounds m s n = z at *
      obtain ⟨a, b', c, d, e, f, g, hh⟩ := z
      obtain ⟨la, lb, lc, ld, le, lf, lg, lh⟩ := hok
      simp only at *
      have h0b : (n : Int) < 64 := by omega
      have HKS := Lib.hid hKs
      clear hKs
      go_wp2_with fail
      go_quiet (first | (go_at_call 90; refine Calls.quiet_of_same (right_int _ _ ?_ ?_ ?_ ?_ _) <;> omega))
      have v1 : turnI (e : Nat) 6 = (rot 6 e : Nat) := turnI_eq e 6
      have v2 : turnI (e : Nat) 11 = (rot 11 e : Nat) := turnI_eq e 11
      have v3 : turnI (e : Nat) 25 = (rot 25 e : Nat) := turnI_eq e 25
      have hT1 : (((hh : Int) + bits BinOp.xor IntKind.u32 (bits BinOp.xor IntKind.u32 (turnI (e : Nat) 6) (turnI (e : Nat) 11)) (turnI (e : Nat) 25) + bits BinOp.xor IntKind.u32 (bits BinOp.and IntKind.u32 (e : Nat) (f : Nat)) (bits BinOp.and IntKind.u32 (bits BinOp.xor IntKind.u32 (if IntKind.u32.signed = true then -1 else IntKind.u32.max) (e : Nat)) (g : Nat)) + (k : Int)) % 4294967296 + (x : Int)) % 4294967296 = ((one ⟨a, b', c, d, e, f, g, hh⟩ k x : Nat) : Int) := by
        have w1 : (if IntKind.u32.signed = true then (-1 : Int) else IntKind.u32.max) = IntKind.u32.max := rfl
        rw [v1, v2, v3, xor32 (rot_lt le) (rot_lt le), xor32 (xor_lt (rot_lt le) (rot_lt le)) (rot_lt le), w1, not32 le, and32 le lf, and32 (by omega) lg, xor32 (and_lt lf) (and_lt lg)]
        unfold one add big1 pick
        simp only
        omega
      rw [hT1]
      clear hT1 v1 v2 v3
      have lT := add_lt (add (add (add hh (big1 e)) (pick e f g)) k) x
      obtain ⟨T1, hT1d⟩ : ∃ T1, T1 = one ⟨a, b', c, d, e, f, g, hh⟩ k x := ⟨_, rfl⟩
      have lT1 : T1 < 4294967296 := by rw [hT1d]; exact lT
      rw [← hT1d]
      have HT1 := Lib.hid hT1d
      clear hT1d lT
      have hT2 : (bits BinOp.xor IntKind.u32 (bits BinOp.xor IntKind.u32 (turnI (a : Nat) 2) (turnI (a : Nat) 13)) (turnI (a : Nat) 22) + bits BinOp.xor IntKind.u32 (bits BinOp.xor IntKind.u32 (bits BinOp.and IntKind.u32 (a : Nat) (b' : Nat)) (bits BinOp.and IntKind.u32 (a : Nat) (c : Nat))) (bits BinOp.and IntKind.u32 (b' : Nat) (c : Nat))) % 4294967296 = ((two ⟨a, b', c, d, e, f, g, hh⟩ : Nat) : Int) := by
        have v1 : turnI (a : Nat) 2 = (rot 2 a : Nat) := turnI_eq a 2
        have v2 : turnI (a : Nat) 13 = (rot 13 a : Nat) := turnI_eq a 13
        have v3 : turnI (a : Nat) 22 = (rot 22 a : Nat) := turnI_eq a 22
        rw [v1, v2, v3, xor32 (rot_lt la) (rot_lt la), xor32 (xor_lt (rot_lt la) (rot_lt la)) (rot_lt la), and32 la lb, and32 la lc, and32 lb lc, xor32 (and_lt lb) (and_lt lc), xor32 (xor_lt (and_lt lb) (and_lt lc)) (and_lt lc)]
        unfold two add big0 most
        simp only
        omega
      have HT2 := Lib.hid hT2
      clear hT2
      go_upto_region 9 with (go_at_call 90; refine (right_int _ _ (by omega) (by omega) (by omega) (by omega) _).mono ?_; rintro e w' ⟨rfl, rfl⟩)
      rw [HT2.out]
      have lT2 : two ⟨a, b', c, d, e, f, g, hh⟩ < 4294967296 := add_lt _ _
      obtain ⟨T2, hT2d⟩ : ∃ T2, T2 = two ⟨a, b', c, d, e, f, g, hh⟩ := ⟨_, rfl⟩
      rw [← hT2d] at lT2 ⊢
      have HT2d := Lib.hid hT2d
      clear hT2d
      go_wp2_with fail
      have hA : ((T1 : Int) + (T2 : Int)) % 4294967296 = ((round ⟨a, b', c, d, e, f, g, hh⟩ k x).a : Nat) := by
        rw [HT1.out, HT2d.out]
        unfold round add
        simp only
        omega
      have hE : ((d : Int) + (T1 : Int)) % 4294967296 = ((round ⟨a, b', c, d, e, f, g, hh⟩ k x).e : Nat) := by
        rw [HT1.out]
        unfold round add
        simp only
        omega
      rw [hA, hE]
      obtain ⟨fa, ha⟩ : ∃ y, y = (rounds m s (n + 1)).a := ⟨_, rfl⟩
      obtain ⟨fe, he⟩ : ∃ y, y = (rounds m s (n + 1)).e := ⟨_, rfl⟩
      have hb1 : a = (rounds m s (n + 1)).b := by rw [hr.out]; rfl
      have hc1 : b' = (rounds m s (n + 1)).c := by rw [hr.out]; rfl
      have hd1 : c = (rounds m s (n + 1)).d := by rw [hr.out]; rfl
      have hf1 : e = (rounds m s (n + 1)).f := by rw [hr.out]; rfl
      have hg1 : f = (rounds m s (n + 1)).g := by rw [hr.out]; rfl
      have hh1 : g = (rounds m s (n + 1)).h := by rw [hr.out]; rfl
      rw [← hr.out, ← ha, ← he]
      exact ⟨⟨n + 1, by go_num, by omega, by rw [ha], by rw [hb1], by rw [hc1], by rw [hd1], by rw [he], by rw [hf1], by rw [hg1], by rw [hh1], q + nq, HW6.out nq⟩, by simp [intOf]; omega⟩
    · obtain rfl : n = 64 := by omega
      clear HW6 HW5 hok
      go_wp2_with fail
      generalize hz : rounds m s 64 = z at *
      obtain ⟨la, lb, lc, ld, le, lf, lg, lh⟩ := rounds_ok m hs 64
      rw [hz] at la lb lc ld le lf lg lh
      have HZ := Lib.hid hz
      clear hz
      go_upto_region 11 with (fail)
      go_wp2_with fail
      go_loopw [109] (fun i wq => ∃ n : Nat, i = .int .i64 n ∧ n ≤ 8 ∧ Arr wq w.heap.size 107 (part s z n) ∧ Touch w.heap.size w6 wq)
        (fun i _ => 8 - (intOf i).toNat)
      case atStart => exact ⟨0, rfl, by omega, aS, Touch.refl _ _⟩
      case round =>
        clear aS
        obtain ⟨n, rfl, hn, aS, hT⟩ := hrel
        by_cases hlt : n < 8
        · have h8 : n = 0 ∨ n = 1 ∨ n = 2 ∨ n = 3 ∨ n = 4 ∨ n = 5 ∨ n = 6 ∨ n = 7 := by omega
          obtain rfl | rfl | rfl | rfl | rfl | rfl | rfl | rfl := h8
          · have e1 := aS.cell (part_get0 s z)
            have e2 := aS.frozen 0
            have e3 : ∀ w : World, (Instr.index 107 (.agg #[.int .u32 (z.a : Nat), .int .u32 (z.b : Nat), .int .u32 (z.c : Nat), .int .u32 (z.d : Nat), .int .u32 (z.e : Nat), .int .u32 (z.f : Nat), .int .u32 (z.g : Nat), .int .u32 (z.h : Nat)]) (.int .i64 0)).run Tryz.prog w = .ok (.int .u32 (z.a : Nat)) w := fun _ => by kernel_rfl
            go_wp2_with fail
            go_roundw
            case rel =>
              have hst := aS.set 0 (.int .u32 (add s.a z.a : Nat))
              have hTt := hT.setCell 0 (.int .u32 (add s.a z.a : Nat))
              rw [part_set0] at hst
              rw [addI]
              exact ⟨1, rfl, by omega, hst, hTt⟩
            case measure => simp [intOf]
          · have e1 := aS.cell (part_get1 s z)
            have e2 := aS.frozen 1
            have e3 : ∀ w : World, (Instr.index 107 (.agg #[.int .u32 (z.a : Nat), .int .u32 (z.b : Nat), .int .u32 (z.c : Nat), .int .u32 (z.d : Nat), .int .u32 (z.e : Nat), .int .u32 (z.f : Nat), .int .u32 (z.g : Nat), .int .u32 (z.h : Nat)]) (.int .i64 1)).run Tryz.prog w = .ok (.int .u32 (z.b : Nat)) w := fun _ => by kernel_rfl
            go_wp2_with fail
            go_roundw
            case rel =>
              have hst := aS.set 1 (.int .u32 (add s.b z.b : Nat))
              have hTt := hT.setCell 1 (.int .u32 (add s.b z.b : Nat))
              rw [part_set1] at hst
              rw [addI]
              exact ⟨2, rfl, by omega, hst, hTt⟩
            case measure => simp [intOf]
          · have e1 := aS.cell (part_get2 s z)
            have e2 := aS.frozen 2
            have e3 : ∀ w : World, (Instr.index 107 (.agg #[.int .u32 (z.a : Nat), .int .u32 (z.b : Nat), .int .u32 (z.c : Nat), .int .u32 (z.d : Nat), .int .u32 (z.e : Nat), .int .u32 (z.f : Nat), .int .u32 (z.g : Nat), .int .u32 (z.h : Nat)]) (.int .i64 2)).run Tryz.prog w = .ok (.int .u32 (z.c : Nat)) w := fun _ => by kernel_rfl
            go_wp2_with fail
            go_roundw
            case rel =>
              have hst := aS.set 2 (.int .u32 (add s.c z.c : Nat))
              have hTt := hT.setCell 2 (.int .u32 (add s.c z.c : Nat))
              rw [part_set2] at hst
              rw [addI]
              exact ⟨3, rfl, by omega, hst, hTt⟩
            case measure => simp [intOf]
          · have e1 := aS.cell (part_get3 s z)
            have e2 := aS.frozen 3
            have e3 : ∀ w : World, (Instr.index 107 (.agg #[.int .u32 (z.a : Nat), .int .u32 (z.b : Nat), .int .u32 (z.c : Nat), .int .u32 (z.d : Nat), .int .u32 (z.e : Nat), .int .u32 (z.f : Nat), .int .u32 (z.g : Nat), .int .u32 (z.h : Nat)]) (.int .i64 3)).run Tryz.prog w = .ok (.int .u32 (z.d : Nat)) w := fun _ => by kernel_rfl
            go_wp2_with fail
            go_roundw
            case rel =>
              have hst := aS.set 3 (.int .u32 (add s.d z.d : Nat))
              have hTt := hT.setCell 3 (.int .u32 (add s.d z.d : Nat))
              rw [part_set3] at hst
              rw [addI]
              exact ⟨4, rfl, by omega, hst, hTt⟩
            case measure => simp [intOf]
          · have e1 := aS.cell (part_get4 s z)
            have e2 := aS.frozen 4
            have e3 : ∀ w : World, (Instr.index 107 (.agg #[.int .u32 (z.a : Nat), .int .u32 (z.b : Nat), .int .u32 (z.c : Nat), .int .u32 (z.d : Nat), .int .u32 (z.e : Nat), .int .u32 (z.f : Nat), .int .u32 (z.g : Nat), .int .u32 (z.h : Nat)]) (.int .i64 4)).run Tryz.prog w = .ok (.int .u32 (z.e : Nat)) w := fun _ => by kernel_rfl
            go_wp2_with fail
            go_roundw
            case rel =>
              have hst := aS.set 4 (.int .u32 (add s.e z.e : Nat))
              have hTt := hT.setCell 4 (.int .u32 (add s.e z.e : Nat))
              rw [part_set4] at hst
              rw [addI]
              exact ⟨5, rfl, by omega, hst, hTt⟩
            case measure => simp [intOf]
          · have e1 := aS.cell (part_get5 s z)
            have e2 := aS.frozen 5
            have e3 : ∀ w : World, (Instr.index 107 (.agg #[.int .u32 (z.a : Nat), .int .u32 (z.b : Nat), .int .u32 (z.c : Nat), .int .u32 (z.d : Nat), .int .u32 (z.e : Nat), .int .u32 (z.f : Nat), .int .u32 (z.g : Nat), .int .u32 (z.h : Nat)]) (.int .i64 5)).run Tryz.prog w = .ok (.int .u32 (z.f : Nat)) w := fun _ => by kernel_rfl
            go_wp2_with fail
            go_roundw
            case rel =>
              have hst := aS.set 5 (.int .u32 (add s.f z.f : Nat))
              have hTt := hT.setCell 5 (.int .u32 (add s.f z.f : Nat))
              rw [part_set5] at hst
              rw [addI]
              exact ⟨6, rfl, by omega, hst, hTt⟩
            case measure => simp [intOf]
          · have e1 := aS.cell (part_get6 s z)
            have e2 := aS.frozen 6
            have e3 : ∀ w : World, (Instr.index 107 (.agg #[.int .u32 (z.a : Nat), .int .u32 (z.b : Nat), .int .u32 (z.c : Nat), .int .u32 (z.d : Nat), .int .u32 (z.e : Nat), .int .u32 (z.f : Nat), .int .u32 (z.g : Nat), .int .u32 (z.h : Nat)]) (.int .i64 6)).run Tryz.prog w = .ok (.int .u32 (z.g : Nat)) w := fun _ => by kernel_rfl
            go_wp2_with fail
            go_roundw
            case rel =>
              have hst := aS.set 6 (.int .u32 (add s.g z.g : Nat))
              have hTt := hT.setCell 6 (.int .u32 (add s.g z.g : Nat))
              rw [part_set6] at hst
              rw [addI]
              exact ⟨7, rfl, by omega, hst, hTt⟩
            case measure => simp [intOf]
          · have e1 := aS.cell (part_get7 s z)
            have e2 := aS.frozen 7
            have e3 : ∀ w : World, (Instr.index 107 (.agg #[.int .u32 (z.a : Nat), .int .u32 (z.b : Nat), .int .u32 (z.c : Nat), .int .u32 (z.d : Nat), .int .u32 (z.e : Nat), .int .u32 (z.f : Nat), .int .u32 (z.g : Nat), .int .u32 (z.h : Nat)]) (.int .i64 7)).run Tryz.prog w = .ok (.int .u32 (z.h : Nat)) w := fun _ => by kernel_rfl
            go_wp2_with fail
            go_roundw
            case rel =>
              have hst := aS.set 7 (.int .u32 (add s.h z.h : Nat))
              have hTt := hT.setCell 7 (.int .u32 (add s.h z.h : Nat))
              rw [part_set7] at hst
              rw [addI]
              exact ⟨8, rfl, by omega, hst, hTt⟩
            case measure => simp [intOf]
        · obtain rfl : n = 8 := by omega
          have hR := hT.arr aR (by omega)
          rw [← HZ.out, part_end] at aS
          go_upto_region 16 with (fail)
          refine wp_region_lit (wpList_load_row rfl 107 (.tmp 2) rfl w.heap.size rfl 107 (stCells (press s m)) (0, 0) _ aS Tryz.underlying107 rfl (by kernel_rfl) ?_)
          refine wpList_store_row rfl 107 (.tmp 4) (.tmp 120) rfl (w.heap.size + 1) (stCells (press s m)) rfl rfl 107 Y hR (by kernel_rfl) (by rw [hY8]; rfl) (stCells_one _) ?_
          have gR2 := Arr.setRow hR (stCells (press s m))
          go_wp2_with fail
          refine bodyPost_ret (v := .agg (stCells (press s m))) (results_cell_row rfl _ _ (w.heap.size + 1) 107 _ (0, 0) _ rfl gR2 Tryz.underlying107 rfl (by kernel_rfl)) rfl ?_
          exact ⟨rfl, below_setRow (hb.trans (hT.below (Nat.le_refl _) (by omega))) (by omega) _⟩
end Go.Proofs.YtpimdbnhpbjlkaaGreatDoor.dg
