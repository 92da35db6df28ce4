/-
  What the program's Sum answers, of a digest in the making and of a text.
-/
import Derived.Test.YtpimdbnhpbjlkaaGreatDoorDigWrite
namespace Go.Proofs.YtpimdbnhpbjlkaaGreatDoor.dg
open Go.RowKit

theorem join_state (l s : List UInt8) : feed (feed start l (l.length / 64)) (l.drop (64 * (l.length / 64)) ++ s) ((l.drop (64 * (l.length / 64)) ++ s).length / 64) = feed start (l ++ s) ((l ++ s).length / 64) := by
  have h1 : 64 * (l.length / 64) ≤ l.length := by omega
  have h2 : l.drop (64 * (l.length / 64)) ++ s = (l ++ s).drop (64 * (l.length / 64)) := (List.drop_append_of_le_length h1).symm
  have h3 : (l ++ s).length / 64 = l.length / 64 + ((l ++ s).drop (64 * (l.length / 64))).length / 64 := by
    rw [List.length_drop, List.length_append]
    omega
  rw [h3, feed_more, feed_append start l s _ h1, h2]
theorem join_rest (l s : List UInt8) : (l.drop (64 * (l.length / 64)) ++ s).drop (64 * ((l.drop (64 * (l.length / 64)) ++ s).length / 64)) = (l ++ s).drop (64 * ((l ++ s).length / 64)) := by
  have h1 : 64 * (l.length / 64) ≤ l.length := by omega
  have h2 : l.drop (64 * (l.length / 64)) ++ s = (l ++ s).drop (64 * (l.length / 64)) := (List.drop_append_of_le_length h1).symm
  rw [h2, List.drop_drop]
  congr 1
  rw [List.length_drop, List.length_append]
  omega

theorem write_at (b : Nat) (l s : List UInt8) (w : World) (hK : Keys w) (hb0 : 0 < b) (h : HashAt w b l) (hn : l.length + s.length ≤ 281474976710656) :
    Calls Tryz.prog 50 #[.pointer (some ⟨b, 0, none⟩), .string (S s)] w fun e w' => e = .returned (.tuple #[]) ∧ HashAt w' b (l ++ s) ∧ Touch b w w' := by
  refine (write_any b _ (feed_ok start_ok l _) _ _ s w hK hb0 h hn (by rw [List.length_drop]; omega)).mono ?_
  rintro e w' ⟨rfl, hA, hT⟩
  refine ⟨rfl, ?_, hT⟩
  unfold HashAt
  rw [← join_state, ← join_rest, show (l ++ s).length = l.length + s.length from List.length_append]
  exact hA

theorem sum_pad (l : List UInt8) : sum l = outs (feed start (l ++ tailBytes l.length) ((l ++ tailBytes l.length).length / 64)) 8 := by
  unfold sum
  rw [pad_tail]

set_option maxHeartbeats 4000000 in
set_option maxRecDepth 100000 in
theorem sum_at (b : Nat) (l : List UInt8) (w : World) (hK : Keys w) (h : HashAt w b l) (hn : l.length ≤ 281474976710000) :
    Calls Tryz.prog 51 #[.pointer (some ⟨b, 0, none⟩)] w fun e w' => e = .returned (.string (S (sum l))) ∧ Below w.heap.size w w' := by
  have hpos := hK.pos
  have hblt := Arr.lt h
  have htl := tail_length l.length
  have hzp := zpad_lt l.length
  go_enter Tryz.func51, Tryz.ntmps51
  go_wp2_with fail
  refine (twin_any b _ _ _ w h).mono ?_
  rintro e w1 ⟨g, rfl, hg, hA1, hb1⟩
  have h1 : HashAt w1 b l := (hb1.block b hblt).trans h
  have x9 := Arr.cell h1 (j := 9) (v := .int .i64 (l.length : Nat)) rfl
  have hK1 := hK.below hb1 hpos
  have H1 := Lib.hid h1
  have HA1 := Lib.hid hA1
  clear h1 hA1
  go_wp2_with fail
  refine (ending_any l.length (by omega) w1).mono ?_
  rintro e w2 ⟨rfl, hb2⟩
  have h2 : HashAt w2 g l := (hb2.block g (Arr.lt HA1.out)).trans HA1.out
  have hK2 := hK1.below hb2 hK1.pos
  have hb02 : Below w.heap.size w w2 := hb1.trans (hb2.mono hb1.size)
  clear x9
  go_wp2_with fail
  refine (write_at g l (tailBytes l.length) w2 hK2 (by omega) h2 (by omega)).mono ?_
  rintro e w3 ⟨rfl, h3, hT3⟩
  have hb03 : Below w.heap.size w w3 := hb02.trans (hT3.below hg hb02.size)
  have hsum := sum_pad l
  unfold HashAt at h3
  have hzok := feed_ok start_ok (l ++ tailBytes l.length) ((l ++ tailBytes l.length).length / 64)
  generalize feed start (l ++ tailBytes l.length) ((l ++ tailBytes l.length).length / 64) = z at *
  obtain ⟨la, lb, lc, ld, le, lf, lg, lh⟩ := hzok
  have x0 := Arr.cell h3 (j := 0) (v := .int .u32 (z.a : Nat)) rfl
  have x1 := Arr.cell h3 (j := 1) (v := .int .u32 (z.b : Nat)) rfl
  have x2 := Arr.cell h3 (j := 2) (v := .int .u32 (z.c : Nat)) rfl
  have x3 := Arr.cell h3 (j := 3) (v := .int .u32 (z.d : Nat)) rfl
  have x4 := Arr.cell h3 (j := 4) (v := .int .u32 (z.e : Nat)) rfl
  have x5 := Arr.cell h3 (j := 5) (v := .int .u32 (z.f : Nat)) rfl
  have x6 := Arr.cell h3 (j := 6) (v := .int .u32 (z.g : Nat)) rfl
  have x7 := Arr.cell h3 (j := 7) (v := .int .u32 (z.h : Nat)) rfl
  have HS := Lib.hid hsum
  have HTL := Lib.hid htl
  clear h3 h2 hT3 hb2 hb1 HA1 hsum htl H1 hK1 hK2 hb02 h hblt
  obtain ⟨B, hB0⟩ : ∃ B, B = w3.heap.size := ⟨_, rfl⟩
  have hBw : w.heap.size ≤ B := by rw [hB0]; exact hb03.size
  have hB3 : B ≤ w3.heap.size := by omega
  clear hB0
  go_wp2_with fail
  go_loopw [4, 22] (fun v i wr => ∃ k : Nat, i = .int .i64 k ∧ k ≤ 8 ∧ Hid (wr.ownsRow B 5 1 v (outs z k).length (Lib.byteCells (outs z k))) ∧ Below B w3 wr)
    (fun _ i _ => 8 - (intOf i).toNat)
  case atStart => exact ⟨0, rfl, by omega, Lib.hid (World.ownsRow_nil _ _ _ _), Below.refl _ _⟩
  case round =>
    clear x0 x1 x2 x3 x4 x5 x6 x7
    obtain ⟨k, rfl, hk, HO, hB⟩ := hrel
    have hBs : B ≤ wr.heap.size := Nat.le_trans hB3 hB.size
    by_cases hlt : k < 8
    · have h8 : k = 0 ∨ k = 1 ∨ k = 2 ∨ k = 3 ∨ k = 4 ∨ k = 5 ∨ k = 6 ∨ k = 7 := by omega
      obtain rfl | rfl | rfl | rfl | rfl | rfl | rfl | rfl := h8
      · have e3 : ∀ w : World, (Instr.index 107 (.agg #[.int .u32 (z.a : Nat), .int .u32 (z.b : Nat), .int .u32 (z.c : Nat), .int .u32 (z.d : Nat), .int .u32 (z.e : Nat), .int .u32 (z.f : Nat), .int .u32 (z.g : Nat), .int .u32 (z.h : Nat)]) (.int .i64 0)).run Tryz.prog w = .ok (.int .u32 (z.a : Nat)) w := fun _ => by kernel_rfl
        go_wp2_with fail
        refine (word4_any B z.a la _ _ wr HO.out hBs (by rw [outs_length z (by omega)]; omega)).mono ?_
        rintro e w5 ⟨v5, rfl, hown5, hb5⟩
        have hown6 : w5.ownsRow B 5 1 v5 (outs z 1).length (Lib.byteCells (outs z 1)) := hown5
        have HO6 := Lib.hid hown6
        clear hown5 hown6 HO
        go_wp2_with fail
        go_roundw
        case rel => exact ⟨1, rfl, by omega, HO6, hB.trans hb5⟩
        case measure => simp [intOf]
      · have e3 : ∀ w : World, (Instr.index 107 (.agg #[.int .u32 (z.a : Nat), .int .u32 (z.b : Nat), .int .u32 (z.c : Nat), .int .u32 (z.d : Nat), .int .u32 (z.e : Nat), .int .u32 (z.f : Nat), .int .u32 (z.g : Nat), .int .u32 (z.h : Nat)]) (.int .i64 1)).run Tryz.prog w = .ok (.int .u32 (z.b : Nat)) w := fun _ => by kernel_rfl
        go_wp2_with fail
        refine (word4_any B z.b lb _ _ wr HO.out hBs (by rw [outs_length z (by omega)]; omega)).mono ?_
        rintro e w5 ⟨v5, rfl, hown5, hb5⟩
        have hown6 : w5.ownsRow B 5 1 v5 (outs z 2).length (Lib.byteCells (outs z 2)) := hown5
        have HO6 := Lib.hid hown6
        clear hown5 hown6 HO
        go_wp2_with fail
        go_roundw
        case rel => exact ⟨2, rfl, by omega, HO6, hB.trans hb5⟩
        case measure => simp [intOf]
      · have e3 : ∀ w : World, (Instr.index 107 (.agg #[.int .u32 (z.a : Nat), .int .u32 (z.b : Nat), .int .u32 (z.c : Nat), .int .u32 (z.d : Nat), .int .u32 (z.e : Nat), .int .u32 (z.f : Nat), .int .u32 (z.g : Nat), .int .u32 (z.h : Nat)]) (.int .i64 2)).run Tryz.prog w = .ok (.int .u32 (z.c : Nat)) w := fun _ => by kernel_rfl
        go_wp2_with fail
        refine (word4_any B z.c lc _ _ wr HO.out hBs (by rw [outs_length z (by omega)]; omega)).mono ?_
        rintro e w5 ⟨v5, rfl, hown5, hb5⟩
        have hown6 : w5.ownsRow B 5 1 v5 (outs z 3).length (Lib.byteCells (outs z 3)) := hown5
        have HO6 := Lib.hid hown6
        clear hown5 hown6 HO
        go_wp2_with fail
        go_roundw
        case rel => exact ⟨3, rfl, by omega, HO6, hB.trans hb5⟩
        case measure => simp [intOf]
      · have e3 : ∀ w : World, (Instr.index 107 (.agg #[.int .u32 (z.a : Nat), .int .u32 (z.b : Nat), .int .u32 (z.c : Nat), .int .u32 (z.d : Nat), .int .u32 (z.e : Nat), .int .u32 (z.f : Nat), .int .u32 (z.g : Nat), .int .u32 (z.h : Nat)]) (.int .i64 3)).run Tryz.prog w = .ok (.int .u32 (z.d : Nat)) w := fun _ => by kernel_rfl
        go_wp2_with fail
        refine (word4_any B z.d ld _ _ wr HO.out hBs (by rw [outs_length z (by omega)]; omega)).mono ?_
        rintro e w5 ⟨v5, rfl, hown5, hb5⟩
        have hown6 : w5.ownsRow B 5 1 v5 (outs z 4).length (Lib.byteCells (outs z 4)) := hown5
        have HO6 := Lib.hid hown6
        clear hown5 hown6 HO
        go_wp2_with fail
        go_roundw
        case rel => exact ⟨4, rfl, by omega, HO6, hB.trans hb5⟩
        case measure => simp [intOf]
      · have e3 : ∀ w : World, (Instr.index 107 (.agg #[.int .u32 (z.a : Nat), .int .u32 (z.b : Nat), .int .u32 (z.c : Nat), .int .u32 (z.d : Nat), .int .u32 (z.e : Nat), .int .u32 (z.f : Nat), .int .u32 (z.g : Nat), .int .u32 (z.h : Nat)]) (.int .i64 4)).run Tryz.prog w = .ok (.int .u32 (z.e : Nat)) w := fun _ => by kernel_rfl
        go_wp2_with fail
        refine (word4_any B z.e le _ _ wr HO.out hBs (by rw [outs_length z (by omega)]; omega)).mono ?_
        rintro e w5 ⟨v5, rfl, hown5, hb5⟩
        have hown6 : w5.ownsRow B 5 1 v5 (outs z 5).length (Lib.byteCells (outs z 5)) := hown5
        have HO6 := Lib.hid hown6
        clear hown5 hown6 HO
        go_wp2_with fail
        go_roundw
        case rel => exact ⟨5, rfl, by omega, HO6, hB.trans hb5⟩
        case measure => simp [intOf]
      · have e3 : ∀ w : World, (Instr.index 107 (.agg #[.int .u32 (z.a : Nat), .int .u32 (z.b : Nat), .int .u32 (z.c : Nat), .int .u32 (z.d : Nat), .int .u32 (z.e : Nat), .int .u32 (z.f : Nat), .int .u32 (z.g : Nat), .int .u32 (z.h : Nat)]) (.int .i64 5)).run Tryz.prog w = .ok (.int .u32 (z.f : Nat)) w := fun _ => by kernel_rfl
        go_wp2_with fail
        refine (word4_any B z.f lf _ _ wr HO.out hBs (by rw [outs_length z (by omega)]; omega)).mono ?_
        rintro e w5 ⟨v5, rfl, hown5, hb5⟩
        have hown6 : w5.ownsRow B 5 1 v5 (outs z 6).length (Lib.byteCells (outs z 6)) := hown5
        have HO6 := Lib.hid hown6
        clear hown5 hown6 HO
        go_wp2_with fail
        go_roundw
        case rel => exact ⟨6, rfl, by omega, HO6, hB.trans hb5⟩
        case measure => simp [intOf]
      · have e3 : ∀ w : World, (Instr.index 107 (.agg #[.int .u32 (z.a : Nat), .int .u32 (z.b : Nat), .int .u32 (z.c : Nat), .int .u32 (z.d : Nat), .int .u32 (z.e : Nat), .int .u32 (z.f : Nat), .int .u32 (z.g : Nat), .int .u32 (z.h : Nat)]) (.int .i64 6)).run Tryz.prog w = .ok (.int .u32 (z.g : Nat)) w := fun _ => by kernel_rfl
        go_wp2_with fail
        refine (word4_any B z.g lg _ _ wr HO.out hBs (by rw [outs_length z (by omega)]; omega)).mono ?_
        rintro e w5 ⟨v5, rfl, hown5, hb5⟩
        have hown6 : w5.ownsRow B 5 1 v5 (outs z 7).length (Lib.byteCells (outs z 7)) := hown5
        have HO6 := Lib.hid hown6
        clear hown5 hown6 HO
        go_wp2_with fail
        go_roundw
        case rel => exact ⟨7, rfl, by omega, HO6, hB.trans hb5⟩
        case measure => simp [intOf]
      · have e3 : ∀ w : World, (Instr.index 107 (.agg #[.int .u32 (z.a : Nat), .int .u32 (z.b : Nat), .int .u32 (z.c : Nat), .int .u32 (z.d : Nat), .int .u32 (z.e : Nat), .int .u32 (z.f : Nat), .int .u32 (z.g : Nat), .int .u32 (z.h : Nat)]) (.int .i64 7)).run Tryz.prog w = .ok (.int .u32 (z.h : Nat)) w := fun _ => by kernel_rfl
        go_wp2_with fail
        refine (word4_any B z.h lh _ _ wr HO.out hBs (by rw [outs_length z (by omega)]; omega)).mono ?_
        rintro e w5 ⟨v5, rfl, hown5, hb5⟩
        have hown6 : w5.ownsRow B 5 1 v5 (outs z 8).length (Lib.byteCells (outs z 8)) := hown5
        have HO6 := Lib.hid hown6
        clear hown5 hown6 HO
        go_wp2_with fail
        go_roundw
        case rel => exact ⟨8, rfl, by omega, HO6, hB.trans hb5⟩
        case measure => simp [intOf]
    · obtain rfl : k = 8 := by omega
      have hcv := conv_own wr _ _ _ (fun h => by have := outs_length z (Nat.le_refl 8); rw [h] at this; simp at this) HO.out
      rw [← HS.out] at hcv
      have hfin := hb03.trans (hB.mono hBw)
      clear HO
      go_wp2_with fail
      go_ret
      exact ⟨rfl, hfin⟩

set_option maxRecDepth 100000 in
theorem sum_any (l : List UInt8) (w : World) (hK : Keys w) (hn : l.length ≤ 281474976710000) :
    Calls Tryz.prog 26 #[.string (S l)] w fun e w' => e = .returned (.string (S (sum l))) ∧ Below w.heap.size w w' := by
  have hpos := hK.pos
  go_enter Tryz.func26, Tryz.ntmps26
  go_wp2_with fail
  refine (new_any w).mono ?_
  rintro e w1 ⟨b, rfl, hg, h1, hb1⟩
  have hK1 := hK.below hb1 hpos
  have H1 := Lib.hid h1
  clear h1
  go_wp2_with fail
  refine (write_at b [] l w1 hK1 (by omega) H1.out (by simp; omega)).mono ?_
  rintro e w2 ⟨rfl, h2, hT2⟩
  have hK2 := hK1.touch hT2 (by omega)
  have hb02 : Below w.heap.size w w2 := hb1.trans (hT2.below hg hb1.size)
  rw [List.nil_append] at h2
  have H2 := Lib.hid h2
  clear h2 hT2
  go_wp2_with fail
  refine (sum_at b l w2 hK2 H2.out hn).mono ?_
  rintro e w3 ⟨rfl, hb3⟩
  go_wp2_with fail
  go_ret
  exact ⟨rfl, hb02.trans (hb3.mono hb02.size)⟩
end Go.Proofs.YtpimdbnhpbjlkaaGreatDoor.dg
