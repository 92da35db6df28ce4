/-
  Entries in new memory.
-/
import Derived.Test.YtmgmhnohocamfaaGreatTlBase
namespace Go.Proofs.YtmgmhnohocamfaaGreat.tl
set_option linter.unusedVariables false
set_option linter.unusedSimpArgs false
open Go.RowKit
open pk (S S_size S_data)
open qm (Bs noSh)
open rw (Arr But below_box bnext below_drew below_drewN)

theorem sclone_any (s : Bs) (hs : s.length ≤ 281474976710656) (w : World) : Calls Tryz.prog 54 #[.string (S s)] w fun e w' => e = .returned (.string (S s)) ∧ Below w.heap.size w w' :=
  pk.clone_any (S s) w (by rw [S_size]; exact hs)
/-- The copy under way: k entries lie in the new row. -/
structure Cp (w W : World) (g n k : Nat) (l : List EnIn) : Prop where
  a : ∃ cs, Arr W g 51 cs ∧ cs.size = n * 3 ∧ cs.toList.take (k * 3) = rw.cellsG enSh (l.take k)
  b : Below w.heap.size w W
  g : w.heap.size ≤ g
theorem Cp.below {w W W' : World} {g n k : Nat} {l : List EnIn} (h : Cp w W g n k l) (b : Below W.heap.size W W') : Cp w W' g n k l := by
  obtain ⟨⟨cs, h1, h2, h3⟩, h4, h5⟩ := h
  exact ⟨⟨cs, h1.below b, h2, h3⟩, h4.trans (b.mono h4.size), h5⟩
theorem Cp.far {w W W' : World} {g n k q : Nat} {l : List EnIn} (h : Cp w W g n k l) (hq : q ≠ g) (hw : w.heap.size ≤ q) (b : But q W W') : Cp w W' g n k l := by
  obtain ⟨⟨cs, h1, h2, h3⟩, h4, h5⟩ := h
  exact ⟨⟨cs, b.arr h1 (Ne.symm hq), h2, h3⟩, h4.trans (b.below h4.size hw), h5⟩
theorem Cp.cell {w W : World} {g n k : Nat} {l : List EnIn} (h : Cp w W g n k l) (hk : k < n) {j : Nat} (hj : j < 3) : ∃ v, W.cell? ⟨g, k * 3 + j, none⟩ = some v := by
  obtain ⟨⟨cs, h1, h2, h3⟩, h4, h5⟩ := h
  exact ⟨cs[k * 3 + j]'(by omega), h1.cell (Array.getElem?_eq_getElem (by omega))⟩
theorem Cp.frozen {w W : World} {g n k : Nat} {l : List EnIn} (h : Cp w W g n k l) (i : Nat) : W.frozen? ⟨g, i, none⟩ = false := by
  obtain ⟨⟨cs, h1, h2, h3⟩, h4, h5⟩ := h
  exact h1.frozen i
theorem take_three (L : List Value) (m : Nat) (a b c : Value) (h : m + 3 ≤ L.length) : (((L.set m a).set (m + 1) b).set (m + 2) c).take (m + 3) = L.take m ++ [a, b, c] := by
  apply List.ext_getElem?
  intro i
  by_cases hi : i < m + 3
  · rw [List.getElem?_take_of_lt hi]
    rcases Nat.lt_or_ge i m with h1 | h1
    · rw [List.getElem?_set_ne (by omega), List.getElem?_set_ne (by omega), List.getElem?_set_ne (by omega), List.getElem?_append_left (by rw [List.length_take]; omega), List.getElem?_take_of_lt h1]
    · rw [List.getElem?_append_right (by rw [List.length_take]; omega), List.length_take, Nat.min_eq_left (by omega)]
      obtain rfl | rfl | rfl : i = m ∨ i = m + 1 ∨ i = m + 2 := by omega
      · rw [List.getElem?_set_ne (by omega), List.getElem?_set_ne (by omega), List.getElem?_set_self (by omega), Nat.sub_self]; rfl
      · rw [List.getElem?_set_ne (by omega), List.getElem?_set_self (by rw [List.length_set]; omega), show m + 1 - m = 1 by omega]; rfl
      · rw [List.getElem?_set_self (by rw [List.length_set, List.length_set]; omega), show m + 2 - m = 2 by omega]; rfl
  · rw [List.getElem?_eq_none (by rw [List.length_take, List.length_set, List.length_set, List.length_set]; omega), List.getElem?_eq_none (by rw [List.length_append, List.length_take]; simp; omega)]
theorem Cp.store {w W : World} {g n k : Nat} {l : List EnIn} (h : Cp w W g n k l) (hn : n = l.length) (hk : k < l.length) :
    Cp w (((W.setCell ⟨g, k * 3, none⟩ (.int .u64 ((l[k]'hk).term : Nat))).setCell ⟨g, k * 3 + 1, none⟩ (.int .i64 (l[k]'hk).kind)).setCell ⟨g, k * 3 + 2, none⟩ (.string (S (l[k]'hk).data))) g n (k + 1) l := by
  obtain ⟨⟨cs, h1, h2, h3⟩, h4, h5⟩ := h
  have kb : But g W (((W.setCell ⟨g, k * 3, none⟩ (.int .u64 ((l[k]'hk).term : Nat))).setCell ⟨g, k * 3 + 1, none⟩ (.int .i64 (l[k]'hk).kind)).setCell ⟨g, k * 3 + 2, none⟩ (.string (S (l[k]'hk).data))) := (((But.refl g W).set _ _).set _ _).set _ _
  refine ⟨⟨_, ((h1.set _ _).set _ _).set _ _, by simp [h2], ?_⟩, h4.trans (kb.below h4.size h5), h5⟩
  rw [Array.toList_setIfInBounds, Array.toList_setIfInBounds, Array.toList_setIfInBounds, show (k + 1) * 3 = k * 3 + 3 by omega, take_three _ _ _ _ _ (by rw [Array.length_toList]; omega), h3, List.take_succ_eq_append_getElem hk, rw.cellsG_append]
  congr 1
theorem Cp.own {w W : World} {g : Nat} {l : List EnIn} (h : Cp w W g l.length l.length l) (hl : l.length ≤ 1000000000) : rw.Own enSh W w.heap.size (.slice (some ⟨g, 0, none⟩) l.length l.length) l := by
  obtain ⟨⟨cs, h1, h2, h3⟩, h4, h5⟩ := h
  rw [List.take_length] at h3
  exact ⟨rw.cellsG_length enSh l, .inr ⟨g, l.length, cs, rfl, h5, h1, Nat.le_refl _, by unfold maxLen; omega, h2, h3⟩⟩
set_option maxHeartbeats 8000000 in
set_option maxRecDepth 100000 in
theorem copy_any (v : Value) (l : List EnIn) (hl : l.length ≤ 1000000000) (hd : ∀ e ∈ l, e.data.length ≤ 281474976710656) (w : World) (h : rw.Sl enSh w v l) :
    Calls Tryz.prog 152 #[v] w fun e w' => ∃ v', e = .returned v' ∧ rw.Own enSh w' w.heap.size v' l ∧ Below w.heap.size w w' := by
  obtain ⟨la, lc, rfl⟩ := sl_form h
  obtain ⟨i0, hi, hz0, hz1, hz2⟩ := info_parts enSh.hi
  have hmk := run_make (P := Tryz.prog) w 35 51 i0 _ enSh.hu hi hz0 .i64 .i64 (l.length : Int) (l.length : Int) (by omega) (Int.le_refl _) (by rw [hz2]; show (32 : Int) * _ ≤ _; omega) (by omega)
  rw [hz1, Int.toNat_natCast] at hmk
  have HS := Lib.hid h
  have HD := Lib.hid hd
  have C0 : Hid (Cp w (w.alloc (.cells (madeCells (Value.cells enSh.z) (l.length * enSh.k)) 51)) w.heap.size l.length 0 l) :=
    ⟨⟨_, Arr.new w _ _, by rw [size_madeCells]; rfl, by simp [rw.cellsG]⟩, below_box _ _, Nat.le_refl _⟩
  generalize w.alloc (.cells (madeCells (Value.cells enSh.z) (l.length * enSh.k)) 51) = w1 at *
  obtain ⟨g, hg⟩ : ∃ g, w.heap.size = g := ⟨_, rfl⟩
  rw [hg] at hmk C0
  clear h hd hi hz0 hz1 hz2
  go_enter Tryz.func152, Tryz.ntmps152
  go_wp2_with fail
  clear hmk
  go_loopw [11] (fun i wr => ∃ k : Nat, i = .int .i64 (k : Nat) ∧ k ≤ l.length ∧ Hid (Cp w wr g l.length k l))
    (fun i _ => l.length - (intOf i).toNat)
  case atStart => exact ⟨0, rfl, Nat.zero_le _, C0.out⟩
  case round =>
    obtain ⟨k, rfl, hk, HI⟩ := hrel
    by_cases hlt : k < l.length
    · have hki : (k : Int) < (l.length : Int) := by omega
      obtain ⟨b, off, c, e, hb, c0, c1, c2⟩ := slE_at (HS.out.later _ HI.out.b) hlt
      injection e with e1 e2 e3
      subst e1 e3
      obtain ⟨x, hx⟩ : ∃ x, l[k]'hlt = x := ⟨_, rfl⟩
      have hxd : x.data.length ≤ 281474976710656 := HD.out x (hx ▸ List.getElem_mem hlt)
      rw [hx] at c0 c1 c2
      obtain ⟨xt, xk, xd⟩ := x
      simp only at c0 c1 c2 hxd
      obtain ⟨xb, hxb⟩ : ∃ xb, wr.heap.size = xb := ⟨_, rfl⟩
      have hgx : xb ≠ g := by
        obtain ⟨⟨cs, h1, _, _⟩, _, _⟩ := HI.out
        have := h1.lt
        omega
      have hwx : w.heap.size ≤ xb := hxb ▸ HI.out.b.size
      have HB : Hid (Cp w (wr.alloc (.cells #[.int .u64 (xt : Nat), .int .i64 xk, .string (S xd)] 51)) g l.length k l ∧ Arr (wr.alloc (.cells #[.int .u64 (xt : Nat), .int .i64 xk, .string (S xd)] 51)) xb 51 #[.int .u64 (xt : Nat), .int .i64 xk, .string (S xd)]) :=
        ⟨HI.out.below (below_box _ _), hxb ▸ Arr.new wr _ _⟩
      have hC := sclone_any xd hxd (wr.alloc (.cells #[.int .u64 (xt : Nat), .int .i64 xk, .string (S xd)] 51))
      clear HI C0 e2 hb
      go_wp2_with fail
      refine hC.mono ?_
      clear hC c0 c1 c2
      rintro e w5 ⟨rfl, b5⟩
      have H5 := Lib.hid (And.intro (HB.out.1.below b5) (HB.out.2.below b5))
      clear b5 HB hxb
      obtain ⟨x0, x1, x2, f2⟩ : w5.cell? ⟨xb, 0, none⟩ = some (.int .u64 (xt : Nat)) ∧ w5.cell? ⟨xb, 1, none⟩ = some (.int .i64 xk) ∧ w5.cell? ⟨xb, 2, none⟩ = some (.string (S xd)) ∧ w5.frozen? ⟨xb, 2, none⟩ = false := ⟨H5.out.2.cell rfl, H5.out.2.cell rfl, H5.out.2.cell rfl, H5.out.2.frozen 2⟩
      have kb : But xb w5 (w5.setCell ⟨xb, 2, none⟩ (.string (S xd))) := (But.refl xb w5).set 2 _
      have H6 := Lib.hid (And.intro (H5.out.1.far hgx hwx kb) (H5.out.2.set 2 (.string (S xd))))
      clear kb H5
      go_upto_region 6 with (fail)
      clear x0 x1 x2 f2
      generalize w5.setCell ⟨xb, 2, none⟩ (.string (S xd)) = w6 at *
      obtain ⟨x0, x1, x2⟩ : w6.cell? ⟨xb, 0, none⟩ = some (.int .u64 (xt : Nat)) ∧ w6.cell? ⟨xb, 1, none⟩ = some (.int .i64 xk) ∧ w6.cell? ⟨xb, 2, none⟩ = some (.string (S xd)) := ⟨H6.out.2.cell rfl, H6.out.2.cell rfl, H6.out.2.cell rfl⟩
      obtain ⟨y0, z0⟩ := H6.out.1.cell hlt (j := 0) (by decide)
      obtain ⟨y1, z1⟩ := H6.out.1.cell hlt (j := 1) (by decide)
      obtain ⟨y2, z2⟩ := H6.out.1.cell hlt (j := 2) (by decide)
      have f0 := H6.out.1.frozen (k * 3)
      have f1 := H6.out.1.frozen (k * 3 + 1)
      have f2 := H6.out.1.frozen (k * 3 + 2)
      rw [Nat.add_zero] at z0
      have HN := Lib.hid (H6.out.1.store rfl hlt)
      rw [hx] at HN
      clear H6
      go_wp2_with fail
      exact ⟨⟨k + 1, by rw [Int.natCast_add]; rfl, by omega, HN⟩, by simp only [intOf]; omega⟩
    · obtain rfl : k = l.length := by omega
      have hki : ¬ (l.length : Int) < (l.length : Int) := by omega
      go_wp2_with fail
      go_ret
      have ho := HI.out.own hl
      have hb := HI.out.b
      rw [hg] at ho hb
      exact ⟨_, rfl, ho, hb⟩


end Go.Proofs.YtmgmhnohocamfaaGreat.tl
