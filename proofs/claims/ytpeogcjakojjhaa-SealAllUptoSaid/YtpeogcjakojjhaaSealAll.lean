/-
  What seal.All answers: the bodies of all frames, where they end, and what is wrong behind them.
-/
import Derived.RangeFuncBox
import Derived.Maps.AppendAt
import Derived.RegionIn
import Derived.Test.YtpeogcjakojjhaaSealEach
namespace Go.Proofs.Ytpeogcjakojjhaa.sl
open Go.RowKit Go.Shelf
attribute [local go_sem] Oper.semAt_some

theorem infoS : (Try.prog.info? 9).map (fun i => (i.zero, i.size, i.bytes)) = some (some (.string ⟨#[]⟩), 1, 16) := by kernel_rfl

theorem ownsRow_lower {w : World} {b b' : Nat} {e : TypeId} {size : Nat} {v : Value} {n : Nat} {xs : List Value} (h : w.ownsRow b e size v n xs) (hb : b' ≤ b) : w.ownsRow b' e size v n xs := by
  obtain ⟨h1, h2 | ⟨g, cap, cur, h3, h4, h5⟩⟩ := h
  · exact ⟨h1, .inl h2⟩
  · exact ⟨h1, .inr ⟨g, cap, cur, h3, by omega, h5⟩⟩
theorem ownsRow_below {w w' : World} {b : Nat} {e : TypeId} {size : Nat} {v : Value} {n : Nat} {xs : List Value} (h : w.ownsRow b e size v n xs) (hb : Below w.heap.size w w') : w'.ownsRow b e size v n xs := by
  obtain ⟨h1, h2 | ⟨g, cap, cur, h3, h4, h5, h6⟩⟩ := h
  · exact ⟨h1, .inl h2⟩
  · exact ⟨h1, .inr ⟨g, cap, cur, h3, h4, (hb.block g (Array.getElem?_eq_some_iff.1 h5).1).trans h5, h6⟩⟩
theorem ownsRow_block {w : World} {b : Nat} {e : TypeId} {size : Nat} {v : Value} {n : Nat} {xs : List Value} (h : w.ownsRow b e size v n xs) {k : Nat} (hk : k < b) : some k ≠ v.ownBlock := by
  obtain ⟨h1, ⟨h2, _⟩ | ⟨g, cap, cur, h3, h4, h5⟩⟩ := h
  · rw [h2]; simp [Value.ownBlock]
  · rw [h3]; simp [Value.ownBlock]; omega

/-- The end as the program counts it. -/
def endI (ps : List (Nat × List UInt8)) : Int := match ps.getLast? with
  | none => 0
  | some x => wrap64 (wrap64 ((x.1 : Int) + 8) + (x.2.length : Int))
theorem endI_snoc (ps : List (Nat × List UInt8)) (x : Nat × List UInt8) : endI (ps ++ [x]) = wrap64 (wrap64 ((x.1 : Int) + 8) + (x.2.length : Int)) := by
  unfold endI; rw [List.getLast?_concat]
theorem endI_scan (l : List UInt8) (hl : l.length ≤ 17592186044416) : endI (scan 0 l) = (fin 0 l : Nat) := by
  have hf := (fin_le l 0).1
  have h1 := lastEnd_scan l 0
  rcases List.eq_nil_or_concat (scan 0 l) with h | ⟨q, x, h⟩
  · rw [h] at h1
    rw [h, ← h1]
    rfl
  · rw [h, List.concat_eq_append, lastEnd_snoc] at h1
    rw [h, List.concat_eq_append, endI_snoc, IntWalk.wrap64_in ((x.1 : Int) + 8) ⟨by omega, by omega⟩, IntWalk.wrap64_in _ ⟨by omega, by omega⟩]
    omega
theorem endI_nil : endI [] = 0 := rfl

def texts (ps : List (Nat × List UInt8)) : List Value := ps.map fun x => .string (S x.2)
theorem texts_snoc (ps : List (Nat × List UInt8)) (x : Nat × List UInt8) : texts (ps ++ [x]) = texts ps ++ [.string (S x.2)] := by simp [texts]
theorem texts_length (ps : List (Nat × List UInt8)) : (texts ps).length = ps.length := by simp [texts]

set_option maxRecDepth 100000 in
set_option maxHeartbeats 1000000 in
theorem all_in (l : List UInt8) (hl : l.length ≤ 17592186044416) (w : World) :
    CallsIn Fence.wide 5 Try.prog 16 #[.string (S l)] w fun e W' => ∃ v, e = .returned (.tuple #[v, .int .i64 (fin 0 l), .int .i64 (err l)]) ∧ W'.ownsRow w.heap.size 9 1 v (scan 0 l).length (texts (scan 0 l)) ∧ Below w.heap.size w W' := by
  have hz := S_size l
  have hsl := scan_len l 0
  obtain ⟨i0, hi, hz0, hz1, hz2⟩ := info_parts infoS
  refine callsIn_of_wp_marks Try.func16 rfl trivial ?_ rfl
  simp only [Try.ntmps16, List.size_toArray, List.length_cons, List.length_nil, Nat.reduceAdd, Nat.reduceSub, Array.replicate_succ, Array.replicate_zero, List.push_toArray, List.append_toArray, List.nil_append, List.cons_append]
  gi_wp2_with (refine ⟨trivial, ?_⟩; gi_at_call 19; refine (each_any _ l _).mono ?_; rintro e w' ⟨rfl, rfl⟩)
  obtain ⟨W0, hW0⟩ : ∃ W0, ((w.alloc (.cells #[.slice none 0 0] 35)).alloc (.cells #[.int .i64 0] 3)).alloc (.cells #[.string (S l)] 9) = W0 := ⟨_, rfl⟩
  have bO : Boxed W0 w.heap.size 35 (.slice none 0 0) := by rw [← hW0]; exact ((Boxed.new w 35 (.slice none 0 0)).alloc _).alloc _
  have bE : Boxed W0 (w.heap.size + 1) 3 (.int .i64 0) := by
    rw [← hW0]
    have h := Boxed.new (w.alloc (.cells #[.slice none 0 0] 35)) 3 (.int .i64 0)
    rw [World.size_alloc] at h
    exact h.alloc _
  have bN : Boxed W0 (w.heap.size + 2) 9 (.string (S l)) := by
    rw [← hW0]
    have h := Boxed.new ((w.alloc (.cells #[.slice none 0 0] 35)).alloc (.cells #[.int .i64 0] 3)) 9 (.string (S l))
    rw [World.size_alloc, World.size_alloc] at h
    exact h
  have hB0 : Below w.heap.size w W0 := by
    rw [← hW0]
    exact (((Below.refl _ w).alloc (Nat.le_refl _) _).alloc (by simp) _).alloc (by simp; omega) _
  have hs0 : W0.heap.size = w.heap.size + 3 := by rw [← hW0]; simp
  rw [show World.alloc (World.alloc (World.alloc w (.cells #[.slice none 0 0] 35)) (.cells #[.int .i64 0] 3)) (.cells #[.string (S l)] 9) = W0 from hW0]
  clear hW0
  refine wpIn_rangeFunc_ownG rfl (by omega) (gf := 25) (lb := #[.pointer (some ⟨w.heap.size + 2, 0, none⟩)]) rfl trivial (enters_of Try.func25 (by kernel_rfl) rfl)
    (each_stops _ (by omega) (w.heap.size + 2) l (by omega) W0 bN) keepBox_t (keepBox_b (by omega)) (Below.refl _ _) (fun _ => rfl)
    (fun pre W => ((∃ v, Boxed W w.heap.size 35 v ∧ W.ownsRow (w.heap.size + 3) 9 1 v pre.length (texts pre) ∧ True) ∧ Boxed W (w.heap.size + 1) 3 (.int .i64 (endI pre))) ∧ Below w.heap.size W0 W)
    (fun _ _ _ => False)
    (OwnFrom.and (OwnFrom.and (Own.from (holdsRow_own (w.heap.size + 3) w.heap.size 35 9 1 (fun pre => pre.length) (fun pre => texts pre) (fun _ _ => True)) _) (Own.from (boxed_own _ _ (fun pre => .int .i64 (endI pre))) _)) (ownFrom_below (by omega) (by omega)))
    (fun _ _ _ _ _ hs _ _ => hs)
    ⟨⟨⟨_, bO, World.ownsRow_nil _ _ _ _, trivial⟩, bE⟩, Below.refl _ _⟩
    (fun x => { tmps := #[.string (S l), undef, .slice none 0 0, .int .i64 0, .int .i64 0, .pointer (some ⟨w.heap.size, 0, none⟩), .pointer (some ⟨w.heap.size + 1, 0, none⟩), .int .i64 x.1, .string (S x.2), undef, undef, undef, .string (S l), .func (.func 25) #[] #[.pointer (some ⟨w.heap.size + 2, 0, none⟩)], .int .i64 x.1, .string (S x.2), undef, undef, undef, undef, undef, undef, undef, undef, undef, undef, undef, undef, undef, undef, undef, undef, undef, undef, undef, undef, undef, undef, undef, undef, undef, undef], defers := [] }) ?assign ?body ?done ?stop
  case assign =>
    intro lp x W K hK
    simp only [encs]
    gi_wp2
    exact hK
  case body =>
    rintro lp pre x W ⟨⟨⟨v, hv, hrow, _⟩, hE⟩, hB⟩ hlt
    have hc := hv.cell
    have hzx := S_size x.2
    have hsz := hB.size
    have hvlt := hE.lt
    have hW3 : w.heap.size + 3 ≤ W.heap.size := by omega
    gi_wp2_with (gi_at_builtin; refine wpListIn_append_own _ rfl _ _ 35 rfl (w.heap.size + 3) 9 i0 (.string ⟨#[]⟩) 1 16 Try.underlying35 hi hz0 hz1 hz2 rfl (by decide) _ _ _ rfl (hrow.alloc _) ⟨W.heap.size, 0, none⟩ 1 1 [.string (S x.2)] rfl rfl (cell_one_new _ _ _) (by simp [Value.oneCell']) (by unfold maxLen; omega) (by omega) (by simp; omega) ?_; intro v' w1 hown' hgrow _; obtain ⟨g', cap', rfl⟩ := ownsRow_succ hown'; obtain ⟨hv1, hv2, hr2, hk2, hb2⟩ := hv.appended (by decide) (ownsRow_lower hrow (b' := w.heap.size) (by omega)) (by omega) (Nat.le_refl _) (ownsRow_lower hown' (b' := w.heap.size) (by omega)) hgrow; have hE1 := (hE.alloc _).kept hgrow (hE.not_row (by decide) hrow); have hE2 := hE1.other (B' := w.heap.size) (by omega) (.slice (some ⟨g', 0, none⟩) (pre.length + 1) cap'); have hc1 := hv1.cell; have hf1 := hv1.frozen; have hc2 := hE2.cell; have hf2 := hE2.frozen)
    refine ⟨(hk2.trans (KeepsOthers.setCell _ _ _)).from _, ?_, ⟨⟨_, hv2.other (by omega) _, ?_, trivial⟩, ?_⟩, hB.trans (hb2.setCell (p := ⟨w.heap.size + 1, 0, none⟩) (by simp) _)⟩
    · have k1 : w1.heap[w.heap.size + 2]? = W.heap[w.heap.size + 2]? := (hgrow.block (w.heap.size + 2) (by simp; omega) (ownsRow_block hrow (by omega))).trans (Below.heap_alloc W _ _ (by omega))
      exact ((Below.heap_setCell _ _ _ _ (by simp)).trans (Below.heap_setCell _ _ _ _ (by simp))).trans k1
    · have h1 := hown'.kept (grownBy_setCell' w1 w.heap.size (.slice (some ⟨g', 0, none⟩) (pre.length + 1) cap')) (.inr (hv1.not_row (by decide) hown').symm)
      have h2 := h1.kept (grownBy_setCell' _ (w.heap.size + 1) (.int .i64 (wrap64 (wrap64 ((x.1 : Int) + 8) + (x.2.length : Int))))) (.inr (hE2.not_row (by decide) h1).symm)
      rw [texts_snoc, List.length_append, List.length_singleton]
      exact h2
    · rw [endI_snoc]
      exact hE2.set _
  case done =>
    rintro D ys W hD rfl ⟨⟨⟨v, hv, hrow, _⟩, hE⟩, hB⟩ hK
    have hfl := (fin_le l 0).1
    rw [endI_scan l hl] at hE
    have hc := hv.cell
    have hcE := hE.cell
    by_cases hfin : fin 0 l = l.length
    · have herr : err l = 0 := by unfold err; rw [if_pos hfin]
      have HE := Lib.hid herr
      clear herr
      gi_wp2
      gi_region
      all_goals gi_wp2
      all_goals refine ⟨by simp, .inl ⟨_, _, rfl, run_takeDeferred hK, ?_⟩⟩
      all_goals exact ⟨_, results_tmp3 rfl _ _ _, v, by rw [hfin, HE.out]; rfl, ownsRow_putObj (W := W.drew) (ownsRow_lower hrow (by omega)) _ hK rfl, ((hB0.trans hB).drew).trans (belowK_b (w := w) (Nat.le_refl _) W.drew D _ _ (by omega) hK rfl rfl)⟩
    · have herr : err l = (cut (l.drop (fin 0 l))).2.2 := by unfold err; rw [if_neg hfin]
      have HE := Lib.hid herr
      clear herr
      have hd : (S l).extract (fin 0 l) l.length = S (l.drop (fin 0 l)) := S_drop l (fin 0 l)
      have hC := cut_any (l.drop (fin 0 l)) (by rw [List.length_drop]; omega)
      have hCW := fun w => (callsIn_wide (n := 4)).2 (hC w)
      gi_wp2_with (refine ⟨trivial, ?_⟩; gi_at_call 14; refine (hCW _).mono ?_; rintro e w1 ⟨rfl, hb1⟩; have hv1 : Boxed w1 w.heap.size 35 v := (hb1.block _ hv.lt).trans hv; have hE1 : Boxed w1 (w.heap.size + 1) 3 (.int .i64 (fin 0 l)) := (hb1.block _ hE.lt).trans hE; have hc1 := hv1.cell; have hcE1 := hE1.cell)
      gi_region
      all_goals gi_wp2
      have hK1 : _ := (hb1.block D (Array.getElem?_eq_some_iff.1 hK).1).trans hK
      have hr1 := ownsRow_below hrow hb1
      all_goals refine ⟨by simp, .inl ⟨_, _, rfl, run_takeDeferred hK1, ?_⟩⟩
      all_goals exact ⟨_, results_tmp3 rfl _ _ _, v, by rw [HE.out]; rfl, ownsRow_putObj (W := World.drew _) (ownsRow_lower hr1 (by omega)) _ hK1 rfl, (((hB0.trans hB).trans (hb1.mono (by have := hB.size; omega))).drew).trans (belowK_b (w := w) (Nat.le_refl _) (World.drew _) D _ _ (by omega) hK1 rfl rfl)⟩
  case stop =>
    rintro D c pre W _ _ h _
    exact h.elim
end Go.Proofs.Ytpeogcjakojjhaa.sl
