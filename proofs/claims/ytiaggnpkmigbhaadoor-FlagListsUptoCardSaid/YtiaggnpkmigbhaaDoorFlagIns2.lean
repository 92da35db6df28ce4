/-
  What slices.Insert lays where a text is put in ahead of another one; what 'with' answers.
-/
import Derived.Test.YtiaggnpkmigbhaaDoorFlagIns
import Derived.Laws.NewBlocks
import Derived.Lib.Overlaps
namespace Go.Proofs.YtiaggnpkmigbhaaDoor.fl
open Go.RowKit Go.Lib

theorem drop_at {l : List (List UInt8)} {i j : Nat} {v : Value} (h : (cellsS (l.drop i))[j]? = some v) : (cellsS l)[i + j]? = some v := by
  unfold cellsS at h ⊢
  rw [List.getElem?_map, List.getElem?_drop] at h
  rw [List.getElem?_map]; exact h
theorem cell_at {w : World} {g c : Nat} {l : List (List UInt8)} {B : Nat} (ho : w.ownsRow B 9 1 (.slice (some ⟨g, 0, none⟩) l.length c) l.length (cellsS l)) {j : Nat} (h : j < l.length) : w.cell? ⟨g, j, none⟩ = some (.string (S l[j])) := by
  rw [ho.cellAt j (by omega)]; exact cellsS_at h
/-- The cells behind both copies. -/
theorem put_cells {W : World} {g : Nat} {l : List (List UInt8)} {f : List UInt8} {i : Nat} (hi : i < l.length)
    (hold : ∀ j (h : j < l.length), j < i → W.cell? ⟨g, j, none⟩ = some (.string (S l[j])))
    (hs : ∀ j, j < l.length + 1 → (W.cell? ⟨g, j, none⟩).isSome = true) (j : Nat) (h : j < (put f l i).length) :
    ((W.setCells g (i + 1) (cellsS (l.drop i))).setCells g i [.string (S f)]).cell? ⟨g, j, none⟩ = some (.string (S (put f l i)[j])) := by
  have hpl := put_length (f := f) (l := l) (i := i) (by omega)
  have hdl : (cellsS (l.drop i)).length = l.length - i := by rw [cellsS_length, List.length_drop]
  by_cases h1 : j < i
  · rw [World.cell?_setCells_out g _ _ _ _ (fun _ _ => Or.inl (by show j < _; omega)), World.cell?_setCells_out g _ _ _ _ (fun _ _ => Or.inl (by show j < _; omega)), put_ahead (by omega) h1]
    exact hold j (by omega) h1
  · by_cases h2 : j = i
    · subst h2
      have := World.cell?_setCells_in g [.string (S f)] j (W.setCells g (j + 1) (cellsS (l.drop j))) (fun t ht => by
        simp at ht; subst ht
        rw [World.cell?_setCells_out g _ _ _ _ (fun _ _ => Or.inl (by show j + 0 < _; omega))]
        exact hs _ (by omega)) 0 (by simp)
      simp only [Nat.add_zero] at this
      rw [this, put_at (by omega)]; rfl
    · have h3 : i < j := by omega
      rw [World.cell?_setCells_out g _ _ _ _ (fun _ _ => Or.inr (by show i + 1 ≤ j; omega))]
      have := World.cell?_setCells_in g (cellsS (l.drop i)) (i + 1) W (fun t ht => hs _ (by omega)) (j - (i + 1)) (by omega)
      rw [show i + 1 + (j - (i + 1)) = j by omega] at this
      rw [this, put_behind (by omega) h3 h (by omega)]
      simp only [cellsS, List.getElem_map, List.getElem_drop]
      congr 3
      have e : i + (j - (i + 1)) = j - 1 := by omega
      simp only [e]

/-- The cells behind both copies, the one text ahead. -/
theorem put_cells2 {W : World} {g : Nat} {l : List (List UInt8)} {f : List UInt8} {i : Nat} (hi : i < l.length)
    (hold : ∀ j (h : j < l.length), j < i → W.cell? ⟨g, j, none⟩ = some (.string (S l[j])))
    (hs : ∀ j, j < l.length + 1 → (W.cell? ⟨g, j, none⟩).isSome = true) (j : Nat) (h : j < (put f l i).length) :
    ((W.setCells g i [.string (S f)]).drew.setCells g (i + 1) (cellsS (l.drop i))).cell? ⟨g, j, none⟩ = some (.string (S (put f l i)[j])) := by
  have hpl := put_length (f := f) (l := l) (i := i) (by omega)
  have hdl : (cellsS (l.drop i)).length = l.length - i := by rw [cellsS_length, List.length_drop]
  have hd : ∀ x, (W.setCells g i [.string (S f)]).drew.cell? x = (W.setCells g i [.string (S f)]).cell? x := fun _ => rfl
  by_cases h1 : j < i
  · rw [World.cell?_setCells_out g _ _ _ _ (fun _ _ => Or.inl (by show j < _; omega)), hd, World.cell?_setCells_out g _ _ _ _ (fun _ _ => Or.inl (by show j < _; omega)), put_ahead (by omega) h1]
    exact hold j (by omega) h1
  · by_cases h2 : j = i
    · subst h2
      rw [World.cell?_setCells_out g _ _ _ _ (fun _ _ => Or.inl (by show j < _; omega)), hd]
      have := World.cell?_setCells_in g [.string (S f)] j W (fun t ht => by
        simp at ht; subst ht
        exact hs _ (by omega)) 0 (by simp)
      simp only [Nat.add_zero] at this
      rw [this, put_at (by omega)]; rfl
    · have h3 : i < j := by omega
      have := World.cell?_setCells_in g (cellsS (l.drop i)) (i + 1) (W.setCells g i [.string (S f)]).drew (fun t ht => by
        rw [hd, World.cell?_setCells_out g _ _ _ _ (fun _ _ => Or.inr (by show i + 1 ≤ i + 1 + t; omega))]
        exact hs _ (by omega)) (j - (i + 1)) (by omega)
      rw [show i + 1 + (j - (i + 1)) = j by omega] at this
      rw [this, put_behind (by omega) h3 h (by omega)]
      simp only [cellsS, List.getElem_map, List.getElem_drop]
      congr 3
      have e : i + (j - (i + 1)) = j - 1 := by omega
      simp only [e]

set_option maxHeartbeats 4000000 in
set_option maxRecDepth 100000 in
/-- In between, where there is room. -/
theorem insert_shift (B g c : Nat) (l : List (List UInt8)) (f : List UInt8) (i vb : Nat) (hi : i < l.length) (hl : l.length ≤ 1000) (hroom : l.length + 1 ≤ c) (w : World)
    (ho : w.ownsRow B 9 1 (.slice (some ⟨g, 0, none⟩) l.length c) l.length (cellsS l))
    (hv : w.heap[vb]? = some (.cells #[.string (S f)] 9 (0, 0))) (hvb : vb ≠ g) :
    Calls Tryd.prog 65 #[.slice (some ⟨g, 0, none⟩) l.length c, .int .i64 i, .slice (some ⟨vb, 0, none⟩) 1 1] w (Put B (.slice (some ⟨g, 0, none⟩) l.length c) f l i w) := by
  obtain ⟨i0, hin, hz0, hz1, hz2⟩ := info_parts infoS
  have hsz : (Tryd.prog.info? 9).map (·.size) = some 1 := by rw [hin]; simp [hz1]
  rcases ho.2 with ⟨h0, _⟩ | ⟨g', c', cur, he, hg, hh, hn, hcap, hsc, htake⟩
  · cases h0
  obtain ⟨rfl, rfl⟩ : g = g' ∧ c = c' := by cases he; exact ⟨rfl, rfl⟩
  have hcells := fun j (h : j < l.length) => cell_at ho h
  have hsp : ∀ j, j < l.length + 1 → (w.cell? ⟨g, j, none⟩).isSome = true := fun j hj => by rw [cell_of_row w g _ _ _ _ hh, Array.getElem?_eq_getElem (by omega)]; rfl
  have hfz : ∀ j, w.frozen? ⟨g, j, none⟩ = false := fun j => by simp [World.frozen?, hh]
  have hcv : w.cell? ⟨vb, 0, none⟩ = some (.string (S f)) := by rw [cell_of_row w vb 0 _ _ _ hv]; rfl
  have hov : ∀ lb cb, (callFunc 82 #[.slice (some ⟨vb, 0, none⟩) 1 1, .slice (some ⟨g, i + 1, none⟩) lb cb]).run Tryd.prog w = .ok (.value (.bool false)) w := fun lb cb => by
    rw [run_callFunc_extern Tryd.func82 (by kernel_rfl) (by kernel_rfl) (by kernel_rfl) (e := Extern.SlicesOverlaps.overlaps #[22, 22] #[4]) (by kernel_rfl),
      Lib.run_overlaps_apart w 22 4 9 Tryd.underlying22 1 (fun w => by simp [Go.sizeOf, typeInfo, hin, hz1]) ⟨vb, 0, none⟩ ⟨g, i + 1, none⟩ 1 1 lb cb hvb 9 9 1 cur.size (by simp [World.shape?, hv]) (by simp [World.shape?, hh]) (by omega) (by simp [World.frozen?, hv]) (by simp [World.frozen?, hv])]
    rfl
  have hdl : (cellsS (l.drop i)).length = l.length - i := by rw [cellsS_length, List.length_drop]
  have hcp1 : ∀ ty dc sc, (Builtin.copy_ #[50, 50] ty #[.slice (some ⟨g, i + 1, none⟩) (l.length - i) dc, .slice (some ⟨g, i, none⟩) (l.length + 1 - i) sc]).run Tryd.prog w.drew = .ok (goInt (cellsS (l.drop i)).length) (w.drew.setCells g (i + 1) (cellsS (l.drop i))) := fun ty dc sc =>
    run_copy_cells w.drew _ _ ty 9 g (i + 1) (l.length - i) dc ⟨g, i, none⟩ (l.length + 1 - i) sc (cellsS (l.drop i)) Tryd.underlying50 hsz (by rw [hdl]; simp only [Nat.min_def]; split <;> omega)
      (fun j v hj => by
        have h1 := drop_at hj
        have h2 : i + j < l.length := by
          rcases Nat.lt_or_ge (i + j) l.length with h | h
          · exact h
          · rw [List.getElem?_eq_none (by rw [cellsS_length]; exact h)] at h1; cases h1
        rw [cellsS_at h2] at h1
        cases h1
        rw [addr_add]; exact hcells (i + j) h2)
      (fun j hj => hsp _ (by omega)) (fun j _ => hfz _) (cellsS_one _)
  obtain ⟨W1, hW1⟩ : ∃ W1, W1 = w.drew.setCells g (i + 1) (cellsS (l.drop i)) := ⟨_, rfl⟩
  have hsp1 : ∀ j, j < l.length + 1 → (W1.cell? ⟨g, j, none⟩).isSome = true := fun j hj => by
    rw [hW1]
    exact isSome_setCells g (cellsS (l.drop i)) (i + 1) w.drew (fun t ht => hsp _ (by omega)) _ (hsp j hj)
  have hcp2 : ∀ (W : World), (∀ x, W.cell? x = W1.cell? x) → (∀ x, W.frozen? x = W1.frozen? x) → ∀ ty dc, (Builtin.copy_ #[50, 22] ty #[.slice (some ⟨g, i, none⟩) (l.length + 1 - i) dc, .slice (some ⟨vb, 0, none⟩) 1 1]).run Tryd.prog W = .ok (goInt ([.string (S f)] : List Value).length) (W.setCells g i [.string (S f)]) := fun W hWc hWf ty dc =>
    run_copy_cells W _ _ ty 9 g i (l.length + 1 - i) dc ⟨vb, 0, none⟩ 1 1 [.string (S f)] Tryd.underlying50 hsz (by simp only [Nat.min_def, List.length_singleton]; split <;> omega)
      (fun j v hj => by
        match j, hj with
        | 0, hj =>
          simp at hj; subst hj
          rw [addr_add, hWc, hW1, World.cell?_setCells_out g _ _ _ _ (fun h _ => absurd h hvb)]
          simpa using hcv)
      (fun j hj => by rw [hWc]; exact hsp1 _ (by simp at hj; omega)) (fun j hj => by rw [hWf, hW1, World.frozen?_setCells]; exact hfz _) (by intro u hu; simp at hu; subst hu; rfl)
  have hpc := fun j h => put_cells (W := w.drew) (g := g) (f := f) hi (fun j h _ => hcells j h) hsp j h
  obtain ⟨cur1, hh1, hs1⟩ := heap_sets (cellsS (l.drop i)) (i + 1) w.drew cur hh
  obtain ⟨cur2, hh2, hs2⟩ := heap_sets [.string (S f)] i _ cur1 hh1
  have hpl := put_length (f := f) (l := l) (i := i) (by omega)
  have hown := own_cells hg hh2 (by omega) hcap (by rw [hpl]; exact hroom) hpc
  rw [hpl] at hown
  have hbl : w.grownBy ((w.drew.setCells g (i + 1) (cellsS (l.drop i))).setCells g i [.string (S f)]) (some g) := grown_sets g _ _ _ _ (grown_sets g _ _ _ _ (grown_drew w _))
  rw [← hW1] at hcp1 hown hbl
  have HOW := Lib.hid (And.intro hown hbl)
  have hw1 : IntKind.i64.wrap ((i : Int) + 1) = (i : Int) + 1 := by rw [IntKind.wrap_i64]; omega
  have hw2 : IntKind.i64.wrap ((l.length : Int) + 1) = (l.length : Int) + 1 := by rw [IntKind.wrap_i64]; omega
  have hne : ((i : Int) == (l.length : Int)) = false := by rw [beq_eq_false_iff_ne]; omega
  have hcc : ¬ ((l.length : Int) + 1 > (c : Int)) := by omega
  have hb1 : (0 : Int) ≤ (i : Int) + 1 := by omega
  have hb3 : (i : Int) ≤ (l.length : Int) + 1 := by omega
  have hil : (i : Int) ≤ (l.length : Int) := by omega
  have htn : ((i : Int) + 1).toNat = i + 1 := by omega
  have hc63 : c ≤ 9223372036854775807 := by unfold maxLen at hcap; omega
  have hg2 : ¬ c = i + 1 := by omega
  have hg3 : ¬ c = i := by omega
  clear hown hbl hpc hh1 hs1 hh2 hs2 hcells hsp hfz hcv ho hv hh htake hsc hsp1
  go_enter Tryd.func65, Tryd.ntmps65
  go_wp2_with (simp only [hov])
  go_region_law (refine step_copy_runI rfl _ _ 50 50 rfl _ _ (by simp [Act.eval, Act.put]) (by simp [Act.eval, Act.put]) (hcp1 _ _ _) ?_)
  go_wp2_with (at_builtin; refine wpList_copy_runI _ rfl _ _ 50 22 rfl _ _ rfl rfl (hcp2 _ (fun _ => rfl) (fun _ => rfl) _ _) ?_)
  go_ret
  have H2 := HOW.out
  rw [hW1] at H2
  exact ⟨_, rfl, H2.1, H2.2⟩

set_option maxHeartbeats 4000000 in
set_option maxRecDepth 100000 in
/-- In between, where there is no room. -/
theorem insert_grow (B g c : Nat) (l : List (List UInt8)) (f : List UInt8) (i vb : Nat) (hi : i < l.length) (hl : l.length ≤ 1000) (hroom : ¬ l.length + 1 ≤ c) (w : World)
    (ho : w.ownsRow B 9 1 (.slice (some ⟨g, 0, none⟩) l.length c) l.length (cellsS l)) (hB : B ≤ w.heap.size)
    (hv : w.heap[vb]? = some (.cells #[.string (S f)] 9 (0, 0))) :
    Calls Tryd.prog 65 #[.slice (some ⟨g, 0, none⟩) l.length c, .int .i64 i, .slice (some ⟨vb, 0, none⟩) 1 1] w (Put B (.slice (some ⟨g, 0, none⟩) l.length c) f l i w) := by
  obtain ⟨i0, hin, hz0, hz1, hz2⟩ := info_parts infoS
  have hsz : (Tryd.prog.info? 9).map (·.size) = some 1 := by rw [hin]; simp [hz1]
  rcases ho.2 with ⟨h0, _⟩ | ⟨g', c', cur, he, hg, hh, hn, hcap, hsc, htake⟩
  · cases h0
  obtain ⟨rfl, rfl⟩ : g = g' ∧ c = c' := by cases he; exact ⟨rfl, rfl⟩
  have hcn : c = l.length := by omega
  have hgw : g < w.heap.size := (Array.getElem?_eq_some_iff.1 hh).1
  have hvw : vb < w.heap.size := (Array.getElem?_eq_some_iff.1 hv).1
  have hcells := fun j (h : j < l.length) => cell_at ho h
  have hcv : w.cell? ⟨vb, 0, none⟩ = some (.string (S f)) := by rw [cell_of_row w vb 0 _ _ _ hv]; rfl
  have htl : (cellsS (l.take i)).length = i := by rw [cellsS_length, List.length_take]; omega
  have hold : (Builtin.firstCells i0.size i (.slice (some ⟨g, 0, none⟩) i c)).run Tryd.prog w.drew = .ok (cellsS (l.take i)).toArray w.drew := by
    rw [hz1]
    exact run_firstCells_some w.drew 1 i ⟨g, 0, none⟩ i c (cellsS (l.take i)) (by rw [htl]; omega) (fun j u hj => by
      have hj2 : j < i := by
        rcases Nat.lt_or_ge j i with h | h
        · exact h
        · rw [List.getElem?_eq_none (by omega)] at hj; cases hj
      rw [addr_add, Nat.zero_add]
      have h1 := hcells j (by omega)
      rw [cellsS_at (show j < (l.take i).length by rw [List.length_take]; omega), List.getElem_take] at hj
      cases hj
      exact h1)
  have hik : i + (l.length + 1 - i) = l.length + 1 := by omega
  have hge := grownCap_ge w (l.length + 1) c 9
  have hcm := grownCap_le_maxLen w (l.length + 1) c 9 (by unfold maxLen; omega)
  have hrz : ∀ ty, (Builtin.append_ #[50, 3] ty #[.slice (some ⟨g, 0, none⟩) i c, .int .i64 ((l.length : Int) + 1 - (i : Int))]).run Tryd.prog w =
      Result.ok (.slice (some ⟨w.heap.size, 0, none⟩) (l.length + 1) (grownCap w (l.length + 1) c 9)) (w.drew.alloc (.cells ((cellsS (l.take i)).toArray ++ Builtin.zeroCells (Value.string ⟨#[]⟩).cells (l.length + 1 - i) ++ Builtin.zeroCells (Value.string ⟨#[]⟩).cells (grownCap w (l.length + 1) c 9 - (l.length + 1))) 9)) := fun ty => by
    have h := Lib.run_append_grow_zeros w 50 3 ty 9 i0 _ .i64 .i64 Tryd.underlying50 Tryd.underlying3 hin hz0 (some ⟨g, 0, none⟩) i c (cellsS (l.take i)) hold (l.length + 1 - i) (by omega) (by omega) (by omega) (by omega) (by rw [hz2]; omega) (by rw [hz2, hik]; exact growslice_fits (by omega) (by omega))
    rw [hik] at h
    rw [show (l.length : Int) + 1 - (i : Int) = ((l.length + 1 - i : Nat) : Int) by omega]
    exact h
  generalize grownCap w (l.length + 1) c 9 = G at *
  obtain ⟨ROW, hROW⟩ : ∃ ROW : Array Value, ROW = (cellsS (l.take i)).toArray ++ Builtin.zeroCells (Value.string ⟨#[]⟩).cells (l.length + 1 - i) ++ Builtin.zeroCells (Value.string ⟨#[]⟩).cells (G - (l.length + 1)) := ⟨_, rfl⟩
  rw [← hROW] at hrz
  have hRs : ROW.size = G := by
    rw [hROW]
    simp only [Array.size_append, List.size_toArray, htl, Builtin.zeroCells, Value.cells]
    simp
    omega
  obtain ⟨W1, hW1⟩ : ∃ W1, W1 = w.drew.alloc (.cells ROW 9) := ⟨_, rfl⟩
  rw [← hW1] at hrz
  have hh1 : W1.heap[w.heap.size]? = some (.cells ROW 9 (0, 0)) := by rw [hW1]; exact heap_alloc_new w.drew _
  have hb1 : Below w.heap.size w W1 := by rw [hW1]; exact ((Below.refl w.heap.size w).drew).alloc (Nat.le_refl _) _
  have hO1 : ∀ k j v, k < w.heap.size → w.cell? ⟨k, j, none⟩ = some v → W1.cell? ⟨k, j, none⟩ = some v := fun k j v hk h => by rw [hW1, World.cell?_alloc_past (w := w.drew) _ k j hk]; exact h
  have hN1 : ∀ j, j < l.length + 1 → (W1.cell? ⟨w.heap.size, j, none⟩).isSome = true := fun j hj => by rw [cell_of_row _ _ _ _ _ _ hh1, Array.getElem?_eq_getElem (by omega)]; rfl
  have hF1 : ∀ j, W1.frozen? ⟨w.heap.size, j, none⟩ = false := fun j => by simp [World.frozen?, hh1]
  have hA1 : ∀ j (h : j < l.length), j < i → W1.cell? ⟨w.heap.size, j, none⟩ = some (.string (S l[j])) := fun j h hji => by
    rw [cell_of_row _ _ _ _ _ _ hh1, hROW, Array.append_assoc, Array.getElem?_append_left (by simpa [htl] using hji)]
    have h2 := cellsS_at (show j < (l.take i).length by rw [List.length_take]; omega)
    rw [List.getElem_take] at h2
    simpa using h2
  have hdl : (cellsS (l.drop i)).length = l.length - i := by rw [cellsS_length, List.length_drop]
  have hcpA : ∀ ty dc, (Builtin.copy_ #[50, 22] ty #[.slice (some ⟨w.heap.size, i, none⟩) (l.length + 1 - i) dc, .slice (some ⟨vb, 0, none⟩) 1 1]).run Tryd.prog W1 = .ok (goInt ([.string (S f)] : List Value).length) (W1.setCells w.heap.size i [.string (S f)]) := fun ty dc =>
    run_copy_cells W1 _ _ ty 9 w.heap.size i (l.length + 1 - i) dc ⟨vb, 0, none⟩ 1 1 [.string (S f)] Tryd.underlying50 hsz (by simp only [Nat.min_def, List.length_singleton]; split <;> omega)
      (fun j v hj => by
        match j, hj with
        | 0, hj =>
          simp at hj; subst hj
          rw [addr_add]
          exact hO1 vb _ _ hvw (by simpa using hcv))
      (fun j hj => hN1 _ (by simp at hj; omega)) (fun j _ => hF1 _) (by intro u hu; simp at hu; subst hu; rfl)
  obtain ⟨W2, hW2⟩ : ∃ W2, W2 = (W1.setCells w.heap.size i [.string (S f)]).drew := ⟨_, rfl⟩
  have hcpB : ∀ ty dc sc, (Builtin.copy_ #[50, 50] ty #[.slice (some ⟨w.heap.size, i + 1, none⟩) (l.length - i) dc, .slice (some ⟨g, i, none⟩) (l.length - i) sc]).run Tryd.prog (W1.setCells w.heap.size i [.string (S f)]).drew = .ok (goInt (cellsS (l.drop i)).length) ((W1.setCells w.heap.size i [.string (S f)]).drew.setCells w.heap.size (i + 1) (cellsS (l.drop i))) := fun ty dc sc =>
    run_copy_cells _ _ _ ty 9 w.heap.size (i + 1) (l.length - i) dc ⟨g, i, none⟩ (l.length - i) sc (cellsS (l.drop i)) Tryd.underlying50 hsz (by rw [hdl]; simp only [Nat.min_def]; split <;> omega)
      (fun j v hj => by
        have h1 := drop_at hj
        have h2 : i + j < l.length := by
          rcases Nat.lt_or_ge (i + j) l.length with h | h
          · exact h
          · rw [List.getElem?_eq_none (by rw [cellsS_length]; exact h)] at h1; cases h1
        rw [cellsS_at h2] at h1
        cases h1
        rw [addr_add]
        show (W1.setCells w.heap.size i [.string (S f)]).cell? _ = _
        rw [World.cell?_setCells_out w.heap.size _ _ _ _ (fun h _ => by exfalso; have : g = w.heap.size := h; omega)]
        exact hO1 g _ _ hgw (hcells (i + j) h2))
      (fun j hj => by
        show ((W1.setCells w.heap.size i [.string (S f)]).cell? _).isSome = true
        rw [World.cell?_setCells_out w.heap.size _ _ _ _ (fun _ _ => Or.inr (by show i + 1 ≤ i + 1 + j; omega))]
        exact hN1 _ (by omega))
      (fun j _ => by
        show (W1.setCells w.heap.size i [.string (S f)]).frozen? _ = false
        rw [World.frozen?_setCells]; exact hF1 _) (cellsS_one _)
  have hpc := fun j h => put_cells2 (W := W1) (g := w.heap.size) (f := f) hi hA1 hN1 j h
  obtain ⟨cur1, hh2, hs1⟩ := heap_sets [.string (S f)] i W1 ROW hh1
  obtain ⟨cur2, hh3, hs2⟩ := heap_sets (cellsS (l.drop i)) (i + 1) (W1.setCells w.heap.size i [.string (S f)]).drew cur1 hh2
  have hpl := put_length (f := f) (l := l) (i := i) (by omega)
  have hown := own_cells hB hh3 (cap := G) (by omega) hcm (by rw [hpl]; exact hge) hpc
  rw [hpl] at hown
  have hbl : w.grownBy ((W1.setCells w.heap.size i [.string (S f)]).drew.setCells w.heap.size (i + 1) (cellsS (l.drop i))) (some g) := grown_new (below_sets (Nat.le_refl _) _ _ _ ((below_sets (Nat.le_refl _) _ _ _ hb1).drew)) _
  have HOW := Lib.hid (And.intro hown hbl)
  have hw1 : IntKind.i64.wrap ((i : Int) + 1) = (i : Int) + 1 := by rw [IntKind.wrap_i64]; omega
  have hw2 : IntKind.i64.wrap ((l.length : Int) + 1) = (l.length : Int) + 1 := by rw [IntKind.wrap_i64]; omega
  have hne : ((i : Int) == (l.length : Int)) = false := by rw [beq_eq_false_iff_ne]; omega
  have hcc : (l.length : Int) + 1 > (c : Int) := by omega
  have hb2 : (0 : Int) ≤ (i : Int) + 1 := by omega
  have hb3 : (i : Int) ≤ (l.length : Int) + 1 := by omega
  have hil : (i : Int) ≤ (l.length : Int) := by omega
  have htn : ((i : Int) + 1).toNat = i + 1 := by omega
  have hc63 : c ≤ 9223372036854775807 := by unfold maxLen at hcap; omega
  have hG63 : G ≤ 9223372036854775807 := by unfold maxLen at hcm; omega
  have hg2 : ¬ c = i + 1 ∨ c = i + 1 := by omega
  have hg3 : ¬ c = i := by omega
  have hg4 : ¬ G = i := by omega
  have hg5 : ¬ G = i + 1 := by omega
  clear hown hbl hpc hh2 hs1 hh3 hs2 hcells hcv ho hv hh htake hsc hh1 hN1 hF1 hA1 hO1 hold hROW hRs hW1 hW2 hg2 hb1 hcn
  go_enter Tryd.func65, Tryd.ntmps65
  go_wp2_with (first
    | (at_builtin; refine Lib.wpList_append_run _ rfl _ _ _ _ rfl _ _ rfl rfl _ _ (hrz _) ?_)
    | (at_builtin; refine wpList_copy_runI _ rfl _ _ 50 22 rfl _ _ rfl rfl (hcpA _ _) ?_))
  go_region_law (refine step_copy_runI rfl _ _ 50 50 rfl _ _ (by simp [Act.eval, Act.put]) (by simp [Act.eval, Act.put]) (hcpB _ _ _) ?_)
  go_wp2
  go_ret
  exact ⟨_, rfl, HOW.out.1, HOW.out.2⟩

/-- One text put into a row of one's own, at whatever place. -/
theorem insert_any (B : Nat) (v : Value) (l : List (List UInt8)) (f : List UInt8) (i vb : Nat) (hi : i ≤ l.length) (hl : l.length ≤ 1000) (w : World)
    (ho : w.ownsRow B 9 1 v l.length (cellsS l)) (hB : B ≤ w.heap.size)
    (hv : w.heap[vb]? = some (.cells #[.string (S f)] 9 (0, 0))) (hvb : v.ownBlock ≠ some vb) :
    Calls Tryd.prog 65 #[v, .int .i64 i, .slice (some ⟨vb, 0, none⟩) 1 1] w (Put B v f l i w) := by
  by_cases he : i = l.length
  · subst he
    exact insert_end B v l f vb hl w ho hB hv
  · have hil : i < l.length := by omega
    have ho2 := ho
    rcases ho.2 with ⟨_, h0⟩ | ⟨g, c, cur, rfl, hg, hh, hn, hcap, hsc, htake⟩
    · omega
    · have hne : vb ≠ g := fun e => hvb (by rw [e]; rfl)
      by_cases hroom : l.length + 1 ≤ c
      · exact insert_shift B g c l f i vb hil hl hroom w ho2 hv hne
      · exact insert_grow B g c l f i vb hil hl hroom w ho2 hB hv

set_option maxHeartbeats 1000000 in
set_option maxRecDepth 100000 in
/-- A set of one's own with one flag more. -/
theorem with_any (B : Nat) (v : Value) (l : List (List UInt8)) (f : List UInt8) (hl : l.length ≤ 17) (hso : Sorted l) (w : World) (ho : w.ownsRow B 9 1 v l.length (cellsS l)) (hB : B ≤ w.heap.size) (hS : Sys w) :
    Calls Tryd.prog 48 #[v, .string (S f)] w fun e w' => ∃ v', e = .returned v' ∧ w'.ownsRow B 9 1 v' (pin f l).length (cellsS (pin f l)) ∧ w.grownBy w' v.ownBlock := by
  have hv0 : ∃ a c, v = .slice a l.length c := by
    rcases ho.2 with ⟨rfl, h0⟩ | ⟨g, c, cur, rfl, _⟩
    · exact ⟨none, 0, by rw [h0]⟩
    · exact ⟨_, _, rfl⟩
  obtain ⟨a, c, rfl⟩ := hv0
  have hrow : RowS w a l := by
    obtain ⟨a', c', he, hr⟩ := rowS_of_own rfl ho
    cases he
    exact hr
  have hfind := find_any a c l f (by omega) hso w hrow hS
  have HC := Lib.hid (cut_le f l)
  have HO := Lib.hid ho
  have HB := Lib.hid hB
  clear hrow hS hso ho
  by_cases hf : f ∈ l
  · have HP : Hid (pin f l = l) := Lib.hid (by unfold pin; rw [if_pos (.inl hf)])
    rw [decide_eq_true hf] at hfind
    clear hf
    go_enter Tryd.func48, Tryd.ntmps48
    go_wp2_with fail
    refine hfind.mono ?_
    rintro e w1 ⟨rfl, b1⟩
    clear hfind
    go_wp2_with fail
    go_ret
    exact ⟨_, rfl, by rw [HP.out]; exact ownsRow_below HO.out b1, grown_new b1 _⟩
  · rw [decide_eq_false hf] at hfind
    by_cases h16 : 16 < l.length
    · have HP : Hid (pin f l = l) := Lib.hid (by unfold pin; rw [if_pos (.inr h16)])
      have h16i : (l.length : Int) > 16 := by omega
      clear hf
      go_enter Tryd.func48, Tryd.ntmps48
      go_wp2_with fail
      refine hfind.mono ?_
      rintro e w1 ⟨rfl, b1⟩
      clear hfind
      go_wp2_with fail
      go_ret
      exact ⟨_, rfl, by rw [HP.out]; exact ownsRow_below HO.out b1, grown_new b1 _⟩
    · have HP : Hid (pin f l = put f l (cut f l) ∧ (put f l (cut f l)).length = l.length + 1) := Lib.hid ⟨by unfold pin; rw [if_neg (by simp [hf]; omega), ins_new hf]; rfl, put_length HC.out⟩
      have h16i : ¬ (l.length : Int) > 16 := by omega
      have HI := Lib.hid (fun vb W h1 h2 h3 h4 => insert_any B (.slice a l.length c) l f (cut f l) vb HC.out (by omega) W h1 h2 h3 h4)
      generalize cut f l = i at *
      clear hf
      go_enter Tryd.func48, Tryd.ntmps48
      go_wp2_with fail
      refine hfind.mono ?_
      rintro e w1 ⟨rfl, b1⟩
      clear hfind
      have ho1 := ownsRow_below HO.out b1
      have hlt1 : (Value.slice a l.length c).ownBlock ≠ some w1.heap.size := fun e => by have := (ho1.lt _ e).2; omega
      have hB1 := b1.size
      have hins := HI.out w1.heap.size (w1.alloc (.cells #[.string (S f)] 9)) (ho1.alloc _) (by rw [heap_alloc_size]; have := HB.out; omega) (heap_alloc_new w1 _) hlt1
      have HINS := Lib.hid (And.intro hins ((grown_new b1 (Value.slice a l.length c).ownBlock).trans (grown_new ((Below.refl w1.heap.size w1).alloc (Nat.le_refl _) (.cells #[.string (S f)] 9)) _)))
      clear hins ho1 hlt1 HI HO
      go_wp2_with fail
      refine HINS.out.1.mono ?_
      rintro e w2 ⟨v2, rfl, ho2, hb2⟩
      have HR := Lib.hid (And.intro ho2 (HINS.out.2.trans hb2))
      clear HINS ho2 hb2
      go_wp2_with fail
      go_ret
      refine ⟨_, rfl, ?_, HR.out.2⟩
      rw [HP.out.1, HP.out.2]
      exact HR.out.1
end Go.Proofs.YtiaggnpkmigbhaaDoor.fl
