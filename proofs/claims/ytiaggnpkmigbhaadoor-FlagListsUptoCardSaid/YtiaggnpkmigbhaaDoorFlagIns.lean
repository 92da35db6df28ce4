/-
  What slices.Insert lays, one text put into a row of one's own: with room and without, in between and behind.
-/
import Derived.Test.YtiaggnpkmigbhaaDoorFlagInsM
import Derived.Deep.RegionLaw
import Derived.Lib.JoinLaws
namespace Go.Proofs.YtiaggnpkmigbhaaDoor.fl
open Go.RowKit Go.Lib

/-- What Insert answers. -/
def Put (B : Nat) (v : Value) (f : List UInt8) (l : List (List UInt8)) (i : Nat) (w : World) (e : Ending) (w' : World) : Prop :=
  ∃ v', e = .returned v' ∧ w'.ownsRow B 9 1 v' (l.length + 1) (cellsS (put f l i)) ∧ w.grownBy w' v.ownBlock

theorem own_grown {w W : World} {B G : Nat} {l : List (List UInt8)} (hB : B ≤ w.heap.size) (hn : l.length ≤ G) (hG : G ≤ maxLen) (hW : W = w.drew.alloc (.cells ((cellsS l).toArray ++ Builtin.zeroCells (Value.string ⟨#[]⟩).cells (G - l.length)) 9)) :
    W.ownsRow B 9 1 (.slice (some ⟨w.heap.size, 0, none⟩) l.length G) l.length (cellsS l) ∧ ∀ row, w.grownBy W row := by
  subst hW
  have hh : (w.drew.alloc (.cells ((cellsS l).toArray ++ Builtin.zeroCells (Value.string ⟨#[]⟩).cells (G - l.length)) 9)).heap[w.heap.size]? = some (.cells ((cellsS l).toArray ++ Builtin.zeroCells (Value.string ⟨#[]⟩).cells (G - l.length)) 9 (0, 0)) := heap_alloc_new w.drew _
  refine ⟨own_cells hB hh ?_ hG hn (fun j h => ?_), fun row => grown_new (((Below.refl w.heap.size w).drew).alloc (Nat.le_refl _) _) row⟩
  · simp [Builtin.zeroCells, Value.cells, cellsS]; omega
  · rw [cell_of_row _ _ _ _ _ _ hh, Array.getElem?_append_left (by simp [cellsS]; exact h)]
    simp [cellsS, h]

set_option maxHeartbeats 4000000 in
set_option maxRecDepth 100000 in
/-- Behind the last one. -/
theorem insert_end (B : Nat) (v : Value) (l : List (List UInt8)) (f : List UInt8) (vb : Nat) (hl : l.length ≤ 1000) (w : World) (ho : w.ownsRow B 9 1 v l.length (cellsS l)) (hB : B ≤ w.heap.size)
    (hv : w.heap[vb]? = some (.cells #[.string (S f)] 9 (0, 0))) :
    Calls Tryd.prog 65 #[v, .int .i64 l.length, .slice (some ⟨vb, 0, none⟩) 1 1] w (Put B v f l l.length w) := by
  obtain ⟨i0, hi, hz0, hz1, hz2⟩ := info_parts infoS
  have hput : put f l l.length = l ++ [f] := by unfold put; simp
  have hpl : (l ++ [f]).length = l.length + 1 := by simp
  have hcp : cellsS (l ++ [f]) = cellsS l ++ [.string (S f)] := cellsS_snoc l f
  have hcv : w.cell? ⟨vb, 0, none⟩ = some (.string (S f)) := by rw [cell_of_row w vb 0 _ _ _ hv]; rfl
  have hvs : ∀ j u, ([.string (S f)] : List Value)[j]? = some u → w.cell? ((⟨vb, 0, none⟩ : Addr).add j) = some u := by
    intro j u hj
    match j, hj with
    | 0, hj => simp at hj; subst hj; rw [addr_add]; simpa using hcv
  have h1v : ∀ u ∈ ([.string (S f)] : List Value), u.oneCell' = true := by intro u hu; simp at hu; subst hu; rfl
  have hsrc : Src Tryd.prog i0.size 22 (.slice (some ⟨vb, 0, none⟩) 1 1) 1 [.string (S f)] w := by
    rw [hz1]
    exact Src.ofSlice w Tryd.underlying22 ⟨vb, 0, none⟩ 1 1 _ (by simp) hvs h1v
  have hneq : ((l.length : Int) == (l.length : Int)) = true := by simp
  rcases ho.2 with ⟨rfl, h0⟩ | ⟨g, c, cur, rfl, hg, hh, hn, hcap, hsz, htake⟩
  · have hl0 : l = [] := List.length_eq_zero_iff.1 h0
    subst hl0
    have hold : (Builtin.firstCells i0.size 0 (.slice none 0 0)).run Tryd.prog w.drew = .ok ([] : List Value).toArray w.drew := by rw [hz1]; exact run_firstCells_none w.drew 1 0 0 0
    have hrun := run_append_grow_src (P := Tryd.prog) (w := w) 50 22 50 9 i0 _ Tryd.underlying50 hi hz0 none 0 0 [] hold _ 1 [.string (S f)] hsrc (by omega) (by omega) (by rw [hz2]; exact growslice_fits (by omega) (by omega))
    have hge := grownCap_ge w 1 0 9
    have hcm := grownCap_le_maxLen w 1 0 9 (by decide)
    simp only [Nat.zero_add, List.nil_append] at hrun
    generalize grownCap w 1 0 9 = G at *
    obtain ⟨W, hW⟩ : ∃ W, W = w.drew.alloc (.cells ((cellsS [f]).toArray ++ Builtin.zeroCells (Value.string ⟨#[]⟩).cells (G - [f].length)) 9) := ⟨_, rfl⟩
    have hown := own_grown (l := [f]) hB (by simpa using hge) hcm hW
    change _ = Result.ok _ (w.drew.alloc (.cells ((cellsS [f]).toArray ++ Builtin.zeroCells (Value.string ⟨#[]⟩).cells (G - [f].length)) 9)) at hrun
    rw [← hW] at hrun
    have HOW := Lib.hid hown
    clear hown hW hold hsrc hvs h1v hcp hpl ho hv hcv hge hcm
    go_enter Tryd.func65, Tryd.ntmps65
    go_wp2_with (at_builtin; refine Lib.wpList_append_run _ rfl _ _ _ _ rfl _ _ rfl rfl _ _ hrun ?_)
    go_ret
    exact ⟨_, rfl, HOW.out.1, HOW.out.2 _⟩
  · by_cases hroom : l.length + 1 ≤ c
    · have hrun := run_append_room_src (P := Tryd.prog) (w := w) 50 22 50 9 i0 Tryd.underlying50 hi g 0 l.length c _ 1 [.string (S f)] hsrc hroom
        (fun j hj => by simp at hj; subst hj; rw [hz1, cell_of_row w g _ _ _ _ hh, Array.getElem?_eq_getElem (by omega)]; rfl)
        (fun j _ => by simp [World.frozen?, hh])
      rw [hz1] at hrun
      obtain ⟨cur', hh', hs'⟩ := heap_sets [.string (S f)] (0 + l.length * 1) w cur hh
      obtain ⟨W, hW⟩ : ∃ W, W = w.setCells g (0 + l.length * 1) [.string (S f)] := ⟨_, rfl⟩
      have hbW : w.grownBy W (some g) := by rw [hW]; exact grown_sets g _ _ _ _ (World.grownBy.refl w _)
      have hcl : ∀ j (h : j < (l ++ [f]).length), W.cell? ⟨g, j, none⟩ = some (.string (S (l ++ [f])[j])) := fun j h => by
        rw [hW]
        by_cases hj : j < l.length
        · rw [World.cell?_setCells_out g _ _ _ _ (fun _ _ => Or.inl (by show j < _; omega)), List.getElem_append_left hj, ho.cellAt j (by omega)]
          exact cellsS_at hj
        · obtain rfl : j = l.length := by rw [hpl] at h; omega
          have := World.cell?_setCells_in g [.string (S f)] (0 + l.length * 1) w (fun i hi => by simp at hi; subst hi; rw [cell_of_row w g _ _ _ _ hh, Array.getElem?_eq_getElem (by omega)]; rfl) 0 (by simp)
          simp only [Nat.zero_add, Nat.mul_one, Nat.add_zero] at this ⊢
          rw [this]
          simp
      have hown := own_cells hg (hW ▸ hh') (by omega) hcap (by rw [hpl]; exact hroom) hcl
      rw [hpl] at hown
      rw [← hW] at hrun
      have HOW := Lib.hid (And.intro hown hbW)
      clear hown hbW hcl hW hh' hs' hsrc hvs h1v hcp ho hv hcv hh htake
      go_enter Tryd.func65, Tryd.ntmps65
      go_wp2_with (at_builtin; refine Lib.wpList_append_run _ rfl _ _ _ _ rfl _ _ rfl rfl _ _ hrun ?_)
      go_ret
      exact ⟨_, rfl, by rw [hput]; exact HOW.out.1, HOW.out.2⟩
    · have hold : (Builtin.firstCells i0.size l.length (.slice (some ⟨g, 0, none⟩) l.length c)).run Tryd.prog w.drew = .ok (cellsS l).toArray w.drew := by
        rw [hz1]
        exact run_firstCells_some w.drew 1 l.length ⟨g, 0, none⟩ l.length c (cellsS l) (by simp [cellsS]) (fun j u hj => ho.cells (g := g) rfl j u hj)
      have hrun := run_append_grow_src (P := Tryd.prog) (w := w) 50 22 50 9 i0 _ Tryd.underlying50 hi hz0 (some ⟨g, 0, none⟩) l.length c (cellsS l) hold _ 1 [.string (S f)] hsrc (by omega) (by omega) (by rw [hz2]; exact growslice_fits (by omega) (by omega))
      have hge := grownCap_ge w (l.length + 1) c 9
      have hcm := grownCap_le_maxLen w (l.length + 1) c 9 (by unfold maxLen; omega)
      rw [← hcp, ← hpl] at hrun
      rw [← hpl] at hge hcm
      generalize grownCap w (l ++ [f]).length c 9 = G at *
      obtain ⟨W, hW⟩ : ∃ W, W = w.drew.alloc (.cells ((cellsS (l ++ [f])).toArray ++ Builtin.zeroCells (Value.string ⟨#[]⟩).cells (G - (l ++ [f]).length)) 9) := ⟨_, rfl⟩
      have hown := own_grown (l := l ++ [f]) hB hge hcm hW
      rw [← hW, hpl] at hrun
      rw [hpl] at hown
      have HOW := Lib.hid hown
      clear hown hW hold hsrc hvs h1v hcp ho hv hcv hge hcm hpl hh htake
      go_enter Tryd.func65, Tryd.ntmps65
      go_wp2_with (at_builtin; refine Lib.wpList_append_run _ rfl _ _ _ _ rfl _ _ rfl rfl _ _ hrun ?_)
      go_ret
      exact ⟨_, rfl, by rw [hput]; exact HOW.out.1, HOW.out.2 _⟩
end Go.Proofs.YtiaggnpkmigbhaaDoor.fl
