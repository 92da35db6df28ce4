/-
  The heap: two places change.
-/
import Derived.Test.YtnodgpbahlaccaaQmH1
namespace Go.Proofs.Ytnodgpbahlaccaa.qm
set_option linter.unusedVariables false
open Go.RowKit
open rw (Arr But Own bnext below_box below_drew below_drewN)

/-- The cells of a row with one struct put anew. -/
def put2 (cs : Array Value) (k : Nat) (x : Ix) : Array Value := (cs.setIfInBounds (k * 2) (.int .i64 x.node)).setIfInBounds (k * 2 + 1) (.int .u64 x.idx)
theorem put2_size (cs : Array Value) (k : Nat) (x : Ix) : (put2 cs k x).size = cs.size := by simp [put2]
theorem set2 (l : List Ix) (k : Nat) (x : Ix) (cs : Array Value) (h : cs.toList.take (l.length * 2) = rw.cellsG hpSh l) (hk : k < l.length) (hs : l.length * 2 ≤ cs.size) :
    (put2 cs k x).toList.take ((l.set k x).length * 2) = rw.cellsG hpSh (l.set k x) := by
  have hl2 : (rw.cellsG hpSh (l.set k x)).length = l.length * 2 := by rw [rw.cellsG_length, List.length_set]; rfl
  apply List.ext_getElem?
  intro i
  rw [List.length_set]
  by_cases hi : i < l.length * 2
  · rw [List.getElem?_take_of_lt hi, Array.getElem?_toList]
    have e : i = i / 2 * 2 + i % 2 := by omega
    have hm : i % 2 < 2 := Nat.mod_lt _ (by decide)
    have hd : i / 2 < l.length := by omega
    have hg := rw.cellsG_get hpSh (l.set k x) (i / 2) (by rw [List.length_set]; exact hd) (i % 2) hm
    have hg' : (rw.cellsG hpSh (l.set k x))[i]? = (hpSh.enc ((l.set k x)[i / 2]'(by rw [List.length_set]; exact hd)))[i % 2]? := by
      rw [← hg]; congr 1
    have hg0 := rw.cellsG_get hpSh l (i / 2) hd (i % 2) hm
    have hg0' : cs[i]? = (hpSh.enc (l[i / 2]'hd))[i % 2]? := by
      rw [← hg0, ← h, List.getElem?_take_of_lt (show i / 2 * hpSh.k + i % 2 < l.length * 2 by show i / 2 * 2 + i % 2 < l.length * 2; omega), Array.getElem?_toList]
      congr 1
    rw [hg', List.getElem_set]
    unfold put2
    rw [Array.getElem?_setIfInBounds, Array.getElem?_setIfInBounds, Array.size_setIfInBounds]
    by_cases hk2 : k = i / 2
    · subst hk2
      rw [if_pos rfl]
      rcases (show i % 2 = 0 ∨ i % 2 = 1 by omega) with h0 | h0
      · rw [if_neg (by omega), if_pos (by omega), if_pos (by omega), h0]; rfl
      · rw [if_pos (by omega), if_pos (by omega), h0]; rfl
    · rw [if_neg hk2, if_neg (by omega), if_neg (by omega)]
      exact hg0'
  · rw [List.getElem?_eq_none (Nat.le_trans (List.length_take_le _ _) (by omega)), List.getElem?_eq_none (by rw [hl2]; omega)]
theorem sw_own {w W : World} {B g cap : Nat} {cur : Array Value} {l : List Ix} {i j : Nat} (hi : i < l.length) (hj : j < l.length) (hg : B ≤ g) (hn : l.length ≤ cap) (hcap : cap ≤ maxLen) (hsz : cur.size = cap * 2)
    (htk : cur.toList.take (l.length * 2) = rw.cellsG hpSh l) (ha : Arr W g 31 (put2 (put2 cur i (l.getD j z0)) j (l.getD i z0))) : Own hpSh W B (.slice (some ⟨g, 0, none⟩) l.length cap) (sw l i j) := by
  have h1 := set2 l i (l.getD j z0) cur htk hi (by omega)
  have h2 := set2 (l.set i (l.getD j z0)) j (l.getD i z0) _ h1 (by simpa using hj) (by rw [put2_size]; simp; omega)
  refine ⟨?_, .inr ⟨g, cap, _, ?_, hg, ha, ?_, hcap, ?_, ?_⟩⟩
  · rw [rw.cellsG_length]
  · rw [sw_len]
  · rw [sw_len]; exact hn
  · rw [put2_size, put2_size]; exact hsz
  · exact h2
/-- Only the row's own block turned. -/
def Bv (B : Nat) (v : Value) (w w' : World) : Prop := Below B w w' ∧ ∃ g, v.ownBlock = some g ∧ But g w w'
set_option maxHeartbeats 8000000 in
set_option maxRecDepth 100000 in
theorem swap_any (v : Value) (l : List Ix) (i j : Nat) (hi : i < l.length) (hj : j < l.length) (hij : i ≠ j) (hl : l.length ≤ 1000000) (w : World) (B : Nat) (h : Own hpSh w B v l) :
    Calls Try.prog 78 #[v, .int .i64 i, .int .i64 j] w fun e w' => e = .returned (.tuple #[]) ∧ Own hpSh w' B v (sw l i j) ∧ Bv B v w w' := by
  obtain ⟨g, cap, cur, rfl, hg, hgl, ha, hn, hcap, hsz, htk⟩ := hp_open h (by intro e; rw [e] at hi; simp at hi)
  obtain ⟨c0, c1⟩ := hp_cells htk hi
  obtain ⟨d0, d1⟩ := hp_cells htk hj
  have HT : Hid (∀ W, Arr W g 31 (put2 (put2 cur i (l.getD j z0)) j (l.getD i z0)) → Own hpSh W B (.slice (some ⟨g, 0, none⟩) l.length cap) (sw l i j)) := fun W hW => sw_own (w := w) hi hj hg hn hcap hsz htk hW
  rw [getD_at hi, getD_at hj] at HT
  obtain ⟨n, hn0⟩ : ∃ n, l.length = n := ⟨_, rfl⟩
  generalize l[i] = x at *
  generalize l[j] = y at *
  rw [hn0] at hi hj HT ⊢
  obtain ⟨xn, xi⟩ := x
  obtain ⟨yn, yi⟩ := y
  simp only at c0 c1 d0 d1
  have c0 := ha.cell c0
  have c1 := ha.cell c1
  have d0 := ha.cell d0
  have d1 := ha.cell d1
  have hii : (i : Int) < (n : Int) := by omega
  have hji : (j : Int) < (n : Int) := by omega
  have hfz : ∀ t, w.frozen? ⟨g, t, none⟩ = false := fun t => ha.frozen t
  have HA := Lib.hid ha
  clear h ha hn0 hsz hl hn htk
  go_enter Try.func78, Try.ntmps78
  go_region
  all_goals go_wp2
  refine bodyPost_end (results_none rfl _ _ _) rfl ?_
  refine ⟨rfl, HT.out _ ?_, ?_⟩
  · exact (((HA.out.set _ _).set _ _).set _ _).set _ _
  · have k := (((((But.refl g w).set (i * 2) (.int .i64 yn)).set (i * 2 + 1) (.int .u64 yi)).set (j * 2) (.int .i64 xn)).set (j * 2 + 1) (.int .u64 xi)).drew
    exact ⟨k.below (by omega) hg, g, by simp [Value.ownBlock], k⟩
set_option maxHeartbeats 8000000 in
set_option maxRecDepth 100000 in
theorem swap_same (v : Value) (l : List Ix) (i : Nat) (hi : i < l.length) (hl : l.length ≤ 1000000) (w : World) (B : Nat) (h : Own hpSh w B v l) :
    Calls Try.prog 78 #[v, .int .i64 i, .int .i64 i] w fun e w' => e = .returned (.tuple #[]) ∧ Own hpSh w' B v (sw l i i) ∧ Bv B v w w' := by
  obtain ⟨g, cap, cur, rfl, hg, hgl, ha, hn, hcap, hsz, htk⟩ := hp_open h (by intro e; rw [e] at hi; simp at hi)
  obtain ⟨c0, c1⟩ := hp_cells htk hi
  have HT : Hid (∀ W, Arr W g 31 (put2 (put2 cur i (l.getD i z0)) i (l.getD i z0)) → Own hpSh W B (.slice (some ⟨g, 0, none⟩) l.length cap) (sw l i i)) := fun W hW => sw_own (w := w) hi hi hg hn hcap hsz htk hW
  rw [getD_at hi] at HT
  obtain ⟨n, hn0⟩ : ∃ n, l.length = n := ⟨_, rfl⟩
  generalize l[i] = x at *
  rw [hn0] at hi HT ⊢
  obtain ⟨xn, xi⟩ := x
  simp only at c0 c1
  have c0 := ha.cell c0
  have c1 := ha.cell c1
  have hii : (i : Int) < (n : Int) := by omega
  have hfz : ∀ t, w.frozen? ⟨g, t, none⟩ = false := fun t => ha.frozen t
  have HA := Lib.hid ha
  clear h ha hn0 hsz hl hn htk
  go_enter Try.func78, Try.ntmps78
  go_region
  all_goals go_wp2
  refine bodyPost_end (results_none rfl _ _ _) rfl ?_
  refine ⟨rfl, HT.out _ ?_, ?_⟩
  · exact (((HA.out.set _ _).set _ _).set _ _).set _ _
  · have k := (((((But.refl g w).set (i * 2) (.int .i64 xn)).set (i * 2 + 1) (.int .u64 xi)).set (i * 2) (.int .i64 xn)).set (i * 2 + 1) (.int .u64 xi)).drew
    exact ⟨k.below (by omega) hg, g, by simp [Value.ownBlock], k⟩
end Go.Proofs.Ytnodgpbahlaccaa.qm
