/-
  The heap: its row, its own methods.
-/
import Derived.Test.YtnodgpbahlaccaaQmP1
import Derived.BigRegion
import Derived.BigCall
namespace Go.Proofs.Ytnodgpbahlaccaa.qm
set_option linter.unusedVariables false
open Go.RowKit
open rw (Arr But Own bnext below_box below_drew below_drewN)

/-- A row of indices of one's own, written out. -/
theorem hp_open {w : World} {B : Nat} {v : Value} {l : List Ix} (h : Own hpSh w B v l) (hne : l ≠ []) :
    ∃ g cap cur, v = .slice (some ⟨g, 0, none⟩) l.length cap ∧ B ≤ g ∧ g < w.heap.size ∧ Arr w g 31 cur ∧ l.length ≤ cap ∧ cap ≤ maxLen ∧ cur.size = cap * 2 ∧ cur.toList.take (l.length * 2) = rw.cellsG hpSh l := by
  have h2 := h
  rcases h.2 with ⟨rfl, h0⟩ | ⟨g, cap, cur, rfl, hg, hh, hn, hcap, hsz, htake⟩
  · exact absurd (List.length_eq_zero_iff.1 h0) hne
  · exact ⟨g, cap, cur, rfl, hg, (Array.getElem?_eq_some_iff.1 hh).1, hh, hn, hcap, hsz, htake⟩
theorem hp_cells {cur : Array Value} {l : List Ix} (h : cur.toList.take (l.length * 2) = rw.cellsG hpSh l) {k : Nat} (hk : k < l.length) :
    cur[k * 2]? = some (.int .i64 (l[k]'hk).node) ∧ cur[k * 2 + 1]? = some (.int .u64 (l[k]'hk).idx) := by
  have e : ∀ i, i < 2 → cur[k * 2 + i]? = (hpSh.enc (l[k]'hk))[i]? := fun i hi => by
    rw [← rw.cellsG_get hpSh l k hk i hi, ← h, List.getElem?_take_of_lt (show k * hpSh.k + i < l.length * 2 by show k * 2 + i < l.length * 2; omega), Array.getElem?_toList]
    rfl
  exact ⟨by have := e 0 (by decide); simpa [hpSh] using this, by have := e 1 (by decide); simpa [hpSh] using this⟩
theorem getD_at {l : List Ix} {k : Nat} (hk : k < l.length) : l.getD k z0 = l[k] := by simp [List.getD_eq_getElem?_getD, List.getElem?_eq_getElem hk]
theorem key_at {l : List Ix} {k : Nat} (hk : k < l.length) : key l k = (l[k]).idx := by unfold key; rw [getD_at hk]

set_option maxHeartbeats 2000000 in
set_option maxRecDepth 100000 in
theorem len_any (a : Option Addr) (n c : Nat) (w : World) : Calls Try.prog 31 #[.slice a n c] w fun e w' => e = .returned (.int .i64 n) ∧ w = w' := by
  go_enter Try.func31, Try.ntmps31
  go_wp2_with fail
  go_ret
  exact ⟨rfl, rfl⟩
set_option maxHeartbeats 2000000 in
set_option maxRecDepth 100000 in
theorem less_any (v : Value) (l : List Ix) (i j : Nat) (hi : i < l.length) (hj : j < l.length) (hl : l.length ≤ 1000000) (w : World) (B : Nat) (h : Own hpSh w B v l) :
    Calls Try.prog 75 #[v, .int .i64 i, .int .i64 j] w fun e w' => e = .returned (.bool (decide (key l j < key l i))) ∧ Below w.heap.size w w' := by
  rw [key_at hi, key_at hj]
  obtain ⟨g, cap, cur, rfl, hg, hgl, ha, hn, hcap, hsz, htk⟩ := hp_open h (by intro e; rw [e] at hi; simp at hi)
  obtain ⟨c0, c1⟩ := hp_cells htk hi
  obtain ⟨d0, d1⟩ := hp_cells htk hj
  have c1 := ha.cell c1
  have d1 := ha.cell d1
  clear c0 d0 htk
  obtain ⟨n, hn0⟩ : ∃ n, l.length = n := ⟨_, rfl⟩
  generalize (l[i]).idx = x at *
  generalize (l[j]).idx = y at *
  rw [hn0] at hi hj ⊢
  have hii : (i : Int) < (n : Int) := by omega
  have hji : (j : Int) < (n : Int) := by omega
  have q1 : decide ((i : Int) < (n : Int)) = true := decide_eq_true hii
  have q2 : decide ((j : Int) < (n : Int)) = true := decide_eq_true hji
  have HB : Hid (∀ n, Below w.heap.size w (w.drewN n)) := fun n => below_drewN (Below.refl _ _) n
  clear h ha hn0 hsz hl hn hg
  go_enter Try.func75, Try.ntmps75
  go_upto_region 1 with (fail)
  go_quiet (fail)
  go_wp2
  go_ret
  exact ⟨rfl, HB.out _⟩
end Go.Proofs.Ytnodgpbahlaccaa.qm
