/-
  What the law's walk stands on, part 1 of 5: the texts QmP3, QmH1, QmH2, QmH3, QmH4, QmH5, QmH6, QmH7, QmH8, one behind the other.
-/
import Derived.Test.YtmgmhnohocamfaaGreatQmP2
import Derived.Test.YtmgmhnohocamfaaGreatQmP1
import Derived.BigRegion
import Derived.BigCall
/-! QmP3 -/
namespace Go.Proofs.YtmgmhnohocamfaaGreat.qm
set_option linter.unusedVariables false
open Go.RowKit
open rw (Arr But Own bnext below_box below_drew below_drewN)

set_option maxHeartbeats 4000000 in
set_option maxRecDepth 100000 in
theorem most_any (u v : Value) (l who : List Int) (hl : l.length ≤ 140737488355328) (hw : who.length ≤ 140737488355328) (w : World) (h : Ns w u l) (h2 : Ns w v who) :
    Calls Tryz.prog 137 #[u, v] w fun e w' => e = .returned (.bool (most l who)) ∧ w = w' := by
  have hR := right_any u l hl w h
  obtain ⟨a, c, rfl⟩ := sl_form h
  obtain ⟨a2, c2, rfl⟩ := sl_form h2
  have hC := fun n => contains_any _ who n hw w h2
  obtain ⟨N, hN⟩ : ∃ n, l.length = n := ⟨_, rfl⟩
  obtain ⟨M, hM⟩ : ∃ n, who.length = n := ⟨_, rfl⟩
  have HN := Lib.hid hN
  have HS := Lib.hid h
  rw [hN] at HS hl hR ⊢
  rw [hM] at hC ⊢
  obtain ⟨R, hR0⟩ : ∃ r, most l who = r := ⟨_, rfl⟩
  rw [hR0]
  have HR := Lib.hid hR0
  clear hR0
  have HC := Lib.hid hC
  clear h h2 hN hM hC hw
  by_cases hr : right l = true
  · have hlen := right_len hr
    rw [HN.out] at hlen
    have HM : Hid (R = decide (N < 2 * cnt l who)) := HR.out.symm.trans <| by
      simp only [most, hr, Bool.true_and, HN.out]
    rw [hr] at hR
    clear hr
    go_enter Tryz.func137, Tryz.ntmps137
    go_wp2_with fail
    refine hR.mono ?_
    clear hR
    rintro e w2 ⟨rfl, rfl⟩
    go_wp2_with fail
    go_loopw [5, 7, 13] (fun p _ i wr => ∃ (k z : Nat), i = .int .i64 k ∧ p = .int .i64 z ∧ k ≤ N ∧ z ≤ k ∧ Hid (cnt (l.take k) who = z) ∧ wr = w)
      (fun _ _ i _ => N - (intOf i).toNat)
    case atStart => exact ⟨0, 0, rfl, rfl, Nat.zero_le _, Nat.zero_le _, Lib.hid (by rfl), rfl⟩
    case round =>
      obtain ⟨k, z, rfl, rfl, hk, hz, HA, rfl⟩ := hrel
      by_cases hlt : k < N
      · have hkl : k < l.length := by rw [HN.out]; exact hlt
        have HS2 := HS.out
        rw [← HN.out] at HS2
        obtain ⟨b, off, c3, e, hb, c0⟩ := slN_at HS2 hkl
        injection e with e1 e2 e3
        subst e1 e3
        clear e2
        have hki : (k : Int) < (N : Int) := by omega
        obtain ⟨x, hx⟩ : ∃ x, l[k]'hkl = x := ⟨_, rfl⟩
        rw [hx] at c0
        have hC := HC.out x
        have hn := cnt_next (who := who) hkl
        rw [HA.out, hx] at hn
        obtain ⟨r, hr⟩ : ∃ r, who.contains x = r := ⟨_, rfl⟩
        rw [hr] at hC hn
        clear hr hx HA HS2 hb
        cases r with
        | true =>
          have HA2 : Hid (cnt (l.take (k + 1)) who = z + 1) := hn
          clear hn
          go_wp2_with fail
          refine hC.mono ?_
          clear hC
          rintro e w2 ⟨rfl, rfl⟩
          go_wp2_with fail
          go_roundw
          case rel => exact ⟨k + 1, z + 1, by go_num, by go_num, by omega, by omega, HA2, by first | rfl | trivial⟩
          case measure => simp [intOf]; omega
        | false =>
          have HA2 : Hid (cnt (l.take (k + 1)) who = z) := hn
          clear hn
          go_wp2_with fail
          refine hC.mono ?_
          clear hC
          rintro e w2 ⟨rfl, rfl⟩
          go_wp2_with fail
          go_roundw
          case rel => exact ⟨k + 1, z, by go_num, rfl, by omega, by omega, HA2, by first | rfl | trivial⟩
          case measure => simp [intOf]; omega
      · obtain rfl : k = N := by omega
        have HZ : Hid (cnt l who = z) := by have h := HA.out; rw [← HN.out, List.take_length] at h; exact h
        have hki : ¬ (k : Int) < (k : Int) := by omega
        rw [HZ.out] at HM
        clear HA HZ
        have hd : IntKind.i64.wrap (Int.tdiv (k : Int) 2) = ((k / 2 : Nat) : Int) := by
          have : Int.tdiv (k : Int) 2 = ((k / 2 : Nat) : Int) := by rw [Int.tdiv_eq_ediv_of_nonneg (by omega)]; rfl
          rw [this]
          exact IntWalk.i64_in _ (by omega)
        by_cases hd2 : k < 2 * z
        · have hg : (z : Int) > ((k / 2 : Nat) : Int) := by omega
          rw [decide_eq_true hd2] at HM
          go_wp2
          go_ret
          obtain rfl := HM.out
          refine ⟨?_, rfl⟩
          show Ending.returned (Value.bool (decide ((k : Int) / 2 < (z : Int)))) = _
          rw [decide_eq_true (by omega)]
        · have hg : ¬ (z : Int) > ((k / 2 : Nat) : Int) := by omega
          rw [decide_eq_false hd2] at HM
          go_wp2
          go_ret
          obtain rfl := HM.out
          refine ⟨?_, rfl⟩
          show Ending.returned (Value.bool (decide ((k : Int) / 2 < (z : Int)))) = _
          rw [decide_eq_false (by omega)]
  · rw [Bool.not_eq_true] at hr
    have HM : Hid (R = false) := HR.out.symm.trans <| by simp [most, hr]
    rw [hr] at hR
    clear hr
    go_enter Tryz.func137, Tryz.ntmps137
    go_wp2_with fail
    refine hR.mono ?_
    clear hR
    rintro e w2 ⟨rfl, rfl⟩
    go_wp2_with fail
    go_ret
    obtain rfl := HM.out
    exact ⟨rfl, rfl⟩
end Go.Proofs.YtmgmhnohocamfaaGreat.qm
/-! QmH1 -/
namespace Go.Proofs.YtmgmhnohocamfaaGreat.qm
set_option linter.unusedVariables false
open Go.RowKit
open rw (Arr But Own bnext below_box below_drew below_drewN)

/-- A row of indices of one's own, written out. -/
theorem hp_open {w : World} {B : Nat} {v : Value} {l : List Ix} (h : Own hpSh w B v l) (hne : l ≠ []) :
    ∃ g cap cur, v = .slice (some ⟨g, 0, none⟩) l.length cap ∧ B ≤ g ∧ g < w.heap.size ∧ Arr w g 152 cur ∧ l.length ≤ cap ∧ cap ≤ maxLen ∧ cur.size = cap * 2 ∧ cur.toList.take (l.length * 2) = rw.cellsG hpSh l := by
  have h2 := h
  rcases h.2 with ⟨rfl, h0⟩ | ⟨g, cap, cur, rfl, hg, hh, hn, hcap, hsz, htake⟩
  · exact absurd (List.length_eq_zero_iff.1 h0) hne
  · exact ⟨g, cap, cur, rfl, hg, (Array.getElem?_eq_some_iff.1 hh).1, hh, hn, hcap, hsz, htake⟩
theorem hp_cells {cur : Array Value} {l : List Ix} (h : cur.toList.take (l.length * 2) = rw.cellsG hpSh l) {k : Nat} (hk : k < l.length) :
    cur[k * 2]? = some (.int .i64 (l[k]'hk).node) ∧ cur[k * 2 + 1]? = some (.int .u64 (l[k]'hk).idx) := by
  have e : ∀ i, i < 2 → cur[k * 2 + i]? = (hpSh.enc (l[k]'hk))[i]? := fun i hi => by
    rw [← rw.cellsG_get hpSh l k hk i hi, ← h, List.getElem?_take_of_lt (show k * hpSh.k + i < l.length * 2 by show k * 2 + i < l.length * 2; omega), Array.getElem?_toList]
    rfl
  exact ⟨by have := e 0 (by decide); simpa [hpSh] using this, by have := e 1 (by decide); simpa [hpSh] using this⟩
theorem getD_at {l : List Ix} {k : Nat} (hk : k < l.length) : l.getD k z0 = l[k] := by simp [List.getD_eq_getElem?_getD, List.getElem?_eq_getElem hk]
theorem key_at {l : List Ix} {k : Nat} (hk : k < l.length) : key l k = (l[k]).idx := by unfold key; rw [getD_at hk]

set_option maxHeartbeats 2000000 in
set_option maxRecDepth 100000 in
theorem len_any (a : Option Addr) (n c : Nat) (w : World) : Calls Tryz.prog 160 #[.slice a n c] w fun e w' => e = .returned (.int .i64 n) ∧ w = w' := by
  go_enter Tryz.func160, Tryz.ntmps160
  go_wp2_with fail
  go_ret
  exact ⟨rfl, rfl⟩
set_option maxHeartbeats 2000000 in
set_option maxRecDepth 100000 in
theorem less_any (v : Value) (l : List Ix) (i j : Nat) (hi : i < l.length) (hj : j < l.length) (hl : l.length ≤ 1000000) (w : World) (B : Nat) (h : Own hpSh w B v l) :
    Calls Tryz.prog 192 #[v, .int .i64 i, .int .i64 j] w fun e w' => e = .returned (.bool (decide (key l j < key l i))) ∧ Below w.heap.size w w' := by
  rw [key_at hi, key_at hj]
  obtain ⟨g, cap, cur, rfl, hg, hgl, ha, hn, hcap, hsz, htk⟩ := hp_open h (by intro e; rw [e] at hi; simp at hi)
  obtain ⟨c0, c1⟩ := hp_cells htk hi
  obtain ⟨d0, d1⟩ := hp_cells htk hj
  have c1 := ha.cell c1
  have d1 := ha.cell d1
  clear c0 d0 htk
  obtain ⟨n, hn0⟩ : ∃ n, l.length = n := ⟨_, rfl⟩
  generalize (l[i]).idx = x at *
  generalize (l[j]).idx = y at *
  rw [hn0] at hi hj ⊢
  have hii : (i : Int) < (n : Int) := by omega
  have hji : (j : Int) < (n : Int) := by omega
  have q1 : decide ((i : Int) < (n : Int)) = true := decide_eq_true hii
  have q2 : decide ((j : Int) < (n : Int)) = true := decide_eq_true hji
  have HB : Hid (∀ n, Below w.heap.size w (w.drewN n)) := fun n => below_drewN (Below.refl _ _) n
  clear h ha hn0 hsz hl hn hg
  go_enter Tryz.func192, Tryz.ntmps192
  go_upto_region 1 with (fail)
  go_quiet (fail)
  go_wp2
  go_ret
  exact ⟨rfl, HB.out _⟩
end Go.Proofs.YtmgmhnohocamfaaGreat.qm
/-! QmH2 -/
namespace Go.Proofs.YtmgmhnohocamfaaGreat.qm
set_option linter.unusedVariables false
open Go.RowKit
open rw (Arr But Own bnext below_box below_drew below_drewN)

/-- The cells of a row with one struct put anew. -/
def put2 (cs : Array Value) (k : Nat) (x : Ix) : Array Value := (cs.setIfInBounds (k * 2) (.int .i64 x.node)).setIfInBounds (k * 2 + 1) (.int .u64 x.idx)
theorem put2_size (cs : Array Value) (k : Nat) (x : Ix) : (put2 cs k x).size = cs.size := by simp [put2]
theorem set2 (l : List Ix) (k : Nat) (x : Ix) (cs : Array Value) (h : cs.toList.take (l.length * 2) = rw.cellsG hpSh l) (hk : k < l.length) (hs : l.length * 2 ≤ cs.size) :
    (put2 cs k x).toList.take ((l.set k x).length * 2) = rw.cellsG hpSh (l.set k x) := by
  have hl2 : (rw.cellsG hpSh (l.set k x)).length = l.length * 2 := by rw [rw.cellsG_length, List.length_set]; rfl
  apply List.ext_getElem?
  intro i
  rw [List.length_set]
  by_cases hi : i < l.length * 2
  · rw [List.getElem?_take_of_lt hi, Array.getElem?_toList]
    have e : i = i / 2 * 2 + i % 2 := by omega
    have hm : i % 2 < 2 := Nat.mod_lt _ (by decide)
    have hd : i / 2 < l.length := by omega
    have hg := rw.cellsG_get hpSh (l.set k x) (i / 2) (by rw [List.length_set]; exact hd) (i % 2) hm
    have hg' : (rw.cellsG hpSh (l.set k x))[i]? = (hpSh.enc ((l.set k x)[i / 2]'(by rw [List.length_set]; exact hd)))[i % 2]? := by
      rw [← hg]; congr 1
    have hg0 := rw.cellsG_get hpSh l (i / 2) hd (i % 2) hm
    have hg0' : cs[i]? = (hpSh.enc (l[i / 2]'hd))[i % 2]? := by
      rw [← hg0, ← h, List.getElem?_take_of_lt (show i / 2 * hpSh.k + i % 2 < l.length * 2 by show i / 2 * 2 + i % 2 < l.length * 2; omega), Array.getElem?_toList]
      congr 1
    rw [hg', List.getElem_set]
    unfold put2
    rw [Array.getElem?_setIfInBounds, Array.getElem?_setIfInBounds, Array.size_setIfInBounds]
    by_cases hk2 : k = i / 2
    · subst hk2
      rw [if_pos rfl]
      rcases (show i % 2 = 0 ∨ i % 2 = 1 by omega) with h0 | h0
      · rw [if_neg (by omega), if_pos (by omega), if_pos (by omega), h0]; rfl
      · rw [if_pos (by omega), if_pos (by omega), h0]; rfl
    · rw [if_neg hk2, if_neg (by omega), if_neg (by omega)]
      exact hg0'
  · rw [List.getElem?_eq_none (Nat.le_trans (List.length_take_le _ _) (by omega)), List.getElem?_eq_none (by rw [hl2]; omega)]
theorem sw_own {w W : World} {B g cap : Nat} {cur : Array Value} {l : List Ix} {i j : Nat} (hi : i < l.length) (hj : j < l.length) (hg : B ≤ g) (hn : l.length ≤ cap) (hcap : cap ≤ maxLen) (hsz : cur.size = cap * 2)
    (htk : cur.toList.take (l.length * 2) = rw.cellsG hpSh l) (ha : Arr W g 152 (put2 (put2 cur i (l.getD j z0)) j (l.getD i z0))) : Own hpSh W B (.slice (some ⟨g, 0, none⟩) l.length cap) (sw l i j) := by
  have h1 := set2 l i (l.getD j z0) cur htk hi (by omega)
  have h2 := set2 (l.set i (l.getD j z0)) j (l.getD i z0) _ h1 (by simpa using hj) (by rw [put2_size]; simp; omega)
  refine ⟨?_, .inr ⟨g, cap, _, ?_, hg, ha, ?_, hcap, ?_, ?_⟩⟩
  · rw [rw.cellsG_length]
  · rw [sw_len]
  · rw [sw_len]; exact hn
  · rw [put2_size, put2_size]; exact hsz
  · exact h2
/-- Only the row's own block turned. -/
def Bv (B : Nat) (v : Value) (w w' : World) : Prop := Below B w w' ∧ ∃ g, v.ownBlock = some g ∧ But g w w'
set_option maxHeartbeats 8000000 in
set_option maxRecDepth 100000 in
theorem swap_any (v : Value) (l : List Ix) (i j : Nat) (hi : i < l.length) (hj : j < l.length) (hij : i ≠ j) (hl : l.length ≤ 1000000) (w : World) (B : Nat) (h : Own hpSh w B v l) :
    Calls Tryz.prog 195 #[v, .int .i64 i, .int .i64 j] w fun e w' => e = .returned (.tuple #[]) ∧ Own hpSh w' B v (sw l i j) ∧ Bv B v w w' := by
  obtain ⟨g, cap, cur, rfl, hg, hgl, ha, hn, hcap, hsz, htk⟩ := hp_open h (by intro e; rw [e] at hi; simp at hi)
  obtain ⟨c0, c1⟩ := hp_cells htk hi
  obtain ⟨d0, d1⟩ := hp_cells htk hj
  have HT : Hid (∀ W, Arr W g 152 (put2 (put2 cur i (l.getD j z0)) j (l.getD i z0)) → Own hpSh W B (.slice (some ⟨g, 0, none⟩) l.length cap) (sw l i j)) := fun W hW => sw_own (w := w) hi hj hg hn hcap hsz htk hW
  rw [getD_at hi, getD_at hj] at HT
  obtain ⟨n, hn0⟩ : ∃ n, l.length = n := ⟨_, rfl⟩
  generalize l[i] = x at *
  generalize l[j] = y at *
  rw [hn0] at hi hj HT ⊢
  obtain ⟨xn, xi⟩ := x
  obtain ⟨yn, yi⟩ := y
  simp only at c0 c1 d0 d1
  have c0 := ha.cell c0
  have c1 := ha.cell c1
  have d0 := ha.cell d0
  have d1 := ha.cell d1
  have hii : (i : Int) < (n : Int) := by omega
  have hji : (j : Int) < (n : Int) := by omega
  have hfz : ∀ t, w.frozen? ⟨g, t, none⟩ = false := fun t => ha.frozen t
  have HA := Lib.hid ha
  clear h ha hn0 hsz hl hn htk
  go_enter Tryz.func195, Tryz.ntmps195
  go_region
  all_goals go_wp2
  refine bodyPost_end (results_none rfl _ _ _) rfl ?_
  refine ⟨rfl, HT.out _ ?_, ?_⟩
  · exact (((HA.out.set _ _).set _ _).set _ _).set _ _
  · have k := (((((But.refl g w).set (i * 2) (.int .i64 yn)).set (i * 2 + 1) (.int .u64 yi)).set (j * 2) (.int .i64 xn)).set (j * 2 + 1) (.int .u64 xi)).drew
    exact ⟨k.below (by omega) hg, g, by simp [Value.ownBlock], k⟩
set_option maxHeartbeats 8000000 in
set_option maxRecDepth 100000 in
theorem swap_same (v : Value) (l : List Ix) (i : Nat) (hi : i < l.length) (hl : l.length ≤ 1000000) (w : World) (B : Nat) (h : Own hpSh w B v l) :
    Calls Tryz.prog 195 #[v, .int .i64 i, .int .i64 i] w fun e w' => e = .returned (.tuple #[]) ∧ Own hpSh w' B v (sw l i i) ∧ Bv B v w w' := by
  obtain ⟨g, cap, cur, rfl, hg, hgl, ha, hn, hcap, hsz, htk⟩ := hp_open h (by intro e; rw [e] at hi; simp at hi)
  obtain ⟨c0, c1⟩ := hp_cells htk hi
  have HT : Hid (∀ W, Arr W g 152 (put2 (put2 cur i (l.getD i z0)) i (l.getD i z0)) → Own hpSh W B (.slice (some ⟨g, 0, none⟩) l.length cap) (sw l i i)) := fun W hW => sw_own (w := w) hi hi hg hn hcap hsz htk hW
  rw [getD_at hi] at HT
  obtain ⟨n, hn0⟩ : ∃ n, l.length = n := ⟨_, rfl⟩
  generalize l[i] = x at *
  rw [hn0] at hi HT ⊢
  obtain ⟨xn, xi⟩ := x
  simp only at c0 c1
  have c0 := ha.cell c0
  have c1 := ha.cell c1
  have hii : (i : Int) < (n : Int) := by omega
  have hfz : ∀ t, w.frozen? ⟨g, t, none⟩ = false := fun t => ha.frozen t
  have HA := Lib.hid ha
  clear h ha hn0 hsz hl hn htk
  go_enter Tryz.func195, Tryz.ntmps195
  go_region
  all_goals go_wp2
  refine bodyPost_end (results_none rfl _ _ _) rfl ?_
  refine ⟨rfl, HT.out _ ?_, ?_⟩
  · exact (((HA.out.set _ _).set _ _).set _ _).set _ _
  · have k := (((((But.refl g w).set (i * 2) (.int .i64 xn)).set (i * 2 + 1) (.int .u64 xi)).set (i * 2) (.int .i64 xn)).set (i * 2 + 1) (.int .u64 xi)).drew
    exact ⟨k.below (by omega) hg, g, by simp [Value.ownBlock], k⟩
end Go.Proofs.YtmgmhnohocamfaaGreat.qm
/-! QmH3 -/
namespace Go.Proofs.YtmgmhnohocamfaaGreat.qm
set_option linter.unusedVariables false
open Go.RowKit
open rw (Arr But Own bnext below_box below_drew below_drewN)

theorem loadVar_one {ty : TypeId} {d : TypeDesc} (hu : Tryz.prog.underlying ty = some d) (hd : (match d with | .struct _ | .array _ _ => true | _ => false) = false) (w : World) (a : Addr) (v : Value) (hc : w.cell? a = some v) :
    (loadVar ty a).run Tryz.prog w = .ok v w := by
  have hagg : (isAgg ty).run Tryz.prog w = .ok false w := by
    unfold isAgg
    rw [Sem.run_bind, run_underlying hu w]
    cases d <;> simp_all
  simp [loadVar, Sem.run_bind, hagg, hc]
theorem load_hp {w : World} {hb : Nat} {v : Value} (h : Arr w hb 202 #[v]) : (loadVar 202 ⟨hb, 0, none⟩).run Tryz.prog w = .ok v w :=
  loadVar_one Tryz.underlying202 rfl w _ v (h.cell rfl)
theorem m_len0 (a : Addr) (w : World) : (method 329 194 (.pointer (some a)) "Len").run Tryz.prog w = (loadVar 202 a >>= fun v => pure ((160 : FuncId), v)).run Tryz.prog w := by kernel_rfl
theorem m_less0 (a : Addr) (w : World) : (method 329 194 (.pointer (some a)) "Less").run Tryz.prog w = (loadVar 202 a >>= fun v => pure ((192 : FuncId), v)).run Tryz.prog w := by kernel_rfl
theorem m_swap0 (a : Addr) (w : World) : (method 329 194 (.pointer (some a)) "Swap").run Tryz.prog w = (loadVar 202 a >>= fun v => pure ((195 : FuncId), v)).run Tryz.prog w := by kernel_rfl
theorem m_len {w : World} {hb : Nat} {v : Value} (h : Arr w hb 202 #[v]) : (method 329 194 (.pointer (some ⟨hb, 0, none⟩)) "Len").run Tryz.prog w = .ok (160, v) w := by
  rw [m_len0, Sem.run_bind, load_hp h]; rfl
theorem m_less {w : World} {hb : Nat} {v : Value} (h : Arr w hb 202 #[v]) : (method 329 194 (.pointer (some ⟨hb, 0, none⟩)) "Less").run Tryz.prog w = .ok (192, v) w := by
  rw [m_less0, Sem.run_bind, load_hp h]; rfl
theorem m_swap {w : World} {hb : Nat} {v : Value} (h : Arr w hb 202 #[v]) : (method 329 194 (.pointer (some ⟨hb, 0, none⟩)) "Swap").run Tryz.prog w = .ok (195, v) w := by
  rw [m_swap0, Sem.run_bind, load_hp h]; rfl
theorem m_push (a : Addr) (w : World) : (method 329 194 (.pointer (some a)) "Push").run Tryz.prog w = .ok (194, .pointer (some a)) w := by kernel_rfl
theorem m_pop (a : Addr) (w : World) : (method 329 194 (.pointer (some a)) "Pop").run Tryz.prog w = .ok (193, .pointer (some a)) w := by kernel_rfl

/-- All but the box and the row's block is as it was. -/
structure Mh (hb : Nat) (o : Option Nat) (w w' : World) : Prop where
  os : w'.os = w.os
  tape : w'.tape = w.tape
  output : w'.output = w.output
  size : w.heap.size ≤ w'.heap.size
  block : ∀ k, k < w.heap.size → k ≠ hb → o ≠ some k → w'.heap[k]? = w.heap[k]?
theorem Mh.refl (hb : Nat) (o : Option Nat) (w : World) : Mh hb o w w := ⟨rfl, rfl, rfl, Nat.le_refl _, fun _ _ _ _ => rfl⟩
theorem Mh.trans {hb : Nat} {o : Option Nat} {a b c : World} (h : Mh hb o a b) (k : Mh hb o b c) : Mh hb o a c :=
  ⟨k.os.trans h.os, k.tape.trans h.tape, k.output.trans h.output, Nat.le_trans h.size k.size, fun i hi h1 h2 => (k.block i (Nat.lt_of_lt_of_le hi h.size) h1 h2).trans (h.block i hi h1 h2)⟩
theorem Mh.of_below {hb : Nat} {o : Option Nat} {w w' : World} (h : Below w.heap.size w w') : Mh hb o w w' := ⟨h.os, h.tape, h.output, h.size, fun k hk _ _ => h.block k hk⟩
theorem Mh.of_bv {hb B : Nat} {v : Value} {w w' : World} (h : Bv B v w w') : Mh hb v.ownBlock w w' := by
  obtain ⟨h1, g, h2, h3⟩ := h
  exact ⟨h3.os, h3.tape, h3.output, h3.size, fun k hk _ h5 => h3.block k hk (fun e => h5 (by rw [h2, e]))⟩
theorem Mh.of_but {hb : Nat} {o : Option Nat} {w w' : World} (h : But hb w w') : Mh hb o w w' := ⟨h.os, h.tape, h.output, h.size, fun k hk h4 _ => h.block k hk h4⟩
theorem Mh.below {hb B : Nat} {o : Option Nat} {w w' : World} (h : Mh hb o w w') (h1 : B ≤ w.heap.size) (h2 : B ≤ hb) (h3 : ∀ k, o = some k → B ≤ k) : Below B w w' :=
  ⟨h.os, h.tape, h.output, h.size, fun k hk => h.block k (by omega) (by omega) (fun e => by have := h3 k e; omega)⟩
/-- A heap under way: the box hb holds the slice v, whose row is m. -/
structure Hp (w W : World) (hb : Nat) (v : Value) (m : List Ix) : Prop where
  box : Arr W hb 202 #[v]
  own : Own hpSh W (hb + 1) v m
  b : Mh hb v.ownBlock w W
theorem Hp.below {w W W' : World} {hb : Nat} {v : Value} {m : List Ix} (h : Hp w W hb v m) (k : Below W.heap.size W W') : Hp w W' hb v m :=
  ⟨h.box.below k, h.own.below _ k, h.b.trans (Mh.of_below k)⟩
theorem Hp.turn {w W W' : World} {hb : Nat} {v : Value} {m m' : List Ix} (h : Hp w W hb v m) (o : Own hpSh W' (hb + 1) v m') (k : Bv (hb + 1) v W W') : Hp w W' hb v m' :=
  ⟨h.box.of (k.1.block hb (by omega)), o, h.b.trans (Mh.of_bv k)⟩

set_option maxHeartbeats 1000000 in
set_option maxRecDepth 100000 in
theorem up_any (hb : Nat) (v : Value) (l : List Ix) (j : Nat) (hl : l.length ≤ 1000000) (w : World) (h : Hp w w hb v l) (hj : UpI l j) :
    Calls Tryz.prog 173 #[.iface 194 (.pointer (some ⟨hb, 0, none⟩)), .int .i64 j] w fun e w' => e = .returned (.tuple #[]) ∧ ∃ m, Hp w w' hb v m ∧ m.Perm l ∧ Heap m m.length := by
  have hjl := hj.lt
  obtain ⟨n, hn⟩ : ∃ n, l.length = n := ⟨_, rfl⟩
  rw [hn] at hjl hl
  have HN := Lib.hid hn
  have H0 : Hid (UpI l j ∧ l.Perm l ∧ Hp w w hb v l) := ⟨hj, .refl _, h⟩
  clear h hj hn
  go_enter Tryz.func173, Tryz.ntmps173
  go_wp2
  go_loopw [1, 4] (fun jv _ wr => ∃ (k : Nat) (m : List Ix), jv = .int .i64 k ∧ k < n ∧ Hid (UpI m k ∧ m.Perm l ∧ Hp w wr hb v m))
    (fun jv _ _ => (intOf jv).toNat)
  case atStart => exact ⟨j, l, rfl, hjl, H0⟩
  case round =>
    obtain ⟨k, m, rfl, hk, HI⟩ := hrel
    rcases Nat.eq_zero_or_pos k with h0 | h0
    · have HT : Hid (∃ m, Hp w wr hb v m ∧ m.Perm l ∧ Heap m m.length) := ⟨m, HI.out.2.2, HI.out.2.1, HI.out.1.done (.inl h0)⟩
      have hki : (k : Int) = 0 := by omega
      subst h0
      clear HI hki
      go_wp2
      exact bodyPost_end (results_none rfl _ _ _) rfl ⟨rfl, HT.out⟩
    · obtain ⟨q, hkq⟩ : ∃ q, k = q + 1 := ⟨k - 1, by omega⟩
      obtain ⟨p, hp⟩ : ∃ p, q / 2 = p := ⟨_, rfl⟩
      have hpq : (k - 1) / 2 = p := by omega
      have hpk : p < k := by omega
      have HM : Hid (m.length = n) := HI.out.2.1.length_eq.trans HN.out
      have hkl : k < m.length := by rw [HM.out]; exact hk
      have hpl : p < m.length := by omega
      have f1 : IntKind.i64.wrap ((k : Int) - 1) = (q : Int) := by
        have : (k : Int) - 1 = (q : Int) := by omega
        rw [this]; exact IntWalk.i64_in _ (by omega)
      have f2 : IntKind.i64.wrap (Int.tdiv (q : Int) 2) = (p : Int) := by
        have : Int.tdiv (q : Int) 2 = (p : Int) := by rw [Int.tdiv_eq_ediv_of_nonneg (by omega)]; omega
        rw [this]; exact IntWalk.i64_in _ (by omega)
      have f3 : ((p : Int) == (k : Int)) = false := beq_eq_false_iff_ne.2 (by omega)
      have f4 : ¬ p = k := by omega
      have f5 : (q : Int) / 2 = (p : Int) := by omega
      have hm1 := m_less HI.out.2.2.box
      have hL := less_any v m k p hkl hpl (by rw [HM.out]; exact hl) wr (hb + 1) HI.out.2.2.own
      have HU : Hid (UpI m k ∧ m.Perm l) := ⟨HI.out.1, HI.out.2.1⟩
      have HH : Hid (Hp w wr hb v m) := HI.out.2.2
      by_cases hlt : key m p < key m k
      · rw [decide_eq_true hlt] at hL
        have hU := HU.out.1.step (by omega) (by rw [hpq]; exact hlt)
        rw [hpq] at hU
        have HU2 : Hid (UpI (sw m p k) p ∧ (sw m p k).Perm l) := ⟨hU, (sw_perm m hpl hkl).trans HU.out.2⟩
        have HSw := Lib.hid fun W h => swap_any v m p k hpl hkl (by omega) (by rw [HM.out]; exact hl) W (hb + 1) h
        have hpn : p < n := by omega
        have HP := Lib.hid hpk
        clear HI HU hlt hkl hpl hpq hp HM hU h0 hkq hpk
        go_wp2_with fail
        with_reducible refine hL.mono ?_
        clear hL hm1
        rintro e w2 ⟨rfl, b2⟩
        have H2 := Lib.hid (HH.out.below b2)
        clear HH b2
        have hm2 := m_swap H2.out.box
        have hS := HSw.out w2 H2.out.own
        go_wp2_with fail
        with_reducible refine hS.mono ?_
        clear hS hm2
        rintro e w3 ⟨rfl, o3, b3⟩
        have H3 := Lib.hid (H2.out.turn o3 b3)
        clear H2 o3 b3
        go_wp2_with fail
        exact ⟨⟨p, _, rfl, hpn, HU2.out.1, HU2.out.2, H3.out⟩, by have := HP.out; simp only [intOf]; omega⟩
      · rw [decide_eq_false hlt] at hL
        have hpn : p < n := by omega
        have HD : Hid (Heap m m.length ∧ m.Perm l) := ⟨HU.out.1.done (.inr (by rw [hpq]; omega)), HU.out.2⟩
        clear HI HU hlt hkl hpl hpq hp HM h0 hkq hpk
        go_wp2_with fail
        with_reducible refine hL.mono ?_
        clear hL hm1
        rintro e w2 ⟨rfl, b2⟩
        have H2 := Lib.hid (HH.out.below b2)
        clear HH b2
        go_wp2_with fail
        exact bodyPost_end (results_none rfl _ _ _) rfl ⟨rfl, m, H2.out, HD.out.2, HD.out.1⟩
end Go.Proofs.YtmgmhnohocamfaaGreat.qm
/-! QmH4 -/
namespace Go.Proofs.YtmgmhnohocamfaaGreat.qm
set_option linter.unusedVariables false
open Go.RowKit
open rw (Arr But Own bnext below_box below_drew below_drewN)

/-- Where the loop stands. -/
def Dn (w wr : World) (hb : Nat) (v : Value) (l m : List Ix) (c : Ix) (k n : Nat) : Prop := DnI m k n ∧ m.Perm l ∧ m.getD n z0 = c ∧ Hp w wr hb v m
theorem Dn.below {w wr W : World} {hb : Nat} {v : Value} {l m : List Ix} {c : Ix} {k n : Nat} (h : Dn w wr hb v l m c k n) (b : Below wr.heap.size wr W) : Dn w W hb v l m c k n := ⟨h.1, h.2.1, h.2.2.1, h.2.2.2.below b⟩
theorem Dn.turn {w wr W : World} {hb : Nat} {v : Value} {l m : List Ix} {c : Ix} {k n d : Nat} (h : Dn w wr hb v l m c k n) (hd : d < n) (h1 : (d - 1) / 2 = k) (h0 : 0 < d) (hk : key m k < key m d) (ho : ∀ i, 0 < i → i < n → (i - 1) / 2 = k → key m i ≤ key m d)
    (o : Own hpSh W (hb + 1) v (sw m k d)) (b : Bv (hb + 1) v wr W) : Dn w W hb v l (sw m k d) c d n := by
  have hl := h.1.len
  refine ⟨h.1.step h0 hd h1 hk ho, (sw_perm m (by omega) (by omega)).trans h.2.1, ?_, h.2.2.2.turn o b⟩
  rcases Nat.lt_or_ge n m.length with hn | hn
  · rw [sw_get m (by omega) (by omega), if_neg (by omega), if_neg (by omega)]; exact h.2.2.1
  · have e : ∀ x : List Ix, x.length ≤ n → x.getD n z0 = z0 := fun x hx => by simp [List.getD_eq_getElem?_getD, List.getElem?_eq_none hx]
    rw [e _ (by rw [sw_len]; exact hn), ← h.2.2.1, e _ hn]
set_option maxHeartbeats 2000000 in
set_option maxRecDepth 100000 in
theorem down_any (hb : Nat) (v : Value) (l : List Ix) (n : Nat) (hl : l.length ≤ 1000000) (w : World) (h : Hp w w hb v l) (hj : DnI l 0 n) :
    Calls Tryz.prog 174 #[.iface 194 (.pointer (some ⟨hb, 0, none⟩)), .int .i64 0, .int .i64 n] w fun e w' => (∃ r : Value, e = .returned r) ∧ ∃ m, Hp w w' hb v m ∧ m.Perm l ∧ m.getD n z0 = l.getD n z0 ∧ Heap m n := by
  have hnl := hj.len
  obtain ⟨N, hN⟩ : ∃ n, l.length = n := ⟨_, rfl⟩
  obtain ⟨c, hc⟩ : ∃ c, l.getD n z0 = c := ⟨_, rfl⟩
  rw [hN] at hl hnl
  rw [hc]
  have HN := Lib.hid hN
  have H0 : Hid (Dn w w hb v l l c 0 n) := ⟨hj, .refl _, hc, h⟩
  clear h hj hN hc
  go_enter Tryz.func174, Tryz.ntmps174
  go_wp2
  go_loopw [7, 8, 9, 10] (fun iv _ _ _ wr => ∃ (k : Nat) (m : List Ix), iv = .int .i64 k ∧ k ≤ N ∧ Hid (Dn w wr hb v l m c k n))
    (fun iv _ _ _ _ => N - (intOf iv).toNat)
  case atStart => exact ⟨0, l, rfl, by omega, H0⟩
  case round =>
    obtain ⟨k, m, rfl, hk, HI⟩ := hrel
    obtain ⟨t, ht⟩ : ∃ t, 2 * k = t := ⟨_, rfl⟩
    obtain ⟨a, ha⟩ : ∃ a, t + 1 = a := ⟨_, rfl⟩
    have f1 : IntKind.i64.wrap (2 * (k : Int)) = (t : Int) := by
      have : 2 * (k : Int) = (t : Int) := by omega
      rw [this]; exact IntWalk.i64_in _ (by omega)
    have f1b : 2 * (k : Int) = (t : Int) := by omega
    have f2 : IntKind.i64.wrap ((t : Int) + 1) = (a : Int) := by
      have : (t : Int) + 1 = (a : Int) := by omega
      rw [this]; exact IntWalk.i64_in _ (by omega)
    have f2b : (t : Int) + 1 = (a : Int) := by omega
    have HK : Hid (a = 2 * k + 1) := by show _ = _; omega
    have hal : a ≤ 2000001 := by omega
    have f3 : ¬ (a : Int) < 0 := by omega
    clear ht ha
    by_cases han : n ≤ a
    · have HD : Hid (∃ m, Hp w wr hb v m ∧ m.Perm l ∧ m.getD n z0 = c ∧ Heap m n) := ⟨m, HI.out.2.2.2, HI.out.2.1, HI.out.2.2.1, HI.out.1.done fun j h0 hj hp => by have := HK.out; omega⟩
      have f4 : (a : Int) ≥ (n : Int) := by omega
      clear HI
      go_wp2_with fail
      go_ret
      exact ⟨⟨_, rfl⟩, HD.out⟩
    · have f4 : ¬ (a : Int) ≥ (n : Int) := by omega
      have han2 : a < n := by omega
      have HM : Hid (m.length = N) := HI.out.2.1.length_eq.trans HN.out
      have hkl : k < m.length := by rw [HM.out]; have := HK.out; omega
      have hal2 : a < m.length := by rw [HM.out]; omega
      have hml : m.length ≤ 1000000 := by rw [HM.out]; exact hl
      obtain ⟨b, hb2⟩ : ∃ b, a + 1 = b := ⟨_, rfl⟩
      have f5 : IntKind.i64.wrap ((a : Int) + 1) = (b : Int) := by
        have : (a : Int) + 1 = (b : Int) := by omega
        rw [this]; exact IntWalk.i64_in _ (by omega)
      have f5b : (a : Int) + 1 = (b : Int) := by omega
      have HB : Hid (b = 2 * k + 2) := by show _ = _; have := HK.out; omega
      clear hb2
      have HX := Lib.hid (And.intro hkl (And.intro hal2 hml))
      clear hkl hal2 hml
      by_cases hbn : n ≤ b
      · have f6 : ¬ (b : Int) < (n : Int) := by omega
        have HO : Hid (∀ i, 0 < i → i < n → (i - 1) / 2 = k → key m i ≤ key m a) := fun i h0 hi hp => by
          have : i = a := by have := HK.out; have := HB.out; omega
          rw [this]; exact Int.le_refl _
        clear hbn han
        have hm2 := m_less HI.out.2.2.2.box
        have hdl : a < m.length := by have := HX.out; rw [HM.out] at *; omega
        have hL2 := less_any v m a k hdl HX.out.1 HX.out.2.2 wr (hb + 1) HI.out.2.2.2.own
        by_cases hlt : key m k < key m a
        · rw [decide_eq_true hlt] at hL2
          have HSw := Lib.hid fun W h => swap_any v m k a HX.out.1 hdl (by have := HK.out; have := HB.out; omega) HX.out.2.2 W (hb + 1) h
          have HG := Lib.hid fun W W' (x : Dn w W hb v l m c k n) o b => x.turn (W := W') han2 (by have := HK.out; have := HB.out; omega) (by have := HK.out; have := HB.out; omega) hlt HO.out o b
          have HP : Hid (k < a ∧ a ≤ N) := ⟨by have := HK.out; have := HB.out; omega, by omega⟩
          clear hlt hdl
          go_wp2_with fail
          with_reducible refine hL2.mono ?_
          clear hL2 hm2
          rintro e wx ⟨rfl, bx⟩
          have HI := Lib.hid (HI.out.below bx)
          clear bx
          have hm3 := m_swap HI.out.2.2.2.box
          have hS := HSw.out wx HI.out.2.2.2.own
          go_wp2_with fail
          with_reducible refine hS.mono ?_
          clear hS hm3
          rintro e wy ⟨rfl, oy, bY⟩
          have HJ := Lib.hid (HG.out _ _ HI.out oy bY)
          clear HI oy bY
          go_wp2_with fail
          exact ⟨⟨a, _, rfl, HP.out.2, HJ.out⟩, by have := HP.out; simp only [intOf]; omega⟩
        · rw [decide_eq_false hlt] at hL2
          have HD : Hid (Heap m n) := HI.out.1.done fun j h0 hj hp => by have := HO.out j h0 hj hp; omega
          clear hlt hdl
          go_wp2_with fail
          with_reducible refine hL2.mono ?_
          clear hL2 hm2
          rintro e wx ⟨rfl, bx⟩
          have HJ := Lib.hid (HI.out.below bx)
          clear bx HI
          go_wp2_with fail
          go_ret
          exact ⟨⟨_, rfl⟩, m, HJ.out.2.2.2, HJ.out.2.1, HJ.out.2.2.1, HD.out⟩
      · have f6 : (b : Int) < (n : Int) := by omega
        have hbn2 : b < n := by omega
        have hm1 := m_less HI.out.2.2.2.box
        have hbl : b < m.length := by have := HX.out; rw [HM.out] at *; omega
        have hL1 := less_any v m b a hbl HX.out.2.1 HX.out.2.2 wr (hb + 1) HI.out.2.2.2.own
        clear hbl hbn han
        by_cases hab : key m a < key m b
        · rw [decide_eq_true hab] at hL1
          have HO : Hid (∀ i, 0 < i → i < n → (i - 1) / 2 = k → key m i ≤ key m b) := fun i h0 hi hp => by
            have : i = a ∨ i = b := by have := HK.out; have := HB.out; omega
            rcases this with e | e
            · rw [e]; omega
            · rw [e]; exact Int.le_refl _
          clear hab
          go_wp2_with fail
          with_reducible refine hL1.mono ?_
          clear hL1 hm1
          rintro e w1 ⟨rfl, b1⟩
          have HI := Lib.hid (HI.out.below b1)
          clear b1
          have hm2 := m_less HI.out.2.2.2.box
          have hdl : b < m.length := by have := HX.out; rw [HM.out] at *; omega
          have hL2 := less_any v m b k hdl HX.out.1 HX.out.2.2 w1 (hb + 1) HI.out.2.2.2.own
          by_cases hlt : key m k < key m b
          · rw [decide_eq_true hlt] at hL2
            have HSw := Lib.hid fun W h => swap_any v m k b HX.out.1 hdl (by have := HK.out; have := HB.out; omega) HX.out.2.2 W (hb + 1) h
            have HG := Lib.hid fun W W' (x : Dn w W hb v l m c k n) o b => x.turn (W := W') hbn2 (by have := HK.out; have := HB.out; omega) (by have := HK.out; have := HB.out; omega) hlt HO.out o b
            have HP : Hid (k < b ∧ b ≤ N) := ⟨by have := HK.out; have := HB.out; omega, by omega⟩
            clear hlt hdl
            go_wp2_with fail
            with_reducible refine hL2.mono ?_
            clear hL2 hm2
            rintro e wx ⟨rfl, bx⟩
            have HI := Lib.hid (HI.out.below bx)
            clear bx
            have hm3 := m_swap HI.out.2.2.2.box
            have hS := HSw.out wx HI.out.2.2.2.own
            go_wp2_with fail
            with_reducible refine hS.mono ?_
            clear hS hm3
            rintro e wy ⟨rfl, oy, bY⟩
            have HJ := Lib.hid (HG.out _ _ HI.out oy bY)
            clear HI oy bY
            go_wp2_with fail
            exact ⟨⟨b, _, rfl, HP.out.2, HJ.out⟩, by have := HP.out; simp only [intOf]; omega⟩
          · rw [decide_eq_false hlt] at hL2
            have HD : Hid (Heap m n) := HI.out.1.done fun j h0 hj hp => by have := HO.out j h0 hj hp; omega
            clear hlt hdl
            go_wp2_with fail
            with_reducible refine hL2.mono ?_
            clear hL2 hm2
            rintro e wx ⟨rfl, bx⟩
            have HJ := Lib.hid (HI.out.below bx)
            clear bx HI
            go_wp2_with fail
            go_ret
            exact ⟨⟨_, rfl⟩, m, HJ.out.2.2.2, HJ.out.2.1, HJ.out.2.2.1, HD.out⟩
        · rw [decide_eq_false hab] at hL1
          have HO : Hid (∀ i, 0 < i → i < n → (i - 1) / 2 = k → key m i ≤ key m a) := fun i h0 hi hp => by
            have : i = a ∨ i = b := by have := HK.out; have := HB.out; omega
            rcases this with e | e
            · rw [e]; exact Int.le_refl _
            · rw [e]; omega
          clear hab
          go_wp2_with fail
          with_reducible refine hL1.mono ?_
          clear hL1 hm1
          rintro e w1 ⟨rfl, b1⟩
          have HI := Lib.hid (HI.out.below b1)
          clear b1
          have hm2 := m_less HI.out.2.2.2.box
          have hdl : a < m.length := by have := HX.out; rw [HM.out] at *; omega
          have hL2 := less_any v m a k hdl HX.out.1 HX.out.2.2 w1 (hb + 1) HI.out.2.2.2.own
          by_cases hlt : key m k < key m a
          · rw [decide_eq_true hlt] at hL2
            have HSw := Lib.hid fun W h => swap_any v m k a HX.out.1 hdl (by have := HK.out; have := HB.out; omega) HX.out.2.2 W (hb + 1) h
            have HG := Lib.hid fun W W' (x : Dn w W hb v l m c k n) o b => x.turn (W := W') han2 (by have := HK.out; have := HB.out; omega) (by have := HK.out; have := HB.out; omega) hlt HO.out o b
            have HP : Hid (k < a ∧ a ≤ N) := ⟨by have := HK.out; have := HB.out; omega, by omega⟩
            clear hlt hdl
            go_wp2_with fail
            with_reducible refine hL2.mono ?_
            clear hL2 hm2
            rintro e wx ⟨rfl, bx⟩
            have HI := Lib.hid (HI.out.below bx)
            clear bx
            have hm3 := m_swap HI.out.2.2.2.box
            have hS := HSw.out wx HI.out.2.2.2.own
            go_wp2_with fail
            with_reducible refine hS.mono ?_
            clear hS hm3
            rintro e wy ⟨rfl, oy, bY⟩
            have HJ := Lib.hid (HG.out _ _ HI.out oy bY)
            clear HI oy bY
            go_wp2_with fail
            exact ⟨⟨a, _, rfl, HP.out.2, HJ.out⟩, by have := HP.out; simp only [intOf]; omega⟩
          · rw [decide_eq_false hlt] at hL2
            have HD : Hid (Heap m n) := HI.out.1.done fun j h0 hj hp => by have := HO.out j h0 hj hp; omega
            clear hlt hdl
            go_wp2_with fail
            with_reducible refine hL2.mono ?_
            clear hL2 hm2
            rintro e wx ⟨rfl, bx⟩
            have HJ := Lib.hid (HI.out.below bx)
            clear bx HI
            go_wp2_with fail
            go_ret
            exact ⟨⟨_, rfl⟩, m, HJ.out.2.2.2, HJ.out.2.1, HJ.out.2.2.1, HD.out⟩
end Go.Proofs.YtmgmhnohocamfaaGreat.qm
/-! QmH5 -/
namespace Go.Proofs.YtmgmhnohocamfaaGreat.qm
set_option linter.unusedVariables false
open Go.RowKit
open rw (Arr But Own bnext below_box below_drew below_drewN)

theorem own_take {w : World} {B g cap n : Nat} {cur : Array Value} {m : List Ix} (hn : n ≤ m.length) (hg : B ≤ g) (ha : Arr w g 152 cur) (hml : m.length ≤ cap) (hcap : cap ≤ maxLen) (hsz : cur.size = cap * 2)
    (htk : cur.toList.take (m.length * 2) = rw.cellsG hpSh m) : Own hpSh w B (.slice (some ⟨g, 0, none⟩) n cap) (m.take n) := by
  have hl : (m.take n).length = n := by rw [List.length_take]; omega
  refine ⟨?_, .inr ⟨g, cap, cur, by rw [hl], hg, ha, by omega, hcap, hsz, ?_⟩⟩
  · rw [rw.cellsG_length]
  · have e : m = m.take n ++ m.drop n := (List.take_append_drop n m).symm
    have h2 : cur.toList.take (n * 2) = (rw.cellsG hpSh m).take (n * 2) := by rw [← htk, List.take_take]; congr 1; omega
    rw [hl]
    show cur.toList.take (n * 2) = _
    rw [h2]
    conv => lhs; rw [e, rw.cellsG_append]
    rw [List.take_append_of_le_length (by rw [rw.cellsG_length, hl]; exact Nat.le_refl _), List.take_of_length_le (by rw [rw.cellsG_length, hl]; exact Nat.le_refl _)]
set_option maxHeartbeats 2000000 in
set_option maxRecDepth 100000 in
theorem hpop_any (hb : Nat) (v : Value) (m : List Ix) (n : Nat) (hn : m.length = n + 1) (hl : m.length ≤ 1000000) (w0 w : World) (h : Hp w0 w hb v m) :
    Calls Tryz.prog 193 #[.pointer (some ⟨hb, 0, none⟩)] w fun e w' => e = .returned (.iface 152 (.agg #[.int .i64 (m.getD n z0).node, .int .u64 (m.getD n z0).idx])) ∧ ∃ v', Hp w0 w' hb v' (m.take n) ∧ v'.ownBlock = v.ownBlock := by
  have hnl : n < m.length := by omega
  rw [getD_at hnl]
  obtain ⟨g, cap, cur, rfl, hg, hgl, ha, hml, hcap, hsz, htk⟩ := hp_open h.own (by intro e; rw [e] at hn; simp at hn)
  obtain ⟨c0, c1⟩ := hp_cells htk hnl
  have c0 := ha.cell c0
  have c1 := ha.cell c1
  have hcn : n ≤ cap := by omega
  have HO : Hid (∀ W, Arr W g 152 cur → Own hpSh W (hb + 1) (.slice (some ⟨g, 0, none⟩) n cap) (m.take n)) := fun W hW => own_take (by omega) hg hW hml hcap hsz htk
  generalize m[n] = x at *
  obtain ⟨xn, xi⟩ := x
  simp only at c0 c1
  obtain ⟨N, hN⟩ : ∃ N, m.length = N := ⟨_, rfl⟩
  rw [hN] at h hn hl hml
  have f1 : IntKind.i64.wrap ((N : Int) - 1) = (n : Int) := by
    have : (N : Int) - 1 = (n : Int) := by omega
    rw [this]; exact IntWalk.i64_in _ (by omega)
  have f2 : (n : Int) < (N : Int) := by omega
  have f3 : (n : Int) ≤ (cap : Int) := by omega
  have b0 := h.box.cell (j := 0) rfl
  have fz := h.box.frozen 0
  have hbl := h.box.lt
  have k1 := below_box w (.cells #[.int .i64 xn, .int .u64 xi] 152)
  have h1 := h.below k1
  have b1 := h1.box.cell (j := 0) rfl
  have fz1 := h1.box.frozen 0
  have a1 := ha.below k1
  have x1 := Arr.new w 152 #[.int .i64 xn, .int .u64 xi]
  obtain ⟨q, hq⟩ : ∃ q, w.heap.size = q := ⟨_, rfl⟩
  have hbq : hb ≠ q := by omega
  have hgb : g ≠ hb := by omega
  have HX := Lib.hid (And.intro h1 (And.intro a1 x1))
  clear h ha htk hsz hml hcap hn hnl hl hN k1 h1 a1 x1
  go_enter Tryz.func193, Tryz.ntmps193
  go_upto_region 3 with (fail)
  clear c0 c1 b0 fz f1 f2
  generalize w.alloc (.cells #[.int .i64 xn, .int .u64 xi] 152) = W1 at *
  have HY : Hid (Hp w0 (W1.setCell ⟨hb, 0, none⟩ (.slice (some ⟨g, 0, none⟩) n cap)) hb (.slice (some ⟨g, 0, none⟩) n cap) (m.take n) ∧ Arr (W1.setCell ⟨hb, 0, none⟩ (.slice (some ⟨g, 0, none⟩) n cap)) q 152 #[.int .i64 xn, .int .u64 xi]) := by
    have kb : But hb W1 (W1.setCell ⟨hb, 0, none⟩ (.slice (some ⟨g, 0, none⟩) n cap)) := (But.refl hb W1).set _ _
    rw [hq] at HX
    exact ⟨⟨HX.out.1.box.set 0 _, HO.out _ (kb.arr HX.out.2.1 hgb), by have := HX.out.1.b.trans (Mh.of_but (o := (Value.slice (some ⟨g, 0, none⟩) N cap).ownBlock) kb); simpa [Value.ownBlock] using this⟩, kb.arr HX.out.2.2 (Ne.symm hbq)⟩
  have y0 : (W1.setCell ⟨hb, 0, none⟩ (.slice (some ⟨g, 0, none⟩) n cap)).cell? ⟨q, 0, none⟩ = some (.int .i64 xn) := HY.out.2.cell rfl
  have y1 : (W1.setCell ⟨hb, 0, none⟩ (.slice (some ⟨g, 0, none⟩) n cap)).cell? ⟨q, 1, none⟩ = some (.int .u64 xi) := HY.out.2.cell rfl
  clear HX HO
  go_wp2
  go_ret
  exact ⟨rfl, _, HY.out.1, by simp [Value.ownBlock]⟩
end Go.Proofs.YtmgmhnohocamfaaGreat.qm
/-! QmH6 -/
namespace Go.Proofs.YtmgmhnohocamfaaGreat.qm
set_option linter.unusedVariables false
open Go.RowKit
open rw (Arr But Own bnext below_box below_drew below_drewN)

theorem own_but {α : Type} {s : rw.Sh α} {q B : Nat} {w w' : World} {v : Value} {l : List α} (h : Own s w B v l) (k : But q w w') (hv : v.ownBlock ≠ some q) : Own s w' B v l := by
  obtain ⟨h1, h2 | ⟨g, cap, cur, h3, h4, h5, h6⟩⟩ := h
  · exact ⟨h1, .inl h2⟩
  · refine ⟨h1, .inr ⟨g, cap, cur, h3, h4, (k.block g (Array.getElem?_eq_some_iff.1 h5).1 (fun e => hv ?_)).trans h5, h6⟩⟩
    rw [h3, e]; simp [Value.ownBlock]
theorem Mh.then_new {hb q : Nat} {o : Option Nat} {a b c : World} (h : Mh hb o a b) (k : But q b c) (hq : a.heap.size ≤ q) : Mh hb o a c :=
  ⟨k.os.trans h.os, k.tape.trans h.tape, k.output.trans h.output, Nat.le_trans h.size k.size, fun i hi h1 h2 => (k.block i (Nat.lt_of_lt_of_le hi h.size) (by omega)).trans (h.block i hi h1 h2)⟩
theorem assert_at (n i : Int) (w : World) : (Instr.typeAssert (.iface 152 (.agg #[.int .i64 n, .int .u64 i])) 20 152 false).run Tryz.prog w = .ok (.agg #[.int .i64 n, .int .u64 i]) w := by kernel_rfl
theorem assert_ok (n i : Int) (w : World) : (Instr.typeAssert (.iface 152 (.agg #[.int .i64 n, .int .u64 i])) 20 152 true).run Tryz.prog w = .ok (.tuple #[.agg #[.int .i64 n, .int .u64 i], .bool true]) w := by kernel_rfl
/-- What a pop leaves: x told, R left. -/
def Popped (w0 w' : World) (hb : Nat) (v : Value) (l : List Ix) (x : Ix) : Prop := ∃ v' R, Hp w0 w' hb v' R ∧ v'.ownBlock = v.ownBlock ∧ l.Perm (x :: R) ∧ (∀ r ∈ l, r.idx ≤ x.idx) ∧ Heap R R.length
theorem Popped.below {w0 w W : World} {hb : Nat} {v : Value} {l : List Ix} {x : Ix} (h : Popped w0 w hb v l x) (b : Below w.heap.size w W) : Popped w0 W hb v l x := by
  obtain ⟨v', R, h1, h2⟩ := h
  exact ⟨v', R, h1.below b, h2⟩
set_option maxHeartbeats 2000000 in
set_option maxRecDepth 100000 in
theorem pop_any (hb : Nat) (v : Value) (l : List Ix) (n : Nat) (hn : l.length = n + 1) (hl : l.length ≤ 1000000) (w0 w : World) (h : Hp w0 w hb v l) (hh : Heap l l.length) :
    Calls Tryz.prog 170 #[.iface 194 (.pointer (some ⟨hb, 0, none⟩))] w fun e w' => ∃ x : Ix, e = .returned (.iface 152 (.agg #[.int .i64 x.node, .int .u64 x.idx])) ∧ Popped w0 w' hb v l x := by
  have hm1 := m_len h.box
  obtain ⟨N, hN⟩ : ∃ N, l.length = N := ⟨_, rfl⟩
  obtain ⟨ad, cap, rfl⟩ := h.own.form
  have hL := len_any ad N cap w
  have hm2 := m_swap h.box
  have HSW : Hid (Calls Tryz.prog 195 #[.slice ad N cap, .int .i64 0, .int .i64 n] w fun e w' => e = .returned (.tuple #[]) ∧ Hp w0 w' hb (.slice ad N cap) (sw l 0 n)) := by
    rw [hN] at h
    have hh2 := h
    rcases Nat.eq_zero_or_pos n with h0 | h0
    · subst h0
      refine (swap_same (.slice ad N cap) l 0 (by omega) hl w (hb + 1) h.own).mono ?_
      rintro e w' ⟨rfl, o, b⟩
      exact ⟨rfl, h.turn o b⟩
    · refine (swap_any (.slice ad N cap) l 0 n (by omega) (by omega) (by omega) hl w (hb + 1) h.own).mono ?_
      rintro e w' ⟨rfl, o, b⟩
      exact ⟨rfl, h.turn o b⟩
  have HD := Lib.hid (DnI.pop hn hh)
  have HH := Lib.hid hh
  have HL := Lib.hid (And.intro hn (hN ▸ hl))
  have f1 : IntKind.i64.wrap ((N : Int) - 1) = (n : Int) := by
    have : (N : Int) - 1 = (n : Int) := by omega
    rw [this]; exact IntWalk.i64_in _ (by omega)
  have HN := Lib.hid hN
  rw [hN] at hm1 hm2
  clear h hh hl hn hN
  go_enter Tryz.func170, Tryz.ntmps170
  go_wp2_with fail
  with_reducible refine hL.mono ?_
  clear hL hm1
  rintro e w1 ⟨rfl, rfl⟩
  go_wp2_with fail
  with_reducible refine HSW.out.mono ?_
  clear hm2 HSW
  rintro e w2 ⟨rfl, h2⟩
  have hsl : (sw l 0 n).length = n + 1 := by rw [sw_len]; exact HL.out.1
  have hD := down_any hb (.slice ad N cap) (sw l 0 n) n (by rw [hsl]; have := HL.out; have := HN.out; omega) w2 ⟨h2.box, h2.own, Mh.refl _ _ _⟩ HD.out
  have HB := Lib.hid h2.b
  clear h2 hsl
  go_wp2_with fail
  with_reducible refine hD.mono ?_
  clear hD
  rintro e w3 ⟨⟨rv, rfl⟩, m, h3, hp, hc, hhm⟩
  have h4 : Hp w0 w3 hb (.slice ad N cap) m := ⟨h3.box, h3.own, HB.out.trans h3.b⟩
  have hml : m.length = n + 1 := by rw [hp.length_eq, sw_len]; exact HL.out.1
  have hpop := hpop_any hb (.slice ad N cap) m n hml (by rw [hml]; have := HL.out; have := HN.out; omega) w0 w3 h4
  have hs := pop_spec HL.out.1 HH.out hp hc hhm
  have HS := Lib.hid hs
  clear h3 h4 hp hc hhm hml hs HB HD HH
  have hm3 := m_pop ⟨hb, 0, none⟩ w3
  generalize m.getD n z0 = x at *
  go_wp2_with fail
  with_reducible refine hpop.mono ?_
  clear hpop hm3
  rintro e w5 ⟨rfl, v', h5, hv5⟩
  have H5 : Hid (Popped w0 w5 hb (.slice ad N cap) l x) := ⟨v', _, h5, hv5, HS.out⟩
  clear h5 HS hv5
  go_wp2_with fail
  go_ret
  exact ⟨x, rfl, by rw [HN.out]; exact H5.out⟩
set_option maxHeartbeats 2000000 in
set_option maxRecDepth 100000 in
theorem take_any (hb : Nat) (v : Value) (l : List Ix) (n : Nat) (hn : l.length = n + 1) (hl : l.length ≤ 1000000) (w0 w : World) (h : Hp w0 w hb v l) (hh : Heap l l.length) :
    Calls Tryz.prog 161 #[.pointer (some ⟨hb, 0, none⟩)] w fun e w' => ∃ x : Ix, e = .returned (.agg #[.int .i64 x.node, .int .u64 x.idx]) ∧ Popped w0 w' hb v l x := by
  have k1 := below_box w (.cells #[.int .i64 0, .int .u64 0] 152)
  have h1 := h.below k1
  have x1 := Arr.new w 152 #[.int .i64 0, .int .u64 0]
  have hP := pop_any hb v l n hn hl _ _ ⟨h1.box, h1.own, Mh.refl _ _ _⟩ hh
  obtain ⟨q, hq⟩ : ∃ q, w.heap.size = q := ⟨_, rfl⟩
  have hbq : q ≠ hb := by have := h.box.lt; omega
  have hvq : v.ownBlock ≠ some q := fun e => by have := (h.own.lt _ e).2; omega
  have HX := Lib.hid (And.intro x1 h1.b)
  have HQ : Hid (w0.heap.size ≤ q) := by show _ ≤ _; have := h.b.size; omega
  rw [hq] at HX
  clear h hh h1 x1
  go_enter Tryz.func161, Tryz.ntmps161
  go_wp2_with fail
  with_reducible refine hP.mono ?_
  clear hP
  generalize w.alloc (.cells #[.int .i64 0, .int .u64 0] 152) = W1 at *
  rintro e w2 ⟨x, rfl, v', R, hp, hv', hr⟩
  have x2 : Arr w2 q 152 #[.int .i64 0, .int .u64 0] := HX.out.1.of (hp.b.block q HX.out.1.lt hbq (by rw [hv']; exact hvq))
  obtain ⟨x0, x1, g0, g1⟩ : w2.cell? ⟨q, 0, none⟩ = some (.int .i64 0) ∧ w2.cell? ⟨q, 1, none⟩ = some (.int .u64 0) ∧ w2.frozen? ⟨q, 0, none⟩ = false ∧ w2.frozen? ⟨q, 1, none⟩ = false := ⟨x2.cell rfl, x2.cell rfl, x2.frozen 0, x2.frozen 1⟩
  obtain ⟨xn, xi⟩ := x
  have HY : Hid (Popped w0 ((w2.setCell ⟨q, 0, none⟩ (.int .i64 xn)).setCell ⟨q, 1, none⟩ (.int .u64 xi)) hb v l ⟨xn, xi⟩ ∧ Arr ((w2.setCell ⟨q, 0, none⟩ (.int .i64 xn)).setCell ⟨q, 1, none⟩ (.int .u64 xi)) q 152 #[.int .i64 xn, .int .u64 xi]) := by
    have kb : But q w2 ((w2.setCell ⟨q, 0, none⟩ (.int .i64 xn)).setCell ⟨q, 1, none⟩ (.int .u64 xi)) := ((But.refl q w2).set _ _).set _ _
    refine ⟨⟨v', R, ⟨kb.arr hp.box (Ne.symm hbq), own_but hp.own kb (by rw [hv']; exact hvq), ?_⟩, hv', hr⟩, (x2.set 0 _).set 1 _⟩
    have hpb := hp.b
    rw [hv'] at hpb ⊢
    exact (HX.out.2.trans hpb).then_new kb HQ.out
  have hta := assert_at xn xi
  clear hp hr x2 HX hv'
  go_wp2
  generalize (w2.setCell ⟨q, 0, none⟩ (.int .i64 xn)).setCell ⟨q, 1, none⟩ (.int .u64 xi) = W3 at *
  refine bodyPost_ret (v := .agg #[.int .i64 xn, .int .u64 xi]) (results_cell_row rfl _ _ q 152 _ (0, 0) _ rfl HY.out.2 Tryz.underlying152 rfl (by kernel_rfl)) rfl ?_
  exact ⟨⟨xn, xi⟩, rfl, HY.out.1⟩
end Go.Proofs.YtmgmhnohocamfaaGreat.qm
/-! QmH7 -/
namespace Go.Proofs.YtmgmhnohocamfaaGreat.qm
set_option linter.unusedVariables false
open Go.RowKit
open rw (Arr But Own bnext below_box below_drew below_drewN addr_add)

/-- 'append(v, x)': where the new row lies, too. -/
theorem append_at {α : Type} (s : rw.Sh α) (B : Nat) (v : Value) (o : List α) (x : α) (ad : Addr) (c : Nat) (hlen : o.length < 34359738368) (w : World) (ho : Own s w B v o) (hB : B ≤ w.heap.size) (hu : rw.Sl s w (.slice (some ad) 1 c) [x]) :
    ∃ v' w', rw.App s v (.slice (some ad) 1 c) w v' w' ∧ Own s w' B v' (o ++ [x]) ∧ w.grownBy w' v.ownBlock ∧ (v'.ownBlock = v.ownBlock ∨ v'.ownBlock = some w.heap.size) := by
  obtain ⟨v', w', h1, h2, _, h4⟩ := rw.append_own s B v o [x] _ (by simp; omega) w ho hB hu
  obtain ⟨i0, hi, hz0, hz1, hz2⟩ := info_parts s.hi
  obtain ⟨a, c', e, hc, hr, hn⟩ := hu
  cases e
  rcases hr with hr | ⟨b, off, hab, hbw, hcell⟩
  · cases hr
  · obtain rfl : ad = ⟨b, off, none⟩ := Option.some.inj hab
    have hnews : ∀ j y, (rw.cellsG s [x])[j]? = some y → w.cell? ((⟨b, off, none⟩ : Addr).add j) = some y := by
      intro j y hj
      have hjl : j < s.k := by
        rcases Nat.lt_or_ge j s.k with h | h
        · exact h
        · rw [List.getElem?_eq_none (by rw [rw.cellsG_length]; simpa using h)] at hj; cases hj
      have h2 := hcell 0 (by simp) j hjl
      rw [Nat.zero_mul, Nat.add_zero] at h2
      rw [addr_add, h2, ← hj, rw.cellsG_one]
      rfl
    have hby : (o.length + 1) * s.bytes ≤ 140737488355328 := Nat.le_trans (Nat.mul_le_mul (show o.length + 1 ≤ 34359738368 by omega) s.hb) (by decide)
    obtain ⟨v2, w2, g1, _, _, _, g5⟩ := run_append_own_at (P := Tryz.prog) (w := w) B s.st s.st s.t i0 s.z s.k s.bytes s.hu hi hz0 hz1 hz2 s.hz s.hk v o.length (rw.cellsG s o) ho ⟨b, off, none⟩ 1 c
      (rw.cellsG s [x]) (rw.cellsG_length s [x]) hnews (rw.cellsG_cell s) (by unfold maxLen; omega) hby hB
    have h1' := h1
    unfold rw.App at h1'
    rw [g1] at h1'
    injection h1' with e1 e2
    subst e1 e2
    exact ⟨_, _, h1, h2, h4, g5⟩
theorem step_push {α : Type} (s : rw.Sh α) {ops : Array Oper} {o : Oper} {a : Act} {w : World} {K : Act → World → Prop} {Q : Exit → Act → World → Prop} {E : Prop} (hgd : o.guard = none) (x y : Operand)
    (ho : o.op = .call { callee := .builtin .append, args := #[x, y], argTypes := #[s.st, s.st] }) (hty : o.type = s.st) (B : Nat) (v : Value) (ad : Addr) (c : Nat) (m : List α) (z : α) (hx : a.eval x = v) (hy : a.eval y = .slice (some ad) 1 c)
    (hlen : m.length < 34359738368) (hown : Own s w B v m) (hB : B ≤ w.heap.size) (hu : rw.Sl s w (.slice (some ad) 1 c) [z])
    (h : ∀ ad cp w', Own s w' B (.slice ad (m.length + 1) cp) (m ++ [z]) → w.grownBy w' v.ownBlock → ((Value.slice ad (m.length + 1) cp).ownBlock = v.ownBlock ∨ (Value.slice ad (m.length + 1) cp).ownBlock = some w.heap.size) → K (a.put o.dst (.slice ad (m.length + 1) cp)) w') :
    if Region.wanted o (yielded ops a.tmps) = true then Oper.wp Tryz.prog o a w K Q else E := by
  have hw : Region.wanted o (yielded ops a.tmps) = true := by simp [Region.wanted, hgd]
  rw [if_pos hw]
  obtain ⟨v', w', hr, h2, h3, h4⟩ := append_at s B v m z ad c hlen w hown hB hu
  unfold rw.App at hr
  unfold Oper.wp execOp
  simp only [ho, hty, resolve, invoke, builtin, Sem.run_bind, Sem.run_pure, Result.andThen_ok, List.map_toArray, List.map_cons, List.map_nil, hx, hy, hr]
  obtain ⟨ad', cp, rfl⟩ := h2.form
  rw [List.length_append] at h2 h4 ⊢
  exact h ad' cp w' (by simpa using h2) h3 h4
/-- Behind a push. -/
def Pushed (w w' : World) (hb : Nat) (l : List Ix) : Prop := ∃ v', Arr w' hb 202 #[v'] ∧ Own hpSh w' (hb + 1) v' l ∧ Below hb w w'
theorem lit_at {α : Type} (s : rw.Sh α) (w : World) (x : α) : rw.Sl s (w.alloc (.cells (s.enc x).toArray s.t)) (.slice (some ⟨w.heap.size, 0, none⟩) 1 1) [x] := by
  have hl := (Own.lit s w [x] (by simp) (by simp)).sl
  rw [rw.cellsG_one] at hl
  exact hl
theorem grown_below {B : Nat} {w w' : World} {o : Option Nat} (h : w.grownBy w' o) (hB : B ≤ w.heap.size) (ho : ∀ k, o = some k → B ≤ k) : Below B w w' :=
  ⟨h.os, h.tape, h.output, h.size, fun k hk => h.block k (by omega) (fun e => by have := ho k e.symm; omega)⟩
set_option maxHeartbeats 4000000 in
set_option maxRecDepth 100000 in
theorem mpush_any (hb : Nat) (v : Value) (l : List Ix) (x : Ix) (hl : l.length ≤ 1000000) (w : World) (h : Hp w w hb v l) :
    Calls Tryz.prog 194 #[.pointer (some ⟨hb, 0, none⟩), .iface 152 (.agg #[.int .i64 x.node, .int .u64 x.idx])] w fun e w' => e = .returned (.tuple #[]) ∧ Pushed w w' hb (l ++ [x]) := by
  have hta := assert_ok x.node x.idx
  have k1 := below_box w (.cells #[.int .i64 x.node, .int .u64 x.idx] 152)
  have x1 := Arr.new w 152 #[.int .i64 x.node, .int .u64 x.idx]
  have h1 := h.below k1
  have hbl := h.box.lt
  obtain ⟨q, hq⟩ : ∃ q, w.heap.size = q := ⟨_, rfl⟩
  have HX := Lib.hid (And.intro h1 (And.intro k1 x1))
  rw [hq] at HX
  have HW : Hid (Below q w (w.alloc (.cells #[.int .i64 x.node, .int .u64 x.idx] 152))) := by rw [← hq]; exact k1
  clear h h1 k1 x1
  go_enter Tryz.func194, Tryz.ntmps194
  go_upto_region 2 with (fail)
  generalize w.alloc (.cells #[.int .i64 x.node, .int .u64 x.idx] 152) = W1 at *
  obtain ⟨xn, xi⟩ := x
  have kd : Below W1.heap.size W1 W1.drew := below_drew (Below.refl _ _)
  have k2 := below_box W1.drew (.cells #[.int .i64 xn, .int .u64 xi] 152)
  have hs1 : hb + 1 ≤ W1.heap.size := HX.out.1.box.lt
  have H2 := (HX.out.1.below kd).below k2
  have o2 := H2.own
  have hlit := lit_at hpSh W1.drew ⟨xn, xi⟩
  have b1 : W1.cell? ⟨hb, 0, none⟩ = some v := HX.out.1.box.cell rfl
  have x0 : W1.cell? ⟨q, 0, none⟩ = some (.int .i64 xn) := HX.out.2.2.cell rfl
  have x1 : W1.cell? ⟨q, 1, none⟩ = some (.int .u64 xi) := HX.out.2.2.cell rfl
  have hf := HX.out.1.box.frozen 0
  have b2 : (W1.alloc (.cells #[.int .i64 xn, .int .u64 xi] 152)).cell? ⟨hb, 0, none⟩ = some v := (HX.out.1.below (below_box W1 _)).box.cell rfl
  have HV : Hid (∀ k, v.ownBlock = some k → hb + 1 ≤ k) := fun k e => (HX.out.1.own.lt k e).1
  have HP := Lib.hid fun ad cp w7 (o : Own hpSh w7 (hb + 1) (.slice ad (l.length + 1) cp) (l ++ [⟨xn, xi⟩])) (gr : ((W1.drew).alloc (.cells #[.int .i64 xn, .int .u64 xi] 152)).grownBy w7 v.ownBlock) => (show w7.cell? ⟨hb, 0, none⟩ = some v ∧ w7.frozen? ⟨hb, 0, none⟩ = false ∧ Pushed w (w7.setCell ⟨hb, 0, none⟩ (.slice ad (l.length + 1) cp)) hb (l ++ [⟨xn, xi⟩]) by
    have hkb := gr.block hb (by simp; omega) (fun e => by have := HV.out hb e.symm; omega)
    have bx := H2.box.of hkb
    have kb : But hb w7 (w7.setCell ⟨hb, 0, none⟩ (.slice ad (l.length + 1) cp)) := (But.refl hb w7).set _ _
    refine ⟨bx.cell rfl, bx.frozen 0, _, bx.set 0 _, own_but o kb (fun e => by have := (o.lt _ e).1; omega), ?_⟩
    have g1 := (HW.out.mono (show hb ≤ q by omega)).trans ((kd.mono (show hb ≤ W1.heap.size by omega)).trans (k2.mono (show hb ≤ W1.drew.heap.size by simp; omega)))
    exact (g1.trans (grown_below gr (by simp; omega) (fun k e => by have := HV.out k e; omega))).trans (kb.below (by have := gr.size; simp at this; omega) (Nat.le_refl _)))
  have hlt : l.length < 34359738368 := by omega
  clear H2 HX HW k2 kd
  go_region_law
    ((refine step_push hpSh rfl (.tmp 15) (.tmp 17) rfl rfl (hb + 1) v ⟨W1.drew.heap.size, 0, none⟩ 1 l ⟨xn, xi⟩ rfl rfl hlt o2 (by simp; omega) hlit ?_
      intro a7 c7 w7 O7 g7 l7
      obtain ⟨z1, z2, z3⟩ := HP.out _ _ _ O7 g7
      have Z3 := Lib.hid z3
      clear z3))
  all_goals go_wp2
  all_goals exact bodyPost_end (results_none rfl _ _ _) rfl ⟨rfl, Z3.out⟩
/-- A heap of what l holds. -/
def Heaped (w w' : World) (hb : Nat) (l : List Ix) : Prop := ∃ v m, Arr w' hb 202 #[v] ∧ Own hpSh w' (hb + 1) v m ∧ Below hb w w' ∧ m.Perm l ∧ Heap m m.length
theorem Mh.to_below {hb B : Nat} {v : Value} {l : List Ix} {w w' : World} (h : Mh hb v.ownBlock w w') (o : Own hpSh w' (hb + 1) v l) (hB : hb ≤ w.heap.size) : Below hb w w' :=
  h.below hB (Nat.le_refl _) fun k e => by have := (o.lt k e).1; omega
set_option maxHeartbeats 4000000 in
set_option maxRecDepth 100000 in
theorem push_any (hb : Nat) (l : List Ix) (x : Ix) (hl : l.length < 1000000) (w0 w : World) (h : Heaped w0 w hb l) :
    Calls Tryz.prog 169 #[.iface 194 (.pointer (some ⟨hb, 0, none⟩)), .iface 152 (.agg #[.int .i64 x.node, .int .u64 x.idx])] w fun e w' => e = .returned (.tuple #[]) ∧ Heaped w0 w' hb (x :: l) := by
  obtain ⟨v, m, h1, h2, h3, h4, h5⟩ := h
  have hml : m.length < 1000000 := by rw [h4.length_eq]; exact hl
  have hP := mpush_any hb v m x (by omega) w ⟨h1, h2, Mh.refl _ _ _⟩
  have hm1 := m_push ⟨hb, 0, none⟩ w
  obtain ⟨n, hn⟩ : ∃ n, m.length = n := ⟨_, rfl⟩
  have hU := UpI.push h5 x
  rw [hn] at hU hml
  have HU := Lib.hid hU
  have HN := Lib.hid hn
  have H3 := Lib.hid (And.intro h3 h4)
  clear h1 h2 h3 h4 h5 hU hn
  go_enter Tryz.func169, Tryz.ntmps169
  go_wp2_with fail
  with_reducible refine hP.mono ?_
  clear hP hm1
  rintro e w2 ⟨rfl, v2, a2, o2, b2⟩
  have hnn : (m ++ [x]).length = n + 1 := by rw [List.length_append, HN.out]; rfl
  obtain ⟨ad, cap, rfl⟩ := o2.form
  have hm2 := m_len a2
  have hL := len_any ad (n + 1) cap w2
  have hu := up_any hb (.slice ad (m ++ [x]).length cap) (m ++ [x]) n (by rw [hnn]; omega) w2 ⟨a2, o2, Mh.refl _ _ _⟩ HU.out
  rw [hnn] at hm2 hu
  have HB := Lib.hid b2
  have hbs : hb ≤ w2.heap.size := Nat.le_of_lt a2.lt
  obtain ⟨N, hN⟩ : ∃ N, n + 1 = N := ⟨_, rfl⟩
  rw [hN] at hm2 hu hL
  have f1 : IntKind.i64.wrap ((N : Int) - 1) = (n : Int) := by
    have : (N : Int) - 1 = (n : Int) := by omega
    rw [this]; exact IntWalk.i64_in _ (by omega)
  clear a2 o2 b2 hnn hN
  go_wp2_with fail
  with_reducible refine hL.mono ?_
  clear hL hm2
  rintro e w3 ⟨rfl, rfl⟩
  go_wp2_with fail
  with_reducible refine hu.mono ?_
  clear hu
  rintro e w4 ⟨rfl, m4, h4, p4, q4⟩
  have HF : Hid (Heaped w0 w4 hb (x :: l)) := by
    refine ⟨_, m4, h4.box, h4.own, H3.out.1.trans (HB.out.trans (h4.b.to_below (B := 0) h4.own hbs)), p4.trans ?_, q4⟩
    exact (List.perm_append_comm (l₁ := m) (l₂ := [x])).trans (H3.out.2.cons x)
  clear h4 p4 q4
  go_wp2_with fail
  exact bodyPost_end (results_none rfl _ _ _) rfl ⟨rfl, HF.out⟩
end Go.Proofs.YtmgmhnohocamfaaGreat.qm
/-! QmH8 -/
namespace Go.Proofs.YtmgmhnohocamfaaGreat.qm
set_option linter.unusedVariables false
open Go.RowKit
open rw (Arr But Own bnext below_box below_drew below_drewN addr_add)

/-- Those of members, the last first. -/
def ofL (l : List Int) (hv : List Ix) : List Ix := (hv.filter fun x => l.contains x.node).reverse
theorem ofL_mem {l : List Int} {hv : List Ix} (x : Ix) : x ∈ ofL l hv ↔ x ∈ hv ∧ x.node ∈ l := by simp [ofL]
theorem ofL_len (l : List Int) (hv : List Ix) : (ofL l hv).length ≤ hv.length := by
  unfold ofL; rw [List.length_reverse]; exact List.length_filter_le _ _
theorem ofL_next {l : List Int} {hv : List Ix} {k : Nat} (hk : k < hv.length) : ofL l (hv.take (k + 1)) = if l.contains (hv[k]).node then hv[k] :: ofL l (hv.take k) else ofL l (hv.take k) := by
  unfold ofL
  rw [List.take_succ_eq_append_getElem hk, List.filter_append]
  cases h : l.contains (hv[k]).node with
  | true => rw [List.filter_cons_of_pos (by simpa using h)]; simp
  | false => rw [List.filter_cons_of_neg (by simpa using h)]; simp
theorem Heaped.below {w w1 w2 : World} {hb : Nat} {l : List Ix} (h : Heaped w w1 hb l) (b : Below w1.heap.size w1 w2) : Heaped w w2 hb l := by
  obtain ⟨v, m, h1, h2, h3, h4⟩ := h
  exact ⟨v, m, h1.below b, h2.below _ b, h3.trans (b.mono (Nat.le_of_lt h1.lt)), h4⟩
theorem Heaped.b {w w1 : World} {hb : Nat} {l : List Ix} (h : Heaped w w1 hb l) : Below hb w w1 := by
  obtain ⟨v, m, h1, h2, h3, h4⟩ := h
  exact h3
set_option maxHeartbeats 4000000 in
set_option maxRecDepth 100000 in
theorem of_any (u v : Value) (l : List Int) (hv : List Ix) (hl : l.length ≤ 140737488355328) (hh : hv.length ≤ 100000) (w : World) (h : Ns w u l) (h2 : Is w v hv) :
    Calls Tryz.prog 159 #[u, v] w fun e w' => e = .returned (.pointer (some ⟨w.heap.size, 0, none⟩)) ∧ Heaped w w' w.heap.size (ofL l hv) := by
  obtain ⟨a, c, rfl⟩ := sl_form h
  obtain ⟨a2, c2, rfl⟩ := sl_form h2
  obtain ⟨N, hN⟩ : ∃ n, hv.length = n := ⟨_, rfl⟩
  obtain ⟨hb, hhb⟩ : ∃ q, w.heap.size = q := ⟨_, rfl⟩
  have HC := Lib.hid fun n W x => contains_any (.slice a l.length c) l n hl W x
  obtain ⟨M, hM⟩ : ∃ n, l.length = n := ⟨_, rfl⟩
  rw [hM] at HC h ⊢
  rw [hN] at hh h2 ⊢
  have HN := Lib.hid hN
  have H1 := Lib.hid h
  have H2 := Lib.hid h2
  have H0 : Hid (Heaped w (w.alloc (.cells #[.slice none 0 0] 202)) hb (ofL l (hv.take 0))) := by
    have x := Arr.new w 202 #[.slice none 0 0]
    have k := below_box w (.cells #[.slice none 0 0] 202)
    rw [hhb] at x k
    exact ⟨_, [], x, Own.nil _ _ _, k, by simp [ofL], fun k _ hk => absurd hk (by simp)⟩
  have HQ : Hid (w.heap.size = hb) := hhb
  rw [hhb]
  clear h h2 hN hM hl
  go_enter Tryz.func159, Tryz.ntmps159
  go_wp2
  generalize w.alloc (.cells #[.slice none 0 0] 202) = w1 at *
  go_loopw [7, 11] (fun _ i wr => ∃ k : Nat, i = .int .i64 k ∧ k ≤ N ∧ Hid (Heaped w wr hb (ofL l (hv.take k))))
    (fun _ i _ => N - (intOf i).toNat)
  case atStart => exact ⟨0, rfl, Nat.zero_le _, H0⟩
  case round =>
    obtain ⟨k, rfl, hk, HI⟩ := hrel
    have hbw : Below w.heap.size w wr := by rw [HQ.out]; exact HI.out.b
    by_cases hlt : k < N
    · have hki : (k : Int) < (N : Int) := by omega
      have hkl : k < hv.length := by rw [HN.out]; exact hlt
      have HS2 := H2.out.later _ hbw
      rw [← HN.out] at HS2
      obtain ⟨b, off, c3, e, hb3, c0, c1⟩ := slI_at HS2 hkl
      injection e with e1 e2 e3
      subst e1 e3
      clear e2
      have hnx := ofL_next (l := l) hkl
      obtain ⟨x, hx⟩ : ∃ x, hv[k]'hkl = x := ⟨_, rfl⟩
      rw [hx] at c0 c1 hnx
      obtain ⟨xn, xi⟩ := x
      simp only at c0 c1 hnx
      have kb := below_box wr (.cells #[.int .i64 xn, .int .u64 xi] 152)
      have x1 := Arr.new wr 152 #[.int .i64 xn, .int .u64 xi]
      have hC := HC.out xn _ ((H1.out.later _ hbw).later _ kb)
      have HH := Lib.hid (HI.out.below kb)
      have HX := Lib.hid x1
      have hll : (ofL l (hv.take k)).length < 1000000 := by
        have := ofL_len l (hv.take k)
        rw [List.length_take] at this
        omega
      clear HI HS2 hb3 hbw hx x1 hkl
      obtain ⟨r, hr⟩ : ∃ r, l.contains xn = r := ⟨_, rfl⟩
      rw [hr] at hC hnx
      obtain ⟨q, hq⟩ : ∃ q, wr.heap.size = q := ⟨_, rfl⟩
      rw [hq] at HX
      clear hr kb
      cases r with
      | true =>
        have HP := push_any hb _ ⟨xn, xi⟩ hll w _ HH.out
        rw [if_pos rfl] at hnx
        rw [← hnx] at HP
        have HP := Lib.hid HP
        clear hnx HH hll
        go_wp2_with fail
        generalize wr.alloc (.cells #[.int .i64 xn, .int .u64 xi] 152) = W1 at *
        refine hC.mono ?_
        clear hC
        rintro e w2 ⟨rfl, rfl⟩
        have x0 : W1.cell? ⟨q, 0, none⟩ = some (.int .i64 xn) := HX.out.cell rfl
        have x1 : W1.cell? ⟨q, 1, none⟩ = some (.int .u64 xi) := HX.out.cell rfl
        clear c0 c1
        go_wp2_with fail
        refine HP.out.mono ?_
        clear HP x0 x1 HX
        rintro e w3 ⟨rfl, h3⟩
        have H3 := Lib.hid h3
        clear h3
        go_wp2_with fail
        exact ⟨⟨k + 1, by rw [Int.natCast_add]; rfl, by omega, H3.out⟩, by simp only [intOf]; omega⟩
      | false =>
        rw [if_neg (by simp)] at hnx
        rw [← hnx] at HH
        clear hnx hll
        go_wp2_with fail
        generalize wr.alloc (.cells #[.int .i64 xn, .int .u64 xi] 152) = W1 at *
        refine hC.mono ?_
        clear hC
        rintro e w2 ⟨rfl, rfl⟩
        clear c0 c1
        go_wp2_with fail
        exact ⟨⟨k + 1, by rw [Int.natCast_add]; rfl, by omega, HH.out⟩, by simp only [intOf]; omega⟩
    · obtain rfl : k = N := by omega
      have hki : ¬ (k : Int) < (k : Int) := by omega
      have HT := HI.out
      rw [← HN.out, List.take_length] at HT
      have HT := Lib.hid HT
      clear HI hbw
      go_wp2
      go_ret
      exact ⟨rfl, HT.out⟩
end Go.Proofs.YtmgmhnohocamfaaGreat.qm
