/-
  The heap: its own Pop.
-/
import Derived.Test.YtnodgpbahlaccaaQmH4
namespace Go.Proofs.Ytnodgpbahlaccaa.qm
set_option linter.unusedVariables false
open Go.RowKit
open rw (Arr But Own bnext below_box below_drew below_drewN)

theorem own_take {w : World} {B g cap n : Nat} {cur : Array Value} {m : List Ix} (hn : n ≤ m.length) (hg : B ≤ g) (ha : Arr w g 31 cur) (hml : m.length ≤ cap) (hcap : cap ≤ maxLen) (hsz : cur.size = cap * 2)
    (htk : cur.toList.take (m.length * 2) = rw.cellsG hpSh m) : Own hpSh w B (.slice (some ⟨g, 0, none⟩) n cap) (m.take n) := by
  have hl : (m.take n).length = n := by rw [List.length_take]; omega
  refine ⟨?_, .inr ⟨g, cap, cur, by rw [hl], hg, ha, by omega, hcap, hsz, ?_⟩⟩
  · rw [rw.cellsG_length]
  · have e : m = m.take n ++ m.drop n := (List.take_append_drop n m).symm
    have h2 : cur.toList.take (n * 2) = (rw.cellsG hpSh m).take (n * 2) := by rw [← htk, List.take_take]; congr 1; omega
    rw [hl]
    show cur.toList.take (n * 2) = _
    rw [h2]
    conv => lhs; rw [e, rw.cellsG_append]
    rw [List.take_append_of_le_length (by rw [rw.cellsG_length, hl]; exact Nat.le_refl _), List.take_of_length_le (by rw [rw.cellsG_length, hl]; exact Nat.le_refl _)]
set_option maxHeartbeats 2000000 in
set_option maxRecDepth 100000 in
theorem hpop_any (hb : Nat) (v : Value) (m : List Ix) (n : Nat) (hn : m.length = n + 1) (hl : m.length ≤ 1000000) (w0 w : World) (h : Hp w0 w hb v m) :
    Calls Try.prog 76 #[.pointer (some ⟨hb, 0, none⟩)] w fun e w' => e = .returned (.iface 31 (.agg #[.int .i64 (m.getD n z0).node, .int .u64 (m.getD n z0).idx])) ∧ ∃ v', Hp w0 w' hb v' (m.take n) ∧ v'.ownBlock = v.ownBlock := by
  have hnl : n < m.length := by omega
  rw [getD_at hnl]
  obtain ⟨g, cap, cur, rfl, hg, hgl, ha, hml, hcap, hsz, htk⟩ := hp_open h.own (by intro e; rw [e] at hn; simp at hn)
  obtain ⟨c0, c1⟩ := hp_cells htk hnl
  have c0 := ha.cell c0
  have c1 := ha.cell c1
  have hcn : n ≤ cap := by omega
  have HO : Hid (∀ W, Arr W g 31 cur → Own hpSh W (hb + 1) (.slice (some ⟨g, 0, none⟩) n cap) (m.take n)) := fun W hW => own_take (by omega) hg hW hml hcap hsz htk
  generalize m[n] = x at *
  obtain ⟨xn, xi⟩ := x
  simp only at c0 c1
  obtain ⟨N, hN⟩ : ∃ N, m.length = N := ⟨_, rfl⟩
  rw [hN] at h hn hl hml
  have f1 : IntKind.i64.wrap ((N : Int) - 1) = (n : Int) := by
    have : (N : Int) - 1 = (n : Int) := by omega
    rw [this]; exact IntWalk.i64_in _ (by omega)
  have f2 : (n : Int) < (N : Int) := by omega
  have f3 : (n : Int) ≤ (cap : Int) := by omega
  have b0 := h.box.cell (j := 0) rfl
  have fz := h.box.frozen 0
  have hbl := h.box.lt
  have k1 := below_box w (.cells #[.int .i64 xn, .int .u64 xi] 31)
  have h1 := h.below k1
  have b1 := h1.box.cell (j := 0) rfl
  have fz1 := h1.box.frozen 0
  have a1 := ha.below k1
  have x1 := Arr.new w 31 #[.int .i64 xn, .int .u64 xi]
  obtain ⟨q, hq⟩ : ∃ q, w.heap.size = q := ⟨_, rfl⟩
  have hbq : hb ≠ q := by omega
  have hgb : g ≠ hb := by omega
  have HX := Lib.hid (And.intro h1 (And.intro a1 x1))
  clear h ha htk hsz hml hcap hn hnl hl hN k1 h1 a1 x1
  go_enter Try.func76, Try.ntmps76
  go_upto_region 3 with (fail)
  clear c0 c1 b0 fz f1 f2
  generalize w.alloc (.cells #[.int .i64 xn, .int .u64 xi] 31) = W1 at *
  have HY : Hid (Hp w0 (W1.setCell ⟨hb, 0, none⟩ (.slice (some ⟨g, 0, none⟩) n cap)) hb (.slice (some ⟨g, 0, none⟩) n cap) (m.take n) ∧ Arr (W1.setCell ⟨hb, 0, none⟩ (.slice (some ⟨g, 0, none⟩) n cap)) q 31 #[.int .i64 xn, .int .u64 xi]) := by
    have kb : But hb W1 (W1.setCell ⟨hb, 0, none⟩ (.slice (some ⟨g, 0, none⟩) n cap)) := (But.refl hb W1).set _ _
    rw [hq] at HX
    exact ⟨⟨HX.out.1.box.set 0 _, HO.out _ (kb.arr HX.out.2.1 hgb), by have := HX.out.1.b.trans (Mh.of_but (o := (Value.slice (some ⟨g, 0, none⟩) N cap).ownBlock) kb); simpa [Value.ownBlock] using this⟩, kb.arr HX.out.2.2 (Ne.symm hbq)⟩
  have y0 : (W1.setCell ⟨hb, 0, none⟩ (.slice (some ⟨g, 0, none⟩) n cap)).cell? ⟨q, 0, none⟩ = some (.int .i64 xn) := HY.out.2.cell rfl
  have y1 : (W1.setCell ⟨hb, 0, none⟩ (.slice (some ⟨g, 0, none⟩) n cap)).cell? ⟨q, 1, none⟩ = some (.int .u64 xi) := HY.out.2.cell rfl
  clear HX HO
  go_wp2
  go_ret
  exact ⟨rfl, _, HY.out.1, by simp [Value.ownBlock]⟩
end Go.Proofs.Ytnodgpbahlaccaa.qm
