/-
  The heap: its own Push, the library's Push.
-/
import Derived.Test.YtnodgpbahlaccaaQmH6
namespace Go.Proofs.Ytnodgpbahlaccaa.qm
set_option linter.unusedVariables false
open Go.RowKit
open rw (Arr But Own bnext below_box below_drew below_drewN addr_add)

/-- 'append(v, x)': where the new row lies, too. -/
theorem append_at {α : Type} (s : rw.Sh α) (B : Nat) (v : Value) (o : List α) (x : α) (ad : Addr) (c : Nat) (hlen : o.length < 34359738368) (w : World) (ho : Own s w B v o) (hB : B ≤ w.heap.size) (hu : rw.Sl s w (.slice (some ad) 1 c) [x]) :
    ∃ v' w', rw.App s v (.slice (some ad) 1 c) w v' w' ∧ Own s w' B v' (o ++ [x]) ∧ w.grownBy w' v.ownBlock ∧ (v'.ownBlock = v.ownBlock ∨ v'.ownBlock = some w.heap.size) := by
  obtain ⟨v', w', h1, h2, _, h4⟩ := rw.append_own s B v o [x] _ (by simp; omega) w ho hB hu
  obtain ⟨i0, hi, hz0, hz1, hz2⟩ := info_parts s.hi
  obtain ⟨a, c', e, hc, hr, hn⟩ := hu
  cases e
  rcases hr with hr | ⟨b, off, hab, hbw, hcell⟩
  · cases hr
  · obtain rfl : ad = ⟨b, off, none⟩ := Option.some.inj hab
    have hnews : ∀ j y, (rw.cellsG s [x])[j]? = some y → w.cell? ((⟨b, off, none⟩ : Addr).add j) = some y := by
      intro j y hj
      have hjl : j < s.k := by
        rcases Nat.lt_or_ge j s.k with h | h
        · exact h
        · rw [List.getElem?_eq_none (by rw [rw.cellsG_length]; simpa using h)] at hj; cases hj
      have h2 := hcell 0 (by simp) j hjl
      rw [Nat.zero_mul, Nat.add_zero] at h2
      rw [addr_add, h2, ← hj, rw.cellsG_one]
      rfl
    have hby : (o.length + 1) * s.bytes ≤ 140737488355328 := Nat.le_trans (Nat.mul_le_mul (show o.length + 1 ≤ 34359738368 by omega) s.hb) (by decide)
    obtain ⟨v2, w2, g1, _, _, _, g5⟩ := run_append_own_at (P := Try.prog) (w := w) B s.st s.st s.t i0 s.z s.k s.bytes s.hu hi hz0 hz1 hz2 s.hz s.hk v o.length (rw.cellsG s o) ho ⟨b, off, none⟩ 1 c
      (rw.cellsG s [x]) (rw.cellsG_length s [x]) hnews (rw.cellsG_cell s) (by unfold maxLen; omega) hby hB
    have h1' := h1
    unfold rw.App at h1'
    rw [g1] at h1'
    injection h1' with e1 e2
    subst e1 e2
    exact ⟨_, _, h1, h2, h4, g5⟩
theorem step_push {α : Type} (s : rw.Sh α) {ops : Array Oper} {o : Oper} {a : Act} {w : World} {K : Act → World → Prop} {Q : Exit → Act → World → Prop} {E : Prop} (hgd : o.guard = none) (x y : Operand)
    (ho : o.op = .call { callee := .builtin .append, args := #[x, y], argTypes := #[s.st, s.st] }) (hty : o.type = s.st) (B : Nat) (v : Value) (ad : Addr) (c : Nat) (m : List α) (z : α) (hx : a.eval x = v) (hy : a.eval y = .slice (some ad) 1 c)
    (hlen : m.length < 34359738368) (hown : Own s w B v m) (hB : B ≤ w.heap.size) (hu : rw.Sl s w (.slice (some ad) 1 c) [z])
    (h : ∀ ad cp w', Own s w' B (.slice ad (m.length + 1) cp) (m ++ [z]) → w.grownBy w' v.ownBlock → ((Value.slice ad (m.length + 1) cp).ownBlock = v.ownBlock ∨ (Value.slice ad (m.length + 1) cp).ownBlock = some w.heap.size) → K (a.put o.dst (.slice ad (m.length + 1) cp)) w') :
    if Region.wanted o (yielded ops a.tmps) = true then Oper.wp Try.prog o a w K Q else E := by
  have hw : Region.wanted o (yielded ops a.tmps) = true := by simp [Region.wanted, hgd]
  rw [if_pos hw]
  obtain ⟨v', w', hr, h2, h3, h4⟩ := append_at s B v m z ad c hlen w hown hB hu
  unfold rw.App at hr
  unfold Oper.wp execOp
  simp only [ho, hty, resolve, invoke, builtin, Sem.run_bind, Sem.run_pure, Result.andThen_ok, List.map_toArray, List.map_cons, List.map_nil, hx, hy, hr]
  obtain ⟨ad', cp, rfl⟩ := h2.form
  rw [List.length_append] at h2 h4 ⊢
  exact h ad' cp w' (by simpa using h2) h3 h4
/-- Behind a push. -/
def Pushed (w w' : World) (hb : Nat) (l : List Ix) : Prop := ∃ v', Arr w' hb 65 #[v'] ∧ Own hpSh w' (hb + 1) v' l ∧ Below hb w w'
theorem lit_at {α : Type} (s : rw.Sh α) (w : World) (x : α) : rw.Sl s (w.alloc (.cells (s.enc x).toArray s.t)) (.slice (some ⟨w.heap.size, 0, none⟩) 1 1) [x] := by
  have hl := (Own.lit s w [x] (by simp) (by simp)).sl
  rw [rw.cellsG_one] at hl
  exact hl
theorem grown_below {B : Nat} {w w' : World} {o : Option Nat} (h : w.grownBy w' o) (hB : B ≤ w.heap.size) (ho : ∀ k, o = some k → B ≤ k) : Below B w w' :=
  ⟨h.os, h.tape, h.output, h.size, fun k hk => h.block k (by omega) (fun e => by have := ho k e.symm; omega)⟩
set_option maxHeartbeats 4000000 in
set_option maxRecDepth 100000 in
theorem mpush_any (hb : Nat) (v : Value) (l : List Ix) (x : Ix) (hl : l.length ≤ 1000000) (w : World) (h : Hp w w hb v l) :
    Calls Try.prog 77 #[.pointer (some ⟨hb, 0, none⟩), .iface 31 (.agg #[.int .i64 x.node, .int .u64 x.idx])] w fun e w' => e = .returned (.tuple #[]) ∧ Pushed w w' hb (l ++ [x]) := by
  have hta := assert_ok x.node x.idx
  have k1 := below_box w (.cells #[.int .i64 x.node, .int .u64 x.idx] 31)
  have x1 := Arr.new w 31 #[.int .i64 x.node, .int .u64 x.idx]
  have h1 := h.below k1
  have hbl := h.box.lt
  obtain ⟨q, hq⟩ : ∃ q, w.heap.size = q := ⟨_, rfl⟩
  have HX := Lib.hid (And.intro h1 (And.intro k1 x1))
  rw [hq] at HX
  have HW : Hid (Below q w (w.alloc (.cells #[.int .i64 x.node, .int .u64 x.idx] 31))) := by rw [← hq]; exact k1
  clear h h1 k1 x1
  go_enter Try.func77, Try.ntmps77
  go_upto_region 2 with (fail)
  generalize w.alloc (.cells #[.int .i64 x.node, .int .u64 x.idx] 31) = W1 at *
  obtain ⟨xn, xi⟩ := x
  have kd : Below W1.heap.size W1 W1.drew := below_drew (Below.refl _ _)
  have k2 := below_box W1.drew (.cells #[.int .i64 xn, .int .u64 xi] 31)
  have hs1 : hb + 1 ≤ W1.heap.size := HX.out.1.box.lt
  have H2 := (HX.out.1.below kd).below k2
  have o2 := H2.own
  have hlit := lit_at hpSh W1.drew ⟨xn, xi⟩
  have b1 : W1.cell? ⟨hb, 0, none⟩ = some v := HX.out.1.box.cell rfl
  have x0 : W1.cell? ⟨q, 0, none⟩ = some (.int .i64 xn) := HX.out.2.2.cell rfl
  have x1 : W1.cell? ⟨q, 1, none⟩ = some (.int .u64 xi) := HX.out.2.2.cell rfl
  have hf := HX.out.1.box.frozen 0
  have b2 : (W1.alloc (.cells #[.int .i64 xn, .int .u64 xi] 31)).cell? ⟨hb, 0, none⟩ = some v := (HX.out.1.below (below_box W1 _)).box.cell rfl
  have HV : Hid (∀ k, v.ownBlock = some k → hb + 1 ≤ k) := fun k e => (HX.out.1.own.lt k e).1
  have HP := Lib.hid fun ad cp w7 (o : Own hpSh w7 (hb + 1) (.slice ad (l.length + 1) cp) (l ++ [⟨xn, xi⟩])) (gr : ((W1.drew).alloc (.cells #[.int .i64 xn, .int .u64 xi] 31)).grownBy w7 v.ownBlock) => (show w7.cell? ⟨hb, 0, none⟩ = some v ∧ w7.frozen? ⟨hb, 0, none⟩ = false ∧ Pushed w (w7.setCell ⟨hb, 0, none⟩ (.slice ad (l.length + 1) cp)) hb (l ++ [⟨xn, xi⟩]) by
    have hkb := gr.block hb (by simp; omega) (fun e => by have := HV.out hb e.symm; omega)
    have bx := H2.box.of hkb
    have kb : But hb w7 (w7.setCell ⟨hb, 0, none⟩ (.slice ad (l.length + 1) cp)) := (But.refl hb w7).set _ _
    refine ⟨bx.cell rfl, bx.frozen 0, _, bx.set 0 _, own_but o kb (fun e => by have := (o.lt _ e).1; omega), ?_⟩
    have g1 := (HW.out.mono (show hb ≤ q by omega)).trans ((kd.mono (show hb ≤ W1.heap.size by omega)).trans (k2.mono (show hb ≤ W1.drew.heap.size by simp; omega)))
    exact (g1.trans (grown_below gr (by simp; omega) (fun k e => by have := HV.out k e; omega))).trans (kb.below (by have := gr.size; simp at this; omega) (Nat.le_refl _)))
  have hlt : l.length < 34359738368 := by omega
  clear H2 HX HW k2 kd
  go_region_law
    ((refine step_push hpSh rfl (.tmp 15) (.tmp 17) rfl rfl (hb + 1) v ⟨W1.drew.heap.size, 0, none⟩ 1 l ⟨xn, xi⟩ rfl rfl hlt o2 (by simp; omega) hlit ?_
      intro a7 c7 w7 O7 g7 l7
      obtain ⟨z1, z2, z3⟩ := HP.out _ _ _ O7 g7
      have Z3 := Lib.hid z3
      clear z3))
  all_goals go_wp2
  all_goals exact bodyPost_end (results_none rfl _ _ _) rfl ⟨rfl, Z3.out⟩
/-- A heap of what l holds. -/
def Heaped (w w' : World) (hb : Nat) (l : List Ix) : Prop := ∃ v m, Arr w' hb 65 #[v] ∧ Own hpSh w' (hb + 1) v m ∧ Below hb w w' ∧ m.Perm l ∧ Heap m m.length
theorem Mh.to_below {hb B : Nat} {v : Value} {l : List Ix} {w w' : World} (h : Mh hb v.ownBlock w w') (o : Own hpSh w' (hb + 1) v l) (hB : hb ≤ w.heap.size) : Below hb w w' :=
  h.below hB (Nat.le_refl _) fun k e => by have := (o.lt k e).1; omega
set_option maxHeartbeats 4000000 in
set_option maxRecDepth 100000 in
theorem push_any (hb : Nat) (l : List Ix) (x : Ix) (hl : l.length < 1000000) (w0 w : World) (h : Heaped w0 w hb l) :
    Calls Try.prog 43 #[.iface 49 (.pointer (some ⟨hb, 0, none⟩)), .iface 31 (.agg #[.int .i64 x.node, .int .u64 x.idx])] w fun e w' => e = .returned (.tuple #[]) ∧ Heaped w0 w' hb (x :: l) := by
  obtain ⟨v, m, h1, h2, h3, h4, h5⟩ := h
  have hml : m.length < 1000000 := by rw [h4.length_eq]; exact hl
  have hP := mpush_any hb v m x (by omega) w ⟨h1, h2, Mh.refl _ _ _⟩
  have hm1 := m_push ⟨hb, 0, none⟩ w
  obtain ⟨n, hn⟩ : ∃ n, m.length = n := ⟨_, rfl⟩
  have hU := UpI.push h5 x
  rw [hn] at hU hml
  have HU := Lib.hid hU
  have HN := Lib.hid hn
  have H3 := Lib.hid (And.intro h3 h4)
  clear h1 h2 h3 h4 h5 hU hn
  go_enter Try.func43, Try.ntmps43
  go_wp2_with fail
  with_reducible refine hP.mono ?_
  clear hP hm1
  rintro e w2 ⟨rfl, v2, a2, o2, b2⟩
  have hnn : (m ++ [x]).length = n + 1 := by rw [List.length_append, HN.out]; rfl
  obtain ⟨ad, cap, rfl⟩ := o2.form
  have hm2 := m_len a2
  have hL := len_any ad (n + 1) cap w2
  have hu := up_any hb (.slice ad (m ++ [x]).length cap) (m ++ [x]) n (by rw [hnn]; omega) w2 ⟨a2, o2, Mh.refl _ _ _⟩ HU.out
  rw [hnn] at hm2 hu
  have HB := Lib.hid b2
  have hbs : hb ≤ w2.heap.size := Nat.le_of_lt a2.lt
  obtain ⟨N, hN⟩ : ∃ N, n + 1 = N := ⟨_, rfl⟩
  rw [hN] at hm2 hu hL
  have f1 : IntKind.i64.wrap ((N : Int) - 1) = (n : Int) := by
    have : (N : Int) - 1 = (n : Int) := by omega
    rw [this]; exact IntWalk.i64_in _ (by omega)
  clear a2 o2 b2 hnn hN
  go_wp2_with fail
  with_reducible refine hL.mono ?_
  clear hL hm2
  rintro e w3 ⟨rfl, rfl⟩
  go_wp2_with fail
  with_reducible refine hu.mono ?_
  clear hu
  rintro e w4 ⟨rfl, m4, h4, p4, q4⟩
  have HF : Hid (Heaped w0 w4 hb (x :: l)) := by
    refine ⟨_, m4, h4.box, h4.own, H3.out.1.trans (HB.out.trans (h4.b.to_below (B := 0) h4.own hbs)), p4.trans ?_, q4⟩
    exact (List.perm_append_comm (l₁ := m) (l₂ := [x])).trans (H3.out.2.cons x)
  clear h4 p4 q4
  go_wp2_with fail
  exact bodyPost_end (results_none rfl _ _ _) rfl ⟨rfl, HF.out⟩
end Go.Proofs.Ytnodgpbahlaccaa.qm
