/-
  What stands where: the program's Newer, Slice.
-/
import Derived.Test.YtmgmhnohocamfaaGreatTlP2
namespace Go.Proofs.YtmgmhnohocamfaaGreat.tl
set_option linter.unusedVariables false
open Go.RowKit
open pk (S S_size S_data)
open qm (Bs noSh)
open rw (Arr But below_box bnext below_drew below_drewN)

set_option maxHeartbeats 2000000 in
set_option maxRecDepth 100000 in
theorem newer_any (g : Lg) (cv ev : Value) (i t : Nat) (hi : i < 18446744073709551616) (ht : t < 18446744073709551616) (hf : Fit g) (w : World) (h : LV w cv ev g) :
    Calls Tryz.prog 140 #[g.v cv ev, .int .u64 (i : Nat), .int .u64 (t : Nat)] w fun e w' => e = .returned (.bool (g.newer i t)) ∧ Below w.heap.size w w' := by
  have H0 := Lib.hid h.box
  have HL := Lib.hid fun W b => last_any g cv ev hf W (h.later b)
  obtain ⟨la, hla⟩ : ∃ x, g.last = x := ⟨_, rfl⟩
  obtain ⟨lt, hlt⟩ : ∃ x, g.lastT = x := ⟨_, rfl⟩
  rw [hla, hlt] at HL
  have HA : Hid (g.newer i t = (decide (lt < t) || (decide (t = lt) && decide (la ≤ i)))) := by show _ = _; rw [Lg.newer, hla, hlt]
  clear h hla hlt hf
  go_enter Tryz.func140, Tryz.ntmps140
  go_upto_region 1 with (fail)
  generalize w.alloc (.cells #[.int .u64 (g.base : Nat), .int .u64 (g.bt : Nat), cv, ev] 46) = W at *
  obtain ⟨x0, x1, x2, x3⟩ := H0.out.cells
  have hL := HL.out W H0.out.b
  rcases Nat.lt_trichotomy lt t with c | c | c
  · have HA2 : Hid (g.newer i t = true) := by rw [HA.out, decide_eq_true c]; exact rfl
    have q1 : decide (lt < t) = true := decide_eq_true c
    clear HA c
    go_wp2_with fail
    refine hL.mono ?_
    clear hL
    rintro e w2 ⟨rfl, b2⟩
    have B2 := Lib.hid (H0.out.b.trans (b2.mono H0.out.b.size))
    clear b2


    go_wp2_with fail
    go_ret
    rw [HA2.out]
    exact ⟨rfl, B2.out⟩
  · subst c
    obtain ⟨r, hr⟩ : ∃ r, decide (la ≤ i) = r := ⟨_, rfl⟩
    have HA2 : Hid (g.newer i lt = r) := by rw [HA.out, decide_eq_false (Nat.lt_irrefl _), decide_eq_true rfl, hr]; cases r <;> exact rfl
    have q1 : decide (lt < lt) = false := decide_eq_false (Nat.lt_irrefl _)
    have q2 : ((lt : Int) == (lt : Int)) = true := beq_iff_eq.2 rfl
    have HQ : Hid (r = decide (la ≤ i)) := hr.symm
    clear HA q1
    go_wp2_with fail
    refine hL.mono ?_
    clear hL
    rintro e w2 ⟨rfl, b2⟩
    have B2 := Lib.hid (H0.out.b.trans (b2.mono H0.out.b.size))
    clear b2
    cases r with
    | true =>
      clear q2
      go_wp2_with fail
      go_ret
      rw [HA2.out]
      refine ⟨congrArg (fun b => Ending.returned (Value.bool b)) (?_ : (_ : Bool) = _), B2.out⟩
      simp
    | false =>
      clear q2
      go_wp2_with fail
      go_ret
      rw [HA2.out]
      refine ⟨congrArg (fun b => Ending.returned (Value.bool b)) (?_ : (_ : Bool) = _), B2.out⟩
      simp
  · have HA2 : Hid (g.newer i t = false) := by rw [HA.out, decide_eq_false (by omega), decide_eq_false (by omega)]; exact rfl
    have q1 : decide (lt < t) = false := decide_eq_false (by omega)
    have q2 : decide (t = lt) = false := decide_eq_false (by omega)
    have q3 : ((t : Int) == (lt : Int)) = false := beq_eq_false_iff_ne.2 (by omega)
    clear HA c
    go_wp2_with fail
    refine hL.mono ?_
    clear hL
    rintro e w2 ⟨rfl, b2⟩
    have B2 := Lib.hid (H0.out.b.trans (b2.mono H0.out.b.size))
    clear b2


    go_wp2_with fail
    go_ret
    rw [HA2.out]
    exact ⟨rfl, B2.out⟩

/-! ### Cuts of a row of entries -/
theorem sizeE : ∀ w, (sizeOf (Tryz.prog.elem 35)).run Tryz.prog w = .ok 3 w := fun w => by kernel_rfl
theorem undE : Tryz.prog.underlying 35 = some (.slice (Tryz.prog.elem 35)) := by kernel_rfl
/-- What stands from a place on. -/
theorem cut_from (kd : IntKind) {w : World} {v : Value} {l : List EnIn} (h : rw.Sl enSh w v l) (k m : Nat) (hk : k + m = l.length) :
    ∃ a c, (∀ W, (Instr.slice 35 v (some (.int kd (k : Nat))) none none).run Tryz.prog W = .ok (.slice a m c) W) ∧ ∀ W, rw.Sl enSh W v l → rw.Sl enSh W (.slice a m c) (l.drop k) := by
  obtain ⟨a, c, rfl, hc, hr, hn⟩ := h
  have run : ∀ W, (Instr.slice 35 (.slice a l.length c) (some (.int kd (k : Nat))) none none).run Tryz.prog W = .ok (sliced a k l.length c 3) W := fun W => by
    rw [run_slice_l W 35 a l.length c undE kd (k : Int) (by omega) (by omega), sizeE]
    simp [Result.andThen]
  have hm : l.length - k = m := by omega
  have hlen : (l.drop k).length = m := by rw [List.length_drop]; omega
  obtain ⟨a', c', e⟩ : ∃ a' c', sliced a k l.length c 3 = .slice a' m c' := by
    unfold sliced
    rw [hm]
    exact ⟨_, _, rfl⟩
  refine ⟨a', c', fun W => (run W).trans (by rw [e]), fun W hW => ?_⟩
  obtain ⟨a2, c2, e2, h2, h3, h4⟩ := hW
  injection e2 with e21 e22 e23
  subst e21 e23
  rw [← e]
  by_cases hd : l.drop k = []
  · rw [hd] at hlen
    have hkc : k = l.length := by have : ([] : List EnIn).length = 0 := rfl; omega
    rw [hd]
    unfold sliced
    rw [show l.length - k = 0 by omega]
    refine ⟨_, _, rfl, Nat.zero_le _, .inl rfl, fun e0 => ?_⟩
    cases a with
    | none => have := hn rfl; omega
    | some ad => exfalso; revert e0; simp only [Option.map]; split <;> simp
  · have hl0 : l ≠ [] := fun e0 => hd (by rw [e0]; simp)
    have hkl : k < l.length := by
      rcases Nat.lt_or_ge k l.length with h | h
      · exact h
      · exact absurd (List.drop_eq_nil_of_le h) hd
    rcases h3 with h3 | ⟨b, off, rfl, hb, hcl⟩
    · exact absurd h3 hl0
    · have es : sliced (some ⟨b, off, none⟩) k l.length c 3 = .slice (some ⟨b, off + k * 3, none⟩) (l.drop k).length (c - k) := by
        rw [List.length_drop]
        unfold sliced
        have : c ≠ k := by omega
        simp [this, Addr.add]
      rw [es]
      refine ⟨_, _, rfl, by rw [List.length_drop]; omega, .inr ⟨b, off + k * 3, rfl, hb, fun j hj i hi => ?_⟩, fun e0 => by cases e0⟩
      rw [List.length_drop] at hj
      have := hcl (k + j) (by omega) i hi
      rw [List.getElem_drop, ← this]
      congr 2
      show off + k * 3 + j * 3 + i = off + (k + j) * 3 + i
      omega
/-- What stands up to a place. -/
theorem cut_upto (kd : IntKind) {w : World} {v : Value} {l : List EnIn} (h : rw.Sl enSh w v l) (k : Nat) (hk : k ≤ l.length) :
    ∃ a c, (∀ W, (Instr.slice 35 v none (some (.int kd (k : Nat))) none).run Tryz.prog W = .ok (.slice a k c) W) ∧ ∀ W, rw.Sl enSh W v l → rw.Sl enSh W (.slice a k c) (l.take k) := by
  obtain ⟨a, c, rfl, hc, hr, hn⟩ := h
  have hlen : (l.take k).length = k := by rw [List.length_take]; omega
  have run : ∀ W, (Instr.slice 35 (.slice a l.length c) none (some (.int kd (k : Nat))) none).run Tryz.prog W = .ok (sliced a 0 k c 3) W := fun W => by
    rw [run_slice_h W 35 a l.length c undE kd (k : Int) (by omega) (by omega), sizeE]
    simp [Result.andThen]
  have e : sliced a 0 k c 3 = .slice a k c := by
    unfold sliced
    cases a with
    | none => simp
    | some ad => simp [Addr.add]
  refine ⟨a, c, fun W => (run W).trans (by rw [e]), fun W hW => ?_⟩
  obtain ⟨a2, c2, e2, h2, h3, h4⟩ := hW
  injection e2 with e21 e22 e23
  subst e21 e23
  refine ⟨a, c, by rw [hlen], by omega, ?_, h4⟩
  rcases h3 with h3 | ⟨b, off, rfl, hb, hcl⟩
  · exact .inl (by rw [h3]; simp)
  · refine .inr ⟨b, off, rfl, hb, fun j hj i hi => ?_⟩
    rw [hlen] at hj
    rw [hcl j (by omega) i hi, List.getElem_take]
end Go.Proofs.YtmgmhnohocamfaaGreat.tl
