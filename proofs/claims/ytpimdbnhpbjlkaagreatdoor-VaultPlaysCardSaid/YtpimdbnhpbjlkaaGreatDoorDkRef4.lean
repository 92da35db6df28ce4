/-
  The reference's disk as it lies; what its Off, spend, Fuse, Read, Sync, Count, New answer.
-/
import Derived.Test.YtpimdbnhpbjlkaaGreatDoorDkRef3
namespace Go.Proofs.YtpimdbnhpbjlkaaGreatDoor.dk
set_option linter.unusedVariables false
open Go.RowKit
open fl (S S_size S_append S_inj str_eq str_ne)
open rw (Arr But Row Own bnext below_box below_drew below_drewN addr_add)

/-- How large a disk may be, for the contracts. -/
structure Fit (d : Dk) : Prop where
  n : d.seen.length ≤ 100000 ∧ d.lasts.length ≤ 100000 ∧ d.pend.length ≤ 100000
  s : ∀ c ∈ d.pend, c.s.length ≤ 140737488355328
  l : d.fused = true → -9000000000000000000 ≤ d.left ∧ d.left ≤ 9223372036854775807
def diskCells (d : Dk) (sv lv pv : Value) : Array Value := #[.int .i64 (d.cap : Nat), sv, lv, pv, .bool d.fused, .int .i64 d.left]
/-- Block xb is the reference's disk. -/
structure RefD (w : World) (xb : Nat) (d : Dk) : Prop where
  a : ∃ sv lv pv, Arr w xb 42 (diskCells d sv lv pv) ∧ SlF w sv d.seen ∧ SlF w lv d.lasts ∧ SlC w pv d.pend ∧ rw.Off xb sv d.seen ∧ rw.Off xb lv d.lasts ∧ rw.Off xb pv d.pend
theorem RefD.lt {w : World} {xb : Nat} {d : Dk} (h : RefD w xb d) : xb < w.heap.size := by obtain ⟨_, _, _, ha, _⟩ := h.a; exact ha.lt
theorem RefD.below {w w' : World} {xb : Nat} {d : Dk} (h : RefD w xb d) (k : Below w.heap.size w w') : RefD w' xb d := by
  obtain ⟨sv, lv, pv, ha, h1, h2, h3, h4⟩ := h.a
  exact ⟨sv, lv, pv, ha.below k, h1.later _ k, h2.later _ k, h3.later _ k, h4⟩
theorem RefD.but {w w' : World} {xb q : Nat} {d : Dk} (h : RefD w xb d) (k : But q w w') (hq : xb ≠ q) (hs : ∀ sv lv pv, Arr w xb 42 (diskCells d sv lv pv) → rw.Off q sv d.seen ∧ rw.Off q lv d.lasts ∧ rw.Off q pv d.pend) : RefD w' xb d := by
  obtain ⟨sv, lv, pv, ha, h1, h2, h3, h4⟩ := h.a
  obtain ⟨o1, o2, o3⟩ := hs sv lv pv ha
  exact ⟨sv, lv, pv, k.arr ha hq, h1.but _ k o1, h2.but _ k o2, h3.but _ k o3, h4⟩
/-- A store into the disk's own block. -/
theorem RefD.store {w : World} {xb : Nat} {d d' : Dk} {sv lv pv sv' lv' pv' : Value} (ha : Arr w xb 42 (diskCells d sv lv pv)) (j : Nat) (u : Value)
    (he : (diskCells d sv lv pv).setIfInBounds j u = diskCells d' sv' lv' pv') (h1 : SlF w sv' d'.seen) (h2 : SlF w lv' d'.lasts) (h3 : SlC w pv' d'.pend) (o1 : rw.Off xb sv' d'.seen) (o2 : rw.Off xb lv' d'.lasts) (o3 : rw.Off xb pv' d'.pend) :
    RefD (w.setCell ⟨xb, j, none⟩ u) xb d' := by
  have hB : But xb w (w.setCell ⟨xb, j, none⟩ u) := (But.refl xb w).set j u
  refine ⟨sv', lv', pv', ?_, h1.but _ hB o1, h2.but _ hB o2, h3.but _ hB o3, o1, o2, o3⟩
  rw [← he]
  exact ha.set j u
theorem RefD.cells {w : World} {xb : Nat} {d : Dk} {sv lv pv : Value} (ha : Arr w xb 42 (diskCells d sv lv pv)) :
    w.cell? ⟨xb, 0, none⟩ = some (.int .i64 (d.cap : Nat)) ∧ w.cell? ⟨xb, 1, none⟩ = some sv ∧ w.cell? ⟨xb, 2, none⟩ = some lv ∧ w.cell? ⟨xb, 3, none⟩ = some pv ∧ w.cell? ⟨xb, 4, none⟩ = some (.bool d.fused) ∧ w.cell? ⟨xb, 5, none⟩ = some (.int .i64 d.left) :=
  ⟨ha.cell rfl, ha.cell rfl, ha.cell rfl, ha.cell rfl, ha.cell rfl, ha.cell rfl⟩

set_option maxRecDepth 100000 in
theorem refoff_any (xb : Nat) (d : Dk) (w : World) (h : RefD w xb d) :
    Calls Tryz.prog 15 #[.pointer (some ⟨xb, 0, none⟩)] w fun e w' => e = .returned (.bool (off d)) ∧ w' = w := by
  obtain ⟨sv, lv, pv, ha, _⟩ := h.a
  obtain ⟨c0, c1, c2, c3, c4, c5⟩ := RefD.cells ha
  unfold off
  clear ha h
  cases hf : d.fused with
  | false =>
    rw [hf] at c4
    clear hf
    go_enter Tryz.func15, Tryz.ntmps15
    go_wp2
    go_ret
    exact ⟨rfl, rfl⟩
  | true =>
    rw [hf] at c4
    clear hf
    generalize d.left = x at *
    go_enter Tryz.func15, Tryz.ntmps15
    go_wp2
    go_ret
    exact ⟨rfl, rfl⟩

set_option maxRecDepth 100000 in
theorem refspend_any (xb : Nat) (d : Dk) (hl0 : d.fused = true → -9000000000000000000 ≤ d.left ∧ d.left ≤ 9223372036854775807) (w : World) (h : RefD w xb d) :
    Calls Tryz.prog 64 #[.pointer (some ⟨xb, 0, none⟩)] w fun e w' => e = .returned (.tuple #[]) ∧ RefD w' xb (spend d) ∧ But xb w w' := by
  obtain ⟨sv, lv, pv, ha, h1, h2, h3, o1, o2, o3⟩ := h.a
  obtain ⟨c0, c1, c2, c3, c4, c5⟩ := RefD.cells ha
  have f5 := ha.frozen 5
  unfold spend
  by_cases hf : d.fused = true
  · have hl := hl0 hf
    clear hl0
    rw [if_pos hf]
    have HR : Hid (RefD (w.setCell ⟨xb, 5, none⟩ (.int .i64 (d.left - 1))) xb { d with left := d.left - 1 } ∧ But xb w (w.setCell ⟨xb, 5, none⟩ (.int .i64 (d.left - 1)))) :=
      ⟨RefD.store ha 5 _ rfl h1 h2 h3 o1 o2 o3, (But.refl _ _).set 5 _⟩
    have hw : IntKind.i64.wrap (d.left - 1) = d.left - 1 := IntWalk.i64_in _ (by omega)
    rw [hf] at c4
    clear hf ha h h1 h2 h3
    go_enter Tryz.func64, Tryz.ntmps64
    go_wp2
    exact bodyPost_end (results_none rfl _ _ _) rfl ⟨rfl, HR.out.1, HR.out.2⟩
  · clear hl0
    rw [if_neg hf]
    have hff : d.fused = false := by simpa using hf
    have HR := Lib.hid h
    rw [hff] at c4
    clear hf hff ha h h1 h2 h3
    go_enter Tryz.func64, Tryz.ntmps64
    go_wp2
    exact bodyPost_end (results_none rfl _ _ _) rfl ⟨rfl, HR.out, But.refl _ _⟩

set_option maxRecDepth 100000 in
theorem reffuse_any (xb : Nat) (d : Dk) (n : Int) (w : World) (h : RefD w xb d) :
    Calls Tryz.prog 34 #[.pointer (some ⟨xb, 0, none⟩), .int .i64 n] w fun e w' => e = .returned (.tuple #[]) ∧ RefD w' xb (fuse d n) ∧ But xb w w' := by
  obtain ⟨sv, lv, pv, ha, h1, h2, h3, o1, o2, o3⟩ := h.a
  obtain ⟨c0, c1, c2, c3, c4, c5⟩ := RefD.cells ha
  have f4 := ha.frozen 4
  have f5 := ha.frozen 5
  have hB : But xb w (w.setCell ⟨xb, 4, none⟩ (.bool (decide (0 ≤ n)))) := (But.refl _ _).set 4 _
  have ha1 : Arr (w.setCell ⟨xb, 4, none⟩ (.bool (decide (0 ≤ n)))) xb 42 (diskCells { d with fused := decide (0 ≤ n) } sv lv pv) := ha.set 4 _
  have HR : Hid (RefD ((w.setCell ⟨xb, 4, none⟩ (.bool (decide (0 ≤ n)))).setCell ⟨xb, 5, none⟩ (.int .i64 n)) xb (fuse d n) ∧ But xb w ((w.setCell ⟨xb, 4, none⟩ (.bool (decide (0 ≤ n)))).setCell ⟨xb, 5, none⟩ (.int .i64 n))) :=
    ⟨RefD.store ha1 5 _ rfl (h1.but _ hB o1) (h2.but _ hB o2) (h3.but _ hB o3) o1 o2 o3, hB.set 5 _⟩
  clear ha ha1 h h1 h2 h3 hB
  go_enter Tryz.func34, Tryz.ntmps34
  go_wp2
  exact bodyPost_end (results_none rfl _ _ _) rfl ⟨rfl, HR.out.1, HR.out.2⟩

set_option maxRecDepth 100000 in
theorem refread_any (xb : Nat) (d : Dk) (n : Bs) (hf : Fit d) (w : World) (h : RefD w xb d) :
    Calls Tryz.prog 46 #[.pointer (some ⟨xb, 0, none⟩), .string (S n)] w fun e w' => e = .returned (.tuple #[.string (S (read d n).1), .int .i64 ((read d n).2 : Nat)]) ∧ w' = w := by
  have hO := refoff_any xb d w h
  obtain ⟨sv, lv, pv, ha, h1, h2, h3, o1, o2, o3⟩ := h.a
  obtain ⟨c0, c1, c2, c3, c4, c5⟩ := RefD.cells ha
  obtain ⟨a, cap, rfl, _, hr, _⟩ := h1
  have hG := refget_any a cap d.seen n (by have := hf.n.1; omega) w hr
  unfold read
  cases ho : off d with
  | true =>
    rw [ho] at hO
    clear ho hG hr ha h h2 h3
    go_enter Tryz.func46, Tryz.ntmps46
    go_wp2_with fail
    refine hO.mono ?_
    rintro e w1 ⟨rfl, rfl⟩
    clear hO
    go_wp2_with fail
    go_ret2
    exact ⟨rfl, rfl⟩
  | false =>
    rw [ho] at hO
    generalize get d.seen n = g at *
    generalize d.seen.length = ln at *
    clear ho hr ha h h2 h3
    go_enter Tryz.func46, Tryz.ntmps46
    go_wp2_with fail
    refine hO.mono ?_
    rintro e w1 ⟨rfl, rfl⟩
    clear hO
    cases g with
    | none =>
      simp only [Option.getD_none, Option.isSome_none] at hG
      go_wp2_with fail
      refine hG.mono ?_
      rintro e w1 ⟨rfl, rfl⟩
      clear hG
      go_wp2_with fail
      go_ret2
      exact ⟨rfl, rfl⟩
    | some s =>
      simp only [Option.getD_some, Option.isSome_some] at hG
      go_wp2_with fail
      refine hG.mono ?_
      rintro e w1 ⟨rfl, rfl⟩
      clear hG
      go_wp2_with fail
      go_ret2
      exact ⟨rfl, rfl⟩

set_option maxHeartbeats 1000000 in
set_option maxRecDepth 100000 in
theorem refsync_any (xb : Nat) (d : Dk) (hf : Fit d) (w : World) (h : RefD w xb d) :
    Calls Tryz.prog 48 #[.pointer (some ⟨xb, 0, none⟩)] w fun e w' => e = .returned (.int .i64 ((sync d).1 : Nat)) ∧ RefD w' xb (sync d).2 ∧ But xb w w' := by
  have hO := refoff_any xb d w h
  unfold sync
  cases ho : off d with
  | true =>
    rw [ho] at hO
    have HR := Lib.hid h
    clear ho h
    go_enter Tryz.func48, Tryz.ntmps48
    go_wp2_with fail
    refine hO.mono ?_
    rintro e w1 ⟨rfl, rfl⟩
    clear hO
    go_wp2_with fail
    go_ret
    exact ⟨rfl, HR.out, But.refl _ _⟩
  | false =>
    rw [ho] at hO
    obtain ⟨sv, lv, pv, ha, h1, h2, h3, o1, o2, o3⟩ := h.a
    obtain ⟨c0, c1, c2, c3, c4, c5⟩ := RefD.cells ha
    have f2 := ha.frozen 2
    have f3 := ha.frozen 3
    have hB : But xb w (w.setCell ⟨xb, 2, none⟩ sv) := (But.refl _ _).set 2 _
    have ha1 : Arr (w.setCell ⟨xb, 2, none⟩ sv) xb 42 (diskCells { d with lasts := d.seen } sv sv pv) := ha.set 2 _
    have hR2 : RefD ((w.setCell ⟨xb, 2, none⟩ sv).setCell ⟨xb, 3, none⟩ (.slice none 0 0)) xb { d with lasts := d.seen, pend := [] } :=
      RefD.store ha1 3 _ rfl (h1.but _ hB o1) (h1.but _ hB o1) (rw.Sl.nil _ _) o1 o1 (fun hh => absurd rfl hh)
    have HB2 : Hid (But xb w ((w.setCell ⟨xb, 2, none⟩ sv).setCell ⟨xb, 3, none⟩ (.slice none 0 0))) := hB.set 3 _
    have hS := refspend_any xb { d with lasts := d.seen, pend := [] } hf.l _ hR2
    obtain ⟨sa, sn, sc, rfl⟩ : ∃ a n c, sv = .slice a n c := by obtain ⟨a, c, e, _⟩ := h1; exact ⟨a, _, c, e⟩
    obtain ⟨la, ln, lc, rfl⟩ : ∃ a n c, lv = .slice a n c := by obtain ⟨a, c, e, _⟩ := h2; exact ⟨a, _, c, e⟩
    obtain ⟨pa, pn, pc, rfl⟩ : ∃ a n c, pv = .slice a n c := by obtain ⟨a, c, e, _⟩ := h3; exact ⟨a, _, c, e⟩
    clear ho ha ha1 h h1 h2 h3 hB hR2
    go_enter Tryz.func48, Tryz.ntmps48
    go_wp2_with fail
    refine hO.mono ?_
    rintro e w1 ⟨rfl, rfl⟩
    clear hO
    go_wp2_with fail
    refine hS.mono ?_
    rintro e w2 ⟨rfl, r2, b2⟩
    have HR := Lib.hid (And.intro r2 (HB2.out.trans b2))
    clear hS r2 b2 HB2
    go_wp2_with fail
    go_ret
    exact ⟨rfl, HR.out.1, HR.out.2⟩
end Go.Proofs.YtpimdbnhpbjlkaaGreatDoor.dk
