/-
  What the reference's Turn answers.
-/
import Derived.Test.YtpimdbnhpbjlkaaGreatDoorDkRef5
import Derived.Deep.RegionLaw
namespace Go.Proofs.YtpimdbnhpbjlkaaGreatDoor.dk
set_option linter.unusedVariables false
open Go.RowKit
open fl (S S_size S_append S_inj str_eq str_ne)
open rw (Arr But Row Own bnext below_box below_drew below_drewN addr_add)

/-- What Turn owes. -/
def TurnP (xb : Nat) (w : World) (a : Nat × Dk) (e : Ending) (w' : World) : Prop := e = .returned (.int .i64 (a.1 : Nat)) ∧ RefD w' xb a.2 ∧ But xb w w'
/-- The box of the call. -/
abbrev boxed (w : World) (c : Call) : World := w.alloc (.cells #[.int .i64 (c.kind : Nat), .string (S c.name), .string (S c.s)] 70)
set_option maxRecDepth 100000 in
theorem turn_name (xb : Nat) (d : Dk) (c : Call) (w : World) (h : RefD w xb d) (hA : c.name.length < 1 ∨ 80 < c.name.length) :
    Calls Tryz.prog 32 #[.pointer (some ⟨xb, 0, none⟩), callV c] w (TurnP xb w (1, d)) := by
  have b0 := below_box w (.cells #[.int .i64 (c.kind : Nat), .string (S c.name), .string (S c.s)] 70)
  have HR : Hid (RefD (boxed w c) xb d ∧ But xb w (boxed w c)) := ⟨h.below b0, But.of_below b0⟩
  have hz := S_size c.name
  unfold callV
  obtain ⟨n, hn⟩ : ∃ n, c.name.length = n := ⟨_, rfl⟩
  rw [hn] at hA hz
  clear h b0 hn
  by_cases h1 : n < 1
  · have hi : (n : Int) < 1 := by omega
    go_enter Tryz.func32, Tryz.ntmps32
    go_wp2
    go_ret
    exact ⟨rfl, HR.out.1, HR.out.2⟩
  · have hi : ¬ (n : Int) < 1 := by omega
    have hi2 : (n : Int) > 80 := by omega
    clear hA h1
    go_enter Tryz.func32, Tryz.ntmps32
    go_wp2
    go_ret
    exact ⟨rfl, HR.out.1, HR.out.2⟩
set_option maxRecDepth 100000 in
theorem turn_off (xb : Nat) (d : Dk) (c : Call) (w : World) (h : RefD w xb d) (hA : ¬ (c.name.length < 1 ∨ 80 < c.name.length)) (ho : off d = true) :
    Calls Tryz.prog 32 #[.pointer (some ⟨xb, 0, none⟩), callV c] w (TurnP xb w (8, d)) := by
  have b0 := below_box w (.cells #[.int .i64 (c.kind : Nat), .string (S c.name), .string (S c.s)] 70)
  have HR : Hid (RefD (boxed w c) xb d ∧ But xb w (boxed w c)) := ⟨h.below b0, But.of_below b0⟩
  have hO := refoff_any xb d _ HR.out.1
  rw [ho] at hO
  have hz := S_size c.name
  unfold callV
  obtain ⟨n, hn⟩ : ∃ n, c.name.length = n := ⟨_, rfl⟩
  rw [hn] at hA hz
  have hi : ¬ (n : Int) < 1 := by omega
  have hi2 : ¬ (n : Int) > 80 := by omega
  clear h b0 hn ho hA
  go_enter Tryz.func32, Tryz.ntmps32
  go_wp2_with fail
  refine hO.mono ?_
  rintro e w1 ⟨rfl, rfl⟩
  clear hO
  go_wp2_with fail
  go_ret
  exact ⟨rfl, HR.out.1, HR.out.2⟩
theorem S_empty_no {l : List UInt8} (h : 0 < l.length) : (S l).toList.isEmpty = false := by
  rw [← decide_eq_emptyBytes]
  exact decide_eq_false (fun e => by
    have := congrArg ByteArray.size e
    rw [S_size] at this
    simp at this
    rw [this] at h
    simp at h)
/-- At a step of a region that draws: an append to a row of one's own. -/
theorem step_grow {α : Type} (s : rw.Sh α) {ops : Array Oper} {o : Oper} {a : Act} {w : World} {K : Act → World → Prop} {Q : Exit → Act → World → Prop} {E : Prop} (hgd : o.guard = none) (x y : Operand)
    (ho : o.op = .call { callee := .builtin .append, args := #[x, y], argTypes := #[s.st, s.st] }) (hty : o.type = s.st) (B : Nat) (v u : Value) (m l : List α) (hx : a.eval x = v) (hy : a.eval y = u)
    (hlen : m.length + l.length ≤ 34359738368) (hown : Own s w B v m) (hB : B ≤ w.heap.size) (hu : rw.Sl s w u l) (h : ∀ ad cp w', Own s w' B (.slice ad (m ++ l).length cp) (m ++ l) → Below B w w' → w.grownBy w' v.ownBlock → K (a.put o.dst (.slice ad (m ++ l).length cp)) w') :
    if Region.wanted o (yielded ops a.tmps) = true then Oper.wp Tryz.prog o a w K Q else E := by
  have hw : Region.wanted o (yielded ops a.tmps) = true := by simp [Region.wanted, hgd]
  rw [if_pos hw]
  obtain ⟨v', w', hr, h2, h3, h4⟩ := rw.append_own s B v m l u hlen w hown hB hu
  unfold rw.App at hr
  unfold Oper.wp execOp
  simp only [ho, hty, resolve, invoke, builtin, Sem.run_bind, Sem.run_pure, Result.andThen_ok, List.map_toArray, List.map_cons, List.map_nil, hx, hy, hr]
  obtain ⟨ad, cp, rfl⟩ := h2.form
  exact h ad cp w' h2 h3 h4
theorem bb {B : Nat} {w w' : World} (h : Below B w w') (o : Obj) (hB : B ≤ w'.heap.size) : Below B w (w'.alloc o) := h.trans ((below_box w' o).mono hB)
abbrev callObj (c : Call) : Obj := .cells #[.int .i64 (c.kind : Nat), .string (S c.name), .string (S c.s)] 70
abbrev noObj : Obj := .cells #[] 70
theorem alloc_size (w : World) (o : Obj) : (w.alloc o).heap.size = w.heap.size + 1 := by simp
theorem made (w : World) (B : Nat) (hB : B ≤ w.heap.size) : Own callSh (w.alloc noObj) B (.slice (some ⟨w.heap.size, 0, none⟩) 0 0) [] :=
  World.ownsRow_made (base := B) (e := callSh.t) (size := callSh.k) w #[] 0 hB (by unfold maxLen; omega) (by simp)
theorem lit (w : World) (c : Call) : SlC (w.alloc (callObj c)) (.slice (some ⟨w.heap.size, 0, none⟩) 1 1) [c] := (Own.lit callSh w [c] (by simp) (by simp)).sl
theorem lit_grown {w w' : World} {c : Call} {b : Nat} {r : Option Nat} (h : SlC w (.slice (some ⟨b, 0, none⟩) 1 1) [c]) (hg : w.grownBy w' r) (hr : r ≠ some b) (hs : w.heap.size ≤ w'.heap.size) : SlC w' (.slice (some ⟨b, 0, none⟩) 1 1) [c] := by
  obtain ⟨a, cp, e, hc, hrow, hn⟩ := h
  cases e
  refine ⟨_, _, rfl, hc, hrow.keep _ hs fun b' off e hb => ?_, hn⟩
  cases e
  exact hg.block _ hb (fun e => hr e.symm)
set_option maxHeartbeats 4000000 in
set_option maxRecDepth 100000 in
theorem turn_drop (xb : Nat) (d : Dk) (name s : Bs) (hf : Fit d) (w : World) (h : RefD w xb d) (hA : ¬ (name.length < 1 ∨ 80 < name.length)) (ho : off d = false) (hg : get d.seen name = none) :
    Calls Tryz.prog 32 #[.pointer (some ⟨xb, 0, none⟩), callV ⟨3, name, s⟩] w (TurnP xb w (6, d)) := by
  have b0 := below_box w (.cells #[.int .i64 ((3 : Nat) : Int), .string (S name), .string (S s)] 70)
  have HR : Hid (RefD (boxed w ⟨3, name, s⟩) xb d ∧ But xb w (boxed w ⟨3, name, s⟩) ∧ Below w.heap.size w (boxed w ⟨3, name, s⟩)) := ⟨h.below b0, But.of_below b0, b0⟩
  have HA := Lib.hid (Arr.new w 70 #[.int .i64 ((3 : Nat) : Int), .string (S name), .string (S s)])
  have hO := refoff_any xb d _ HR.out.1
  rw [ho] at hO
  obtain ⟨sv, lv, pv, ha, h1, _, _, o1, _, _⟩ := HR.out.1.a
  obtain ⟨c0, c1, c2, c3, c4, c5⟩ := RefD.cells ha
  obtain ⟨a, cap, rfl, hcap, hr, hnil⟩ := h1
  have HG := Lib.hid (fun W h => refget_any a cap d.seen name (by have := hf.n.1; omega) W h)
  rw [hg] at HG
  simp only [Option.getD_none, Option.isSome_none] at HG
  have HSV : Hid (SlF (boxed w ⟨3, name, s⟩) (.slice a d.seen.length cap) d.seen ∧ rw.Off xb (.slice a d.seen.length cap) d.seen ∧ Row fileSh (boxed w ⟨3, name, s⟩) a d.seen) := ⟨⟨a, cap, rfl, hcap, hr, hnil⟩, o1, hr⟩
  have hz := S_size name
  unfold callV
  unfold boxed at *
  obtain ⟨n, hn⟩ : ∃ n, name.length = n := ⟨_, rfl⟩
  rw [hn] at hA hz
  have hi : ¬ (n : Int) < 1 := by omega
  have hi2 : ¬ (n : Int) > 80 := by omega
  clear h b0 hn ho hA ha hr o1 hcap hnil c0 c2 c3 c4 c5
  go_enter Tryz.func32, Tryz.ntmps32
  go_wp2_with fail
  refine hO.mono ?_
  rintro e w1 ⟨rfl, rfl⟩
  clear hO
  go_upto_region 5 with (fail)
  generalize w.alloc (.cells #[.int .i64 3, .string (S name), .string (S s)] 70) = W0 at *
  have e1 : W0.drew.cell? ⟨xb, 1, none⟩ = some (.slice a d.seen.length cap) := c1
  have d1 : W0.drew.cell? ⟨w.heap.size, 1, none⟩ = some (.string (S name)) := HA.out.cell rfl
  have hG := HG.out W0.drew (HSV.out.2.2.keep _ (Nat.le_refl _) (fun _ _ _ _ => rfl))
  clear HG c1
  go_region_held3 (fun W => W.cell? ⟨xb, 1, none⟩ = some (.slice a d.seen.length cap) ∧ W.cell? ⟨w.heap.size, 1, none⟩ = some (.string (S name))) (first | (with_reducible exact ⟨e1, d1⟩) | go_keep)
    ((go_at_call 61; refine hG.mono ?_; rintro e w2 ⟨rfl, rfl⟩))
  have HA1 := Lib.hid (HA.out.below (below_drew (Below.refl _ _)))
  have HR1 : Hid (RefD W0.drew xb d ∧ But xb w W0.drew ∧ Below w.heap.size w W0.drew) := ⟨HR.out.1.below (below_drew (Below.refl _ _)), HR.out.2.1.drew, below_drew HR.out.2.2⟩
  have HS1 : Hid (SlF W0.drew (.slice a d.seen.length cap) d.seen ∧ rw.Off xb (.slice a d.seen.length cap) d.seen) := ⟨HSV.out.1.later _ (below_drew (Below.refl _ _)), HSV.out.2.1⟩
  have d0 : W0.drew.cell? ⟨w.heap.size, 0, none⟩ = some (.int .i64 3) := HA.out.cell rfl
  have d2 : W0.drew.cell? ⟨w.heap.size, 2, none⟩ = some (.string (S s)) := HA.out.cell rfl
  clear HR HSV HA hG
  generalize W0.drew = W1 at *
  go_wp2_with fail
  go_ret
  exact ⟨rfl, HR1.out.1, HR1.out.2.1⟩
set_option maxHeartbeats 4000000 in
set_option maxRecDepth 100000 in
theorem turn_empty (xb : Nat) (d : Dk) (name s : Bs) (hf : Fit d) (w : World) (h : RefD w xb d) (hA : ¬ (name.length < 1 ∨ 80 < name.length)) (ho : off d = false)  :
    Calls Tryz.prog 32 #[.pointer (some ⟨xb, 0, none⟩), callV ⟨1, name, []⟩] w (TurnP xb w (0, d)) := by
  have b0 := below_box w (.cells #[.int .i64 ((1 : Nat) : Int), .string (S name), .string (S [])] 70)
  have HR : Hid (RefD (boxed w ⟨1, name, []⟩) xb d ∧ But xb w (boxed w ⟨1, name, []⟩) ∧ Below w.heap.size w (boxed w ⟨1, name, []⟩)) := ⟨h.below b0, But.of_below b0, b0⟩
  have HA := Lib.hid (Arr.new w 70 #[.int .i64 ((1 : Nat) : Int), .string (S name), .string (S [])])
  have hO := refoff_any xb d _ HR.out.1
  rw [ho] at hO
  obtain ⟨sv, lv, pv, ha, h1, _, _, o1, _, _⟩ := HR.out.1.a
  obtain ⟨c0, c1, c2, c3, c4, c5⟩ := RefD.cells ha
  obtain ⟨a, cap, rfl, hcap, hr, hnil⟩ := h1
  have HG := Lib.hid (fun W h => refget_any a cap d.seen name (by have := hf.n.1; omega) W h)
  obtain ⟨gg, hgg⟩ : ∃ g, (get d.seen name).getD [] = g := ⟨_, rfl⟩
  obtain ⟨gs, hgs⟩ : ∃ g, (get d.seen name).isSome = g := ⟨_, rfl⟩
  rw [hgg, hgs] at HG
  clear hgg hgs
  have HSV : Hid (SlF (boxed w ⟨1, name, []⟩) (.slice a d.seen.length cap) d.seen ∧ rw.Off xb (.slice a d.seen.length cap) d.seen ∧ Row fileSh (boxed w ⟨1, name, []⟩) a d.seen) := ⟨⟨a, cap, rfl, hcap, hr, hnil⟩, o1, hr⟩
  have hz := S_size name
  unfold callV
  unfold boxed at *
  obtain ⟨n, hn⟩ : ∃ n, name.length = n := ⟨_, rfl⟩
  rw [hn] at hA hz
  have hi : ¬ (n : Int) < 1 := by omega
  have hi2 : ¬ (n : Int) > 80 := by omega
  clear h b0 hn ho hA ha hr o1 hcap hnil c0 c2 c3 c4 c5
  go_enter Tryz.func32, Tryz.ntmps32
  go_wp2_with fail
  refine hO.mono ?_
  rintro e w1 ⟨rfl, rfl⟩
  clear hO
  go_upto_region 5 with (fail)
  generalize w.alloc (.cells #[.int .i64 1, .string (S name), .string (S [])] 70) = W0 at *
  have e1 : W0.drew.cell? ⟨xb, 1, none⟩ = some (.slice a d.seen.length cap) := c1
  have d1 : W0.drew.cell? ⟨w.heap.size, 1, none⟩ = some (.string (S name)) := HA.out.cell rfl
  have hG := HG.out W0.drew (HSV.out.2.2.keep _ (Nat.le_refl _) (fun _ _ _ _ => rfl))
  clear HG c1
  go_region_held3 (fun W => W.cell? ⟨xb, 1, none⟩ = some (.slice a d.seen.length cap) ∧ W.cell? ⟨w.heap.size, 1, none⟩ = some (.string (S name))) (first | (with_reducible exact ⟨e1, d1⟩) | go_keep)
    ((go_at_call 61; refine hG.mono ?_; rintro e w2 ⟨rfl, rfl⟩))
  have HA1 := Lib.hid (HA.out.below (below_drew (Below.refl _ _)))
  have HR1 : Hid (RefD W0.drew xb d ∧ But xb w W0.drew ∧ Below w.heap.size w W0.drew) := ⟨HR.out.1.below (below_drew (Below.refl _ _)), HR.out.2.1.drew, below_drew HR.out.2.2⟩
  have HS1 : Hid (SlF W0.drew (.slice a d.seen.length cap) d.seen ∧ rw.Off xb (.slice a d.seen.length cap) d.seen) := ⟨HSV.out.1.later _ (below_drew (Below.refl _ _)), HSV.out.2.1⟩
  have d0 : W0.drew.cell? ⟨w.heap.size, 0, none⟩ = some (.int .i64 1) := HA.out.cell rfl
  have d2 : W0.drew.cell? ⟨w.heap.size, 2, none⟩ = some (.string (S [])) := HA.out.cell rfl
  clear HR HSV HA hG
  generalize W0.drew = W1 at *
  have hemp : (S ([] : Bs)).toList.isEmpty = true := by rw [← decide_eq_emptyBytes]; exact decide_eq_true rfl
  go_wp2_with fail
  go_ret
  exact ⟨rfl, HR1.out.1, HR1.out.2.1⟩
set_option maxHeartbeats 4000000 in
set_option maxRecDepth 100000 in
theorem turn_1 (xb : Nat) (d : Dk) (name s : Bs) (hf : Fit d) (w : World) (h : RefD w xb d) (hA : ¬ (name.length < 1 ∨ 80 < name.length)) (ho : off d = false) (hne : 0 < s.length) (hsl : s.length ≤ 140737488355328) (hgl : ((get d.seen name).getD []).length ≤ 140737488355328) (hu : used (after d.seen ⟨1, name, s⟩) ≤ 4611686018427387904) :
    Calls Tryz.prog 32 #[.pointer (some ⟨xb, 0, none⟩), callV ⟨1, name, s⟩] w (TurnP xb w (if d.cap < used (after d.seen ⟨1, name, s⟩) then (7, d) else (0, spend { d with seen := after d.seen ⟨1, name, s⟩, pend := d.pend ++ [⟨1, name, s⟩] }))) := by
  have HD0 := Lib.hid (fun v W h => refdone_any v d.seen ⟨1, name, s⟩ (steps ⟨1, name, s⟩) (by have := hf.n.1; omega) (Nat.le_refl _) hgl hsl W h)
  have hst0 := Lib.hid (fun W => refsteps_any ⟨1, name, s⟩ W)
  replace hu := Lib.hid hu
  have HXB : Hid (xb < w.heap.size) := h.lt
  clear hsl hgl
  generalize hP : (if d.cap < used (after d.seen ⟨1, name, s⟩) then (7, d) else (0, spend { d with seen := after d.seen ⟨1, name, s⟩, pend := d.pend ++ [⟨1, name, s⟩] })) = P
  replace hP := Lib.hid hP
  have hemp := S_empty_no hne
  clear hne
  have b0 := below_box w (.cells #[.int .i64 ((1 : Nat) : Int), .string (S name), .string (S s)] 70)
  have HR : Hid (RefD (boxed w ⟨1, name, s⟩) xb d ∧ But xb w (boxed w ⟨1, name, s⟩) ∧ Below w.heap.size w (boxed w ⟨1, name, s⟩)) := ⟨h.below b0, But.of_below b0, b0⟩
  have HA := Lib.hid (Arr.new w 70 #[.int .i64 ((1 : Nat) : Int), .string (S name), .string (S s)])
  have hO := refoff_any xb d _ HR.out.1
  rw [ho] at hO
  obtain ⟨sv, lv, pv, ha, h1, _, _, o1, _, _⟩ := HR.out.1.a
  obtain ⟨c0, c1, c2, c3, c4, c5⟩ := RefD.cells ha
  obtain ⟨a, cap, rfl, hcap, hr, hnil⟩ := h1
  have HG := Lib.hid (fun W h => refget_any a cap d.seen name (by have := hf.n.1; omega) W h)
  obtain ⟨gg, hgg⟩ : ∃ g, (get d.seen name).getD [] = g := ⟨_, rfl⟩
  obtain ⟨gs, hgs⟩ : ∃ g, (get d.seen name).isSome = g := ⟨_, rfl⟩
  rw [hgg, hgs] at HG
  clear hgg hgs
  have HSV : Hid (SlF (boxed w ⟨1, name, s⟩) (.slice a d.seen.length cap) d.seen ∧ rw.Off xb (.slice a d.seen.length cap) d.seen ∧ Row fileSh (boxed w ⟨1, name, s⟩) a d.seen) := ⟨⟨a, cap, rfl, hcap, hr, hnil⟩, o1, hr⟩
  have hz := S_size name
  unfold callV
  unfold boxed at *
  obtain ⟨n, hn⟩ : ∃ n, name.length = n := ⟨_, rfl⟩
  rw [hn] at hA hz
  have hi : ¬ (n : Int) < 1 := by omega
  have hi2 : ¬ (n : Int) > 80 := by omega
  clear h b0 hn ho hA ha hr o1 hcap hnil c0 c2 c3 c4 c5
  go_enter Tryz.func32, Tryz.ntmps32
  go_wp2_with fail
  refine hO.mono ?_
  rintro e w1 ⟨rfl, rfl⟩
  clear hO
  go_upto_region 5 with (fail)
  generalize w.alloc (.cells #[.int .i64 1, .string (S name), .string (S s)] 70) = W0 at *
  have e1 : W0.drew.cell? ⟨xb, 1, none⟩ = some (.slice a d.seen.length cap) := c1
  have d1 : W0.drew.cell? ⟨w.heap.size, 1, none⟩ = some (.string (S name)) := HA.out.cell rfl
  have hG := HG.out W0.drew (HSV.out.2.2.keep _ (Nat.le_refl _) (fun _ _ _ _ => rfl))
  clear HG c1
  go_region_held3 (fun W => W.cell? ⟨xb, 1, none⟩ = some (.slice a d.seen.length cap) ∧ W.cell? ⟨w.heap.size, 1, none⟩ = some (.string (S name))) (first | (with_reducible exact ⟨e1, d1⟩) | go_keep)
    ((go_at_call 61; refine hG.mono ?_; rintro e w2 ⟨rfl, rfl⟩))
  have HA1 := Lib.hid (HA.out.below (below_drew (Below.refl _ _)))
  have HR1 : Hid (RefD W0.drew xb d ∧ But xb w W0.drew ∧ Below w.heap.size w W0.drew) := ⟨HR.out.1.below (below_drew (Below.refl _ _)), HR.out.2.1.drew, below_drew HR.out.2.2⟩
  have HS1 : Hid (SlF W0.drew (.slice a d.seen.length cap) d.seen ∧ rw.Off xb (.slice a d.seen.length cap) d.seen) := ⟨HSV.out.1.later _ (below_drew (Below.refl _ _)), HSV.out.2.1⟩
  have d0 : W0.drew.cell? ⟨w.heap.size, 0, none⟩ = some (.int .i64 1) := HA.out.cell rfl
  have d2 : W0.drew.cell? ⟨w.heap.size, 2, none⟩ = some (.string (S s)) := HA.out.cell rfl
  clear HR HSV HA hG
  generalize W0.drew = W1 at *
  obtain ⟨L, hL⟩ : ∃ L, done d.seen ⟨1, name, s⟩ (steps ⟨1, name, s⟩) = L := ⟨_, rfl⟩
  rw [hL] at HD0
  have HAf : Hid (after d.seen ⟨1, name, s⟩ = L) := hL
  have HLn : Hid (L.length ≤ d.seen.length + 1) := hL ▸ done_le _ _ _
  replace hL := Lib.hid hL
  obtain ⟨sx, hsx⟩ : ∃ x, steps ⟨1, name, s⟩ = x := ⟨_, rfl⟩
  rw [hsx] at HD0 hst0
  clear hsx
  go_upto_region 10 with (fail)
  have e1' : W1.drew.cell? ⟨xb, 1, none⟩ = some (.slice a d.seen.length cap) := e1
  have d0' : W1.drew.cell? ⟨w.heap.size, 0, none⟩ = some (.int .i64 1) := d0
  have d1' : W1.drew.cell? ⟨w.heap.size, 1, none⟩ = some (.string (S name)) := d1
  have d2' : W1.drew.cell? ⟨w.heap.size, 2, none⟩ = some (.string (S s)) := d2
  have hx : xb < W1.drew.heap.size := HR1.out.1.lt
  have hb : w.heap.size < W1.drew.heap.size := HA1.out.lt
  have hst := hst0.out W1.drew
  have hS1 : SlF W1.drew (.slice a d.seen.length cap) d.seen := HS1.out.1.later _ (below_drew (Below.refl _ _))
  unfold callV at hst HD0
  clear hst0 e1 d0 d1 d2
  go_region_held3 (fun W => W.cell? ⟨xb, 1, none⟩ = some (.slice a d.seen.length cap) ∧ W.cell? ⟨w.heap.size, 0, none⟩ = some (.int .i64 1) ∧ W.cell? ⟨w.heap.size, 1, none⟩ = some (.string (S name)) ∧ W.cell? ⟨w.heap.size, 2, none⟩ = some (.string (S s)))
    (first | (with_reducible exact ⟨e1', d0', d1', d2'⟩) | exact ⟨(b2.cell (p := ⟨xb, 1, none⟩) hx).trans e1', (b2.cell (p := ⟨w.heap.size, 0, none⟩) hb).trans d0', (b2.cell (p := ⟨w.heap.size, 1, none⟩) hb).trans d1', (b2.cell (p := ⟨w.heap.size, 2, none⟩) hb).trans d2'⟩ | exact ⟨(b3.cell (p := ⟨xb, 1, none⟩) (Nat.lt_of_lt_of_le hx b2.size)).trans ((b2.cell (p := ⟨xb, 1, none⟩) hx).trans e1'), (b3.cell (p := ⟨w.heap.size, 0, none⟩) (Nat.lt_of_lt_of_le hb b2.size)).trans ((b2.cell (p := ⟨w.heap.size, 0, none⟩) hb).trans d0'), (b3.cell (p := ⟨w.heap.size, 1, none⟩) (Nat.lt_of_lt_of_le hb b2.size)).trans ((b2.cell (p := ⟨w.heap.size, 1, none⟩) hb).trans d1'), (b3.cell (p := ⟨w.heap.size, 2, none⟩) (Nat.lt_of_lt_of_le hb b2.size)).trans ((b2.cell (p := ⟨w.heap.size, 2, none⟩) hb).trans d2')⟩ | go_keep)
    ((first
      | (go_at_call 37; refine hst.mono ?_; rintro e w2 ⟨rfl, b2⟩)
      | (go_at_call 62; refine (HD0.out _ _ (hS1.later _ b2)).mono ?_; rintro e w3 ⟨⟨u, rfl, hu3, ho3⟩, b3⟩)))
  have B3 : Below W1.drew.heap.size W1.drew w3 := b2.trans (b3.mono b2.size)
  have hO3 : rw.Off xb u L := by
    rcases ho3 with rfl | o
    · intro hne
      refine HS1.out.2 fun h0 => hne ?_
      obtain ⟨a8, c8, e8, _⟩ := hu3
      have hl7 : (d.seen.length : Nat) = L.length := by injection e8
      exact List.eq_nil_of_length_eq_zero (by rw [← hl7, h0]; rfl)
    · exact o.off _ (Nat.lt_of_lt_of_le hx b2.size)
  have HL : Hid (RefD w3 xb d ∧ But xb w w3 ∧ SlF w3 u L ∧ rw.Off xb u L ∧ Arr w3 w.heap.size 70 #[.int .i64 ((1 : Nat) : Int), .string (S name), .string (S s)]) :=
    ⟨(HR1.out.1.below (below_drew (Below.refl _ _))).below B3, HR1.out.2.1.drew.then_below B3, hu3, hO3, (HA1.out.below (below_drew (Below.refl _ _))).below B3⟩
  clear B3 hO3 hu3 ho3 b2 b3 hS1 hst hx hb e1' d0' d1' d2' HA1 HR1 HS1 HD0
  obtain ⟨ua, uc, rfl, _⟩ := id HL.out.2.2.1
  go_upto_region 13 with (fail)
  obtain ⟨sv3, lv3, pv3, ha3, _, s2, s3, _, o2, o3⟩ := HL.out.1.a
  have e0 : w3.drew.cell? ⟨xb, 0, none⟩ = some (.int .i64 (d.cap : Nat)) := ha3.cell rfl
  have hU := refused_any (.slice ua L.length uc) L (by have := hf.n.1; have := HLn.out; omega) (HAf.out ▸ hu.out) w3.drew (HL.out.2.2.1.later _ (below_drew (Below.refl _ _)))
  go_region_held3 (fun W => W.cell? ⟨xb, 0, none⟩ = some (.int .i64 (d.cap : Nat))) (first | (with_reducible exact e0) | go_keep)
    ((go_at_call 11; refine hU.mono ?_; rintro e w4 ⟨rfl, rfl⟩))
  clear hU e0
  by_cases hc : d.cap < used L
  · have hci : ((used L : Nat) : Int) > (d.cap : Int) := by omega
    have HP : Hid (P = (7, d)) := by
      show P = _
      rw [← hP.out, HAf.out, if_pos hc]
    have HE : Hid (RefD w3.drew xb d ∧ But xb w w3.drew) := ⟨HL.out.1.below (below_drew (Below.refl _ _)), HL.out.2.1.drew⟩
    clear hc ha3 HL
    generalize used L = ul at *
    generalize w3.drew = W4 at *
    go_wp2_with fail
    go_ret
    rw [HP.out]
    exact ⟨rfl, HE.out.1, HE.out.2⟩
  have hci : ¬ ((used L : Nat) : Int) > (d.cap : Int) := by omega
  have HP : Hid (P = (0, spend { d with seen := L, pend := d.pend ++ [⟨1, name, s⟩] })) := by
    show P = _
    rw [← hP.out, HAf.out, if_neg hc]
  have G4 : Hid (Arr w3.drew xb 42 (diskCells d sv3 lv3 pv3) ∧ SlF w3.drew (.slice ua L.length uc) L ∧ rw.Off xb (.slice ua L.length uc) L ∧ SlF w3.drew lv3 d.lasts ∧ rw.Off xb lv3 d.lasts ∧ SlC w3.drew pv3 d.pend ∧ rw.Off xb pv3 d.pend ∧ But xb w w3.drew ∧ Arr w3.drew w.heap.size 70 #[.int .i64 ((1 : Nat) : Int), .string (S name), .string (S s)]) :=
    have r := below_drew (Below.refl w3.heap.size w3)
    ⟨ha3.below r, HL.out.2.2.1.later _ r, HL.out.2.2.2.1, s2.later _ r, o2, s3.later _ r, o3, HL.out.2.1.drew, HL.out.2.2.2.2.below r⟩
  clear ha3 s2 s3 o2 o3 HL hc hP HAf hL HLn
  generalize used L = ul at *
  generalize w3.drew = W4 at *
  have q1 : W4.cell? ⟨xb, 1, none⟩ = some sv3 := G4.out.1.cell rfl
  have f1 := G4.out.1.frozen 1
  go_upto_region 16 with (fail)
  obtain ⟨W5, hW5⟩ : ∃ W, W4.setCell ⟨xb, 1, none⟩ (.slice ua L.length uc) = W := ⟨_, rfl⟩
  rw [hW5]
  obtain ⟨pa, pc, rfl, hpc, hpr, hpn⟩ := G4.out.2.2.2.2.2.1
  have G5 : Hid (Arr W5 xb 42 (diskCells { d with seen := L } (.slice ua L.length uc) lv3 (.slice pa d.pend.length pc)) ∧ SlF W5 (.slice ua L.length uc) L ∧ rw.Off xb (.slice ua L.length uc) L ∧ SlF W5 lv3 d.lasts ∧ rw.Off xb lv3 d.lasts ∧ SlC W5 (.slice pa d.pend.length pc) d.pend ∧ But xb w W5 ∧ Arr W5 w.heap.size 70 #[.int .i64 ((1 : Nat) : Int), .string (S name), .string (S s)]) := by
    rw [← hW5]
    have k := (But.refl xb W4).set 1 (.slice ua L.length uc)
    exact ⟨G4.out.1.set 1 _, G4.out.2.1.but _ k G4.out.2.2.1, G4.out.2.2.1, G4.out.2.2.2.1.but _ k G4.out.2.2.2.2.1, G4.out.2.2.2.2.1, G4.out.2.2.2.2.2.1.but _ k G4.out.2.2.2.2.2.2.1, G4.out.2.2.2.2.2.2.2.1.set 1 _, k.arr G4.out.2.2.2.2.2.2.2.2 (Nat.ne_of_gt HXB.out)⟩
  clear hW5 G4 q1 f1 hpc hpr hpn
  have HS : Hid (∀ W, Below W5.drew.heap.size W5.drew W → W.cell? ⟨xb, 3, none⟩ = some (.slice pa d.pend.length pc) ∧ W.frozen? ⟨xb, 3, none⟩ = false ∧ W.cell? ⟨w.heap.size, 0, none⟩ = some (.int .i64 1) ∧ W.cell? ⟨w.heap.size, 1, none⟩ = some (.string (S name)) ∧ W.cell? ⟨w.heap.size, 2, none⟩ = some (.string (S s))) := fun W hb => by
    have a1 := (G5.out.1.below (below_drew (Below.refl _ _))).below hb
    have a2 := (G5.out.2.2.2.2.2.2.2.below (below_drew (Below.refl _ _))).below hb
    exact ⟨a1.cell rfl, a1.frozen 3, a2.cell rfl, a2.cell rfl, a2.cell rfl⟩
  have HPd : Hid (∀ W, Below W5.drew.heap.size W5.drew W → SlC W (.slice pa d.pend.length pc) d.pend) := fun W hb => (G5.out.2.2.2.2.2.1.later _ (below_drew (Below.refl _ _))).later _ hb
  have hpl : d.pend.length + 1 ≤ 34359738368 := by have := hf.n; omega
  obtain ⟨c, hcc⟩ : ∃ c : Call, c = ⟨1, name, s⟩ := ⟨_, rfl⟩
  have hbE : Hid (Below W5.drew.heap.size W5.drew (W5.drew.alloc noObj)) := below_box _ _
  have hbC : Hid (Below W5.drew.heap.size W5.drew (W5.drew.alloc (callObj ⟨1, name, s⟩))) := below_box _ _
  have hbEC : Hid (Below W5.drew.heap.size W5.drew ((W5.drew.alloc noObj).alloc (callObj ⟨1, name, s⟩))) := bb hbE.out _ hbE.out.size
  have hbCE : Hid (Below W5.drew.heap.size W5.drew ((W5.drew.alloc (callObj ⟨1, name, s⟩)).alloc noObj)) := bb hbC.out _ hbC.out.size
  have oE : Hid (Own callSh (W5.drew.alloc noObj) W5.drew.heap.size (.slice (some ⟨W5.drew.heap.size, 0, none⟩) 0 0) []) := made _ _ (Nat.le_refl _)
  have oEC : Hid (Own callSh ((W5.drew.alloc noObj).alloc (callObj ⟨1, name, s⟩)) W5.drew.heap.size (.slice (some ⟨W5.drew.heap.size, 0, none⟩) 0 0) []) := oE.out.below _ (below_box _ _)
  have oCE : Hid (Own callSh ((W5.drew.alloc (callObj ⟨1, name, s⟩)).alloc noObj) W5.drew.heap.size (.slice (some ⟨W5.drew.heap.size + 1, 0, none⟩) 0 0) []) := by
    have := made (W5.drew.alloc (callObj ⟨1, name, s⟩)) W5.drew.heap.size hbC.out.size
    rwa [alloc_size] at this
  have lEC : Hid (SlC ((W5.drew.alloc noObj).alloc (callObj ⟨1, name, s⟩)) (.slice (some ⟨W5.drew.heap.size + 1, 0, none⟩) 1 1) [⟨1, name, s⟩]) := by
    have := lit (W5.drew.alloc noObj) ⟨1, name, s⟩
    rwa [alloc_size] at this
  have lCE : Hid (SlC ((W5.drew.alloc (callObj ⟨1, name, s⟩)).alloc noObj) (.slice (some ⟨W5.drew.heap.size, 0, none⟩) 1 1) [⟨1, name, s⟩]) := (lit W5.drew ⟨1, name, s⟩).later _ (below_box _ _)
  clear hcc c
  have y0 : W5.drew.cell? ⟨xb, 3, none⟩ = some (.slice pa d.pend.length pc) := (HS.out _ (Below.refl _ _)).1
  have yE : (W5.alloc (.cells #[] 70)).drew.cell? ⟨xb, 3, none⟩ = some (.slice pa d.pend.length pc) := (HS.out _ hbE.out).1
  have yC : (W5.alloc (.cells #[.int .i64 1, .string (S name), .string (S s)] 70)).drew.cell? ⟨xb, 3, none⟩ = some (.slice pa d.pend.length pc) := (HS.out _ hbC.out).1
  have yEC : ((W5.alloc (.cells #[] 70)).alloc (.cells #[.int .i64 1, .string (S name), .string (S s)] 70)).drew.cell? ⟨xb, 3, none⟩ = some (.slice pa d.pend.length pc) := (HS.out _ hbEC.out).1
  have yCE : ((W5.alloc (.cells #[.int .i64 1, .string (S name), .string (S s)] 70)).alloc (.cells #[] 70)).drew.cell? ⟨xb, 3, none⟩ = some (.slice pa d.pend.length pc) := (HS.out _ hbCE.out).1
  have x00 : W5.drew.cell? ⟨w.heap.size, 0, none⟩ = some (.int .i64 1) := (HS.out _ (Below.refl _ _)).2.2.1
  have x0E : (W5.alloc (.cells #[] 70)).drew.cell? ⟨w.heap.size, 0, none⟩ = some (.int .i64 1) := (HS.out _ hbE.out).2.2.1
  have x10 : W5.drew.cell? ⟨w.heap.size, 1, none⟩ = some (.string (S name)) := (HS.out _ (Below.refl _ _)).2.2.2.1
  have x1E : (W5.alloc (.cells #[] 70)).drew.cell? ⟨w.heap.size, 1, none⟩ = some (.string (S name)) := (HS.out _ hbE.out).2.2.2.1
  have x20 : W5.drew.cell? ⟨w.heap.size, 2, none⟩ = some (.string (S s)) := (HS.out _ (Below.refl _ _)).2.2.2.2
  have x2E : (W5.alloc (.cells #[] 70)).drew.cell? ⟨w.heap.size, 2, none⟩ = some (.string (S s)) := (HS.out _ hbE.out).2.2.2.2
  go_region_law
    ((first
      | (refine step_grow callSh rfl _ _ rfl rfl W5.drew.heap.size _ (.slice pa d.pend.length pc) [] d.pend rfl rfl (by show 0 + _ ≤ _; omega) (by first | exact oE.out | exact oEC.out | exact oCE.out) (by first | exact hbE.out.size | exact hbEC.out.size | exact hbCE.out.size) (by first | exact HPd.out _ hbE.out | exact HPd.out _ hbEC.out | exact HPd.out _ hbCE.out) ?_
         intro a7 c7 w7 O7 b7 g7
         have B7 : Below W5.drew.heap.size W5.drew w7 := by first | exact hbE.out.trans b7 | exact hbEC.out.trans b7 | exact hbCE.out.trans b7
         have x07 : w7.cell? ⟨w.heap.size, 0, none⟩ = some (.int .i64 1) := (HS.out _ B7).2.2.1
         have x17 : w7.cell? ⟨w.heap.size, 1, none⟩ = some (.string (S name)) := (HS.out _ B7).2.2.2.1
         have x27 : w7.cell? ⟨w.heap.size, 2, none⟩ = some (.string (S s)) := (HS.out _ B7).2.2.2.2)
      | (refine step_grow callSh rfl _ _ rfl rfl W5.drew.heap.size _ _ ([] ++ d.pend) [⟨1, name, s⟩] rfl rfl (by show (List.length d.pend) + 1 ≤ _; omega) (by first | exact O7 | exact O7.below _ (below_box _ _)) (by first | exact B7.size | exact (bb B7 _ B7.size).size) (by first | exact lit _ _ | exact lit_grown (r := some W5.drew.heap.size) lEC.out g7 (by simp) g7.size | exact lit_grown (r := some (W5.drew.heap.size + 1)) lCE.out g7 (by simp) g7.size) ?_
         intro a8 c8 w8 O8 b8 g8
         have B8 : Below W5.drew.heap.size W5.drew w8 := by first | exact B7.trans b8 | exact (bb B7 _ B7.size).trans b8
         have z1 : w8.cell? ⟨xb, 3, none⟩ = some (.slice pa d.pend.length pc) := (HS.out _ B8).1
         have z2 : w8.frozen? ⟨xb, 3, none⟩ = false := (HS.out _ B8).2.1)))
  all_goals (
    have X9 : Hid (RefD (w8.setCell ⟨xb, 3, none⟩ (.slice a8 (d.pend.length + 1) c8)) xb { d with seen := L, pend := d.pend ++ [⟨1, name, s⟩] } ∧ But xb w (w8.setCell ⟨xb, 3, none⟩ (.slice a8 (d.pend.length + 1) c8))) := by
      have h9 := O8.sl
      have f9 := O8.off _ (show xb < W5.drew.heap.size from G5.out.1.lt)
      rw [List.nil_append, List.length_append] at h9 f9
      have r := (below_drew (Below.refl W5.heap.size W5)).trans B8
      exact ⟨RefD.store (G5.out.1.below r) 3 _ rfl (G5.out.2.1.later _ r) (G5.out.2.2.2.1.later _ r) h9 G5.out.2.2.1 G5.out.2.2.2.2.1 f9, (G5.out.2.2.2.2.2.2.1.then_below r).set 3 _⟩
    have hS9 := refspend_any xb { d with seen := L, pend := d.pend ++ [⟨1, name, s⟩] } hf.l _ X9.out.1
    clear z1 z2 O8 b8 g8 B8 O7 b7 g7 B7 y0 yE yC yEC yCE x00 x0E x10 x1E x20 x2E x07 x17 x27 HS HPd hbE hbC hbEC hbCE oE oEC oCE lEC lCE G5
    go_wp2_with fail
    refine hS9.mono ?_
    rintro e w9 ⟨rfl, r9, b9⟩
    have Y9 := Lib.hid (And.intro r9 (X9.out.2.trans b9))
    clear hS9 X9 r9 b9
    go_wp2_with fail
    go_ret
    rw [HP.out]
    exact ⟨rfl, Y9.out.1, Y9.out.2⟩)
end Go.Proofs.YtpimdbnhpbjlkaaGreatDoor.dk
