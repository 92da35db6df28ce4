/-
  What the reference's Used, Steps, Done, Same answer.
-/
import Derived.Test.YtpimdbnhpbjlkaaGreatDoorDkRef2
import Derived.Deep.RegionHeld3
import Derived.BigRegion
namespace Go.Proofs.YtpimdbnhpbjlkaaGreatDoor.dk
set_option linter.unusedVariables false
open Go.RowKit
open fl (S S_size S_append S_inj str_eq str_ne)
open rw (Arr But Row Own bnext below_box below_drew below_drewN addr_add)

theorem used_take (l : List File) (k : Nat) (h : k < l.length) : used (l.take (k + 1)) = used (l.take k) + l[k].2.length := by
  unfold used
  rw [List.take_succ_eq_append_getElem h, List.map_append, List.sum_append]
  simp
theorem used_take_le (l : List File) (k : Nat) : used (l.take k) ≤ used l := by
  have : used l = used (l.take k) + used (l.drop k) := by
    unfold used
    rw [← List.sum_append, ← List.map_append, List.take_append_drop]
  omega

set_option maxHeartbeats 1000000 in
set_option maxRecDepth 100000 in
theorem refused_any (v : Value) (l : List File) (hl : l.length ≤ 140737488355328) (hu : used l ≤ 4611686018427387904) (w : World) (hs : SlF w v l) :
    Calls Tryz.prog 11 #[v] w fun e w' => e = .returned (.int .i64 (used l : Nat)) ∧ w' = w := by
  obtain ⟨a, cap, rfl, _, hr, _⟩ := hs
  go_enter Tryz.func11, Tryz.ntmps11
  go_wp2
  go_loopw [3, 4] (fun n i wr => ∃ k : Nat, i = .int .i64 k ∧ k ≤ l.length ∧ (∃ u : Nat, n = .int .i64 u ∧ Hid (u = used (l.take k)) ∧ u ≤ 4611686018427387904) ∧ wr = w)
    (fun _ i _ => l.length - (intOf i).toNat)
  case atStart => exact ⟨0, rfl, Nat.zero_le _, ⟨0, rfl, by show 0 = used (l.take 0); simp [used], by omega⟩, by first | rfl | trivial⟩
  case round =>
    obtain ⟨k, rfl, hk, ⟨u, rfl, HU, hb⟩, rfl⟩ := hrel
    by_cases hlt : k < l.length
    · obtain ⟨b, off, rfl, hb2, c0, c1⟩ := slF_at hr hlt
      have hki : (k : Int) < (l.length : Int) := by omega
      have hz := S_size (l[k]'hlt).2
      have HN : Hid (u + (l[k]'hlt).2.length = used (l.take (k + 1))) := by
        show _ = _
        rw [used_take l k hlt, HU.out]
      have hle : u + (l[k]'hlt).2.length ≤ 4611686018427387904 := by
        rw [HN.out]
        have := used_take_le l (k + 1)
        omega
      clear HU hr
      generalize l[k]'hlt = x at *
      go_wp2
      go_roundw
      case rel => exact ⟨k + 1, by go_num, by omega, ⟨u + x.2.length, by go_num, HN, hle⟩, by first | rfl | trivial⟩
      case measure => simp [intOf]; omega
    · obtain rfl : k = l.length := by omega
      rw [List.take_length] at HU
      clear hr
      go_wp2
      go_ret
      exact ⟨by rw [← HU.out]; rfl, by first | rfl | trivial⟩

def callV (c : Call) : Value := .agg #[.int .i64 (c.kind : Nat), .string (S c.name), .string (S c.s)]
set_option maxRecDepth 100000 in
theorem refsteps_any (c : Call) (w : World) :
    Calls Tryz.prog 37 #[callV c] w fun e w' => e = .returned (.int .i64 (steps c : Nat)) ∧ Below w.heap.size w w' := by
  unfold callV steps
  by_cases h : c.kind = 1
  · have hq : ((c.kind : Int) == 1) = true := by rw [h]; rfl
    rw [if_pos h]
    have hz := S_size c.s
    clear h
    go_enter Tryz.func37, Tryz.ntmps37
    go_wp2
    go_ret
    exact ⟨rfl, below_box w _⟩
  · have hq : ((c.kind : Int) == 1) = false := by rw [beq_eq_false_iff_ne]; omega
    rw [if_neg h]
    clear h
    go_enter Tryz.func37, Tryz.ntmps37
    go_wp2
    go_ret
    exact ⟨rfl, below_box w _⟩

/-- What Done owes: the slice that came in, or a new row. -/
def DoneP (w : World) (v : Value) (l : List File) (e : Ending) (w' : World) : Prop := (∃ u, e = .returned u ∧ SlF w' u l ∧ (u = v ∨ Own fileSh w' w.heap.size u l)) ∧ Below w.heap.size w w'

set_option maxHeartbeats 4000000 in
set_option maxRecDepth 100000 in
theorem refdone_any (v : Value) (l : List File) (c : Call) (n : Nat) (hl : l.length ≤ 1000000) (hn : n ≤ steps c) (hg : ((get l c.name).getD []).length ≤ 140737488355328) (hc : c.s.length ≤ 140737488355328) (w : World) (hs : SlF w v l) :
    Calls Tryz.prog 62 #[v, callV c, .int .i64 (n : Nat)] w (DoneP w v (done l c n)) := by
  have b0 := below_box w (.cells #[.int .i64 (c.kind : Nat), .string (S c.name), .string (S c.s)] 70)
  have A0 := Arr.new w 70 #[.int .i64 (c.kind : Nat), .string (S c.name), .string (S c.s)]
  have HS := Lib.hid (hs.later _ b0)
  have HB := Lib.hid b0
  obtain ⟨a, cap, rfl, _, hr, _⟩ := id hs
  have hr0 := hr.keep _ b0.size (fun b _ _ h => b0.block b h)
  obtain ⟨kind, name, s⟩ := c
  unfold callV DoneP
  simp only at *
  by_cases h0 : n < 1
  · have hi : (n : Int) < 1 := by omega
    have e : done l ⟨kind, name, s⟩ n = l := by unfold done; rw [if_pos h0]
    rw [e]
    clear e h0 A0 hr0 hr hn hg hc
    obtain ⟨ln, hln⟩ : ∃ ln, l.length = ln := ⟨_, rfl⟩
    rw [hln] at HS hs ⊢
    clear hs
    go_enter Tryz.func62, Tryz.ntmps62
    go_wp2
    go_ret
    exact ⟨⟨_, rfl, HS.out, .inl rfl⟩, HB.out⟩
  have hi : ¬ (n : Int) < 1 := by omega
  by_cases h1 : kind = 1
  · subst h1
    have e : done l ⟨1, name, s⟩ n = put l (name, (get l name).getD [] ++ s.take n) := by unfold done; rw [if_neg h0]; simp
    rw [e]
    have hns : n ≤ s.length := by unfold steps at hn; simpa using hn
    have hG := refget_any a cap l name (by omega) _ hr0
    have hz := S_size s
    have hsl := fun (W : World) => run_slice_string_h (P := Tryz.prog) (w := W) (t := 9) (s := S s) Tryz.underlying9 .i64 (n : Int) (by omega) (by rw [hz]; omega)
    rw [show (S s).extract 0 (Int.toNat (n : Int)) = S (s.take n) by
      rw [Int.toNat_natCast]
      apply ByteArray.ext
      apply Array.toList_inj.1
      rw [Lib.extract_data, fl.S_data, fl.S_data]
      simp] at hsl
    obtain ⟨g, hgg⟩ : ∃ g, (get l name).getD [] = g := ⟨_, rfl⟩
    obtain ⟨gs, hgs⟩ : ∃ gs, (get l name).isSome = gs := ⟨_, rfl⟩
    rw [hgg] at hg hG ⊢
    rw [hgs] at hG
    have hadd := fun (W : World) => run_string_add_sum (P := Tryz.prog) W (S g) (S (s.take n)) (by rw [S_size, S_size, List.length_take]; omega)
    rw [S_append] at hadd
    have HW := Lib.hid (fun W h => refwith_any (.slice a l.length cap) l name (g ++ s.take n) hl W h)
    have HA := Lib.hid A0
    generalize g ++ s.take n = t at *
    generalize s.take n = st at *
    have hx1 : ((1 : Nat) : Int) = 1 := rfl
    clear e h0 A0 hr0 hr hs hgg hgs hn hns hg hc hl
    generalize l.length = ln at *
    go_enter Tryz.func62, Tryz.ntmps62
    go_wp2_with fail
    refine hG.mono ?_
    rintro e w1 ⟨rfl, rfl⟩
    clear hG
    go_upto_region 6 with (fail)
    generalize w.alloc (.cells #[.int .i64 1, .string (S name), .string (S s)] 70) = W0 at *
    have d1 : W0.drew.cell? ⟨w.heap.size, 1, none⟩ = some (.string (S name)) := HA.out.cell rfl
    have d2 : W0.drew.cell? ⟨w.heap.size, 2, none⟩ = some (.string (S s)) := HA.out.cell rfl
    have hcl := HW.out W0.drew (HS.out.later _ (below_drew (Below.refl _ _)))
    have hlt := HA.out.lt
    clear HW HS
    go_region_held3 (fun W => W.cell? ⟨w.heap.size, 1, none⟩ = some (.string (S name)) ∧ W.cell? ⟨w.heap.size, 2, none⟩ = some (.string (S s))) (first | (with_reducible exact ⟨d1, d2⟩) | exact ⟨(b2.cell (p := ⟨w.heap.size, 1, none⟩) hlt).trans d1, (b2.cell (p := ⟨w.heap.size, 2, none⟩) hlt).trans d2⟩ | go_keep)
      ((go_at_call 63; refine hcl.mono ?_; rintro e w2 ⟨⟨u, rfl, ho⟩, b2⟩))
    have HO := Lib.hid ho
    have HB2 := Lib.hid (bnext (below_drew HB.out) b2)
    have HL : Hid (w.heap.size ≤ W0.drew.heap.size) := HB.out.size
    clear ho b2 hcl d1 d2
    go_wp2_with fail
    go_ret
    exact ⟨⟨_, rfl, HO.out.sl, .inr (own_lower HO.out HL.out)⟩, HB2.out⟩
  have hk1 : ((kind : Int) == 1) = false := by rw [beq_eq_false_iff_ne]; omega
  by_cases h2 : kind = 2
  · subst h2
    have e : done l ⟨2, name, s⟩ n = put l (name, s) := by unfold done; rw [if_neg h0]; simp
    rw [e]
    have HW := refwith_any (.slice a l.length cap) l name s hl _ HS.out
    have HL : Hid (w.heap.size ≤ (w.alloc (.cells #[.int .i64 ((2 : Nat) : Int), .string (S name), .string (S s)] 70)).heap.size) := HB.out.size
    have hx1 : ((2 : Nat) : Int) = 2 := rfl
    rw [hx1] at HW HB HL
    clear e h0 A0 hr0 hr hs hn hg hc hl HS h1 hk1
    generalize l.length = ln at *
    go_enter Tryz.func62, Tryz.ntmps62
    go_wp2_with fail
    refine HW.mono ?_
    rintro e w2 ⟨⟨u, rfl, ho⟩, b2⟩
    have HO := Lib.hid ho
    have HB2 := Lib.hid (bnext HB.out b2)
    clear ho b2 HW
    go_wp2_with fail
    go_ret
    exact ⟨⟨_, rfl, HO.out.sl, .inr (own_lower HO.out HL.out)⟩, HB2.out⟩
  · have hk2 : ((kind : Int) == 2) = false := by rw [beq_eq_false_iff_ne]; omega
    have e : done l ⟨kind, name, s⟩ n = without l name := by unfold done; rw [if_neg h0, if_neg h1, if_neg h2]
    rw [e]
    have HW := refwithout_any (.slice a l.length cap) l name hl _ HS.out
    have HL : Hid (w.heap.size ≤ (w.alloc (.cells #[.int .i64 (kind : Int), .string (S name), .string (S s)] 70)).heap.size) := HB.out.size
    clear e h0 A0 hr0 hr hs hn hg hc hl HS h1 h2
    generalize l.length = ln at *
    go_enter Tryz.func62, Tryz.ntmps62
    go_wp2_with fail
    refine HW.mono ?_
    rintro e w2 ⟨⟨u, rfl, ho⟩, b2⟩
    have HO := Lib.hid ho
    have HB2 := Lib.hid (bnext HB.out b2)
    clear ho b2 HW
    go_wp2_with fail
    go_ret
    exact ⟨⟨_, rfl, HO.out.sl, .inr (own_lower HO.out HL.out)⟩, HB2.out⟩

end Go.Proofs.YtpimdbnhpbjlkaaGreatDoor.dk
