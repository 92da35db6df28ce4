/-
  What the reference's Used, Steps, Done, Same answer.
-/
import Derived.Test.YtiljhnheacppgaaDkRef2
import Derived.Deep.RegionHeld3
import Derived.BigRegion
namespace Go.Proofs.Ytiljhnheacppgaa.dk
set_option linter.unusedVariables false
open Go.RowKit
open fl (S S_size S_append S_inj str_eq str_ne)
open rw (Arr But Row Own bnext below_box below_drew below_drewN addr_add)

theorem used_take (l : List File) (k : Nat) (h : k < l.length) : used (l.take (k + 1)) = used (l.take k) + l[k].2.length := by
  unfold used
  rw [List.take_succ_eq_append_getElem h, List.map_append, List.sum_append]
  simp
theorem used_take_le (l : List File) (k : Nat) : used (l.take k) ≤ used l := by
  have : used l = used (l.take k) + used (l.drop k) := by
    unfold used
    rw [← List.sum_append, ← List.map_append, List.take_append_drop]
  omega

set_option maxHeartbeats 1000000 in
set_option maxRecDepth 100000 in
theorem refused_any (v : Value) (l : List File) (hl : l.length ≤ 140737488355328) (hu : used l ≤ 4611686018427387904) (w : World) (hs : SlF w v l) :
    Calls Try.prog 42 #[v] w fun e w' => e = .returned (.int .i64 (used l : Nat)) ∧ w' = w := by
  obtain ⟨a, cap, rfl, _, hr, _⟩ := hs
  go_enter Try.func42, Try.ntmps42
  go_wp2
  go_loopw [3, 4] (fun n i wr => ∃ k : Nat, i = .int .i64 k ∧ k ≤ l.length ∧ (∃ u : Nat, n = .int .i64 u ∧ Hid (u = used (l.take k)) ∧ u ≤ 4611686018427387904) ∧ wr = w)
    (fun _ i _ => l.length - (intOf i).toNat)
  case atStart => exact ⟨0, rfl, Nat.zero_le _, ⟨0, rfl, by show 0 = used (l.take 0); simp [used], by omega⟩, by first | rfl | trivial⟩
  case round =>
    obtain ⟨k, rfl, hk, ⟨u, rfl, HU, hb⟩, rfl⟩ := hrel
    by_cases hlt : k < l.length
    · obtain ⟨b, off, rfl, hb2, c0, c1⟩ := slF_at hr hlt
      have hki : (k : Int) < (l.length : Int) := by omega
      have hz := S_size (l[k]'hlt).2
      have HN : Hid (u + (l[k]'hlt).2.length = used (l.take (k + 1))) := by
        show _ = _
        rw [used_take l k hlt, HU.out]
      have hle : u + (l[k]'hlt).2.length ≤ 4611686018427387904 := by
        rw [HN.out]
        have := used_take_le l (k + 1)
        omega
      clear HU hr
      generalize l[k]'hlt = x at *
      go_wp2
      go_roundw
      case rel => exact ⟨k + 1, by go_num, by omega, ⟨u + x.2.length, by go_num, HN, hle⟩, by first | rfl | trivial⟩
      case measure => simp [intOf]; omega
    · obtain rfl : k = l.length := by omega
      rw [List.take_length] at HU
      clear hr
      go_wp2
      go_ret
      exact ⟨by rw [← HU.out]; rfl, by first | rfl | trivial⟩

def callV (c : Call) : Value := .agg #[.int .i64 (c.kind : Nat), .string (S c.name), .string (S c.s)]
set_option maxRecDepth 100000 in
theorem refsteps_any (c : Call) (w : World) :
    Calls Try.prog 58 #[callV c] w fun e w' => e = .returned (.int .i64 (steps c : Nat)) ∧ Below w.heap.size w w' := by
  unfold callV steps
  by_cases h : c.kind = 1
  · have hq : ((c.kind : Int) == 1) = true := by rw [h]; rfl
    rw [if_pos h]
    have hz := S_size c.s
    clear h
    go_enter Try.func58, Try.ntmps58
    go_wp2
    go_ret
    exact ⟨rfl, below_box w _⟩
  · have hq : ((c.kind : Int) == 1) = false := by rw [beq_eq_false_iff_ne]; omega
    rw [if_neg h]
    clear h
    go_enter Try.func58, Try.ntmps58
    go_wp2
    go_ret
    exact ⟨rfl, below_box w _⟩

/-- What Done owes: the slice that came in, or a new row. -/
def DoneP (w : World) (v : Value) (l : List File) (e : Ending) (w' : World) : Prop := (∃ u, e = .returned u ∧ SlF w' u l ∧ (u = v ∨ Own fileSh w' w.heap.size u l)) ∧ Below w.heap.size w w'

set_option maxHeartbeats 4000000 in
set_option maxRecDepth 100000 in
theorem refdone_any (v : Value) (l : List File) (c : Call) (n : Nat) (hl : l.length ≤ 1000000) (hn : n ≤ steps c) (hg : ((get l c.name).getD []).length ≤ 140737488355328) (hc : c.s.length ≤ 140737488355328) (w : World) (hs : SlF w v l) :
    Calls Try.prog 57 #[v, callV c, .int .i64 (n : Nat)] w (DoneP w v (done l c n)) := by
  have b0 := below_box w (.cells #[.int .i64 (c.kind : Nat), .string (S c.name), .string (S c.s)] 75)
  have A0 := Arr.new w 75 #[.int .i64 (c.kind : Nat), .string (S c.name), .string (S c.s)]
  have HS := Lib.hid (hs.later _ b0)
  have HB := Lib.hid b0
  obtain ⟨a, cap, rfl, _, hr, _⟩ := id hs
  have hr0 := hr.keep _ b0.size (fun b _ _ h => b0.block b h)
  obtain ⟨kind, name, s⟩ := c
  unfold callV DoneP
  simp only at *
  by_cases h0 : n < 1
  · have hi : (n : Int) < 1 := by omega
    have e : done l ⟨kind, name, s⟩ n = l := by unfold done; rw [if_pos h0]
    rw [e]
    clear e h0 A0 hr0 hr hn hg hc
    obtain ⟨ln, hln⟩ : ∃ ln, l.length = ln := ⟨_, rfl⟩
    rw [hln] at HS hs ⊢
    clear hs
    go_enter Try.func57, Try.ntmps57
    go_wp2
    go_ret
    exact ⟨⟨_, rfl, HS.out, .inl rfl⟩, HB.out⟩
  have hi : ¬ (n : Int) < 1 := by omega
  by_cases h1 : kind = 1
  · subst h1
    have e : done l ⟨1, name, s⟩ n = put l (name, (get l name).getD [] ++ s.take n) := by unfold done; rw [if_neg h0]; simp
    rw [e]
    have hns : n ≤ s.length := by unfold steps at hn; simpa using hn
    have hG := refget_any a cap l name (by omega) _ hr0
    have hz := S_size s
    have hsl := fun (W : World) => run_slice_string_h (P := Try.prog) (w := W) (t := 9) (s := S s) Try.underlying9 .i64 (n : Int) (by omega) (by rw [hz]; omega)
    rw [show (S s).extract 0 (Int.toNat (n : Int)) = S (s.take n) by
      rw [Int.toNat_natCast]
      apply ByteArray.ext
      apply Array.toList_inj.1
      rw [Lib.extract_data, fl.S_data, fl.S_data]
      simp] at hsl
    obtain ⟨g, hgg⟩ : ∃ g, (get l name).getD [] = g := ⟨_, rfl⟩
    obtain ⟨gs, hgs⟩ : ∃ gs, (get l name).isSome = gs := ⟨_, rfl⟩
    rw [hgg] at hg hG ⊢
    rw [hgs] at hG
    have hadd := fun (W : World) => run_string_add_sum (P := Try.prog) W (S g) (S (s.take n)) (by rw [S_size, S_size, List.length_take]; omega)
    rw [S_append] at hadd
    have HW := Lib.hid (fun W h => refwith_any (.slice a l.length cap) l name (g ++ s.take n) hl W h)
    have HA := Lib.hid A0
    generalize g ++ s.take n = t at *
    generalize s.take n = st at *
    have hx1 : ((1 : Nat) : Int) = 1 := rfl
    clear e h0 A0 hr0 hr hs hgg hgs hn hns hg hc hl
    generalize l.length = ln at *
    go_enter Try.func57, Try.ntmps57
    go_wp2_with fail
    refine hG.mono ?_
    rintro e w1 ⟨rfl, rfl⟩
    clear hG
    go_upto_region 6 with (fail)
    generalize w.alloc (.cells #[.int .i64 1, .string (S name), .string (S s)] 75) = W0 at *
    have d1 : W0.drew.cell? ⟨w.heap.size, 1, none⟩ = some (.string (S name)) := HA.out.cell rfl
    have d2 : W0.drew.cell? ⟨w.heap.size, 2, none⟩ = some (.string (S s)) := HA.out.cell rfl
    have hcl := HW.out W0.drew (HS.out.later _ (below_drew (Below.refl _ _)))
    have hlt := HA.out.lt
    clear HW HS
    go_region_held3 (fun W => W.cell? ⟨w.heap.size, 1, none⟩ = some (.string (S name)) ∧ W.cell? ⟨w.heap.size, 2, none⟩ = some (.string (S s))) (first | (with_reducible exact ⟨d1, d2⟩) | exact ⟨(b2.cell (p := ⟨w.heap.size, 1, none⟩) hlt).trans d1, (b2.cell (p := ⟨w.heap.size, 2, none⟩) hlt).trans d2⟩ | go_keep)
      ((go_at_call 59; refine hcl.mono ?_; rintro e w2 ⟨⟨u, rfl, ho⟩, b2⟩))
    have HO := Lib.hid ho
    have HB2 := Lib.hid (bnext (below_drew HB.out) b2)
    have HL : Hid (w.heap.size ≤ W0.drew.heap.size) := HB.out.size
    clear ho b2 hcl d1 d2
    go_wp2_with fail
    go_ret
    exact ⟨⟨_, rfl, HO.out.sl, .inr (own_lower HO.out HL.out)⟩, HB2.out⟩
  have hk1 : ((kind : Int) == 1) = false := by rw [beq_eq_false_iff_ne]; omega
  by_cases h2 : kind = 2
  · subst h2
    have e : done l ⟨2, name, s⟩ n = put l (name, s) := by unfold done; rw [if_neg h0]; simp
    rw [e]
    have HW := refwith_any (.slice a l.length cap) l name s hl _ HS.out
    have HL : Hid (w.heap.size ≤ (w.alloc (.cells #[.int .i64 ((2 : Nat) : Int), .string (S name), .string (S s)] 75)).heap.size) := HB.out.size
    have hx1 : ((2 : Nat) : Int) = 2 := rfl
    rw [hx1] at HW HB HL
    clear e h0 A0 hr0 hr hs hn hg hc hl HS h1 hk1
    generalize l.length = ln at *
    go_enter Try.func57, Try.ntmps57
    go_wp2_with fail
    refine HW.mono ?_
    rintro e w2 ⟨⟨u, rfl, ho⟩, b2⟩
    have HO := Lib.hid ho
    have HB2 := Lib.hid (bnext HB.out b2)
    clear ho b2 HW
    go_wp2_with fail
    go_ret
    exact ⟨⟨_, rfl, HO.out.sl, .inr (own_lower HO.out HL.out)⟩, HB2.out⟩
  · have hk2 : ((kind : Int) == 2) = false := by rw [beq_eq_false_iff_ne]; omega
    have e : done l ⟨kind, name, s⟩ n = without l name := by unfold done; rw [if_neg h0, if_neg h1, if_neg h2]
    rw [e]
    have HW := refwithout_any (.slice a l.length cap) l name hl _ HS.out
    have HL : Hid (w.heap.size ≤ (w.alloc (.cells #[.int .i64 (kind : Int), .string (S name), .string (S s)] 75)).heap.size) := HB.out.size
    clear e h0 A0 hr0 hr hs hn hg hc hl HS h1 h2
    generalize l.length = ln at *
    go_enter Try.func57, Try.ntmps57
    go_wp2_with fail
    refine HW.mono ?_
    rintro e w2 ⟨⟨u, rfl, ho⟩, b2⟩
    have HO := Lib.hid ho
    have HB2 := Lib.hid (bnext HB.out b2)
    clear ho b2 HW
    go_wp2_with fail
    go_ret
    exact ⟨⟨_, rfl, HO.out.sl, .inr (own_lower HO.out HL.out)⟩, HB2.out⟩

set_option maxHeartbeats 1000000 in
set_option maxRecDepth 100000 in
theorem refsame_any (v v' : Value) (l m : List File) (hl : l.length ≤ 140737488355328) (hm : m.length ≤ 140737488355328) (w : World) (hs : SlF w v l) (hs' : SlF w v' m) :
    Calls Try.prog 21 #[v, v'] w fun e w' => e = .returned (.bool (decide (l = m))) ∧ Below w.heap.size w w' := by
  obtain ⟨a, cap, rfl, _, hr, _⟩ := hs
  obtain ⟨a', cap', rfl, _, hr', _⟩ := hs'
  by_cases hne : l.length = m.length
  · have hq : ((l.length : Int) != (m.length : Int)) = false := by rw [bne_eq_false_iff_eq]; omega
    go_enter Try.func21, Try.ntmps21
    go_wp2
    go_loopw [5] (fun i wr => ∃ k : Nat, i = .int .i64 k ∧ k ≤ l.length ∧ Hid (∀ j (h1 : j < l.length) (h2 : j < m.length), j < k → l[j] = m[j]) ∧ Below w.heap.size w wr)
      (fun i _ => l.length - (intOf i).toNat)
    case atStart => exact ⟨0, rfl, Nat.zero_le _, Lib.hid (fun j _ _ h => absurd h (by omega)), Below.refl _ _⟩
    case round =>
      obtain ⟨k, rfl, hk, HN, hB⟩ := hrel
      by_cases hlt : k < l.length
      · have hlt' : k < m.length := by omega
        obtain ⟨b, off, rfl, hb, c0, c1⟩ := slF_at (hr.keep _ hB.size (fun b _ _ h => hB.block b h)) hlt
        obtain ⟨b', off', rfl, hb', c0', c1'⟩ := slF_at (hr'.keep _ hB.size (fun b _ _ h => hB.block b h)) hlt'
        have hki : (k : Int) < (l.length : Int) := by omega
        have hki' : (k : Int) < (m.length : Int) := by omega
        by_cases he : l[k]'hlt = m[k]'hlt'
        · have hq1 : ((S (l[k]'hlt).1).toList == (S (m[k]'hlt').1).toList) = true := str_eq (by rw [he])
          have hq2 : ((S (l[k]'hlt).2).toList == (S (m[k]'hlt').2).toList) = true := str_eq (by rw [he])
          have HN2 : Hid (∀ j (h1 : j < l.length) (h2 : j < m.length), j < k + 1 → l[j] = m[j]) := fun j h1 h2 hj => by
            by_cases h : j < k
            · exact HN.out j h1 h2 h
            · obtain rfl : j = k := by omega
              exact he
          clear HN he hr hr' hne
          generalize l[k]'hlt = x at *
          generalize m[k]'hlt' = y at *
          go_wp2
          go_quiet (fail)
          have hBq := below_drewN hB nq
          clear hB c0 c1 c0' c1'
          generalize wr.drewN nq = wq at *
          go_wp2
          go_roundw
          case rel => exact ⟨k + 1, by go_num, by omega, HN2, hBq⟩
          case measure => simp [intOf]; omega
        · have HF : Hid (decide (l = m) = false) := decide_eq_false (fun e => he (by subst e; rfl))
          obtain ⟨q1, hq1⟩ : ∃ q, ((S (l[k]'hlt).1).toList == (S (m[k]'hlt').1).toList) = q := ⟨_, rfl⟩
          obtain ⟨q2, hq2⟩ : ∃ q, ((S (l[k]'hlt).2).toList == (S (m[k]'hlt').2).toList) = q := ⟨_, rfl⟩
          have hq : (q1 && q2) = false := by
            cases hh : (q1 && q2) with
            | false => rfl
            | true =>
              rw [Bool.and_eq_true] at hh
              obtain ⟨rfl, rfl⟩ := hh
              exact absurd (Prod.ext (S_inj ((fl.str_beq _ _).1 hq1)) (S_inj ((fl.str_beq _ _).1 hq2))) he
          clear HN he hr hr' hne
          generalize l[k]'hlt = x at *
          generalize m[k]'hlt' = y at *
          cases q1 with
          | true =>
            have hq2' : q2 = false := by simpa using hq
            subst hq2'
            clear hq
            go_wp2
            go_quiet (fail)
            have hBq := below_drewN hB nq
            clear hB c0 c1 c0' c1'
            generalize wr.drewN nq = wq at *
            go_wp2
            go_ret
            exact ⟨by rw [HF.out]; rfl, hBq⟩
          | false =>
            clear hq
            go_wp2
            go_quiet (fail)
            have hBq := below_drewN hB nq
            clear hB c0 c1 c0' c1'
            generalize wr.drewN nq = wq at *
            go_wp2
            go_ret
            exact ⟨by rw [HF.out]; rfl, hBq⟩
      · have HF : Hid (decide (l = m) = true) := decide_eq_true (List.ext_getElem hne (fun j h1 h2 => HN.out j h1 h2 (by omega)))
        have hki : ¬ (k : Int) < (l.length : Int) := by omega
        clear HN hr hr' hne
        go_wp2
        go_ret
        exact ⟨by rw [HF.out]; rfl, hB⟩
  · have hq : ((l.length : Int) != (m.length : Int)) = true := by rw [bne_iff_ne]; omega
    have HF : decide (l = m) = false := decide_eq_false (fun e => hne (by rw [e]))
    rw [HF]
    clear HF hne hr hr'
    go_enter Try.func21, Try.ntmps21
    go_wp2
    go_ret
    exact ⟨rfl, Below.refl _ _⟩
end Go.Proofs.Ytiljhnheacppgaa.dk
