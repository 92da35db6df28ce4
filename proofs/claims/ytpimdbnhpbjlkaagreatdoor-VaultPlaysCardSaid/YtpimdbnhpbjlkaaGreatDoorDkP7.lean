/-
  The program's Drop.
-/
import Derived.Test.YtpimdbnhpbjlkaaGreatDoorDkP6
namespace Go.Proofs.YtpimdbnhpbjlkaaGreatDoor.dk
set_option linter.unusedVariables false
open Go.RowKit
open fl (S S_size S_append S_inj str_eq str_ne)
open rw (Arr But Row Own bnext below_box below_drew below_drewN addr_add Fr RowB)
open mp (Mp Turned kget kput kwithout kmap KSorted)

set_option maxHeartbeats 4000000 in
set_option maxRecDepth 100000 in
theorem pdrop_any (F : Nat → Prop) (p : Nat) (d : Dk) (n : Bs) (hd : Room d) (w : World) (h : PD w F p d) :
    Calls Tryz.prog 53 #[.pointer (some ⟨p, 0, none⟩), .string (S n)] w fun e w' => e = .returned (.int .i64 ((turn d ⟨3, n, []⟩).1 : Nat)) ∧ Step w F p (turn d ⟨3, n, []⟩).2 w' := by
  obtain ⟨R, hR⟩ : ∃ R, turn d ⟨3, n, []⟩ = R := ⟨_, rfl⟩
  rw [hR]
  obtain ⟨W0, hW0⟩ : ∃ W0, w.alloc (.cells #[.string (S n)] 9) = W0 := ⟨_, rfl⟩
  have b0 : Below w.heap.size w W0 := by rw [← hW0]; exact below_box w _
  have z0 : W0.heap.size = w.heap.size + 1 := by rw [← hW0]; simp
  have x1 : Boxed W0 w.heap.size n := by rw [← hW0]; exact Arr.new w _ _
  have P0 := h.below b0
  have hRf := refuses_any F p d n W0 P0
  have e1 : W0.cell? ⟨w.heap.size, 0, none⟩ = some (.string (S n)) := x1.cell rfl
  by_cases hr : refused d n ≠ 0
  · have HS : Hid (Step w F p R.2 W0 ∧ R.1 = refused d n) := by
      rw [turn_ref d ⟨3, n, []⟩ hr] at hR
      rw [← hR]; exact ⟨Step.same h b0, rfl⟩
    have hri : ((refused d n : Nat) : Int) != 0 := by simpa using hr
    generalize refused d n = r at *
    clear h P0 x1 z0 b0 hr hR
    go_enter Tryz.func53, Tryz.ntmps53
    go_wp2_with fail
    refine hRf.mono ?_
    rintro e w1 ⟨rfl, rfl⟩
    clear hRf
    go_wp2_with fail
    go_ret
    rw [HS.out.2]
    exact ⟨rfl, HS.out.1⟩
  have hr0 : refused d n = 0 := by omega
  obtain ⟨hn, ho, ht⟩ := turn_not (c := ⟨3, n, []⟩) hr0
  have hn80 : ¬ (n.length < 1 ∨ 80 < n.length) := hn
  rw [hR] at ht
  rw [hr0, show ((0 : Nat) : Int) = 0 from rfl] at hRf
  have hcap := hd.r.cap
  have hus := hd.r.used
  obtain ⟨bs, bl, Fs, Fl, pv, ts, fz, hpc, _⟩ := P0
  have hHs := has_any Fs bs d.seen n (by unfold maxLen; omega) W0.drew (FM.below hpc.s (below_drew (Below.refl _ _)))
  have k0 : W0.drew.cell? ⟨p, 1, none⟩ = some (.map (some bs)) ∧ W0.drew.cell? ⟨w.heap.size, 0, none⟩ = some (.string (S n)) := ⟨hpc.cell rfl, x1.cell rfl⟩
  have HK : Hid (∀ W, Below W0.heap.size W0 W → W.cell? ⟨p, 1, none⟩ = some (.map (some bs)) ∧ W.cell? ⟨w.heap.size, 0, none⟩ = some (.string (S n))) :=
    fun W k => ⟨(hpc.below k).cell rfl, (x1.of (k.block _ x1.lt)).cell rfl⟩
  by_cases hno : get d.seen n = none
  · have HS : Hid (∀ W, Below W0.heap.size W0 W → Step w F p R.2 W ∧ R.1 = 6) := fun W k => by
      rw [ht, if_pos ⟨rfl, hno⟩]
      exact ⟨Step.same h (b0.trans (k.mono b0.size)), rfl⟩
    rw [hno] at hHs
    simp only [Option.isSome_none] at hHs
    clear h x1 z0 b0 hr hR hcap hus ht hn ho hd hr0 hno hpc hn80
    go_enter Tryz.func53, Tryz.ntmps53
    go_wp2_with fail
    refine hRf.mono ?_
    rintro e w1 ⟨rfl, rfl⟩
    clear hRf
    go_upto_region 4 with (fail)
    go_region_held3 (fun W => W.cell? ⟨p, 1, none⟩ = some (.map (some bs)) ∧ W.cell? ⟨w.heap.size, 0, none⟩ = some (.string (S n)))
      (first | (with_reducible exact k0) | (with_reducible exact s3) | go_keep)
      ((first
        | (go_at_call 71; refine hHs.mono ?_; rintro e w3 ⟨rfl, b3⟩
           have h3 := (below_drew (Below.refl w1.heap.size w1)).trans b3
           have s3 := HK.out _ h3)))
    have H3 := Lib.hid h3
    clear b3 h3 s3 k0 hHs
    go_wp2_with fail
    go_ret
    rw [(HS.out _ H3.out).2]
    exact ⟨rfl, (HS.out _ H3.out).1⟩
  have hgood : Good ⟨3, n, []⟩ := ⟨by unfold Named; show 1 ≤ n.length ∧ n.length ≤ 80; omega, fun h => absurd h (show ¬ (3 = 1) by decide)⟩
  have haf : after d.seen ⟨3, n, []⟩ = done d.seen ⟨3, n, []⟩ 1 := by simp [after, done, steps]
  have hud := used_done hd.r.sorted ⟨3, n, []⟩ (n := 1) (Nat.le_refl _)
  have hgd : get (done d.seen ⟨3, n, []⟩ 1) n = none := by
    unfold done
    rw [if_neg (by omega), if_neg (show ¬ (3 = 1) by decide), if_neg (show ¬ (3 = 2) by decide)]
    exact get_without_same _ _
  have hu1 : used (done d.seen ⟨3, n, []⟩ 1) ≤ used d.seen := by
    rw [show (⟨3, n, []⟩ : Call).name = n from rfl, hgd] at hud
    simp only [Option.getD_none, List.length_nil] at hud
    omega
  have hR2 : R = (0, spend { d with seen := done d.seen ⟨3, n, []⟩ 1, pend := d.pend ++ [⟨3, n, []⟩] }) := by
    rw [ht, if_neg (fun hh => hno hh.2), if_neg (fun hh => absurd hh.1 (show ¬ (3 = 1) by decide)), if_neg (by rw [haf]; omega), haf]
  have hcb := count_bound hd.r
  have hpl := hd.p
  have hst : steps ⟨3, n, []⟩ = 1 := by simp [steps]
  have HD : Hid (∀ W, Below w.heap.size w W → Boxed W w.heap.size n → Calls Tryz.prog 58 #[.pointer (some ⟨p, 0, none⟩), .string (S n), .agg #[.int .i64 ((1 : Nat) : Int), .func (.func 80) #[] #[.pointer (some ⟨w.heap.size, 0, none⟩)]]] W fun e w' => e = .returned (.tuple #[]) ∧ Step w F p R.2 w') := by
    intro W k y1
    have h1 := do_any F p d ((80, #[.pointer (some ⟨w.heap.size, 0, none⟩)]), ⟨3, n, []⟩) hgood ho hcap hd.n hd.p (by omega) (by show used (done d.seen ⟨3, n, []⟩ (steps ⟨3, n, []⟩)) ≤ _; rw [hst]; omega) hd.r.sorted (by show ([] : Bs).length ≤ _; simp)
      (by show count d.pend + steps ⟨3, n, []⟩ ≤ _; rw [hst]; omega) W (h.below k) (.inr (.inr ⟨rfl, _, rfl, y1⟩))
    rw [show steps (((80, #[.pointer (some ⟨w.heap.size, 0, none⟩)]), ⟨3, n, []⟩) : TC).2 = 1 from hst] at h1
    refine h1.mono ?_
    rintro e w' ⟨e1, e2⟩
    exact ⟨e1, by rw [hR2]; exact Step.from k e2⟩
  have HC1 : Hid (∀ W, Calls Tryz.prog 57 #[.string (S n)] W fun e w' => e = .returned (.string (S n)) ∧ Below W.heap.size W w') := fun W => clone_any n W (by omega)
  have HE : Hid (∀ W, Below W0.heap.size W0 W → W.cell? ⟨w.heap.size, 0, none⟩ = some (.string (S n)) ∧ W.frozen? ⟨w.heap.size, 0, none⟩ = false ∧ Below w.heap.size w (W.setCell ⟨w.heap.size, 0, none⟩ (.string (S n))) ∧ Boxed (W.setCell ⟨w.heap.size, 0, none⟩ (.string (S n))) w.heap.size n) := by
    intro W k
    have y1 := x1.of (k.block _ x1.lt)
    have q1 := (But.refl w.heap.size W).set 0 (.string (S n))
    have r1 : Below w.heap.size w W := b0.trans (k.mono (by omega))
    exact ⟨y1.cell rfl, Arr.frozen y1 0, r1.trans (q1.below r1.size (Nat.le_refl _)), Arr.set y1 0 _⟩
  have hsome : (get d.seen n).isSome = true := by cases hg : get d.seen n with
    | none => exact absurd hg hno
    | some _ => rfl
  rw [hsome] at hHs
  have hR1 : Hid (R.1 = 0) := by rw [hR2]; rfl
  clear h x1 z0 b0 hr hR hcap hus ht hn ho hd hr0 hno hpc hn80 hR2 hgood haf hud hgd hu1 hcb hpl hst hsome
  go_enter Tryz.func53, Tryz.ntmps53
  go_wp2_with fail
  refine hRf.mono ?_
  rintro e w1 ⟨rfl, rfl⟩
  clear hRf
  go_upto_region 4 with (fail)
  go_region_held3 (fun W => W.cell? ⟨p, 1, none⟩ = some (.map (some bs)) ∧ W.cell? ⟨w.heap.size, 0, none⟩ = some (.string (S n)))
    (first | (with_reducible exact k0) | (with_reducible exact s3) | go_keep)
    ((first
      | (go_at_call 71; refine hHs.mono ?_; rintro e w3 ⟨rfl, b3⟩
         have h3 := (below_drew (Below.refl w1.heap.size w1)).trans b3
         have s3 := HK.out _ h3)))
  have H3 := Lib.hid h3
  have c3 := (HE.out _ h3).1
  have hC := HC1.out w3
  clear b3 h3 s3 k0 hHs e1 HK
  go_wp2_with fail
  refine hC.mono ?_
  rintro e w4 ⟨rfl, b4⟩
  have h4 := H3.out.trans (b4.mono H3.out.size)
  obtain ⟨c4, f4, y4, z4⟩ := HE.out _ h4
  have H4 := Lib.hid y4
  have hD := HD.out _ y4 z4
  have c5 : (w4.setCell ⟨w.heap.size, 0, none⟩ (.string (S n))).cell? ⟨w.heap.size, 0, none⟩ = some (.string (S n)) := Arr.cell z4 rfl
  clear hC b4 h4 y4 z4 HE c3
  go_wp2_with fail
  refine hD.mono ?_
  rintro e w6 ⟨rfl, s6⟩
  have S6 := Lib.hid s6
  clear hD s6 c4 c5 f4 H4 H3
  go_wp2_with fail
  go_ret
  rw [hR1.out]
  exact ⟨rfl, S6.out⟩
end Go.Proofs.YtpimdbnhpbjlkaaGreatDoor.dk
