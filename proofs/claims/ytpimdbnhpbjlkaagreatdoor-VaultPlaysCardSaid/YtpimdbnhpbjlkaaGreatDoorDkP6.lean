/-
  The program's Add, Put, Drop.
-/
import Derived.Test.YtpimdbnhpbjlkaaGreatDoorDkP5
namespace Go.Proofs.YtpimdbnhpbjlkaaGreatDoor.dk
set_option linter.unusedVariables false
open Go.RowKit
open fl (S S_size S_append S_inj str_eq str_ne)
open rw (Arr But Row Own bnext below_box below_drew below_drewN addr_add Fr RowB)
open mp (Mp Turned kget kput kwithout kmap KSorted)

/-- How large a disk may be, for the program's calls. -/
structure Room (d : Dk) : Prop where
  r : Right d
  n : d.seen.length ≤ 100000
  p : d.pend.length ≤ 100000
theorem pend_steps {d : Dk} (h : Right d) : ∀ c ∈ d.pend, steps c ≤ 1048576 := by
  intro c hc
  obtain ⟨j, hj, e⟩ := List.getElem_of_mem hc
  have h1 := h.room (j + 1)
  have hsj : Sorted (full d.lasts (d.pend.take j)) := full_sorted h.so _
  rw [List.take_succ_eq_append_getElem hj, full_snoc, e] at h1
  have hcap := h.cap
  unfold steps
  split
  · next hk =>
    have h2 := bytes_get (bytes_of_used h1) c.name
    have hs : steps c = c.s.length := by unfold steps; rw [if_pos hk]
    have hp := steps_pos (h.np c hc)
    unfold done at h2
    rw [if_neg (by omega), if_pos hk, get_put_same hsj, hs, List.take_length] at h2
    simp only [Option.getD_some, List.length_append] at h2
    omega
  · omega
theorem count_bound {d : Dk} (h : Right d) : count d.pend ≤ d.pend.length * 1048576 := by
  have : ∀ l : List Call, (∀ c ∈ l, steps c ≤ 1048576) → count l ≤ l.length * 1048576 := by
    intro l
    induction l with
    | nil => intro _; simp [count]
    | cons c r ih =>
      intro h
      have h1 := ih fun x hx => h x (List.mem_cons_of_mem _ hx)
      have h2 := h c List.mem_cons_self
      have e : count (c :: r) = steps c + count r := by simp [count]
      rw [e, List.length_cons, Nat.add_mul]
      omega
  exact this _ (pend_steps h)
theorem turn_ref (d : Dk) (c : Call) (h : refused d c.name ≠ 0) : turn d c = (refused d c.name, d) := by
  unfold refused at h ⊢
  unfold turn
  by_cases h1 : c.name.length < 1 ∨ 80 < c.name.length
  · rw [if_pos h1, if_pos h1]
  · rw [if_neg h1, if_neg h1]
    rw [if_neg h1] at h
    by_cases h2 : off d = true
    · rw [if_pos h2, if_pos h2]
    · rw [if_neg h2] at h; exact absurd rfl h
theorem turn_not {d : Dk} {c : Call} (h : refused d c.name = 0) : ¬ (c.name.length < 1 ∨ 80 < c.name.length) ∧ off d = false ∧ turn d c = if c.kind = 3 ∧ get d.seen c.name = none then (6, d)
    else if c.kind = 1 ∧ c.s = [] then (0, d) else if d.cap < used (after d.seen c) then (7, d) else (0, spend { d with seen := after d.seen c, pend := d.pend ++ [c] }) := by
  unfold refused at h
  by_cases h1 : c.name.length < 1 ∨ 80 < c.name.length
  · rw [if_pos h1] at h; cases h
  · rw [if_neg h1] at h
    by_cases h2 : off d = true
    · rw [if_pos h2] at h; cases h
    · refine ⟨h1, by simpa using h2, ?_⟩
      unfold turn
      rw [if_neg h1, if_neg h2]
theorem Step.same {w w' : World} {F : Nat → Prop} {p : Nat} {d : Dk} (h : PD w F p d) (k : Below w.heap.size w w') : Step w F p d w' := ⟨F, h.below k, Fr.of_below k, Nu.refl _ _⟩
theorem Step.from {w w0 w' : World} {F : Nat → Prop} {p : Nat} {d : Dk} (k : Below w.heap.size w w0) (h : Step w0 F p d w') : Step w F p d w' := Step.after (Fr.of_below k) (Nu.refl _ _) h
theorem Step.drewN {w w' : World} {F : Nat → Prop} {p : Nat} {d : Dk} {n : Nat} (h : Step w F p d w') : Step w F p d w' := h

set_option maxHeartbeats 4000000 in
set_option maxRecDepth 100000 in
theorem pput_any (F : Nat → Prop) (p : Nat) (d : Dk) (n s : Bs) (hd : Room d) (hs : s.length ≤ 281474976710656) (w : World) (h : PD w F p d) :
    Calls Tryz.prog 31 #[.pointer (some ⟨p, 0, none⟩), .string (S n), .string (S s)] w fun e w' => e = .returned (.int .i64 ((turn d ⟨2, n, s⟩).1 : Nat)) ∧ Step w F p (turn d ⟨2, n, s⟩).2 w' := by
  obtain ⟨R, hR⟩ : ∃ R, turn d ⟨2, n, s⟩ = R := ⟨_, rfl⟩
  rw [hR]
  obtain ⟨W0, hW0⟩ : ∃ W0, (w.alloc (.cells #[.string (S n)] 9)).alloc (.cells #[.string (S s)] 9) = W0 := ⟨_, rfl⟩
  have b0 : Below w.heap.size w W0 := by rw [← hW0]; exact (below_box w _).trans ((below_box (w.alloc (.cells #[.string (S n)] 9)) _).mono (by simp))
  have z0 : W0.heap.size = w.heap.size + 2 := by rw [← hW0]; simp
  have x1 : Boxed W0 w.heap.size n := by rw [← hW0]; exact (Arr.new w _ _).below (below_box _ _)
  have x2 : Boxed W0 (w.heap.size + 1) s := by rw [← hW0]; have := Arr.new (w.alloc (.cells #[.string (S n)] 9)) 9 #[.string (S s)]; rwa [rw.size_1] at this
  have P0 := h.below b0
  have hRf := refuses_any F p d n W0 P0
  have e1 : W0.cell? ⟨w.heap.size, 0, none⟩ = some (.string (S n)) := x1.cell rfl
  by_cases hr : refused d n ≠ 0
  · have HS : Hid (Step w F p R.2 W0 ∧ R.1 = refused d n) := by
      rw [turn_ref d ⟨2, n, s⟩ hr] at hR
      rw [← hR]; exact ⟨Step.same h b0, rfl⟩
    have hri : ((refused d n : Nat) : Int) != 0 := by simpa using hr
    generalize refused d n = r at *
    clear h x1 x2 z0 b0 hr hR
    go_enter Tryz.func31, Tryz.ntmps31
    go_wp2_with fail
    refine hRf.mono ?_
    rintro e w1 ⟨rfl, rfl⟩
    clear hRf
    go_wp2_with fail
    go_ret
    rw [HS.out.2]
    exact ⟨rfl, HS.out.1⟩
  have hr0 : refused d n = 0 := by omega
  obtain ⟨hn, ho, ht⟩ := turn_not (c := ⟨2, n, s⟩) hr0
  rw [hR] at ht
  rw [hr0, show ((0 : Nat) : Int) = 0 from rfl] at hRf
  have hcap := hd.r.cap
  have hus := hd.r.used
  have hse := hd.r.seen
  have hRm := fun k => room_any F p d (W0.drewN k) (P0.below (below_drewN (Below.refl _ _) k)) hcap (by omega)
  obtain ⟨rm, hrm⟩ : ∃ rm : Int, (d.cap : Int) - (used d.seen : Int) = rm := ⟨_, rfl⟩
  rw [hrm] at hRm
  have e2 : W0.drewN 1 = W0.drew := rfl
  have e3 : W0.cell? ⟨w.heap.size + 1, 0, none⟩ = some (.string (S s)) := x2.cell rfl
  have hz : ((S s).size : Int) = (s.length : Int) := by rw [S_size]
  have haf : after d.seen ⟨2, n, s⟩ = done d.seen ⟨2, n, s⟩ 1 := by simp [after, done]
  obtain ⟨bs, bl, Fs, Fl, pv, ts, fz, hpc, _⟩ := P0
  have e4 : Hid (∀ k, (W0.drewN k).cell? ⟨w.heap.size + 1, 0, none⟩ = some (.string (S s))) := fun k => x2.cell rfl
  have hgood : Good ⟨2, n, s⟩ := ⟨by unfold Named; show 1 ≤ n.length ∧ n.length ≤ 80; have : ¬ (n.length < 1 ∨ 80 < n.length) := hn; omega, fun h => absurd h (show ¬ (2 = 1) by decide)⟩
  have hud := used_done hd.r.sorted ⟨2, n, s⟩ (n := 1) (Nat.le_refl _)
  have hgd : get (done d.seen ⟨2, n, s⟩ 1) n = some s := by
    unfold done
    rw [if_neg (by omega), if_neg (show ¬ (2 = 1) by decide), if_pos rfl, get_put_same hd.r.sorted]
  obtain ⟨o, hold⟩ : ∃ o, ((get d.seen n).getD []).length = o := ⟨_, rfl⟩
  have hol : o ≤ used d.seen := by rw [← hold]; exact bytes_get (bytes_of_used (Nat.le_refl _)) n
  have hu1 : used (done d.seen ⟨2, n, s⟩ 1) + o = used d.seen + s.length := by
    rw [show (⟨2, n, s⟩ : Call).name = n from rfl, hgd, hold] at hud
    simp only [Option.getD_some] at hud
    exact hud
  have hSz := fun k => size_any _ _ _ n (by have : ¬ (n.length < 1 ∨ 80 < n.length) := hn; unfold maxLen; omega) (W0.drewN k) (FM.below hpc.s (below_drewN (Below.refl _ _) k))
  rw [hold] at hSz
  have hpl1 : W0.cell? ⟨p, 1, none⟩ = some (.map (some bs)) := hpc.cell rfl
  obtain ⟨rs, hrs⟩ : ∃ rs : Int, rm + (o : Int) = rs := ⟨_, rfl⟩
  have hwr : IntKind.i64.wrap (rm + (o : Int)) = rs := by rw [← hrs]; exact IntWalk.i64_in _ (by omega)
  by_cases hbig : (s.length : Int) > rs
  · have HS : Hid (∀ k, Step w F p R.2 (W0.drewN k) ∧ R.1 = 7) := fun k => by
      rw [ht, if_neg (fun hh => absurd hh.1 (show ¬ (2 = 3) by decide)), if_neg (fun hh => absurd hh.1 (show ¬ (2 = 1) by decide)), if_pos (by rw [haf]; omega)]
      exact ⟨Step.same h (below_drewN b0 k), rfl⟩
    clear h x1 x2 z0 b0 hr hR hrm hcap hus hse ht haf hn ho hd hs hr0 e2 hgd hu1 hud hgood hold hol hrs hpc
    generalize s.length = L at *
    go_enter Tryz.func31, Tryz.ntmps31
    go_wp2_with fail
    refine hRf.mono ?_
    rintro e w1 ⟨rfl, rfl⟩
    clear hRf
    go_wp2_with fail
    go_quiet (first | (go_at_call 55; refine Calls.quiet_of (hRm _)) | (go_at_call 56; refine Calls.quiet_of_same (hSz _)))
    go_wp2_with fail
    go_ret
    rw [(HS.out nq).2]
    exact ⟨rfl, (HS.out nq).1⟩
  have hR2 : R = (0, spend { d with seen := done d.seen ⟨2, n, s⟩ 1, pend := d.pend ++ [⟨2, n, s⟩] }) := by
    rw [ht, if_neg (fun hh => absurd hh.1 (show ¬ (2 = 3) by decide)), if_neg (fun hh => absurd hh.1 (show ¬ (2 = 1) by decide)), if_neg (by rw [haf]; omega), haf]
  have hcb := count_bound hd.r
  have hpl := hd.p
  have hst : steps ⟨2, n, s⟩ = 1 := by simp [steps]
  have HD : Hid (∀ W, Below w.heap.size w W → Boxed W w.heap.size n → Boxed W (w.heap.size + 1) s → Calls Tryz.prog 58 #[.pointer (some ⟨p, 0, none⟩), .string (S n), .agg #[.int .i64 ((1 : Nat) : Int), .func (.func 59) #[] #[.pointer (some ⟨w.heap.size, 0, none⟩), .pointer (some ⟨w.heap.size + 1, 0, none⟩)]]] W fun e w' => e = .returned (.tuple #[]) ∧ Step w F p R.2 w') := by
    intro W k y1 y2
    have h1 := do_any F p d ((59, #[.pointer (some ⟨w.heap.size, 0, none⟩), .pointer (some ⟨w.heap.size + 1, 0, none⟩)]), ⟨2, n, s⟩) hgood ho hcap hd.n hd.p (by omega) (by show used (done d.seen ⟨2, n, s⟩ (steps ⟨2, n, s⟩)) ≤ _; rw [hst]; omega) hd.r.sorted (by show s.length ≤ _; omega)
      (by show count d.pend + steps ⟨2, n, s⟩ ≤ _; rw [hst]; omega) W (h.below k) (.inr (.inl ⟨rfl, _, _, rfl, y1, y2⟩))
    rw [show steps (((59, #[.pointer (some ⟨w.heap.size, 0, none⟩), .pointer (some ⟨w.heap.size + 1, 0, none⟩)]), ⟨2, n, s⟩) : TC).2 = 1 from hst] at h1
    refine h1.mono ?_
    rintro e w' ⟨e1, e2⟩
    exact ⟨e1, by rw [hR2]; exact Step.from k e2⟩
  have HC1 : Hid (∀ W, Calls Tryz.prog 57 #[.string (S n)] W fun e w' => e = .returned (.string (S n)) ∧ Below W.heap.size W w') := fun W => clone_any n W (by have : ¬ (n.length < 1 ∨ 80 < n.length) := hn; omega)
  have HC2 : Hid (∀ W, Calls Tryz.prog 57 #[.string (S s)] W fun e w' => e = .returned (.string (S s)) ∧ Below W.heap.size W w') := fun W => clone_any s W hs
  have HK : Hid (∀ W, Below W0.heap.size W0 W → W.cell? ⟨w.heap.size, 0, none⟩ = some (.string (S n)) ∧ W.cell? ⟨w.heap.size + 1, 0, none⟩ = some (.string (S s)) ∧ W.frozen? ⟨w.heap.size, 0, none⟩ = false ∧ W.frozen? ⟨w.heap.size + 1, 0, none⟩ = false) :=
    fun W k => ⟨(x1.of (k.block _ x1.lt)).cell rfl, (x2.of (k.block _ x2.lt)).cell rfl, Arr.frozen (x1.of (k.block _ x1.lt)) 0, Arr.frozen (x2.of (k.block _ x2.lt)) 0⟩
  have HE : Hid (∀ W, Below W0.heap.size W0 W → Below w.heap.size w ((W.setCell ⟨w.heap.size, 0, none⟩ (.string (S n))).setCell ⟨w.heap.size + 1, 0, none⟩ (.string (S s))) ∧ Boxed ((W.setCell ⟨w.heap.size, 0, none⟩ (.string (S n))).setCell ⟨w.heap.size + 1, 0, none⟩ (.string (S s))) w.heap.size n ∧ Boxed ((W.setCell ⟨w.heap.size, 0, none⟩ (.string (S n))).setCell ⟨w.heap.size + 1, 0, none⟩ (.string (S s))) (w.heap.size + 1) s) := by
    intro W k
    have y1 := x1.of (k.block _ x1.lt)
    have y2 := x2.of (k.block _ x2.lt)
    have q1 := (But.refl w.heap.size W).set 0 (.string (S n))
    have q2 := (But.refl (w.heap.size + 1) (W.setCell ⟨w.heap.size, 0, none⟩ (.string (S n)))).set 0 (.string (S s))
    have r1 : Below w.heap.size w W := b0.trans (k.mono (by omega))
    refine ⟨(r1.trans (q1.below r1.size (Nat.le_refl _))).trans (q2.below (Nat.le_trans r1.size q1.size) (by omega)), ?_, ?_⟩
    · exact q2.arr (Arr.set y1 0 _) (by omega)
    · exact Arr.set (q1.arr y2 (by omega)) 0 _
  have HE1 : Hid (∀ W, Below W0.heap.size W0 W → ((W.setCell ⟨w.heap.size, 0, none⟩ (.string (S n))).cell? ⟨w.heap.size, 0, none⟩ = some (.string (S n)) ∧ (W.setCell ⟨w.heap.size, 0, none⟩ (.string (S n))).cell? ⟨w.heap.size + 1, 0, none⟩ = some (.string (S s)) ∧ (W.setCell ⟨w.heap.size, 0, none⟩ (.string (S n))).frozen? ⟨w.heap.size, 0, none⟩ = false ∧ (W.setCell ⟨w.heap.size, 0, none⟩ (.string (S n))).frozen? ⟨w.heap.size + 1, 0, none⟩ = false) ∧
      (((W.setCell ⟨w.heap.size, 0, none⟩ (.string (S n))).setCell ⟨w.heap.size + 1, 0, none⟩ (.string (S s))).cell? ⟨w.heap.size, 0, none⟩ = some (.string (S n)) ∧ ((W.setCell ⟨w.heap.size, 0, none⟩ (.string (S n))).setCell ⟨w.heap.size + 1, 0, none⟩ (.string (S s))).cell? ⟨w.heap.size + 1, 0, none⟩ = some (.string (S s)) ∧
        ((W.setCell ⟨w.heap.size, 0, none⟩ (.string (S n))).setCell ⟨w.heap.size + 1, 0, none⟩ (.string (S s))).frozen? ⟨w.heap.size, 0, none⟩ = false ∧ ((W.setCell ⟨w.heap.size, 0, none⟩ (.string (S n))).setCell ⟨w.heap.size + 1, 0, none⟩ (.string (S s))).frozen? ⟨w.heap.size + 1, 0, none⟩ = false)) := by
    intro W k
    have y1 := Arr.set (x1.of (k.block _ x1.lt)) 0 (.string (S n))
    have y2 := ((But.refl w.heap.size W).set 0 (.string (S n))).arr (x2.of (k.block _ x2.lt)) (by omega)
    have y3 := ((But.refl (w.heap.size + 1) (W.setCell ⟨w.heap.size, 0, none⟩ (.string (S n)))).set 0 (.string (S s))).arr y1 (by omega)
    have y4 := y2.set 0 (.string (S s))
    exact ⟨⟨y1.cell rfl, y2.cell rfl, y1.frozen 0, y2.frozen 0⟩, y3.cell rfl, y4.cell rfl, y3.frozen 0, y4.frozen 0⟩
  clear h x1 x2 z0 b0 hr hR hrm hcap hus hse ht haf hn ho hd hs hr0 e2 hgd hu1 hud hgood hcb hpl hst hold hol hrs hpc
  have hR1 : Hid (R.1 = 0) := by rw [hR2]; rfl
  clear hR2
  generalize hL : s.length = L at *
  clear hL
  go_enter Tryz.func31, Tryz.ntmps31
  go_wp2_with fail
  refine hRf.mono ?_
  rintro e w1 ⟨rfl, rfl⟩
  clear hRf
  go_wp2_with fail
  go_quiet (first | (go_at_call 55; refine Calls.quiet_of (hRm _)) | (go_at_call 56; refine Calls.quiet_of_same (hSz _)))
  have hwq : Hid (Below w1.heap.size w1 (w1.drewN nq).drew) := below_drew (below_drewN (Below.refl _ _) nq)
  go_upto_region 6 with (fail)
  clear e1 e3 e4 hRm hSz hpl1
  generalize w1.drewN nq = w2 at *
  have k1 := HK.out _ hwq.out
  go_region_held3 (fun W => W.cell? ⟨w.heap.size, 0, none⟩ = some (.string (S n)) ∧ W.cell? ⟨w.heap.size + 1, 0, none⟩ = some (.string (S s)) ∧ W.frozen? ⟨w.heap.size, 0, none⟩ = false ∧ W.frozen? ⟨w.heap.size + 1, 0, none⟩ = false)
    (first | (with_reducible exact k1) | (with_reducible exact s3) | (with_reducible exact s4) | (with_reducible exact t1) | (with_reducible exact t2) | go_keep)
    ((first
      | (go_at_call 57; with_reducible refine (HC1.out _).mono ?_; rintro e w3 ⟨rfl, b3⟩
         have h3 := hwq.out.trans (b3.mono hwq.out.size)
         have s3 := HK.out _ h3)
      | (go_at_call 57; with_reducible refine (HC2.out _).mono ?_; rintro e w4 ⟨rfl, b4⟩
         have h4 := h3.trans (b4.mono h3.size)
         have s4 := HK.out _ h4
         have t1 := (HE1.out _ h4).1
         have t2 := (HE1.out _ h4).2)))
  obtain ⟨y0, y1, y2⟩ := HE.out _ h4
  generalize (w4.setCell ⟨w.heap.size, 0, none⟩ (.string (S n))).setCell ⟨w.heap.size + 1, 0, none⟩ (.string (S s)) = w5 at *
  have e1 : w5.cell? ⟨w.heap.size, 0, none⟩ = some (.string (S n)) := Arr.cell y1 rfl
  have e2 : w5.cell? ⟨w.heap.size + 1, 0, none⟩ = some (.string (S s)) := Arr.cell y2 rfl
  have hD := HD.out w5 y0 y1 y2
  clear HD HE HE1 HK s3 s4 t1 t2 h3 h4 b3 b4 k1 hwq y0 y1 y2 HC1 HC2
  go_wp2_with fail
  refine hD.mono ?_
  rintro e w6 ⟨rfl, s6⟩
  have S6 := Lib.hid s6
  clear hD s6 e1 e2
  go_wp2_with fail
  go_ret
  rw [hR1.out]
  exact ⟨rfl, S6.out⟩
end Go.Proofs.YtpimdbnhpbjlkaaGreatDoor.dk
