/-
  The program's settle: what is pending is done again to what lasts.
-/
import Derived.Test.YtpimdbnhpbjlkaaGreatDoorDkP7
import Derived.Laws.EntriesVeiled
import Derived.Deep.CutRange
namespace Go.Proofs.YtpimdbnhpbjlkaaGreatDoor.dk
set_option linter.unusedVariables false
open Go.RowKit
open fl (S S_size S_append S_inj str_eq str_ne)
open rw (Arr But Row Own bnext below_box below_drew below_drewN addr_add Fr RowB)
open mp (Mp Turned kget kput kwithout kmap KSorted)

theorem pend_s {d : Dk} (h : Right d) : ∀ c ∈ d.pend, c.kind = 1 ∨ c.kind = 2 → c.s.length ≤ 1048576 := by
  intro c hc hk
  obtain ⟨j, hj, e⟩ := List.getElem_of_mem hc
  have h1 := h.room (j + 1)
  have hsj : Sorted (full d.lasts (d.pend.take j)) := full_sorted h.so _
  rw [List.take_succ_eq_append_getElem hj, full_snoc, e] at h1
  have hcap := h.cap
  have h2 := bytes_get (bytes_of_used h1) c.name
  have hp := steps_pos (h.np c hc)
  unfold done at h2
  rw [if_neg (by omega)] at h2
  rcases hk with hk | hk
  · have hs : steps c = c.s.length := by unfold steps; rw [if_pos hk]
    rw [if_pos hk, get_put_same hsj, hs, List.take_length] at h2
    simp only [Option.getD_some, List.length_append] at h2
    omega
  · rw [if_neg (by omega), if_pos hk, get_put_same hsj] at h2
    simp only [Option.getD_some] at h2
    omega
/-- does_runs, where only what is laid is bounded. -/
theorem does_runs' (F : Nat → Prop) (b : Nat) (l : List File) (v : Value) (c : Call) (n : Nat) (hc : Good c) (hn1 : 1 ≤ n) (hn2 : n ≤ steps c) (hl : l.length ≤ 1000000) (hz : c.kind = 1 ∨ c.kind = 2 → ((get l c.name).getD []).length + c.s.length ≤ 140737488355328) (w : World) (h : FM w F b l) (hd : Does w v c) :
    (∃ a1 a2 : Nat, False ∧ Hid True) ∨
    (∃ a1 a2, v = .func (.func 59) #[] #[.pointer (some ⟨a1, 0, none⟩), .pointer (some ⟨a2, 0, none⟩)] ∧
      Hid (∀ W, Below w.heap.size w W → Calls Tryz.prog 59 #[.map (some b), .int .i64 (n : Nat), .pointer (some ⟨a1, 0, none⟩), .pointer (some ⟨a2, 0, none⟩)] W fun e w' => e = .returned (.tuple #[]) ∧ Made W F b (done l c n) w')) ∨
    (∃ a1, v = .func (.func 80) #[] #[.pointer (some ⟨a1, 0, none⟩)] ∧
      Hid (∀ W, Below w.heap.size w W → Calls Tryz.prog 80 #[.map (some b), .int .i64 (n : Nat), .pointer (some ⟨a1, 0, none⟩)] W fun e w' => e = .returned (.tuple #[]) ∧ Made W F b (done l c n) w')) := by
  rcases hd with ⟨h1, a1, a2, h2, h3, h4⟩ | ⟨h1, a1, a2, h2, h3, h4⟩ | ⟨h1, a1, h2, h3⟩
  · exact h2.elim
  · exact .inr (.inl ⟨a1, a2, h2, fun W k => put1_any F b l c a1 a2 n h1 hc hn1 hl (by have := hz (.inr h1); omega) W (h.below k) (h3.of (k.block _ h3.lt)) (h4.of (k.block _ h4.lt))⟩)
  · exact .inr (.inr ⟨a1, h2, fun W k => drop1_any F b l c a1 n h1 hc hn1 W (h.below k) (h3.of (k.block _ h3.lt))⟩)
/-- A round of settle: the pieces, and what has turned since. -/
structure Set (w wr : World) (F : Nat → Prop) (p : Nat) (d : Dk) (K j : Nat) (cs : Array Value) (bs bl : Nat) (Fs Fl : Nat → Prop) (pv : Value) (ts : List TC) : Prop where
  pc : Pc wr p cs bs bl Fs Fl d.seen (again d.lasts (d.pend.take j) K) pv ts
  fr : Fr F w wr
  nu : Nu w F (fo p Fs Fl pv)
theorem Set.below {w wr wx : World} {F : Nat → Prop} {p : Nat} {d : Dk} {K j : Nat} {cs : Array Value} {bs bl : Nat} {Fs Fl : Nat → Prop} {pv : Value} {ts : List TC}
    (h : Set w wr F p d K j cs bs bl Fs Fl pv ts) (k : Below wr.heap.size wr wx) : Set w wx F p d K j cs bs bl Fs Fl pv ts := ⟨h.pc.below k, h.fr.then_below k, h.nu⟩
theorem ownT_at {w : World} {v : Value} {l : List TC} (h : OwnT w v l) {j : Nat} (hj : j < l.length) : ∃ b cap, v = .slice (some ⟨b, 0, none⟩) l.length cap ∧ w.cell? ⟨b, j * 2, none⟩ = some (.int .i64 (steps l[j].2 : Nat)) ∧ w.cell? ⟨b, j * 2 + 1, none⟩ = some (fnv l[j]) := by
  obtain ⟨a, c, e, _, hr, _⟩ := rw.Own.sl turnSh h
  obtain ⟨b, off, e2, hb, hc⟩ := hr.at _ hj
  obtain ⟨_, ⟨e3, h0⟩ | ⟨g, cap, cur, e3, _⟩⟩ := h
  · omega
  · rw [e] at e3
    rw [e2] at e3
    injection e3 with e4
    injection e4 with e4
    injection e4 with e5 e6
    subst e6
    rw [e2] at e
    have h0 := hc 0 (by decide)
    have h1 := hc 1 (by decide)
    rw [Nat.zero_add] at h0 h1
    exact ⟨b, c, e, h0, h1⟩

theorem Pc.clear {w : World} {p : Nat} {cs : Array Value} {bs bl : Nat} {Fs Fl : Nat → Prop} {seen lasts : List File} {pv : Value} {ts : List TC} (h : Pc w p cs bs bl Fs Fl seen lasts pv ts) : Pc w p cs bs bl Fs Fl seen lasts (.slice none 0 0) [] :=
  ⟨h.a, h.s, h.l, rw.Own.nil turnSh w 0, fun x hx => (by cases hx), h.dis⟩
theorem again_stop (l : List File) (p : List Call) (K j : Nat) (hj : j ≤ p.length) (h : K ≤ count (p.take j)) : again l p K = again l (p.take j) K := by
  rw [again_take l p K j hj, Nat.min_eq_right h, Nat.sub_self, again_zero]
set_option maxHeartbeats 4000000 in
set_option maxRecDepth 100000 in
theorem settle_any (F : Nat → Prop) (p : Nat) (d : Dk) (K : Nat) (hd : Right d) (hl : d.lasts.length ≤ 100000) (hp : d.pend.length ≤ 100000) (hK : K ≤ count d.pend) (w : World) (h : PD w F p d) :
    Calls Tryz.prog 65 #[.pointer (some ⟨p, 0, none⟩), .int .i64 (K : Nat)] w fun e w' => e = .returned (.tuple #[]) ∧ Step w F p { d with lasts := again d.lasts d.pend K, pend := [] } w' := by
  obtain ⟨bs, bl, Fs, Fl, pv, ts, fz, h1, h2, hf, hF⟩ := h
  have htl : ts.length = d.pend.length := by rw [← h2, List.length_map]
  have hcb := count_bound hd
  have hpv := h1.o.form
  obtain ⟨pa, pc, rfl⟩ := hpv
  have hend : Hid (∀ wr Fl' j, Set w wr F p d K j (dkCells d bs bl (.slice pa ts.length pc) fz) bs bl Fs Fl' (.slice pa ts.length pc) ts → again d.lasts d.pend K = again d.lasts (d.pend.take j) K →
      wr.cell? ⟨p, 4, none⟩ = some (.slice pa ts.length pc) ∧ wr.frozen? ⟨p, 4, none⟩ = false ∧ (wr.setCell ⟨p, 4, none⟩ (.slice none 0 0)).cell? ⟨p, 5, none⟩ = some (.int .i64 (count d.pend : Nat)) ∧ (wr.setCell ⟨p, 4, none⟩ (.slice none 0 0)).frozen? ⟨p, 5, none⟩ = false ∧
      Step w F p { d with lasts := again d.lasts d.pend K, pend := [] } ((wr.setCell ⟨p, 4, none⟩ (.slice none 0 0)).setCell ⟨p, 5, none⟩ (.int .i64 0))) := by
    intro wr Fl' j S e
    have P1 := S.pc.clear.set 4 (.slice none 0 0)
    have P2 := P1.set 5 (.int .i64 0)
    refine ⟨S.pc.cell rfl, S.pc.a.frozen 4, P1.cell rfl, P1.a.frozen 5, fo p Fs Fl' (.slice none 0 0), ?_, ?_, ?_⟩
    · refine PD.of_pc (d := { d with lasts := again d.lasts d.pend K, pend := [] }) (fz := fz) (ts := []) (bs := bs) (bl := bl) ?_ rfl rfl hf
      rw [e]
      exact P2
    · have k1 := (But.refl p wr).set 4 (.slice none 0 0)
      have k2 := (But.refl p (wr.setCell ⟨p, 4, none⟩ (.slice none 0 0))).set 5 (.int .i64 0)
      have hp : F p := (hF p).2 (.inl rfl)
      exact (S.fr.trans (G := fun i => i = p) (Fr.but k1 rfl) fun i _ e => e ▸ hp).trans (G := fun i => i = p) (Fr.but k2 rfl) fun i _ e => e ▸ hp
    · intro k hk
      rcases hk with hk | hk | hk | hk
      · exact S.nu k (.inl hk)
      · exact S.nu k (.inr (.inl hk))
      · exact S.nu k (.inr (.inr (.inl hk)))
      · cases hk
  have S0 : Hid (Set w w F p d K 0 (dkCells d bs bl (.slice pa ts.length pc) fz) bs bl Fs Fl (.slice pa ts.length pc) ts) := ⟨h1, Fr.refl _ _, fun k hk => .inl ((hF k).2 hk)⟩
  have c4 : w.cell? ⟨p, 4, none⟩ = some (.slice pa ts.length pc) := h1.cell rfl
  have HD : Hid (Right d ∧ d.lasts.length ≤ 100000 ∧ d.pend.length ≤ 100000 ∧ ts.map (·.2) = d.pend ∧ ts.length = d.pend.length ∧ p < w.heap.size ∧ K ≤ 1099511627776) := ⟨hd, hl, hp, h2, htl, h1.a.lt, by omega⟩
  clear h1 hF hf hd hl hp h2 hcb htl hK
  go_enter Tryz.func65, Tryz.ntmps65
  go_wp2_with fail
  go_loopw [1, 12] (fun kk i wr => ∃ (j r : Nat) (Fl' : Nat → Prop), i = .int .i64 j ∧ j ≤ ts.length ∧ kk = .int .i64 r ∧ Hid (r = K - min (count (d.pend.take j)) K ∧ Set w wr F p d K j (dkCells d bs bl (.slice pa ts.length pc) fz) bs bl Fs Fl' (.slice pa ts.length pc) ts))
    (fun _ i _ => ts.length - (intOf i).toNat)
  case atStart => exact ⟨0, K, Fl, rfl, Nat.zero_le _, rfl, by simp [count], S0.out⟩
  case round =>
    obtain ⟨j, r, Fl', rfl, hj, rfl, HI⟩ := hrel
    by_cases hlt : j < ts.length
    · have hki : (j : Int) < (ts.length : Int) := by omega
      obtain ⟨b, cap, e, q0, q1⟩ := ownT_at HI.out.2.pc.o hlt
      cases e
      obtain ⟨x, hx⟩ : ∃ x, ts[j]'hlt = x := ⟨_, rfl⟩
      rw [hx] at q0 q1
      have hjp : j < d.pend.length := by have := HD.out.2.2.2.2.1; omega
      have hxc : d.pend[j]'hjp = x.2 := by
        have h1 := HD.out.2.2.2.1
        have : (ts.map (·.2))[j]'(by rw [List.length_map]; exact hlt) = x.2 := by rw [List.getElem_map, hx]
        rw [← this]
        congr 1
        exact h1.symm
      have hxm : x ∈ ts := hx ▸ List.getElem_mem hlt
      have hcm : x.2 ∈ d.pend := hxc ▸ List.getElem_mem hjp
      have hgood := HD.out.1.np _ hcm
      have hs1 := steps_pos hgood
      have hdo := HI.out.2.pc.does x hxm
      obtain ⟨N, hN⟩ : ∃ N, steps x.2 = N := ⟨_, rfl⟩
      rw [hN] at q0 hs1
      by_cases hr0 : r = 0
      · -- the first steps are done
        subst hr0
        have hdo' := hdo
        have hst : again d.lasts d.pend K = again d.lasts (d.pend.take j) K := again_stop _ _ _ _ (by omega) (by have := HI.out.1; omega)
        have b1 := below_box wr (.cells #[.int .i64 (N : Nat), fnv x] 96)
        obtain ⟨e1, e2, e3, e4, e5⟩ := hend.out _ _ _ (HI.out.2.below b1) hst
        have HS := Lib.hid e5
        have hN0 : ¬ ((N : Int) < 0) := by omega
        obtain ⟨f, caps, hV⟩ : ∃ f caps, fnv x = .func (.func f) #[] caps := ⟨_, _, rfl⟩
        rw [hV] at q1 e1 e2 e3 e4 HS
        clear hdo hdo' hst b1 e5 hgood hxc hcm hxm hx HI hV hjp
        go_wp2_with fail
        exact bodyPost_end (results_none rfl _ _ _) rfl ⟨rfl, HS.out⟩
      · obtain ⟨f, caps, hV⟩ : ∃ f caps, fnv x = .func (.func f) #[] caps := ⟨_, _, rfl⟩
        have A2 : Arr (wr.alloc (.cells #[.int .i64 (N : Nat), .func (.func f) #[] caps] 96)) wr.heap.size 96 #[.int .i64 (N : Nat), .func (.func f) #[] caps] := Arr.new _ _ _
        have b1 := below_box wr (.cells #[.int .i64 (N : Nat), .func (.func f) #[] caps] 96)
        have S2 := HI.out.2.below b1
        have h64 : Hid ((r : Int) ≤ 1099511627776 ∧ r ≤ K) := by
          have := HI.out.1
          have := HD.out.2.2.2.2.2.2
          exact ⟨by omega, by omega⟩
        obtain ⟨m, hm⟩ : ∃ m, min N r = m := ⟨_, rfl⟩
        have hag := again_snoc d.lasts d.pend K hjp
        rw [hxc, hN, ← HI.out.1, hm] at hag
        have hul := again_used HD.out.1 j K
        have hbg := bytes_get (bytes_of_used (Nat.le_trans hul HD.out.1.cap)) x.2.name
        have hlen := again_length d.lasts (d.pend.take j) K
        rw [List.length_take] at hlen
        have hR := does_runs' Fl' bl (again d.lasts (d.pend.take j) K) (fnv x) x.2 m hgood (by omega) (by omega) (by have := HD.out; omega) (fun hk => by have := pend_s HD.out.1 _ hcm hk; omega) _ S2.pc.l (hdo.below b1)
        rw [hV] at hR q1
        have hcnt := count_take d.pend j hjp
        rw [hxc, hN] at hcnt
        have HJ : Hid (r - m = K - min (count (d.pend.take (j + 1))) K) := by
          have := HI.out.1
          show r - m = _
          rw [hcnt]; omega
        have HM2 : Hid (∀ w2, Made (wr.alloc (.cells #[.int .i64 (N : Nat), .func (.func f) #[] caps] 96)).drew Fl' bl (done (again d.lasts (d.pend.take j) K) x.2 m) w2 →
            (w2.cell? ⟨wr.heap.size, 1, none⟩ = some (.func (.func f) #[] caps) ∧ w2.cell? ⟨p, 3, none⟩ = some (.map (some bl))) ∧
            ∃ Fl2, Set w w2 F p d K (j + 1) (dkCells d bs bl (.slice (some ⟨b, 0, none⟩) ts.length pc) fz) bs bl Fs Fl2 (.slice (some ⟨b, 0, none⟩) ts.length pc) ts) := by
          rintro w2 ⟨Fl2, x1, x2, x3⟩
          have r0 : Below (wr.alloc (.cells #[.int .i64 (N : Nat), .func (.func f) #[] caps] 96)).heap.size (wr.alloc (.cells #[.int .i64 (N : Nat), .func (.func f) #[] caps] 96)) (wr.alloc (.cells #[.int .i64 (N : Nat), .func (.func f) #[] caps] 96)).drew := below_drew (Below.refl _ _)
          rw [← hag] at x1
          have P1 := (S2.pc.below r0).turnL x1 x2 x3
          have hBF : ¬ Fl' wr.heap.size := fun hk => by have := HI.out.2.pc.l.lt hk; omega
          have A3 := x2.arr (A2.below r0) hBF
          refine ⟨⟨A3.cell rfl, P1.cell rfl⟩, Fl2, P1, (S2.fr.then_below r0).trans x2 fun i hi hk => ?_, fun k hk => ?_⟩
          · rcases HI.out.2.nu i (.inr (.inr (.inl hk))) with h | h
            · exact h
            · omega
          · rcases hk with hk | hk | hk | hk
            · exact S2.nu k (.inl hk)
            · exact S2.nu k (.inr (.inl hk))
            · rcases x3 k hk with h3 | h3
              · exact S2.nu k (.inr (.inr (.inl h3)))
              · have := (S2.fr.then_below r0).size
                exact .inr (by omega)
            · exact S2.nu k (.inr (.inr (.inr hk)))
        have HB0 : Hid (∀ W, Below (wr.alloc (.cells #[.int .i64 (N : Nat), .func (.func f) #[] caps] 96)).heap.size (wr.alloc (.cells #[.int .i64 (N : Nat), .func (.func f) #[] caps] 96)) W → W.cell? ⟨wr.heap.size, 1, none⟩ = some (.func (.func f) #[] caps) ∧ W.cell? ⟨p, 3, none⟩ = some (.map (some bl))) :=
          fun W k => ⟨(A2.below k).cell rfl, (S2.pc.below k).cell rfl⟩
        have hm1 : 1 ≤ m := by omega
        have hmr : m ≤ r := by omega
        have hmz : ((m : Int) == 0) = false := by rw [beq_eq_false_iff_ne]; omega
        have hmi : min (r : Int) (N : Int) = (m : Int) := by omega
        have hwr : IntKind.i64.wrap ((r : Int) - (m : Int)) = ((r - m : Nat) : Int) := by
          have := h64.out
          rw [IntWalk.i64_in _ (by omega)]; omega
        have A2c : (wr.alloc (.cells #[.int .i64 (N : Nat), .func (.func f) #[] caps] 96)).cell? ⟨wr.heap.size, 0, none⟩ = some (.int .i64 (N : Nat)) := A2.cell rfl
        obtain ⟨rm, hrm⟩ : ∃ rm, r - m = rm := ⟨_, rfl⟩
        rw [hrm] at hwr HJ
        clear A2 b1 S2 h64 hag hul hbg hlen hcnt hm hgood hxc hcm hxm hx HI hV hjp hdo hs1 hN hrm
        go_upto_region 5 with (fail)
        go_cut [] from 13 to 33 (fun wx => ∃ Fl2, Hid (Set w wx F p d K (j + 1) (dkCells d bs bl (.slice (some ⟨b, 0, none⟩) ts.length pc) fz) bs bl Fs Fl2 (.slice (some ⟨b, 0, none⟩) ts.length pc) ts))
        case first =>
          clear HJ hend hwr
          rcases hR with ⟨a1, a2, hv, hR⟩ | ⟨a1, a2, hv, hR⟩ | ⟨a1, hv, hR⟩
          · exact hv.elim
          · injection hv with e1 _ e2
            injection e1 with e1
            subst e1 e2
            have hrun := hR.out _ (below_drew (Below.refl _ _))
            have k0 := HB0.out _ (below_drew (Below.refl _ _))
            go_region_held3 (fun W => W.cell? ⟨wr.heap.size, 1, none⟩ = some (.func (.func 59) #[] #[.pointer (some ⟨a1, 0, none⟩), .pointer (some ⟨a2, 0, none⟩)]) ∧ W.cell? ⟨p, 3, none⟩ = some (.map (some bl)))
              (first | (with_reducible exact k0) | (with_reducible exact hcl) | go_keep)
              ((go_at_call 59; refine hrun.mono ?_; rintro e w2 ⟨rfl, hM⟩; have hcl := (HM2.out w2 hM).1))
            have hr := (HM2.out w2 hM).2
            clear hrun k0 hR hM HM2 HB0 hcl
            go_wp2_with fail
            go_meet
            case rel => exact hr
          · injection hv with e1 _ e2
            injection e1 with e1
            subst e1 e2
            have hrun := hR.out _ (below_drew (Below.refl _ _))
            have k0 := HB0.out _ (below_drew (Below.refl _ _))
            go_region_held3 (fun W => W.cell? ⟨wr.heap.size, 1, none⟩ = some (.func (.func 80) #[] #[.pointer (some ⟨a1, 0, none⟩)]) ∧ W.cell? ⟨p, 3, none⟩ = some (.map (some bl)))
              (first | (with_reducible exact k0) | (with_reducible exact hcl) | go_keep)
              ((go_at_call 80; refine hrun.mono ?_; rintro e w2 ⟨rfl, hM⟩; have hcl := (HM2.out w2 hM).1))
            have hr := (HM2.out w2 hM).2
            clear hrun k0 hR hM HM2 HB0 hcl
            go_wp2_with fail
            go_meet
            case rel => exact hr
        case rest =>
          obtain ⟨Fl2, M2⟩ := hcut
          clear hR HB0 HM2
          have hwi : IntKind.i64.wrap ((j : Int) + 1) = ((j + 1 : Nat) : Int) := by
            have := HD.out
            rw [IntWalk.i64_in _ (by omega)]; omega
          go_wp2_with fail
          go_roundw
          case rel => exact ⟨j + 1, rm, Fl2, rfl, by omega, rfl, HJ.out, M2.out⟩
          case measure => simp [intOf]; omega
    · obtain rfl : j = ts.length := by omega
      have hst : again d.lasts d.pend K = again d.lasts (d.pend.take ts.length) K := by rw [HD.out.2.2.2.2.1, List.take_length]
      obtain ⟨e1, e2, e3, e4, e5⟩ := hend.out _ _ _ HI.out.2 hst
      have HS := Lib.hid e5
      clear e5 hst HI
      go_wp2_with fail
      exact bodyPost_end (results_none rfl _ _ _) rfl ⟨rfl, HS.out⟩
end Go.Proofs.YtpimdbnhpbjlkaaGreatDoor.dk
