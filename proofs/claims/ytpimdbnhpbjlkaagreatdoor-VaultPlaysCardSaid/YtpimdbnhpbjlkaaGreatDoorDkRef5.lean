/-
  What the reference's New, Count, Crash answer.
-/
import Derived.Test.YtpimdbnhpbjlkaaGreatDoorDkRef4
namespace Go.Proofs.YtpimdbnhpbjlkaaGreatDoor.dk
set_option linter.unusedVariables false
open Go.RowKit
open fl (S S_size S_append S_inj str_eq str_ne)
open rw (Arr But Row Own bnext below_box below_drew below_drewN addr_add)

/-- What New owes. -/
def NewP (n : Int) (w : World) (e : Ending) (w' : World) : Prop := ((n < 0 ∨ 1048576 < n) ∧ e = .returned (.pointer none) ∧ w' = w) ∨ (∃ k : Nat, n = k ∧ k ≤ 1048576 ∧ e = .returned (.pointer (some ⟨w.heap.size, 0, none⟩)) ∧ RefD w' w.heap.size (fresh k) ∧ Below w.heap.size w w')
set_option maxRecDepth 100000 in
theorem refnew_any (n : Int) (w : World) :
    Calls Tryz.prog 7 #[.int .i64 n] w (NewP n w) := by
  by_cases h0 : n < 0
  · have hd : decide (n < 0) = true := decide_eq_true h0
    go_enter Tryz.func7, Tryz.ntmps7
    go_wp2
    go_ret
    exact .inl ⟨.inl h0, rfl, rfl⟩
  · by_cases h1 : n > 1048576
    · have hd : decide (n < 0) = false := decide_eq_false h0
      have hd1 : decide (n > 1048576) = true := decide_eq_true h1
      go_enter Tryz.func7, Tryz.ntmps7
      go_wp2
      go_ret
      exact .inl ⟨.inr h1, rfl, rfl⟩
    · have hd : decide (n < 0) = false := decide_eq_false h0
      have hd1 : decide (n > 1048576) = false := decide_eq_false h1
      obtain ⟨k, rfl⟩ := Int.eq_ofNat_of_zero_le (Int.not_lt.1 h0)
      have HR : Hid (RefD (w.alloc (.cells #[.int .i64 (k : Nat), .slice none 0 0, .slice none 0 0, .slice none 0 0, .bool false, .int .i64 0] 42)) w.heap.size (fresh k)) :=
        ⟨.slice none 0 0, .slice none 0 0, .slice none 0 0, Arr.new w _ _, rw.Sl.nil _ _, rw.Sl.nil _ _, rw.Sl.nil _ _, fun h => absurd rfl h, fun h => absurd rfl h, fun h => absurd rfl h⟩
      go_enter Tryz.func7, Tryz.ntmps7
      go_wp2
      go_ret
      exact .inr ⟨k, rfl, by omega, rfl, HR.out, below_box _ _⟩

theorem count_take (l : List Call) (k : Nat) (h : k < l.length) : count (l.take (k + 1)) = count (l.take k) + steps l[k] := by
  unfold count
  rw [List.take_succ_eq_append_getElem h, List.map_append, List.sum_append]
  simp
theorem steps_le {c : Call} (h : c.s.length ≤ 140737488355328) : steps c ≤ 140737488355328 := by unfold steps; split <;> omega
theorem count_le : ∀ {l : List Call}, (∀ c ∈ l, c.s.length ≤ 140737488355328) → count l ≤ l.length * 140737488355328
  | [], _ => by simp [count]
  | c :: l, h => by
    have h1 := count_le (l := l) (fun x hx => h x (List.mem_cons_of_mem _ hx))
    have h2 := steps_le (h c List.mem_cons_self)
    unfold count at *
    simp only [List.map_cons, List.sum_cons, List.length_cons]
    omega

set_option maxHeartbeats 1000000 in
set_option maxRecDepth 100000 in
theorem refcount_any (xb : Nat) (d : Dk) (hfit : d.pend.length ≤ 1000) (hs : ∀ c ∈ d.pend, c.s.length ≤ 140737488355328) (w : World) (h : RefD w xb d) :
    Calls Tryz.prog 13 #[.pointer (some ⟨xb, 0, none⟩)] w fun e w' => e = .returned (.int .i64 (count d.pend : Nat)) ∧ Below w.heap.size w w' := by
  obtain ⟨sv, lv, pv, ha, _, _, ⟨a, cap, rfl, _, hr, _⟩, _⟩ := h.a
  have HS := Lib.hid hs
  generalize d.pend = l at *
  have HA := Lib.hid (And.intro ha hr)
  have hl2 : (l.length : Nat) ≤ 1000 := hfit
  clear ha hr h hs
  go_enter Tryz.func13, Tryz.ntmps13
  go_wp2
  go_loopw [3, 4] (fun n i wr => ∃ k : Nat, i = .int .i64 k ∧ k ≤ l.length ∧ (∃ u : Nat, n = .int .i64 u ∧ Hid (u = count (l.take k)) ∧ u ≤ 140737488355328000) ∧ Below w.heap.size w wr)
    (fun _ i _ => l.length - (intOf i).toNat)
  case atStart => exact ⟨0, rfl, Nat.zero_le _, ⟨0, rfl, by show 0 = count (l.take 0); simp [count], by omega⟩, Below.refl _ _⟩
  case round =>
    obtain ⟨k, rfl, hk, ⟨u, rfl, HU, hb⟩, hB⟩ := hrel
    have p3 : wr.cell? ⟨xb, 3, none⟩ = some (.slice a l.length cap) := (HA.out.1.below hB).cell rfl
    by_cases hlt : k < l.length
    · obtain ⟨b, off, rfl, hb2, c0, c1, c2⟩ := slC_at (HA.out.2.keep _ hB.size (fun b _ _ h => hB.block b h)) hlt
      have hki : (k : Int) < (l.length : Int) := by omega
      have HN : Hid (u + steps (l[k]'hlt) = count (l.take (k + 1))) := by
        show _ = _
        rw [count_take l k hlt, HU.out]
      have hle : u + steps (l[k]'hlt) ≤ 140737488355328000 := by
        rw [HN.out]
        have h1 := count_le (l := l.take (k + 1)) (fun c hc => HS.out c (List.mem_of_mem_take hc))
        rw [List.length_take] at h1
        omega
      have hst := refsteps_any (l[k]'hlt) wr
      unfold callV at hst
      clear HU
      generalize l[k]'hlt = x at *
      generalize steps x = sx at *
      go_wp2_with fail
      refine hst.mono ?_
      rintro e w2 ⟨rfl, b2⟩
      have hB2 := bnext hB b2
      clear hst b2 c0 c1 c2 p3 hB
      go_wp2_with fail
      go_roundw
      case rel => exact ⟨k + 1, by go_num, by omega, ⟨u + sx, by go_num, HN, hle⟩, hB2⟩
      case measure => simp [intOf]; omega
    · obtain rfl : k = l.length := by omega
      rw [List.take_length] at HU
      go_wp2
      go_ret
      exact ⟨by rw [← HU.out]; rfl, hB⟩

/-! ### Crash -/
theorem again_take (l : List File) : ∀ (p : List Call) (k j : Nat), j ≤ p.length → again l p k = again (again l (p.take j) k) (p.drop j) (k - min (count (p.take j)) k)
  | [], k, j, _ => by simp [again, count]
  | c :: p, k, 0, _ => by simp [again, count]
  | c :: p, k, j + 1, h => by
    rw [List.take_succ_cons, List.drop_succ_cons, again, again, again_take _ p _ j (by simpa using h)]
    congr 1
    have : count (c :: p.take j) = steps c + count (p.take j) := by simp [count]
    rw [this]
    omega
theorem done_le (l : List File) (c : Call) (n : Nat) : (done l c n).length ≤ l.length + 1 := by
  unfold done
  split
  · omega
  · split
    · exact put_length _ _
    · split
      · exact put_length _ _
      · have := without_length l c.name; omega
theorem again_length : ∀ (l : List File) (p : List Call) (k : Nat), (again l p k).length ≤ l.length + p.length
  | l, [], k => by simp [again]
  | l, c :: p, k => by
    unfold again
    have h1 := again_length (done l c (min (steps c) k)) p (k - min (steps c) k)
    have h2 := done_le l c (min (steps c) k)
    rw [List.length_cons]
    omega
/-- Where the loop stands: j calls done again, k steps were given at the start. -/
theorem again_snoc (l : List File) (p : List Call) (k : Nat) {j : Nat} (hj : j < p.length) : again l (p.take (j + 1)) k = done (again l (p.take j) k) p[j] (min (steps p[j]) (k - min (count (p.take j)) k)) := by
  have e : (p.take (j + 1)).take j = p.take j := by rw [List.take_take]; congr 1; omega
  have e2 : (p.take (j + 1)).drop j = [p[j]] := by
    rw [List.take_succ_eq_append_getElem hj, List.drop_left' (by rw [List.length_take]; omega)]
  rw [again_take l (p.take (j + 1)) k j (by rw [List.length_take]; omega), e, e2]
  rfl
theorem bytes_get {l : List File} {B : Nat} (h : ∀ f ∈ l, f.2.length ≤ B) (n : Bs) : ((get l n).getD []).length ≤ B := by
  cases hg : get l n with
  | none => exact Nat.zero_le _
  | some s => exact h _ (get_some hg)
theorem bytes_of_used {l : List File} {B : Nat} (h : used l ≤ B) : ∀ f ∈ l, f.2.length ≤ B := by
  intro f hf
  refine Nat.le_trans ?_ h
  unfold used
  induction l with
  | nil => cases hf
  | cons x l ih =>
    simp only [List.map_cons, List.sum_cons]
    rcases List.mem_cons.1 hf with rfl | hf
    · omega
    · have : used l ≤ B := by unfold used at h ⊢; simp only [List.map_cons, List.sum_cons] at h; omega
      have := ih this hf
      omega
theorem again_used {d : Dk} (h : Right d) (j k : Nat) : used (again d.lasts (d.pend.take j) k) ≤ d.cap := by
  refine again_room _ _ _ h.so fun i => ?_
  rw [List.take_take]
  exact h.room _

set_option maxHeartbeats 4000000 in
set_option maxRecDepth 100000 in
theorem refcrash_any (xb : Nat) (d : Dk) (k : Int) (hk64 : -9223372036854775808 ≤ k ∧ k ≤ 9223372036854775807) (hr : Right d) (hfit : d.pend.length ≤ 1000 ∧ d.lasts.length ≤ 1000) (hs : ∀ c ∈ d.pend, c.s.length ≤ 140737488355328) (w : World) (h : RefD w xb d) :
    Calls Tryz.prog 36 #[.pointer (some ⟨xb, 0, none⟩), .int .i64 k] w fun e w' => e = .returned (.int .i64 ((crash d k).1 : Nat)) ∧ RefD w' xb (crash d k).2 ∧ But xb w w' := by
  have hC := refcount_any xb d hfit.1 hs w h
  by_cases hk0 : k < 0
  · have hd : decide (k < 0) = true := decide_eq_true hk0
    have e : crash d k = (1, d) := by unfold crash; rw [if_pos (.inl hk0)]
    rw [e]
    have HR := Lib.hid h
    clear e hC h hr hk0
    go_enter Tryz.func36, Tryz.ntmps36
    go_wp2_with fail
    go_ret
    exact ⟨rfl, HR.out, But.refl _ _⟩
  have hd : decide (k < 0) = false := decide_eq_false hk0
  obtain ⟨n, rfl⟩ := Int.eq_ofNat_of_zero_le (Int.not_lt.1 hk0)
  by_cases hkc : (count d.pend : Int) < (n : Int)
  · have hd2 : ((n : Nat) : Int) > (count d.pend : Int) := hkc
    have e : crash d (n : Int) = (1, d) := by unfold crash; rw [if_pos (.inr hkc)]
    rw [e]
    have HR := Lib.hid h
    clear e h hr hk0 hkc
    generalize count d.pend = cn at *
    go_enter Tryz.func36, Tryz.ntmps36
    go_wp2_with fail
    refine hC.mono ?_
    rintro e w2 ⟨rfl, b2⟩
    have HR2 := Lib.hid (And.intro (HR.out.below b2) (But.of_below (q := xb) b2))
    clear hC b2
    go_wp2_with fail
    go_ret
    exact ⟨rfl, HR2.out.1, HR2.out.2⟩
  have hd2 : ¬ ((n : Nat) : Int) > (count d.pend : Int) := hkc
  rw [crash_ok (by omega)]
  have HT : Hid (Right d ∧ (∀ c ∈ d.pend, c.s.length ≤ 140737488355328) ∧ d.pend.length ≤ 1000 ∧ d.lasts.length ≤ 1000 ∧ n ≤ count d.pend) := ⟨hr, hs, hfit.1, hfit.2, by omega⟩
  have hp9 : (d.pend.length : Nat) ≤ 1000 := hfit.1
  have HRD := Lib.hid h
  obtain ⟨cn, hcn⟩ : ∃ cn, count d.pend = cn := ⟨_, rfl⟩
  rw [hcn] at hC hd2
  replace hcn := Lib.hid hcn
  clear h hr hs hfit hk0 hkc
  go_enter Tryz.func36, Tryz.ntmps36
  go_wp2_with fail
  refine hC.mono ?_
  rintro e w1 ⟨rfl, b1⟩
  have h1 := HRD.out.below b1
  have B1 := Lib.hid (But.of_below (q := xb) b1)
  obtain ⟨sv, lv, pv, ha, s1, s2, s3, o1, o2, o3⟩ := h1.a
  obtain ⟨c0, c1, c2, c3, c4, c5⟩ := RefD.cells ha
  have HD : Hid (Arr w1 xb 42 (diskCells d sv lv pv) ∧ SlF w1 sv d.seen ∧ SlF w1 lv d.lasts ∧ SlC w1 pv d.pend ∧ rw.Off xb lv d.lasts) := ⟨ha, s1, s2, s3, o2⟩
  obtain ⟨sa, sn, sc, rfl⟩ : ∃ a n c, sv = .slice a n c := by obtain ⟨a, c, e, _⟩ := s1; exact ⟨a, _, c, e⟩
  obtain ⟨la, ln, lc, rfl⟩ : ∃ a n c, lv = .slice a n c := by obtain ⟨a, c, e, _⟩ := s2; exact ⟨a, _, c, e⟩
  obtain ⟨pa, pc, rfl, hpc, hpr, hpn⟩ := s3
  have HX : Hid (xb < w1.heap.size) := h1.lt
  clear hC b1 HRD h1 ha s1 s2 o1 o2 o3 hpc hpr hpn
  go_wp2_with fail
  rw [show decide (cn < n) = false from decide_eq_false (by omega)]
  go_loopw [1, 5, 6] (fun kk v i wr => ∃ (j r : Nat), i = .int .i64 j ∧ j ≤ d.pend.length ∧ kk = .int .i64 r ∧ Hid (r = n - min (count (d.pend.take j)) n ∧ r ≤ n ∧ SlF wr v (again d.lasts (d.pend.take j) n) ∧ rw.Off xb v (again d.lasts (d.pend.take j) n) ∧ Below w1.heap.size w1 wr))
    (fun _ _ i _ => d.pend.length - (intOf i).toNat)
  case atStart => exact ⟨0, n, rfl, Nat.zero_le _, rfl, by simp [count], Nat.le_refl _, HD.out.2.2.1, HD.out.2.2.2.2, Below.refl _ _⟩
  case round =>
    obtain ⟨j, r, rfl, hj, rfl, HI⟩ := hrel
    obtain ⟨hrr, hrn, hsl, hof, hB⟩ := HI.out
    have p3 : wr.cell? ⟨xb, 3, none⟩ = some (.slice pa d.pend.length pc) := (HD.out.1.below hB).cell rfl
    by_cases hlt : j < d.pend.length
    · have hsC := HD.out.2.2.2.1.later _ hB
      obtain ⟨a2, c2', e2, _, hr2, _⟩ := hsC
      cases e2
      obtain ⟨b, off, rfl, hb2, q0, q1, q2⟩ := slC_at hr2 hlt
      have hki : (j : Int) < (d.pend.length : Int) := by omega
      obtain ⟨c, hc⟩ : ∃ c, d.pend[j]'hlt = c := ⟨_, rfl⟩
      rw [hc] at q0 q1 q2
      have hst := refsteps_any c wr
      have hcm : c ∈ d.pend := by rw [← hc]; exact List.getElem_mem hlt
      have hcs := HT.out.2.1 c hcm
      have hsn := steps_le hcs
      -- the call again
      have hag := again_snoc d.lasts d.pend n hlt
      rw [hc, ← hrr] at hag
      have hul := again_used HT.out.1 j n
      have hbg := bytes_get (bytes_of_used (Nat.le_trans hul HT.out.1.cap)) c.name
      have hlen := again_length d.lasts (d.pend.take j) n
      rw [List.length_take] at hlen
      have HDn := Lib.hid (fun W h => refdone_any u5 (again d.lasts (d.pend.take j) n) c (min (steps c) r) (by have := HT.out.2.2; omega) (Nat.min_le_left _ _) (by omega) hcs W h)
      have hcnt := count_take d.pend j hlt
      rw [hc] at hcnt
      have HM : Hid (∀ W u, SlF W u (done (again d.lasts (d.pend.take j) n) c (min (steps c) r)) → (u = u5 ∨ Own fileSh W wr.heap.size u (done (again d.lasts (d.pend.take j) n) c (min (steps c) r))) → Below wr.heap.size wr W →
          (r - min (steps c) r = n - min (count (d.pend.take (j + 1))) n ∧ r - min (steps c) r ≤ n ∧ SlF W u (again d.lasts (d.pend.take (j + 1)) n) ∧ rw.Off xb u (again d.lasts (d.pend.take (j + 1)) n) ∧ Below w1.heap.size w1 W)) := fun W u hu ho hb => by
        refine ⟨by rw [hcnt]; omega, by omega, by rw [hag]; exact hu, ?_, bnext hB hb⟩
        rw [hag]
        rcases ho with rfl | ho
        · intro hne
          obtain ⟨a7, c7, e7, _⟩ := hsl
          obtain ⟨a8, c8, e8, _⟩ := hu
          rw [e7] at e8
          have hl7 : (((again d.lasts (d.pend.take j) n)).length : Nat) = (done (again d.lasts (d.pend.take j) n) c (min (steps c) r)).length := by injection e8
          exact hof fun h0 => hne (List.eq_nil_of_length_eq_zero (by rw [← hl7, h0]; rfl))
        · exact ho.off _ (Nat.lt_of_lt_of_le HX.out hB.size)
      have HSL := Lib.hid hsl
      have HB := Lib.hid hB
      clear HI hrr hsl hof hB hr2 hcm hcs hag hul hbg hlen hcnt
      replace hc := Lib.hid hc
      have hcw := hc
      clear hc
      obtain ⟨sx, hsx⟩ : ∃ sx, steps c = sx := ⟨_, rfl⟩
      rw [hsx] at hst HDn HM hsn
      unfold callV at hst
      by_cases hgt : (sx : Int) > (r : Int)
      · have em : min sx r = r := by omega
        rw [em] at HDn HM
        go_wp2_with fail
        refine hst.mono ?_
        rintro e w2 ⟨rfl, b2⟩
        clear hst
        have hB2 := Lib.hid (bnext HB.out b2)
        have p3' : w2.cell? ⟨xb, 3, none⟩ = some (.slice (some ⟨b, off, none⟩) d.pend.length pc) := (HD.out.1.below hB2.out).cell rfl
        obtain ⟨a4, c4', e4, _, hr4, _⟩ := HD.out.2.2.2.1.later _ hB2.out
        cases e4
        obtain ⟨b', off', e4', _, q0', q1', q2'⟩ := slC_at hr4 hlt
        cases e4'
        have hdn := HDn.out w2 (HSL.out.later _ b2)
        rw [hcw.out] at q0' q1' q2'
        unfold callV at hdn
        clear hr4 q0 q1 q2 p3
        go_wp2_with fail
        refine hdn.mono ?_
        rintro e w3 ⟨⟨u, rfl, hu, ho⟩, b3⟩
        have HF := Lib.hid (HM.out w3 u hu (ho.imp id fun o => own_lower o b2.size) (b2.trans (b3.mono b2.size)))
        have hw : IntKind.i64.wrap ((r : Int) - (r : Int)) = ((r - r : Nat) : Int) := by
          rw [IntWalk.i64_in _ (by omega)]; omega
        obtain ⟨ua, uc, rfl, _⟩ := id hu
        clear hdn hu ho b3 q0' q1' q2' p3'
        rw [Nat.sub_self] at HF
        go_wp2_with fail
        go_roundw
        case rel => exact ⟨j + 1, 0, by go_num, by omega, rfl, HF⟩
        case measure => simp [intOf]; omega
      · have em : min sx r = sx := by omega
        rw [em] at HDn HM
        go_wp2_with fail
        refine hst.mono ?_
        rintro e w2 ⟨rfl, b2⟩
        clear hst
        have hB2 := Lib.hid (bnext HB.out b2)
        have p3' : w2.cell? ⟨xb, 3, none⟩ = some (.slice (some ⟨b, off, none⟩) d.pend.length pc) := (HD.out.1.below hB2.out).cell rfl
        obtain ⟨a4, c4', e4, _, hr4, _⟩ := HD.out.2.2.2.1.later _ hB2.out
        cases e4
        obtain ⟨b', off', e4', _, q0', q1', q2'⟩ := slC_at hr4 hlt
        cases e4'
        have hdn := HDn.out w2 (HSL.out.later _ b2)
        rw [hcw.out] at q0' q1' q2'
        unfold callV at hdn
        clear hr4 q0 q1 q2 p3
        go_wp2_with fail
        refine hdn.mono ?_
        rintro e w3 ⟨⟨u, rfl, hu, ho⟩, b3⟩
        have HF := Lib.hid (HM.out w3 u hu (ho.imp id fun o => own_lower o b2.size) (b2.trans (b3.mono b2.size)))
        have hw : IntKind.i64.wrap ((r : Int) - (sx : Int)) = ((r - sx : Nat) : Int) := by
          rw [IntWalk.i64_in _ (by omega)]; omega
        obtain ⟨ua, uc, rfl, _⟩ := id hu
        clear hdn hu ho b3 q0' q1' q2' p3'
        generalize r - sx = r2 at *
        go_wp2_with fail
        go_roundw
        case rel => exact ⟨j + 1, r2, by go_num, by omega, by go_num, HF⟩
        case measure => simp [intOf]; omega
    · obtain rfl : j = d.pend.length := by omega
      rw [List.take_length] at hsl hof
      obtain ⟨L, hL⟩ : ∃ L, again d.lasts d.pend n = L := ⟨_, rfl⟩
      rw [hL] at hsl hof
      replace hL := Lib.hid hL
      have ha := HD.out.1.below hB
      have f1 := ha.frozen 1
      have HH := Lib.hid (And.intro ha (And.intro hsl (And.intro hof ((B1.out.then_below hB)))))
      have q1 : wr.cell? ⟨xb, 1, none⟩ = some (.slice sa sn sc) := ha.cell rfl
      obtain ⟨ua, uc, rfl, _⟩ := id hsl
      clear hsl hof ha HI hrr hrn hB hd2
      go_upto_region 13 with (fail)
      obtain ⟨W1, hW1⟩ : ∃ W, wr.setCell ⟨xb, 1, none⟩ (.slice ua L.length uc) = W := ⟨_, rfl⟩
      have K1 : Hid (Arr W1 xb 42 (diskCells { d with seen := L } (.slice ua L.length uc) (.slice la ln lc) (.slice pa d.pend.length pc)) ∧ SlF W1 (.slice ua L.length uc) L ∧ rw.Off xb (.slice ua L.length uc) L ∧ But xb w W1) := by
        rw [← hW1]
        exact ⟨HH.out.1.set 1 _, HH.out.2.1.but _ ((But.refl _ _).set 1 _) HH.out.2.2.1, HH.out.2.2.1, HH.out.2.2.2.set 1 _⟩
      rw [hW1]
      clear hW1 HH f1 q1 p3
      have f2 := K1.out.1.frozen 2
      have q2 : W1.cell? ⟨xb, 2, none⟩ = some (.slice la ln lc) := K1.out.1.cell rfl
      go_upto_region 14 with (fail)
      obtain ⟨W2, hW2⟩ : ∃ W, W1.setCell ⟨xb, 2, none⟩ (.slice ua L.length uc) = W := ⟨_, rfl⟩
      have K2 : Hid (Arr W2 xb 42 (diskCells { d with seen := L, lasts := L } (.slice ua L.length uc) (.slice ua L.length uc) (.slice pa d.pend.length pc)) ∧ SlF W2 (.slice ua L.length uc) L ∧ rw.Off xb (.slice ua L.length uc) L ∧ But xb w W2) := by
        rw [← hW2]
        exact ⟨K1.out.1.set 2 _, K1.out.2.1.but _ ((But.refl _ _).set 2 _) K1.out.2.2.1, K1.out.2.2.1, K1.out.2.2.2.set 2 _⟩
      rw [hW2]
      clear hW2 K1 f2 q2
      have f3 := K2.out.1.frozen 3
      have q3 : W2.cell? ⟨xb, 3, none⟩ = some (.slice pa d.pend.length pc) := K2.out.1.cell rfl
      go_upto_region 15 with (fail)
      obtain ⟨W3, hW3⟩ : ∃ W, W2.setCell ⟨xb, 3, none⟩ (.slice none 0 0) = W := ⟨_, rfl⟩
      have K3 : Hid (Arr W3 xb 42 (diskCells { d with seen := L, lasts := L, pend := [] } (.slice ua L.length uc) (.slice ua L.length uc) (.slice none 0 0)) ∧ SlF W3 (.slice ua L.length uc) L ∧ rw.Off xb (.slice ua L.length uc) L ∧ But xb w W3) := by
        rw [← hW3]
        exact ⟨K2.out.1.set 3 _, K2.out.2.1.but _ ((But.refl _ _).set 3 _) K2.out.2.2.1, K2.out.2.2.1, K2.out.2.2.2.set 3 _⟩
      rw [hW3]
      clear hW3 K2 f3 q3
      have f4 := K3.out.1.frozen 4
      have q4 : W3.cell? ⟨xb, 4, none⟩ = some (.bool d.fused) := K3.out.1.cell rfl
      have HR4 : Hid (RefD (W3.setCell ⟨xb, 4, none⟩ (.bool false)) xb { d with seen := L, lasts := L, pend := [], fused := false } ∧ But xb w (W3.setCell ⟨xb, 4, none⟩ (.bool false))) :=
        ⟨RefD.store K3.out.1 4 _ rfl K3.out.2.1 K3.out.2.1 (rw.Sl.nil _ _) K3.out.2.2.1 K3.out.2.2.1 (fun hh => absurd rfl hh), K3.out.2.2.2.set 4 _⟩
      clear K3
      go_wp2_with fail
      go_ret
      rw [hL.out]
      exact ⟨rfl, HR4.out.1, HR4.out.2⟩
end Go.Proofs.YtpimdbnhpbjlkaaGreatDoor.dk
