/-
  The program's do: what is seen turns, and the call is pending.
-/
import Derived.Test.YtpimdbnhpbjlkaaGreatDoorDkP4
import Derived.Test.YtpimdbnhpbjlkaaGreatDoorDkRef5
import Derived.Deep.RegionWith
import Derived.Deep.RegionLaw
import Derived.Deep.CutRange
namespace Go.Proofs.YtpimdbnhpbjlkaaGreatDoor.dk
set_option linter.unusedVariables false
open Go.RowKit
open fl (S S_size S_append S_inj str_eq str_ne)
open rw (Arr But Row Own bnext below_box below_drew below_drewN addr_add Fr RowB)
open mp (Mp Turned kget kput kwithout kmap KSorted)

/-- 'append(v, x)': where the new row lies, too. -/
theorem append_at {α : Type} (s : rw.Sh α) (B : Nat) (v : Value) (o : List α) (x : α) (ad : Addr) (c : Nat) (hlen : o.length < 34359738368) (w : World) (ho : Own s w B v o) (hB : B ≤ w.heap.size) (hu : rw.Sl s w (.slice (some ad) 1 c) [x]) :
    ∃ v' w', rw.App s v (.slice (some ad) 1 c) w v' w' ∧ Own s w' B v' (o ++ [x]) ∧ w.grownBy w' v.ownBlock ∧ (v'.ownBlock = v.ownBlock ∨ v'.ownBlock = some w.heap.size) := by
  obtain ⟨v', w', h1, h2, _, h4⟩ := rw.append_own s B v o [x] _ (by simp; omega) w ho hB hu
  obtain ⟨i0, hi, hz0, hz1, hz2⟩ := info_parts s.hi
  obtain ⟨a, c', e, hc, hr, hn⟩ := hu
  cases e
  rcases hr with hr | ⟨b, off, hab, hbw, hcell, _⟩
  · cases hr
  · obtain rfl : ad = ⟨b, off, none⟩ := Option.some.inj hab
    have hnews : ∀ j y, (rw.cellsG s [x])[j]? = some y → w.cell? ((⟨b, off, none⟩ : Addr).add j) = some y := by
      intro j y hj
      have hjl : j < s.k := by
        rcases Nat.lt_or_ge j s.k with h | h
        · exact h
        · rw [List.getElem?_eq_none (by rw [rw.cellsG_length]; simpa using h)] at hj; cases hj
      have h2 := hcell 0 (by simp) j hjl
      rw [Nat.zero_mul, Nat.add_zero] at h2
      rw [addr_add, h2, ← hj, rw.cellsG_one]
      rfl
    have hby : (o.length + 1) * s.bytes ≤ 140737488355328 := Nat.le_trans (Nat.mul_le_mul (show o.length + 1 ≤ 34359738368 by omega) s.hb) (by decide)
    obtain ⟨v2, w2, g1, _, _, _, g5⟩ := run_append_own_at (P := Tryz.prog) (w := w) B s.st s.st s.t i0 s.z s.k s.bytes s.hu hi hz0 hz1 hz2 s.hz s.hk v o.length (rw.cellsG s o) ho ⟨b, off, none⟩ 1 c
      (rw.cellsG s [x]) (rw.cellsG_length s [x]) hnews (rw.cellsG_cell s) (by unfold maxLen; omega) hby hB
    have h1' := h1
    unfold rw.App at h1'
    rw [g1] at h1'
    injection h1' with e1 e2
    subst e1 e2
    exact ⟨_, _, h1, h2, h4, g5⟩
theorem step_push {α : Type} (s : rw.Sh α) {ops : Array Oper} {o : Oper} {a : Act} {w : World} {K : Act → World → Prop} {Q : Exit → Act → World → Prop} {E : Prop} (hgd : o.guard = none) (x y : Operand)
    (ho : o.op = .call { callee := .builtin .append, args := #[x, y], argTypes := #[s.st, s.st] }) (hty : o.type = s.st) (B : Nat) (v : Value) (ad : Addr) (c : Nat) (m : List α) (z : α) (hx : a.eval x = v) (hy : a.eval y = .slice (some ad) 1 c)
    (hlen : m.length < 34359738368) (hown : Own s w B v m) (hB : B ≤ w.heap.size) (hu : rw.Sl s w (.slice (some ad) 1 c) [z])
    (h : ∀ ad cp w', Own s w' B (.slice ad (m.length + 1) cp) (m ++ [z]) → w.grownBy w' v.ownBlock → ((Value.slice ad (m.length + 1) cp).ownBlock = v.ownBlock ∨ (Value.slice ad (m.length + 1) cp).ownBlock = some w.heap.size) → K (a.put o.dst (.slice ad (m.length + 1) cp)) w') :
    if Region.wanted o (yielded ops a.tmps) = true then Oper.wp Tryz.prog o a w K Q else E := by
  have hw : Region.wanted o (yielded ops a.tmps) = true := by simp [Region.wanted, hgd]
  rw [if_pos hw]
  obtain ⟨v', w', hr, h2, h3, h4⟩ := append_at s B v m z ad c hlen w hown hB hu
  unfold rw.App at hr
  unfold Oper.wp execOp
  simp only [ho, hty, resolve, invoke, builtin, Sem.run_bind, Sem.run_pure, Result.andThen_ok, List.map_toArray, List.map_cons, List.map_nil, hx, hy, hr]
  obtain ⟨ad', cp, rfl⟩ := h2.form
  rw [List.length_append] at h2 h4 ⊢
  exact h ad' cp w' (by simpa using h2) h3 h4

/-- What a closure does, by its kind. -/
theorem does_runs (F : Nat → Prop) (b : Nat) (l : List File) (v : Value) (c : Call) (n : Nat) (hc : Good c) (hn1 : 1 ≤ n) (hn2 : n ≤ steps c) (hl : l.length ≤ 1000000) (hz : ((get l c.name).getD []).length + c.s.length ≤ 140737488355328) (w : World) (h : FM w F b l) (hd : Does w v c) :
    (∃ a1 a2 : Nat, False ∧ Hid True) ∨
    (∃ a1 a2, v = .func (.func 59) #[] #[.pointer (some ⟨a1, 0, none⟩), .pointer (some ⟨a2, 0, none⟩)] ∧
      Hid (∀ W, Below w.heap.size w W → Calls Tryz.prog 59 #[.map (some b), .int .i64 (n : Nat), .pointer (some ⟨a1, 0, none⟩), .pointer (some ⟨a2, 0, none⟩)] W fun e w' => e = .returned (.tuple #[]) ∧ Made W F b (done l c n) w')) ∨
    (∃ a1, v = .func (.func 80) #[] #[.pointer (some ⟨a1, 0, none⟩)] ∧
      Hid (∀ W, Below w.heap.size w W → Calls Tryz.prog 80 #[.map (some b), .int .i64 (n : Nat), .pointer (some ⟨a1, 0, none⟩)] W fun e w' => e = .returned (.tuple #[]) ∧ Made W F b (done l c n) w')) := by
  rcases hd with ⟨h1, a1, a2, h2, h3, h4⟩ | ⟨h1, a1, a2, h2, h3, h4⟩ | ⟨h1, a1, h2, h3⟩
  · exact h2.elim
  · exact .inr (.inl ⟨a1, a2, h2, fun W k => put1_any F b l c a1 a2 n h1 hc hn1 hl (by omega) W (h.below k) (h3.of (k.block _ h3.lt)) (h4.of (k.block _ h4.lt))⟩)
  · exact .inr (.inr ⟨a1, h2, fun W k => drop1_any F b l c a1 n h1 hc hn1 W (h.below k) (h3.of (k.block _ h3.lt))⟩)
theorem fo_s {p : Nat} {Fs Fl : Nat → Prop} {pv : Value} {k : Nat} (h : Fs k) : fo p Fs Fl pv k := .inr (.inl h)
theorem count_snoc (l : List Call) (c : Call) : count (l ++ [c]) = count l + steps c := by simp [count]

theorem used_done {l : List File} (h : Sorted l) (c : Call) {n : Nat} (hn : 1 ≤ n) : used (done l c n) + ((get l c.name).getD []).length = used l + ((get (done l c n) c.name).getD []).length := by
  unfold done
  rw [if_neg (by omega)]
  split
  · have := used_put h (c.name, (get l c.name).getD [] ++ c.s.take n)
    rw [get_put_same h]
    exact this
  · split
    · have := used_put h (c.name, c.s)
      rw [get_put_same h]
      exact this
    · have := used_without h c.name
      rw [get_without_same]
      simp only [Option.getD_none, List.length_nil]
      omega
/-- What is there behind the closure. -/
structure Mid (w w2 : World) (F : Nat → Prop) (p : Nat) (d : Dk) (L : List File) (B : Nat) (x : TC) (cs : Array Value) (bs bl : Nat) (Fs Fl : Nat → Prop) (pv : Value) (ts : List TC) : Prop where
  pc : Pc w2 p cs bs bl Fs Fl L d.lasts pv ts
  box : Arr w2 B 96 #[.int .i64 (steps x.2 : Nat), fnv x]
  does : Does w2 (fnv x) x.2
  fr : Fr F w w2
  nu : Nu w F (fo p Fs Fl pv)
theorem Mid.below {w w2 w3 : World} {F : Nat → Prop} {p : Nat} {d : Dk} {L : List File} {B : Nat} {x : TC} {cs : Array Value} {bs bl : Nat} {Fs Fl : Nat → Prop} {pv : Value} {ts : List TC}
    (h : Mid w w2 F p d L B x cs bs bl Fs Fl pv ts) (k : Below w2.heap.size w2 w3) : Mid w w3 F p d L B x cs bs bl Fs Fl pv ts :=
  ⟨h.pc.below k, h.box.below k, h.does.below k, h.fr.then_below k, h.nu⟩
theorem Mid.set {w w2 : World} {F : Nat → Prop} {p : Nat} {d : Dk} {L : List File} {B : Nat} {x : TC} {cs : Array Value} {bs bl : Nat} {Fs Fl : Nat → Prop} {pv : Value} {ts : List TC}
    (h : Mid w w2 F p d L B x cs bs bl Fs Fl pv ts) (hB : B ≠ p) (hp : F p) (j : Nat) (u : Value) : Mid w (w2.setCell ⟨p, j, none⟩ u) F p d L B x (cs.setIfInBounds j u) bs bl Fs Fl pv ts := by
  have k := (But.refl p w2).set j u
  have kf : Fr (fun i => i = p) w2 (w2.setCell ⟨p, j, none⟩ u) := Fr.but k rfl
  exact ⟨h.pc.set j u, k.arr h.box hB, h.does.fr kf (fun i hi s hs => h.pc.nobox i (.inl hi) s hs), h.fr.trans kf fun i _ e => e ▸ hp, h.nu⟩

theorem Step.after {w W w' : World} {F F1 : Nat → Prop} {p : Nat} {d : Dk} (hF : Fr F w W) (hN : Nu w F F1) (h : Step W F1 p d w') : Step w F p d w' := by
  obtain ⟨F', h1, h2, h3⟩ := h
  refine ⟨F', h1, hF.trans h2 fun i hi hk => ?_, hN.trans h3 hF.size⟩
  rcases hN i hk with h | h
  · exact h
  · omega
set_option maxHeartbeats 4000000 in
set_option maxRecDepth 100000 in
theorem do_any (F : Nat → Prop) (p : Nat) (d : Dk) (x : TC) (hc : Good x.2) (ho : off d = false) (hcap : d.cap ≤ 1048576) (hl : d.seen.length ≤ 100000) (hp : d.pend.length ≤ 100000) (hu0 : used d.seen ≤ 1048576) (hu : used (done d.seen x.2 (steps x.2)) ≤ 1048576)
    (hso : Sorted d.seen) (hsl : x.2.s.length ≤ 1048576) (hcnt : count d.pend + steps x.2 ≤ 1099511627776) (w : World) (h : PD w F p d) (hx : Does w (fnv x) x.2) :
    Calls Tryz.prog 58 #[.pointer (some ⟨p, 0, none⟩), .string (S x.2.name), .agg #[.int .i64 (steps x.2 : Nat), fnv x]] w fun e w' => e = .returned (.tuple #[]) ∧
      Step w F p (spend { d with seen := done d.seen x.2 (steps x.2), pend := d.pend ++ [x.2] }) w' := by
  obtain ⟨N, hN⟩ : ∃ N, steps x.2 = N := ⟨_, rfl⟩
  obtain ⟨L, hL⟩ : ∃ L, done d.seen x.2 N = L := ⟨_, rfl⟩
  have hs1 := steps_pos hc
  have hgrow := used_done hso x.2 hs1
  have hsteps : steps x.2 ≤ 1048576 := by unfold steps; split <;> omega
  have hn2 : N ≤ steps x.2 := Nat.le_of_eq hN.symm
  rw [hN] at hu hcnt hs1 hgrow hsteps ⊢
  rw [hL] at hu hgrow ⊢
  obtain ⟨bs, bl, Fs, Fl, pv, ts, fz, h1, h2, hf, hF⟩ := h
  have hnm : x.2.name.length ≤ maxLen := by have := hc.1.2; unfold maxLen; omega
  have hgl : ∀ l : List File, used l ≤ 1048576 → ((get l x.2.name).getD []).length ≤ 1048576 := fun l hl => bytes_get (bytes_of_used hl) _
  have g0 := hgl _ hu0
  have g1 := hgl _ hu
  have hltp := h1.a.lt
  -- behind the box of t
  obtain ⟨g, caps, hV⟩ : ∃ g caps, fnv x = .func (.func g) #[] caps := ⟨_, _, rfl⟩
  rw [hV] at hx ⊢
  obtain ⟨W0, hW0⟩ : ∃ W0, w.alloc (.cells #[.int .i64 (N : Nat), .func (.func g) #[] caps] 96) = W0 := ⟨_, rfl⟩
  have b0 : Below w.heap.size w W0 := hW0 ▸ below_box w _
  have A0 : Arr W0 w.heap.size 96 #[.int .i64 (N : Nat), .func (.func g) #[] caps] := hW0 ▸ Arr.new _ _ _
  have z0 : W0.heap.size = w.heap.size + 1 := hW0 ▸ rw.size_1 _ _
  have P0 := h1.below b0
  have X0 := hx.below b0
  have hR := does_runs Fs bs d.seen (.func (.func g) #[] caps) x.2 N hc hs1 hn2 (by omega) (by omega) _ P0.s X0
  rw [hL] at hR
  have hS0 := size_any Fs bs d.seen x.2.name hnm _ P0.s
  -- behind the closure
  have HM2 : Hid (∀ w2, Made W0.drew Fs bs L w2 →
      (w2.cell? ⟨w.heap.size, 0, none⟩ = some (.int .i64 (N : Nat)) ∧ w2.cell? ⟨w.heap.size, 1, none⟩ = some (.func (.func g) #[] caps) ∧ w2.cell? ⟨p, 1, none⟩ = some (.map (some bs))) ∧
      ∃ Fs', Mid w w2 F p d L w.heap.size x (dkCells d bs bl pv fz) bs bl Fs' Fl pv ts) := by
    rintro w2 ⟨Fs', x1, x2, x3⟩
    have r : Below W0.heap.size W0 W0.drew := below_drew (Below.refl _ _)
    have P1 := (P0.below r).turn x1 x2 x3
    have hBF : ¬ Fs w.heap.size := fun hk => by have := h1.lt (fo_s (p := p) (Fl := Fl) (pv := pv) hk); omega
    have A2 := x2.arr (A0.below r) hBF
    have hnb : NoBox W0.drew Fs := fun k hk s hs => (P0.below r).nobox k (.inr (.inl hk)) s hs
    have D2 := (X0.below r).fr x2 hnb
    have hsz : W0.drew.heap.size = w.heap.size + 1 := z0
    refine ⟨⟨A2.cell rfl, A2.cell rfl, P1.cell rfl⟩, Fs', P1, by rw [hN, hV]; exact A2, by rw [hV]; exact D2, (Fr.of_below (F := F) (b0.trans (r.mono b0.size))).trans x2 (fun i _ hi => (hF i).2 (fo_s hi)), fun k hk => ?_⟩
    rcases hk with hk | hk | hk | hk
    · exact .inl ((hF k).2 (.inl hk))
    · rcases x3 k hk with h3 | h3
      · exact .inl ((hF k).2 (fo_s h3))
      · exact .inr (by omega)
    · exact .inl ((hF k).2 (.inr (.inr (.inl hk))))
    · exact .inl ((hF k).2 (.inr (.inr (.inr hk))))
  have HB0 : Hid (∀ W, Below W0.heap.size W0 W → W.cell? ⟨w.heap.size, 0, none⟩ = some (.int .i64 (N : Nat)) ∧ W.cell? ⟨w.heap.size, 1, none⟩ = some (.func (.func g) #[] caps) ∧ W.cell? ⟨p, 1, none⟩ = some (.map (some bs))) :=
    fun W k => ⟨(A0.below k).cell rfl, (A0.below k).cell rfl, (P0.below k).cell rfl⟩
  have cs0 : W0.cell? ⟨p, 1, none⟩ = some (.map (some bs)) := P0.cell rfl
  -- the numbers
  obtain ⟨z, hz⟩ : ∃ z : Int, (((get L x.2.name).getD []).length : Int) - (((get d.seen x.2.name).getD []).length : Int) = z := ⟨_, rfl⟩
  have hz1 : IntKind.i64.wrap ((((get L x.2.name).getD []).length : Int) - (((get d.seen x.2.name).getD []).length : Int)) = z := by rw [hz]; exact IntWalk.i64_in _ (by omega)
  have hz2 : IntKind.i64.wrap ((used d.seen : Int) + z) = (used L : Int) := by
    have : (used d.seen : Int) + z = (used L : Int) := by omega
    rw [this]; exact IntWalk.i64_in _ (by omega)
  have hz3 : IntKind.i64.wrap ((count d.pend : Int) + (N : Int)) = ((count d.pend + N : Nat) : Int) := by rw [Int.natCast_add]; exact IntWalk.i64_in _ (by omega)
  have HS2 : Hid (∀ Fs' w2, FM w2 Fs' bs L → Calls Tryz.prog 56 #[.map (some bs), .string (S x.2.name)] w2 fun e w' => e = .returned (.int .i64 (((get L x.2.name).getD []).length : Nat)) ∧ w' = w2) := fun Fs' w2 h => size_any Fs' bs L x.2.name hnm w2 h
  have HX : Hid (ts.map (·.2) = d.pend ∧ FuseOk d fz ∧ off d = false ∧ steps x.2 = N ∧ F p ∧ w.heap.size ≠ p ∧ d.pend.length ≤ 100000 ∧ ∀ q, pv.ownBlock = some q → q < w.heap.size ∧ F q) := ⟨h2, hf, ho, hN, (hF p).2 (.inl rfl), by omega, hp, fun q hq => ⟨h1.lt (.inr (.inr (.inr hq))), (hF q).2 (.inr (.inr (.inr hq)))⟩⟩
  have HV := Lib.hid hV
  clear h1 hF hf h2 hgl g0 g1 hs1 hgrow A0 P0 b0 hnm ho hcap hl hu0 hu hso hsl hcnt hc hz hsteps hltp hp hL hN hV hn2 hx X0 z0
  generalize ((get L x.2.name).getD []).length = n1 at *
  generalize ((get d.seen x.2.name).getD []).length = n0 at *
  obtain ⟨cp, hcp⟩ : ∃ cp, count d.pend = cp := ⟨_, rfl⟩
  rw [hcp] at hz3
  have HCP := Lib.hid hcp
  clear hcp
  obtain ⟨u0, hu0⟩ : ∃ u, used d.seen = u := ⟨_, rfl⟩
  rw [hu0] at hz2
  have HU0 := Lib.hid hu0
  clear hu0
  go_enter Tryz.func58, Tryz.ntmps58
  go_upto_region 1 with (fail)
  clear hW0
  go_wp2_with fail
  refine hS0.mono ?_
  rintro e w1 ⟨rfl, rfl⟩
  clear hS0 cs0
  go_upto_region 2 with (fail)
  go_cut [] from 13 to 21 (fun wx => ∃ Fs2, Hid (Mid w wx F p d L w.heap.size x (dkCells d bs bl pv fz) bs bl Fs2 Fl pv ts))
  case first =>
    clear HS2 HX HCP HU0 hz1 hz2 hz3
    rcases hR with ⟨a1, a2, hv, hR⟩ | ⟨a1, a2, hv, hR⟩ | ⟨a1, hv, hR⟩
    · exact hv.elim
    · injection hv with e1 _ e2
      injection e1 with e1
      subst e1 e2
      have hrun := hR.out w1.drew (below_drew (Below.refl _ _))
      have k0 : w1.drew.cell? ⟨w.heap.size, 0, none⟩ = some (.int .i64 (N : Nat)) := (HB0.out w1.drew (below_drew (Below.refl _ _))).1
      have k1 : w1.drew.cell? ⟨w.heap.size, 1, none⟩ = some (.func (.func 59) #[] #[.pointer (some ⟨a1, 0, none⟩), .pointer (some ⟨a2, 0, none⟩)]) := (HB0.out w1.drew (below_drew (Below.refl _ _))).2.1
      have k2 : w1.drew.cell? ⟨p, 1, none⟩ = some (.map (some bs)) := (HB0.out w1.drew (below_drew (Below.refl _ _))).2.2
      go_region_held3 (fun W => W.cell? ⟨w.heap.size, 0, none⟩ = some (.int .i64 (N : Nat)) ∧ W.cell? ⟨w.heap.size, 1, none⟩ = some (.func (.func 59) #[] #[.pointer (some ⟨a1, 0, none⟩), .pointer (some ⟨a2, 0, none⟩)]) ∧ W.cell? ⟨p, 1, none⟩ = some (.map (some bs)))
        (first | (with_reducible exact ⟨k0, k1, k2⟩) | (with_reducible exact hcl) | go_keep)
        ((go_at_call 59; refine hrun.mono ?_; rintro e w2 ⟨rfl, hM⟩; have hcl := (HM2.out w2 hM).1))
      have hr := (HM2.out w2 hM).2
      clear hrun k0 k1 k2 hR hM HM2 HB0 hcl
      go_wp2_with fail
      go_meet
      case rel => exact hr
    · injection hv with e1 _ e2
      injection e1 with e1
      subst e1 e2
      have hrun := hR.out w1.drew (below_drew (Below.refl _ _))
      have k0 : w1.drew.cell? ⟨w.heap.size, 0, none⟩ = some (.int .i64 (N : Nat)) := (HB0.out w1.drew (below_drew (Below.refl _ _))).1
      have k1 : w1.drew.cell? ⟨w.heap.size, 1, none⟩ = some (.func (.func 80) #[] #[.pointer (some ⟨a1, 0, none⟩)]) := (HB0.out w1.drew (below_drew (Below.refl _ _))).2.1
      have k2 : w1.drew.cell? ⟨p, 1, none⟩ = some (.map (some bs)) := (HB0.out w1.drew (below_drew (Below.refl _ _))).2.2
      go_region_held3 (fun W => W.cell? ⟨w.heap.size, 0, none⟩ = some (.int .i64 (N : Nat)) ∧ W.cell? ⟨w.heap.size, 1, none⟩ = some (.func (.func 80) #[] #[.pointer (some ⟨a1, 0, none⟩)]) ∧ W.cell? ⟨p, 1, none⟩ = some (.map (some bs)))
        (first | (with_reducible exact ⟨k0, k1, k2⟩) | (with_reducible exact hcl) | go_keep)
        ((go_at_call 80; refine hrun.mono ?_; rintro e w2 ⟨rfl, hM⟩; have hcl := (HM2.out w2 hM).1))
      have hr := (HM2.out w2 hM).2
      clear hrun k0 k1 k2 hR hM HM2 HB0 hcl
      go_wp2_with fail
      go_meet
      case rel => exact hr
  case rest =>
    obtain ⟨Fs2, M2⟩ := hcut
    clear hR HB0 HM2
    go_upto_region 3 with (fail)
    go_cut [] from 22 to 36 (fun wx => Hid (Mid w wx F p d L w.heap.size x ((dkCells d bs bl pv fz).setIfInBounds 2 (.int .i64 (used L : Nat))) bs bl Fs2 Fl pv ts))
    case first =>
      have hS3 := HS2.out Fs2 wc.drew (M2.out.pc.s.below (below_drew (Below.refl _ _)))
      have M3 := M2.out.below (below_drew (Below.refl _ _))
      have k1 : wc.drew.cell? ⟨p, 1, none⟩ = some (.map (some bs)) := M3.pc.cell rfl
      have k2 : wc.drew.cell? ⟨p, 2, none⟩ = some (.int .i64 (u0 : Nat)) := by rw [← HU0.out]; exact M3.pc.cell rfl
      have k3 := M3.pc.a.frozen 2
      have HM3 : Hid (Mid w (wc.drew.setCell ⟨p, 2, none⟩ (.int .i64 (used L : Nat))) F p d L w.heap.size x ((dkCells d bs bl pv fz).setIfInBounds 2 (.int .i64 (used L : Nat))) bs bl Fs2 Fl pv ts) := M3.set HX.out.2.2.2.2.2.1 HX.out.2.2.2.2.1 2 _
      clear M3 M2 HS2 HX HV hz3 HCP HU0
      generalize used L = u1 at *
      go_region_with ((go_at_call 56; refine hS3.mono ?_; rintro e w4 ⟨rfl, rfl⟩))
      all_goals (
        go_wp2_with fail
        go_meet
        case rel => exact HM3)
    case rest =>
      have M4 := hcut
      clear hcut M2 HS2 hz1 hz2 HU0
      go_upto_region 4 with (fail)
      go_cut [] from 37 to 46 (fun wx => ∃ a7 c7, Hid (Mid w wx F p d L w.heap.size x (((dkCells d bs bl pv fz).setIfInBounds 2 (.int .i64 (used L : Nat))).setIfInBounds 4 (.slice a7 (ts.length + 1) c7)) bs bl Fs2 Fl (.slice a7 (ts.length + 1) c7) (ts ++ [x])))
      case first =>
        obtain ⟨pa, pc, rfl⟩ := M4.out.pc.o.form
        have hlenT : ts.length < 34359738368 := by
          have h1 := congrArg List.length HX.out.1
          rw [List.length_map] at h1
          have := HX.out.2.2.2.2.2.2.1
          omega
        have bL : Below wc.heap.size wc (wc.alloc (.cells #[.int .i64 (N : Nat), .func (.func g) #[] caps] 96)).drew := below_drew (below_box wc _)
        have M5 := M4.out.below bL
        have hszL : (wc.alloc (.cells #[.int .i64 (N : Nat), .func (.func g) #[] caps] 96)).drew.heap.size = wc.heap.size + 1 := rw.size_1 _ _
        have hlit : Hid (rw.Sl turnSh (wc.alloc (.cells #[.int .i64 (N : Nat), .func (.func g) #[] caps] 96)).drew (.slice (some ⟨wc.heap.size, 0, none⟩) 1 1) [x]) := by
          have h1 := (rw.Own.lit turnSh wc [x] (by simp) (by simp)).sl
          have e : (rw.cellsG turnSh [x]).toArray = #[.int .i64 (N : Nat), .func (.func g) #[] caps] := by
            rw [rw.cellsG_one]
            show #[.int .i64 (steps x.2 : Nat), fnv x] = _
            rw [HX.out.2.2.2.1, HV.out]
          rw [e] at h1
          exact h1.later _ (below_drew (Below.refl _ _))
        have HP : Hid (∀ a7 c7 w7, OwnT w7 (.slice a7 (ts.length + 1) c7) (ts ++ [x]) → (wc.alloc (.cells #[.int .i64 (N : Nat), .func (.func g) #[] caps] 96)).drew.grownBy w7 (Value.ownBlock (.slice pa ts.length pc)) →
            ((Value.slice a7 (ts.length + 1) c7).ownBlock = Value.ownBlock (.slice pa ts.length pc) ∨ (Value.slice a7 (ts.length + 1) c7).ownBlock = some (wc.alloc (.cells #[.int .i64 (N : Nat), .func (.func g) #[] caps] 96)).drew.heap.size) →
            w7.cell? ⟨p, 4, none⟩ = some (.slice pa ts.length pc) ∧ w7.frozen? ⟨p, 4, none⟩ = false ∧
            Mid w (w7.setCell ⟨p, 4, none⟩ (.slice a7 (ts.length + 1) c7)) F p d L w.heap.size x (((dkCells d bs bl (.slice pa ts.length pc) fz).setIfInBounds 2 (.int .i64 (used L : Nat))).setIfInBounds 4 (.slice a7 (ts.length + 1) c7)) bs bl Fs2 Fl (.slice a7 (ts.length + 1) c7) (ts ++ [x])) := by
          intro a7 c7 w7 O7 g7 l7
          have hq := HX.out.2.2.2.2.2.2.2
          have P7 := M5.pc.push O7 g7 M5.does
          have kf : Fr (fun i => Value.ownBlock (.slice pa ts.length pc) = some i) (wc.alloc (.cells #[.int .i64 (N : Nat), .func (.func g) #[] caps] 96)).drew w7 := Fr.grown g7 fun q hq => hq
          have M7 : Mid w w7 F p d L w.heap.size x ((dkCells d bs bl (.slice pa ts.length pc) fz).setIfInBounds 2 (.int .i64 (used L : Nat))) bs bl Fs2 Fl (.slice a7 (ts.length + 1) c7) (ts ++ [x]) := by
            refine ⟨P7, kf.arr M5.box fun e => ?_, M5.does.fr kf fun i hi s hs => M5.pc.nobox i (.inr (.inr (.inr hi))) s hs, M5.fr.trans kf fun i _ e => (hq i e).2, fun k hk => ?_⟩
            · have := (hq _ e).1; omega
            · rcases hk with hk | hk | hk | hk
              · exact M5.nu k (.inl hk)
              · exact M5.nu k (.inr (.inl hk))
              · exact M5.nu k (.inr (.inr (.inl hk)))
              · rcases l7 with e | e
                · rw [e] at hk; exact .inl (hq k hk).2
                · rw [e, hszL] at hk
                  have := M4.out.fr.size
                  cases hk
                  exact .inr (by omega)
          exact ⟨P7.cell rfl, P7.a.frozen 4, M7.set HX.out.2.2.2.2.2.1 HX.out.2.2.2.2.1 4 _⟩
        have o1 : Hid (OwnT (wc.alloc (.cells #[.int .i64 (N : Nat), .func (.func g) #[] caps] 96)).drew (.slice pa ts.length pc) ts) := M5.pc.o
        have M6 := M4.out.below (below_drew (Below.refl _ _))
        have hNN := HX.out.2.2.2.1
        have hVV := HV.out
        have k1 : wc.drew.cell? ⟨p, 4, none⟩ = some (.slice pa ts.length pc) := M6.pc.cell rfl
        have k2 : (wc.alloc (.cells #[.int .i64 (N : Nat), .func (.func g) #[] caps] 96)).drew.cell? ⟨p, 4, none⟩ = some (.slice pa ts.length pc) := M5.pc.cell rfl
        have k3 : wc.drew.cell? ⟨w.heap.size, 0, none⟩ = some (.int .i64 (N : Nat)) := by rw [← hNN]; exact M6.box.cell rfl
        have k4 : wc.drew.cell? ⟨w.heap.size, 1, none⟩ = some (.func (.func g) #[] caps) := by rw [← hVV]; exact M6.box.cell rfl
        clear M5 M6 M4 HX HV HCP hz3 hszL bL hNN hVV
        generalize used L = u1 at *
        go_region_law
          ((refine step_push turnSh rfl _ _ rfl rfl 0 (.slice pa ts.length pc) ⟨wc.heap.size, 0, none⟩ 1 ts x rfl rfl hlenT (by first | exact o1.out) (Nat.zero_le _) (by first | exact hlit.out) ?_
            intro a7 c7 w7 O7 g7 l7
            have z1 := (HP.out _ _ _ O7 g7 l7).1
            have z2 := (HP.out _ _ _ O7 g7 l7).2.1))
        all_goals (
          have HM5 := (HP.out _ _ _ O7 g7 l7).2.2
          clear z1 z2 O7 g7 l7 HP hlit o1
          go_wp2_with fail
          go_meet
          case rel => exact ⟨_, _, HM5⟩)
      case rest =>
        obtain ⟨a7, c7, M6⟩ := hcut
        clear M4
        have M7 := M6.out.below (below_drew (Below.refl _ _))
        have k1 : wc.drew.cell? ⟨p, 5, none⟩ = some (.int .i64 (cp : Nat)) := by rw [← HCP.out]; exact M7.pc.cell rfl
        have k2 : wc.drew.cell? ⟨w.heap.size, 0, none⟩ = some (.int .i64 (N : Nat)) := by
          have := M7.box.cell (j := 0) rfl
          rwa [HX.out.2.2.2.1] at this
        have k3 := M7.pc.a.frozen 5
        have M8 := M7.set HX.out.2.2.2.2.2.1 HX.out.2.2.2.2.1 5 (.int .i64 ((cp + N : Nat) : Int))
        have hpd : PD (wc.drew.setCell ⟨p, 5, none⟩ (.int .i64 ((cp + N : Nat) : Int))) (fo p Fs2 Fl (.slice a7 (ts.length + 1) c7)) p { d with seen := L, pend := d.pend ++ [x.2] } := by
          refine PD.of_pc (fz := fz) (ts := ts ++ [x]) (bs := bs) (bl := bl) M8.pc ?_ (by rw [List.map_append, HX.out.1]; rfl) HX.out.2.1
          show _ = #[_, _, _, _, _, _, _]
          rw [count_snoc, HX.out.2.2.2.1, HCP.out]
          rfl
        have hB := burn_any _ p { d with seen := L, pend := d.pend ++ [x.2] } HX.out.2.2.1 _ hpd
        have HF : Hid (Fr F w (wc.drew.setCell ⟨p, 5, none⟩ (.int .i64 ((cp + N : Nat) : Int))) ∧ Nu w F (fo p Fs2 Fl (.slice a7 (ts.length + 1) c7))) := ⟨M8.fr, M8.nu⟩
        clear M6 M7 M8 HX HV HCP hpd
        go_upto_region 5 with (fail)
        go_region
        go_wp2_with fail
        refine hB.mono ?_
        rintro e w9 ⟨rfl, s9⟩
        have S9 := Lib.hid (Step.after HF.out.1 HF.out.2 s9)
        clear hB s9 HF
        go_wp2_with fail
        exact bodyPost_end (results_none rfl _ _ _) rfl ⟨rfl, S9.out⟩
end Go.Proofs.YtpimdbnhpbjlkaaGreatDoor.dk
