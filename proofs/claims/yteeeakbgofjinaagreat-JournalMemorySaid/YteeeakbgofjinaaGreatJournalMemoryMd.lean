/-
  What the law's walk stands on, part 4 of 6: the texts DkP5, JrRd5, JrRd6, JrRd7, DkP6, DkP7, DkP8, DkP9, DkPA, DkPB, JrRd8, DkPC, DkPD, DkL1, DkInv, JrW6, JrP1, JrLd0, SealClone, one behind the other.
-/
import Derived.Deep.RegionWith
import Derived.Deep.RegionLaw
import Derived.Deep.CutRange
import Derived.Recover
import Derived.Defers
import Derived.Laws.EntriesVeiled
import Derived.Lib.LazyBuf
import Derived.Sort.OwnSorted
import Derived.WalkKit
import Derived.Test.YteeeakbgofjinaaGreatJournalMemoryMc
/-! DkP5 -/
namespace Go.Proofs.YteeeakbgofjinaaGreat.dk
set_option linter.unusedVariables false
open Go.RowKit
open fl (S S_size S_append S_inj str_eq str_ne)
open rw (Arr But Row Own bnext below_box below_drew below_drewN addr_add Fr RowB)
open mp (Mp Turned kget kput kwithout kmap KSorted)

/-- 'append(v, x)': where the new row lies, too. -/
theorem append_at {α : Type} (s : rw.Sh α) (B : Nat) (v : Value) (o : List α) (x : α) (ad : Addr) (c : Nat) (hlen : o.length < 34359738368) (w : World) (ho : Own s w B v o) (hB : B ≤ w.heap.size) (hu : rw.Sl s w (.slice (some ad) 1 c) [x]) :
    ∃ v' w', rw.App s v (.slice (some ad) 1 c) w v' w' ∧ Own s w' B v' (o ++ [x]) ∧ w.grownBy w' v.ownBlock ∧ (v'.ownBlock = v.ownBlock ∨ v'.ownBlock = some w.heap.size) := by
  obtain ⟨v', w', h1, h2, _, h4⟩ := rw.append_own s B v o [x] _ (by simp; omega) w ho hB hu
  obtain ⟨i0, hi, hz0, hz1, hz2⟩ := info_parts s.hi
  obtain ⟨a, c', e, hc, hr, hn⟩ := hu
  cases e
  rcases hr with hr | ⟨b, off, hab, hbw, hcell⟩
  · cases hr
  · obtain rfl : ad = ⟨b, off, none⟩ := Option.some.inj hab
    have hnews : ∀ j y, (rw.cellsG s [x])[j]? = some y → w.cell? ((⟨b, off, none⟩ : Addr).add j) = some y := by
      intro j y hj
      have hjl : j < s.k := by
        rcases Nat.lt_or_ge j s.k with h | h
        · exact h
        · rw [List.getElem?_eq_none (by rw [rw.cellsG_length]; simpa using h)] at hj; cases hj
      have h2 := hcell 0 (by simp) j hjl
      rw [Nat.zero_mul, Nat.add_zero] at h2
      rw [addr_add, h2, ← hj, rw.cellsG_one]
      rfl
    have hby : (o.length + 1) * s.bytes ≤ 140737488355328 := Nat.le_trans (Nat.mul_le_mul (show o.length + 1 ≤ 34359738368 by omega) s.hb) (by decide)
    obtain ⟨v2, w2, g1, _, _, _, g5⟩ := run_append_own_at (P := Tryz.prog) (w := w) B s.st s.st s.t i0 s.z s.k s.bytes s.hu hi hz0 hz1 hz2 s.hz s.hk v o.length (rw.cellsG s o) ho ⟨b, off, none⟩ 1 c
      (rw.cellsG s [x]) (rw.cellsG_length s [x]) hnews (rw.cellsG_cell s) (by unfold maxLen; omega) hby hB
    have h1' := h1
    unfold rw.App at h1'
    rw [g1] at h1'
    injection h1' with e1 e2
    subst e1 e2
    exact ⟨_, _, h1, h2, h4, g5⟩
theorem step_push {α : Type} (s : rw.Sh α) {ops : Array Oper} {o : Oper} {a : Act} {w : World} {K : Act → World → Prop} {Q : Exit → Act → World → Prop} {E : Prop} (hgd : o.guard = none) (x y : Operand)
    (ho : o.op = .call { callee := .builtin .append, args := #[x, y], argTypes := #[s.st, s.st] }) (hty : o.type = s.st) (B : Nat) (v : Value) (ad : Addr) (c : Nat) (m : List α) (z : α) (hx : a.eval x = v) (hy : a.eval y = .slice (some ad) 1 c)
    (hlen : m.length < 34359738368) (hown : Own s w B v m) (hB : B ≤ w.heap.size) (hu : rw.Sl s w (.slice (some ad) 1 c) [z])
    (h : ∀ ad cp w', Own s w' B (.slice ad (m.length + 1) cp) (m ++ [z]) → w.grownBy w' v.ownBlock → ((Value.slice ad (m.length + 1) cp).ownBlock = v.ownBlock ∨ (Value.slice ad (m.length + 1) cp).ownBlock = some w.heap.size) → K (a.put o.dst (.slice ad (m.length + 1) cp)) w') :
    if Region.wanted o (yielded ops a.tmps) = true then Oper.wp Tryz.prog o a w K Q else E := by
  have hw : Region.wanted o (yielded ops a.tmps) = true := by simp [Region.wanted, hgd]
  rw [if_pos hw]
  obtain ⟨v', w', hr, h2, h3, h4⟩ := append_at s B v m z ad c hlen w hown hB hu
  unfold rw.App at hr
  unfold Oper.wp execOp
  simp only [ho, hty, resolve, invoke, builtin, Sem.run_bind, Sem.run_pure, Result.andThen_ok, List.map_toArray, List.map_cons, List.map_nil, hx, hy, hr]
  obtain ⟨ad', cp, rfl⟩ := h2.form
  rw [List.length_append] at h2 h4 ⊢
  exact h ad' cp w' (by simpa using h2) h3 h4

/-- What a closure does, by its kind. -/
theorem does_runs (F : Nat → Prop) (b : Nat) (l : List File) (v : Value) (c : Call) (n : Nat) (hc : Good c) (hn1 : 1 ≤ n) (hn2 : n ≤ steps c) (hl : l.length ≤ 1000000) (hz : ((get l c.name).getD []).length + c.s.length ≤ 140737488355328) (w : World) (h : FM w F b l) (hd : Does w v c) :
    (∃ a1 a2, v = .func (.func 111) #[] #[.pointer (some ⟨a1, 0, none⟩), .pointer (some ⟨a2, 0, none⟩)] ∧
      Hid (∀ W, Below w.heap.size w W → Calls Tryz.prog 111 #[.map (some b), .int .i64 (n : Nat), .pointer (some ⟨a1, 0, none⟩), .pointer (some ⟨a2, 0, none⟩)] W fun e w' => e = .returned (.tuple #[]) ∧ Made W F b (done l c n) w')) ∨
    (∃ a1 a2, v = .func (.func 62) #[] #[.pointer (some ⟨a1, 0, none⟩), .pointer (some ⟨a2, 0, none⟩)] ∧
      Hid (∀ W, Below w.heap.size w W → Calls Tryz.prog 62 #[.map (some b), .int .i64 (n : Nat), .pointer (some ⟨a1, 0, none⟩), .pointer (some ⟨a2, 0, none⟩)] W fun e w' => e = .returned (.tuple #[]) ∧ Made W F b (done l c n) w')) ∨
    (∃ a1 : Nat, False ∧ Hid True) := by
  rcases hd with ⟨h1, a1, a2, h2, h3, h4⟩ | ⟨h1, a1, a2, h2, h3, h4⟩ | ⟨h1, a1, h2, h3⟩
  · exact .inl ⟨a1, a2, h2, fun W k => add1_any F b l c a1 a2 n h1 hc hn1 hn2 hl hz W (h.below k) (h3.of (k.block _ h3.lt)) (h4.of (k.block _ h4.lt))⟩
  · exact .inr (.inl ⟨a1, a2, h2, fun W k => put1_any F b l c a1 a2 n h1 hc hn1 hl (by omega) W (h.below k) (h3.of (k.block _ h3.lt)) (h4.of (k.block _ h4.lt))⟩)
  · exact h2.elim
theorem fo_s {p : Nat} {Fs Fl : Nat → Prop} {pv : Value} {k : Nat} (h : Fs k) : fo p Fs Fl pv k := .inr (.inl h)
theorem count_snoc (l : List Call) (c : Call) : count (l ++ [c]) = count l + steps c := by simp [count]

theorem used_done {l : List File} (h : Sorted l) (c : Call) {n : Nat} (hn : 1 ≤ n) : used (done l c n) + ((get l c.name).getD []).length = used l + ((get (done l c n) c.name).getD []).length := by
  unfold done
  rw [if_neg (by omega)]
  split
  · have := used_put h (c.name, (get l c.name).getD [] ++ c.s.take n)
    rw [get_put_same h]
    exact this
  · split
    · have := used_put h (c.name, c.s)
      rw [get_put_same h]
      exact this
    · have := used_without h c.name
      rw [get_without_same]
      simp only [Option.getD_none, List.length_nil]
      omega
/-- What is there behind the closure. -/
structure Mid (w w2 : World) (F : Nat → Prop) (p : Nat) (d : Dk) (L : List File) (B : Nat) (x : TC) (cs : Array Value) (bs bl : Nat) (Fs Fl : Nat → Prop) (pv : Value) (ts : List TC) : Prop where
  pc : Pc w2 p cs bs bl Fs Fl L d.lasts pv ts
  box : Arr w2 B 115 #[.int .i64 (steps x.2 : Nat), fnv x]
  does : Does w2 (fnv x) x.2
  fr : Fr F w w2
  nu : Nu w F (fo p Fs Fl pv)
theorem Mid.below {w w2 w3 : World} {F : Nat → Prop} {p : Nat} {d : Dk} {L : List File} {B : Nat} {x : TC} {cs : Array Value} {bs bl : Nat} {Fs Fl : Nat → Prop} {pv : Value} {ts : List TC}
    (h : Mid w w2 F p d L B x cs bs bl Fs Fl pv ts) (k : Below w2.heap.size w2 w3) : Mid w w3 F p d L B x cs bs bl Fs Fl pv ts :=
  ⟨h.pc.below k, h.box.below k, h.does.below k, h.fr.then_below k, h.nu⟩
theorem Mid.set {w w2 : World} {F : Nat → Prop} {p : Nat} {d : Dk} {L : List File} {B : Nat} {x : TC} {cs : Array Value} {bs bl : Nat} {Fs Fl : Nat → Prop} {pv : Value} {ts : List TC}
    (h : Mid w w2 F p d L B x cs bs bl Fs Fl pv ts) (hB : B ≠ p) (hp : F p) (j : Nat) (u : Value) : Mid w (w2.setCell ⟨p, j, none⟩ u) F p d L B x (cs.setIfInBounds j u) bs bl Fs Fl pv ts := by
  have k := (But.refl p w2).set j u
  have kf : Fr (fun i => i = p) w2 (w2.setCell ⟨p, j, none⟩ u) := Fr.but k rfl
  exact ⟨h.pc.set j u, k.arr h.box hB, h.does.fr kf (fun i hi s hs => h.pc.nobox i (.inl hi) s hs), h.fr.trans kf fun i _ e => e ▸ hp, h.nu⟩

theorem Step.after {w W w' : World} {F F1 : Nat → Prop} {p : Nat} {d : Dk} (hF : Fr F w W) (hN : Nu w F F1) (h : Step W F1 p d w') : Step w F p d w' := by
  obtain ⟨F', h1, h2, h3⟩ := h
  refine ⟨F', h1, hF.trans h2 fun i hi hk => ?_, hN.trans h3 hF.size⟩
  rcases hN i hk with h | h
  · exact h
  · omega
set_option maxHeartbeats 4000000 in
set_option maxRecDepth 100000 in
theorem do_any (F : Nat → Prop) (p : Nat) (d : Dk) (x : TC) (hc : Good x.2) (ho : off d = false) (hcap : d.cap ≤ 1048576) (hl : d.seen.length ≤ 100000) (hp : d.pend.length ≤ 100000) (hu0 : used d.seen ≤ 1048576) (hu : used (done d.seen x.2 (steps x.2)) ≤ 1048576)
    (hso : Sorted d.seen) (hsl : x.2.s.length ≤ 1048576) (hcnt : count d.pend + steps x.2 ≤ 1099511627776) (w : World) (h : PD w F p d) (hx : Does w (fnv x) x.2) :
    Calls Tryz.prog 61 #[.pointer (some ⟨p, 0, none⟩), .string (S x.2.name), .agg #[.int .i64 (steps x.2 : Nat), fnv x]] w fun e w' => e = .returned (.tuple #[]) ∧
      Step w F p (spend { d with seen := done d.seen x.2 (steps x.2), pend := d.pend ++ [x.2] }) w' := by
  obtain ⟨N, hN⟩ : ∃ N, steps x.2 = N := ⟨_, rfl⟩
  obtain ⟨L, hL⟩ : ∃ L, done d.seen x.2 N = L := ⟨_, rfl⟩
  have hs1 := steps_pos hc
  have hgrow := used_done hso x.2 hs1
  have hsteps : steps x.2 ≤ 1048576 := by unfold steps; split <;> omega
  have hn2 : N ≤ steps x.2 := Nat.le_of_eq hN.symm
  rw [hN] at hu hcnt hs1 hgrow hsteps ⊢
  rw [hL] at hu hgrow ⊢
  obtain ⟨bs, bl, Fs, Fl, pv, ts, fz, h1, h2, hf, hF⟩ := h
  have hnm : x.2.name.length ≤ maxLen := by have := hc.1.2; unfold maxLen; omega
  have hgl : ∀ l : List File, used l ≤ 1048576 → ((get l x.2.name).getD []).length ≤ 1048576 := fun l hl => bytes_get (bytes_of_used hl) _
  have g0 := hgl _ hu0
  have g1 := hgl _ hu
  have hltp := h1.a.lt
  -- behind the box of t
  obtain ⟨g, caps, hV⟩ : ∃ g caps, fnv x = .func (.func g) #[] caps := ⟨_, _, rfl⟩
  rw [hV] at hx ⊢
  obtain ⟨W0, hW0⟩ : ∃ W0, w.alloc (.cells #[.int .i64 (N : Nat), .func (.func g) #[] caps] 115) = W0 := ⟨_, rfl⟩
  have b0 : Below w.heap.size w W0 := hW0 ▸ below_box w _
  have A0 : Arr W0 w.heap.size 115 #[.int .i64 (N : Nat), .func (.func g) #[] caps] := hW0 ▸ Arr.new _ _ _
  have z0 : W0.heap.size = w.heap.size + 1 := hW0 ▸ rw.size_1 _ _
  have P0 := h1.below b0
  have X0 := hx.below b0
  have hR := does_runs Fs bs d.seen (.func (.func g) #[] caps) x.2 N hc hs1 hn2 (by omega) (by omega) _ P0.s X0
  rw [hL] at hR
  have hS0 := size_any Fs bs d.seen x.2.name hnm _ P0.s
  -- behind the closure
  have HM2 : Hid (∀ w2, Made W0.drew Fs bs L w2 →
      (w2.cell? ⟨w.heap.size, 0, none⟩ = some (.int .i64 (N : Nat)) ∧ w2.cell? ⟨w.heap.size, 1, none⟩ = some (.func (.func g) #[] caps) ∧ w2.cell? ⟨p, 1, none⟩ = some (.map (some bs))) ∧
      ∃ Fs', Mid w w2 F p d L w.heap.size x (dkCells d bs bl pv fz) bs bl Fs' Fl pv ts) := by
    rintro w2 ⟨Fs', x1, x2, x3⟩
    have r : Below W0.heap.size W0 W0.drew := below_drew (Below.refl _ _)
    have P1 := (P0.below r).turn x1 x2 x3
    have hBF : ¬ Fs w.heap.size := fun hk => by have := h1.lt (fo_s (p := p) (Fl := Fl) (pv := pv) hk); omega
    have A2 := x2.arr (A0.below r) hBF
    have hnb : NoBox W0.drew Fs := fun k hk s hs => (P0.below r).nobox k (.inr (.inl hk)) s hs
    have D2 := (X0.below r).fr x2 hnb
    have hsz : W0.drew.heap.size = w.heap.size + 1 := z0
    refine ⟨⟨A2.cell rfl, A2.cell rfl, P1.cell rfl⟩, Fs', P1, by rw [hN, hV]; exact A2, by rw [hV]; exact D2, (Fr.of_below (F := F) (b0.trans (r.mono b0.size))).trans x2 (fun i _ hi => (hF i).2 (fo_s hi)), fun k hk => ?_⟩
    rcases hk with hk | hk | hk | hk
    · exact .inl ((hF k).2 (.inl hk))
    · rcases x3 k hk with h3 | h3
      · exact .inl ((hF k).2 (fo_s h3))
      · exact .inr (by omega)
    · exact .inl ((hF k).2 (.inr (.inr (.inl hk))))
    · exact .inl ((hF k).2 (.inr (.inr (.inr hk))))
  have HB0 : Hid (∀ W, Below W0.heap.size W0 W → W.cell? ⟨w.heap.size, 0, none⟩ = some (.int .i64 (N : Nat)) ∧ W.cell? ⟨w.heap.size, 1, none⟩ = some (.func (.func g) #[] caps) ∧ W.cell? ⟨p, 1, none⟩ = some (.map (some bs))) :=
    fun W k => ⟨(A0.below k).cell rfl, (A0.below k).cell rfl, (P0.below k).cell rfl⟩
  have cs0 : W0.cell? ⟨p, 1, none⟩ = some (.map (some bs)) := P0.cell rfl
  -- the numbers
  obtain ⟨z, hz⟩ : ∃ z : Int, (((get L x.2.name).getD []).length : Int) - (((get d.seen x.2.name).getD []).length : Int) = z := ⟨_, rfl⟩
  have hz1 : IntKind.i64.wrap ((((get L x.2.name).getD []).length : Int) - (((get d.seen x.2.name).getD []).length : Int)) = z := by rw [hz]; exact IntWalk.i64_in _ (by omega)
  have hz2 : IntKind.i64.wrap ((used d.seen : Int) + z) = (used L : Int) := by
    have : (used d.seen : Int) + z = (used L : Int) := by omega
    rw [this]; exact IntWalk.i64_in _ (by omega)
  have hz3 : IntKind.i64.wrap ((count d.pend : Int) + (N : Int)) = ((count d.pend + N : Nat) : Int) := by rw [Int.natCast_add]; exact IntWalk.i64_in _ (by omega)
  have HS2 : Hid (∀ Fs' w2, FM w2 Fs' bs L → Calls Tryz.prog 59 #[.map (some bs), .string (S x.2.name)] w2 fun e w' => e = .returned (.int .i64 (((get L x.2.name).getD []).length : Nat)) ∧ w' = w2) := fun Fs' w2 h => size_any Fs' bs L x.2.name hnm w2 h
  have HX : Hid (ts.map (·.2) = d.pend ∧ FuseOk d fz ∧ off d = false ∧ steps x.2 = N ∧ F p ∧ w.heap.size ≠ p ∧ d.pend.length ≤ 100000 ∧ ∀ q, pv.ownBlock = some q → q < w.heap.size ∧ F q) := ⟨h2, hf, ho, hN, (hF p).2 (.inl rfl), by omega, hp, fun q hq => ⟨h1.lt (.inr (.inr (.inr hq))), (hF q).2 (.inr (.inr (.inr hq)))⟩⟩
  have HV := Lib.hid hV
  clear h1 hF hf h2 hgl g0 g1 hs1 hgrow A0 P0 b0 hnm ho hcap hl hu0 hu hso hsl hcnt hc hz hsteps hltp hp hL hN hV hn2 hx X0 z0
  generalize ((get L x.2.name).getD []).length = n1 at *
  generalize ((get d.seen x.2.name).getD []).length = n0 at *
  obtain ⟨cp, hcp⟩ : ∃ cp, count d.pend = cp := ⟨_, rfl⟩
  rw [hcp] at hz3
  have HCP := Lib.hid hcp
  clear hcp
  obtain ⟨u0, hu0⟩ : ∃ u, used d.seen = u := ⟨_, rfl⟩
  rw [hu0] at hz2
  have HU0 := Lib.hid hu0
  clear hu0
  go_enter Tryz.func61, Tryz.ntmps61
  go_upto_region 1 with (fail)
  clear hW0
  go_wp2_with fail
  refine hS0.mono ?_
  rintro e w1 ⟨rfl, rfl⟩
  clear hS0 cs0
  go_upto_region 2 with (fail)
  go_cut [] from 13 to 21 (fun wx => ∃ Fs2, Hid (Mid w wx F p d L w.heap.size x (dkCells d bs bl pv fz) bs bl Fs2 Fl pv ts))
  case first =>
    clear HS2 HX HCP HU0 hz1 hz2 hz3
    rcases hR with ⟨a1, a2, hv, hR⟩ | ⟨a1, a2, hv, hR⟩ | ⟨a1, hv, hR⟩
    · injection hv with e1 _ e2
      injection e1 with e1
      subst e1 e2
      have hrun := hR.out w1.drew (below_drew (Below.refl _ _))
      have k0 : w1.drew.cell? ⟨w.heap.size, 0, none⟩ = some (.int .i64 (N : Nat)) := (HB0.out w1.drew (below_drew (Below.refl _ _))).1
      have k1 : w1.drew.cell? ⟨w.heap.size, 1, none⟩ = some (.func (.func 111) #[] #[.pointer (some ⟨a1, 0, none⟩), .pointer (some ⟨a2, 0, none⟩)]) := (HB0.out w1.drew (below_drew (Below.refl _ _))).2.1
      have k2 : w1.drew.cell? ⟨p, 1, none⟩ = some (.map (some bs)) := (HB0.out w1.drew (below_drew (Below.refl _ _))).2.2
      go_region_held3 (fun W => W.cell? ⟨w.heap.size, 0, none⟩ = some (.int .i64 (N : Nat)) ∧ W.cell? ⟨w.heap.size, 1, none⟩ = some (.func (.func 111) #[] #[.pointer (some ⟨a1, 0, none⟩), .pointer (some ⟨a2, 0, none⟩)]) ∧ W.cell? ⟨p, 1, none⟩ = some (.map (some bs)))
        (first | (with_reducible exact ⟨k0, k1, k2⟩) | (with_reducible exact hcl) | go_keep)
        ((go_at_call 111; refine hrun.mono ?_; rintro e w2 ⟨rfl, hM⟩; have hcl := (HM2.out w2 hM).1))
      have hr := (HM2.out w2 hM).2
      clear hrun k0 k1 k2 hR hM HM2 HB0 hcl
      go_wp2_with fail
      go_meet
      case rel => exact hr
    · injection hv with e1 _ e2
      injection e1 with e1
      subst e1 e2
      have hrun := hR.out w1.drew (below_drew (Below.refl _ _))
      have k0 : w1.drew.cell? ⟨w.heap.size, 0, none⟩ = some (.int .i64 (N : Nat)) := (HB0.out w1.drew (below_drew (Below.refl _ _))).1
      have k1 : w1.drew.cell? ⟨w.heap.size, 1, none⟩ = some (.func (.func 62) #[] #[.pointer (some ⟨a1, 0, none⟩), .pointer (some ⟨a2, 0, none⟩)]) := (HB0.out w1.drew (below_drew (Below.refl _ _))).2.1
      have k2 : w1.drew.cell? ⟨p, 1, none⟩ = some (.map (some bs)) := (HB0.out w1.drew (below_drew (Below.refl _ _))).2.2
      go_region_held3 (fun W => W.cell? ⟨w.heap.size, 0, none⟩ = some (.int .i64 (N : Nat)) ∧ W.cell? ⟨w.heap.size, 1, none⟩ = some (.func (.func 62) #[] #[.pointer (some ⟨a1, 0, none⟩), .pointer (some ⟨a2, 0, none⟩)]) ∧ W.cell? ⟨p, 1, none⟩ = some (.map (some bs)))
        (first | (with_reducible exact ⟨k0, k1, k2⟩) | (with_reducible exact hcl) | go_keep)
        ((go_at_call 62; refine hrun.mono ?_; rintro e w2 ⟨rfl, hM⟩; have hcl := (HM2.out w2 hM).1))
      have hr := (HM2.out w2 hM).2
      clear hrun k0 k1 k2 hR hM HM2 HB0 hcl
      go_wp2_with fail
      go_meet
      case rel => exact hr
    · exact hv.elim
  case rest =>
    obtain ⟨Fs2, M2⟩ := hcut
    clear hR HB0 HM2
    go_upto_region 3 with (fail)
    go_cut [] from 22 to 36 (fun wx => Hid (Mid w wx F p d L w.heap.size x ((dkCells d bs bl pv fz).setIfInBounds 2 (.int .i64 (used L : Nat))) bs bl Fs2 Fl pv ts))
    case first =>
      have hS3 := HS2.out Fs2 wc.drew (M2.out.pc.s.below (below_drew (Below.refl _ _)))
      have M3 := M2.out.below (below_drew (Below.refl _ _))
      have k1 : wc.drew.cell? ⟨p, 1, none⟩ = some (.map (some bs)) := M3.pc.cell rfl
      have k2 : wc.drew.cell? ⟨p, 2, none⟩ = some (.int .i64 (u0 : Nat)) := by rw [← HU0.out]; exact M3.pc.cell rfl
      have k3 := M3.pc.a.frozen 2
      have HM3 : Hid (Mid w (wc.drew.setCell ⟨p, 2, none⟩ (.int .i64 (used L : Nat))) F p d L w.heap.size x ((dkCells d bs bl pv fz).setIfInBounds 2 (.int .i64 (used L : Nat))) bs bl Fs2 Fl pv ts) := M3.set HX.out.2.2.2.2.2.1 HX.out.2.2.2.2.1 2 _
      clear M3 M2 HS2 HX HV hz3 HCP HU0
      generalize used L = u1 at *
      go_region_with ((go_at_call 59; refine hS3.mono ?_; rintro e w4 ⟨rfl, rfl⟩))
      all_goals (
        go_wp2_with fail
        go_meet
        case rel => exact HM3)
    case rest =>
      have M4 := hcut
      clear hcut M2 HS2 hz1 hz2 HU0
      go_upto_region 4 with (fail)
      go_cut [] from 37 to 46 (fun wx => ∃ a7 c7, Hid (Mid w wx F p d L w.heap.size x (((dkCells d bs bl pv fz).setIfInBounds 2 (.int .i64 (used L : Nat))).setIfInBounds 4 (.slice a7 (ts.length + 1) c7)) bs bl Fs2 Fl (.slice a7 (ts.length + 1) c7) (ts ++ [x])))
      case first =>
        obtain ⟨pa, pc, rfl⟩ := M4.out.pc.o.form
        have hlenT : ts.length < 34359738368 := by
          have h1 := congrArg List.length HX.out.1
          rw [List.length_map] at h1
          have := HX.out.2.2.2.2.2.2.1
          omega
        have bL : Below wc.heap.size wc (wc.alloc (.cells #[.int .i64 (N : Nat), .func (.func g) #[] caps] 115)).drew := below_drew (below_box wc _)
        have M5 := M4.out.below bL
        have hszL : (wc.alloc (.cells #[.int .i64 (N : Nat), .func (.func g) #[] caps] 115)).drew.heap.size = wc.heap.size + 1 := rw.size_1 _ _
        have hlit : Hid (rw.Sl turnSh (wc.alloc (.cells #[.int .i64 (N : Nat), .func (.func g) #[] caps] 115)).drew (.slice (some ⟨wc.heap.size, 0, none⟩) 1 1) [x]) := by
          have h1 := (rw.Own.lit turnSh wc [x] (by simp) (by simp)).sl
          have e : (rw.cellsG turnSh [x]).toArray = #[.int .i64 (N : Nat), .func (.func g) #[] caps] := by
            rw [rw.cellsG_one]
            show #[.int .i64 (steps x.2 : Nat), fnv x] = _
            rw [HX.out.2.2.2.1, HV.out]
          rw [e] at h1
          exact h1.later _ (below_drew (Below.refl _ _))
        have HP : Hid (∀ a7 c7 w7, OwnT w7 (.slice a7 (ts.length + 1) c7) (ts ++ [x]) → (wc.alloc (.cells #[.int .i64 (N : Nat), .func (.func g) #[] caps] 115)).drew.grownBy w7 (Value.ownBlock (.slice pa ts.length pc)) →
            ((Value.slice a7 (ts.length + 1) c7).ownBlock = Value.ownBlock (.slice pa ts.length pc) ∨ (Value.slice a7 (ts.length + 1) c7).ownBlock = some (wc.alloc (.cells #[.int .i64 (N : Nat), .func (.func g) #[] caps] 115)).drew.heap.size) →
            w7.cell? ⟨p, 4, none⟩ = some (.slice pa ts.length pc) ∧ w7.frozen? ⟨p, 4, none⟩ = false ∧
            Mid w (w7.setCell ⟨p, 4, none⟩ (.slice a7 (ts.length + 1) c7)) F p d L w.heap.size x (((dkCells d bs bl (.slice pa ts.length pc) fz).setIfInBounds 2 (.int .i64 (used L : Nat))).setIfInBounds 4 (.slice a7 (ts.length + 1) c7)) bs bl Fs2 Fl (.slice a7 (ts.length + 1) c7) (ts ++ [x])) := by
          intro a7 c7 w7 O7 g7 l7
          have hq := HX.out.2.2.2.2.2.2.2
          have P7 := M5.pc.push O7 g7 M5.does
          have kf : Fr (fun i => Value.ownBlock (.slice pa ts.length pc) = some i) (wc.alloc (.cells #[.int .i64 (N : Nat), .func (.func g) #[] caps] 115)).drew w7 := Fr.grown g7 fun q hq => hq
          have M7 : Mid w w7 F p d L w.heap.size x ((dkCells d bs bl (.slice pa ts.length pc) fz).setIfInBounds 2 (.int .i64 (used L : Nat))) bs bl Fs2 Fl (.slice a7 (ts.length + 1) c7) (ts ++ [x]) := by
            refine ⟨P7, kf.arr M5.box fun e => ?_, M5.does.fr kf fun i hi s hs => M5.pc.nobox i (.inr (.inr (.inr hi))) s hs, M5.fr.trans kf fun i _ e => (hq i e).2, fun k hk => ?_⟩
            · have := (hq _ e).1; omega
            · rcases hk with hk | hk | hk | hk
              · exact M5.nu k (.inl hk)
              · exact M5.nu k (.inr (.inl hk))
              · exact M5.nu k (.inr (.inr (.inl hk)))
              · rcases l7 with e | e
                · rw [e] at hk; exact .inl (hq k hk).2
                · rw [e, hszL] at hk
                  have := M4.out.fr.size
                  cases hk
                  exact .inr (by omega)
          exact ⟨P7.cell rfl, P7.a.frozen 4, M7.set HX.out.2.2.2.2.2.1 HX.out.2.2.2.2.1 4 _⟩
        have o1 : Hid (OwnT (wc.alloc (.cells #[.int .i64 (N : Nat), .func (.func g) #[] caps] 115)).drew (.slice pa ts.length pc) ts) := M5.pc.o
        have M6 := M4.out.below (below_drew (Below.refl _ _))
        have hNN := HX.out.2.2.2.1
        have hVV := HV.out
        have k1 : wc.drew.cell? ⟨p, 4, none⟩ = some (.slice pa ts.length pc) := M6.pc.cell rfl
        have k2 : (wc.alloc (.cells #[.int .i64 (N : Nat), .func (.func g) #[] caps] 115)).drew.cell? ⟨p, 4, none⟩ = some (.slice pa ts.length pc) := M5.pc.cell rfl
        have k3 : wc.drew.cell? ⟨w.heap.size, 0, none⟩ = some (.int .i64 (N : Nat)) := by rw [← hNN]; exact M6.box.cell rfl
        have k4 : wc.drew.cell? ⟨w.heap.size, 1, none⟩ = some (.func (.func g) #[] caps) := by rw [← hVV]; exact M6.box.cell rfl
        clear M5 M6 M4 HX HV HCP hz3 hszL bL hNN hVV
        generalize used L = u1 at *
        go_region_law
          ((refine step_push turnSh rfl _ _ rfl rfl 0 (.slice pa ts.length pc) ⟨wc.heap.size, 0, none⟩ 1 ts x rfl rfl hlenT (by first | exact o1.out) (Nat.zero_le _) (by first | exact hlit.out) ?_
            intro a7 c7 w7 O7 g7 l7
            have z1 := (HP.out _ _ _ O7 g7 l7).1
            have z2 := (HP.out _ _ _ O7 g7 l7).2.1))
        all_goals (
          have HM5 := (HP.out _ _ _ O7 g7 l7).2.2
          clear z1 z2 O7 g7 l7 HP hlit o1
          go_wp2_with fail
          go_meet
          case rel => exact ⟨_, _, HM5⟩)
      case rest =>
        obtain ⟨a7, c7, M6⟩ := hcut
        clear M4
        have M7 := M6.out.below (below_drew (Below.refl _ _))
        have k1 : wc.drew.cell? ⟨p, 5, none⟩ = some (.int .i64 (cp : Nat)) := by rw [← HCP.out]; exact M7.pc.cell rfl
        have k2 : wc.drew.cell? ⟨w.heap.size, 0, none⟩ = some (.int .i64 (N : Nat)) := by
          have := M7.box.cell (j := 0) rfl
          rwa [HX.out.2.2.2.1] at this
        have k3 := M7.pc.a.frozen 5
        have M8 := M7.set HX.out.2.2.2.2.2.1 HX.out.2.2.2.2.1 5 (.int .i64 ((cp + N : Nat) : Int))
        have hpd : PD (wc.drew.setCell ⟨p, 5, none⟩ (.int .i64 ((cp + N : Nat) : Int))) (fo p Fs2 Fl (.slice a7 (ts.length + 1) c7)) p { d with seen := L, pend := d.pend ++ [x.2] } := by
          refine PD.of_pc (fz := fz) (ts := ts ++ [x]) (bs := bs) (bl := bl) M8.pc ?_ (by rw [List.map_append, HX.out.1]; rfl) HX.out.2.1
          show _ = #[_, _, _, _, _, _, _]
          rw [count_snoc, HX.out.2.2.2.1, HCP.out]
          rfl
        have hB := burn_any _ p { d with seen := L, pend := d.pend ++ [x.2] } HX.out.2.2.1 _ hpd
        have HF : Hid (Fr F w (wc.drew.setCell ⟨p, 5, none⟩ (.int .i64 ((cp + N : Nat) : Int))) ∧ Nu w F (fo p Fs2 Fl (.slice a7 (ts.length + 1) c7))) := ⟨M8.fr, M8.nu⟩
        clear M6 M7 M8 HX HV HCP hpd
        go_upto_region 5 with (fail)
        go_region
        go_wp2_with fail
        refine hB.mono ?_
        rintro e w9 ⟨rfl, s9⟩
        have S9 := Lib.hid (Step.after HF.out.1 HF.out.2 s9)
        clear hB s9 HF
        go_wp2_with fail
        exact bodyPost_end (results_none rfl _ _ _) rfl ⟨rfl, S9.out⟩
end Go.Proofs.YteeeakbgofjinaaGreat.dk
/-! JrRd5 -/
namespace Go.Proofs.YteeeakbgofjinaaGreat.jr
set_option linter.unusedVariables false
open Go.RowKit
open fl (S S_size S_append)
open rw (Arr But Own below_box bnext below_drew below_drewN Fr)

theorem members_ints (c : List Nat) : MembersIn (ints c) ↔ Members c := by
  unfold MembersIn Members ints
  rw [List.pairwise_map]
  constructor
  · rintro ⟨h1, h2⟩
    refine ⟨fun x hx => ?_, h2.imp fun {a b} h => by omega⟩
    have := h1 (x : Int) (List.mem_map.2 ⟨x, hx, rfl⟩)
    omega
  · rintro ⟨h1, h2⟩
    refine ⟨fun x hx => ?_, h2.imp fun {a b} h => by omega⟩
    obtain ⟨y, hy, rfl⟩ := List.mem_map.1 hx
    have := h1 y hy
    omega
def zeroL : Array Value := #[.int .u64 0, .int .u64 0, .slice none 0 0, .slice none 0 0]
theorem nl_cells {w W : World} {xb : Nat} (h : Nw w W xb 45 zeroL) : W.cell? ⟨xb, 0, none⟩ = some (.int .u64 0) ∧ W.cell? ⟨xb, 1, none⟩ = some (.int .u64 0) ∧ W.cell? ⟨xb, 2, none⟩ = some (.slice none 0 0) ∧ W.cell? ⟨xb, 3, none⟩ = some (.slice none 0 0) ∧ W.frozen? ⟨xb, 0, none⟩ = false ∧ W.frozen? ⟨xb, 1, none⟩ = false ∧ W.frozen? ⟨xb, 2, none⟩ = false ∧ W.frozen? ⟨xb, 3, none⟩ = false :=
  ⟨h.a.cell rfl, h.a.cell rfl, h.a.cell rfl, h.a.cell rfl, h.a.frozen 0, h.a.frozen 1, h.a.frozen 2, h.a.frozen 3⟩
def logC (base bterm : Nat) (v : Value) : Array Value := #[.int .u64 (base : Nat), .int .u64 (bterm : Nat), v, .slice none 0 0]
theorem Hx.deep {w W W' : World} {B rb lb : Nat} {l : Bs} {cv ev : Value} {s : St} {based : Bool} {m : Nat} {o : Option Bs} (h : Hx w W B rb lb l cv ev s based m o) (ho : Old w rb lb cv ev) (k : Below w.heap.size W W') : Hx w W' B rb lb l cv ev s based m o := by
  have h1 := ho.rb
  have h2 := ho.lb
  exact ⟨⟨h.z.le, h.z.a.of (k.block rb h1), own_of h.z.c fun i hi => k.block i (ho.c i hi), own_of h.z.l fun i hi => k.block i (ho.e i hi)⟩, h.p.of (k.block lb h2), h.b.trans (k.mono (by have := h.z.le; omega)), h.lb⟩
/-- The log in the making. -/
structure Gl (w W : World) (B rb lb : Nat) (l : Bs) (cv ev : Value) (s : St) (m : Nat) (o : Option Bs) (gb base bterm : Nat) (v : Value) (c : List Nat) : Prop where
  x : Hx w W B rb lb l cv ev s true m o
  a : Arr W gb 45 (logC base bterm v)
  n : w.heap.size ≤ gb
  v : Own noSh W w.heap.size v (ints c)
theorem gl_new {w W : World} {B rb lb : Nat} {l : Bs} {cv ev : Value} {s : St} {m : Nat} {o : Option Bs} (h : Hx w W B rb lb l cv ev s true m o) (base bterm : Nat) :
    Gl w (W.alloc (.cells #[.int .u64 (base : Nat), .int .u64 (bterm : Nat), .slice none 0 0, .slice none 0 0] 45)) B rb lb l cv ev s m o W.heap.size base bterm (.slice none 0 0) [] :=
  ⟨h.below (below_box _ _), Arr.new _ _ _, h.b.size, Own.nil _ _ _⟩
theorem gl_old {w W : World} {B rb lb xb : Nat} {l : Bs} {cv ev : Value} {s : St} {m : Nat} {o : Option Bs} (h : Hx w W B rb lb l cv ev s true m o) (ho : Old w rb lb cv ev) (k : Nw w W xb 45 zeroL) (base bterm : Nat) :
    Gl w ((((W.setCell ⟨xb, 0, none⟩ (.int .u64 (base : Nat))).setCell ⟨xb, 1, none⟩ (.int .u64 (bterm : Nat))).setCell ⟨xb, 2, none⟩ (.slice none 0 0)).setCell ⟨xb, 3, none⟩ (.slice none 0 0)) B rb lb l cv ev s m o xb base bterm (.slice none 0 0) [] :=
  ⟨h.far ho k.n h.b.size (((((But.refl xb W).set 0 _).set 1 _).set 2 _).set 3 _), (((k.a.set 0 _).set 1 _).set 2 _).set 3 _, k.n, Own.nil _ _ _⟩
theorem Gl.next {w W W' : World} {B rb lb gb base bterm : Nat} {l : Bs} {cv ev v : Value} {s : St} {m : Nat} {o o' : Option Bs} {c : List Nat} (h : Gl w W B rb lb l cv ev s m o gb base bterm v c) (ho : Old w rb lb cv ev) (k : But lb W W') (hx : Hx w W' B rb lb l cv ev s true m o') : Gl w W' B rb lb l cv ev s m o' gb base bterm v c := by
  obtain ⟨a, f, hp, _⟩ := h.x.p
  exact ⟨hx, k.arr h.a (by have := ho.lb; have := h.n; omega), h.n, own_but h.v hp (by decide) k⟩
theorem Gl.below {w W W' : World} {B rb lb gb base bterm : Nat} {l : Bs} {cv ev v : Value} {s : St} {m : Nat} {o : Option Bs} {c : List Nat} (h : Gl w W B rb lb l cv ev s m o gb base bterm v c) (k : Below W.heap.size W W') : Gl w W' B rb lb l cv ev s m o gb base bterm v c := ⟨h.x.below k, h.a.below k, h.n, h.v.below _ k⟩
theorem Gl.push {w W W' : World} {B rb lb gb base bterm : Nat} {l : Bs} {cv ev v v' : Value} {s : St} {m : Nat} {o : Option Bs} {c : List Nat} {x : Nat} (h : Gl w W B rb lb l cv ev s m o gb base bterm v c) (ho : Old w rb lb cv ev) (hv : Own noSh W' w.heap.size v' (ints c ++ [(x : Int)])) (hg : W.grownBy W' v.ownBlock) :
    W'.cell? ⟨gb, 2, none⟩ = some v ∧ W'.frozen? ⟨gb, 2, none⟩ = false ∧ Gl w (W'.setCell ⟨gb, 2, none⟩ v') B rb lb l cv ev s m o gb base bterm v' (c ++ [x]) := by
  have hne : v.ownBlock ≠ some gb := own_ne h.v h.a (by decide)
  have hA : Arr W' gb 45 (logC base bterm v) := h.a.of (hg.block gb h.a.lt fun e => hne e.symm)
  have hB : Below w.heap.size W W' := ⟨hg.os, hg.tape, hg.output, hg.size, fun k hk => hg.block k (by have := h.x.b.size; omega) fun e => by have := (h.v.lt k e.symm).1; omega⟩
  have hx := (h.x.deep ho hB).far ho h.n (Nat.le_trans h.x.b.size hg.size) ((But.refl gb W').set 2 v')
  refine ⟨hA.cell rfl, hA.frozen 2, hx, hA.set 2 v', h.n, ?_⟩
  have e : ints (c ++ [x]) = ints c ++ [(x : Int)] := by simp [ints]
  rw [e]
  exact own_but hv hA (by decide) ((But.refl gb W').set 2 v')
/-- The log is the reader's. -/
theorem Gl.lay {w W : World} {B rb lb gb base bterm : Nat} {l : Bs} {cv ev v : Value} {s : St} {m : Nat} {o : Option Bs} {c : List Nat} (hB : B ≤ w.heap.size) (h : Gl w W B rb lb l cv ev s m o gb base bterm v c) :
    Hx w ((((W.setCell ⟨rb, 4, none⟩ (.int .u64 (base : Nat))).setCell ⟨rb, 5, none⟩ (.int .u64 (bterm : Nat))).setCell ⟨rb, 6, none⟩ v).setCell ⟨rb, 7, none⟩ (.slice none 0 0)) B rb lb l v (.slice none 0 0) { s with base := base, bterm := bterm, conf := c, l := [] } true m o := by
  have k : But rb W ((((W.setCell ⟨rb, 4, none⟩ (.int .u64 (base : Nat))).setCell ⟨rb, 5, none⟩ (.int .u64 (bterm : Nat))).setCell ⟨rb, 6, none⟩ v).setCell ⟨rb, 7, none⟩ (.slice none 0 0)) := ((((But.refl rb W).set 4 _).set 5 _).set 6 _).set 7 _
  refine ⟨⟨h.x.z.le, (((h.x.z.a.set 4 _).set 5 _).set 6 _).set 7 _, ?_, Own.nil _ _ _⟩, h.x.p.of (k.block lb h.x.p.lt fun e => h.x.z.ne h.x.p e.symm), h.x.b.trans (k.below h.x.le h.x.z.le), h.x.lb⟩
  exact own_lower (own_but h.v h.x.z.a (by decide) k) hB

set_option maxHeartbeats 8000000 in
set_option maxRecDepth 100000 in
theorem base_any (B rb lb : Nat) (l : Bs) (x : Pr) (hl : l.length ≤ 281474976710656) (hlb : B ≤ lb) (hz : x.s.l = []) (w : World) (hB : B ≤ w.heap.size) (h : Rz w B rb (.pointer (some ⟨lb, 0, none⟩)) x.s x.based x.m) (hp : PRd w lb l x.o) :
    Calls Tryz.prog 139 #[.pointer (some ⟨rb, 0, none⟩)] w (ROut B rb lb l w (pbase x)) := by
  obtain ⟨s, based, m, o⟩ := x
  simp only at h hp hz
  obtain ⟨cv, ev, X0⟩ := Hx.start h hp hlb
  have c9 : w.cell? ⟨rb, 9, none⟩ = some (.bool based) := X0.z.a.cell rfl
  have f9 := X0.z.a.frozen 9
  unfold pbase
  simp only
  cases based with
  | true =>
    rw [if_pos rfl]
    have hm := must_no rb w
    have HE : Hid (ROut B rb lb l w none (.panicked wrongs) w) := ⟨Below.refl _ _, rfl⟩
    clear h hp X0 f9
    go_enter Tryz.func139, Tryz.ntmps139
    go_wp2_with fail
    refine hm.mono ?_
    rintro e w2 ⟨rfl, rfl⟩
    clear hm
    go_wp2_with fail
    exact bodyPost_panic rfl HE.out
  | false =>
    rw [if_neg (by decide)]
    have hm := must_yes rb w
    have HO := Lib.hid X0.old
    have HX := Lib.hid (X0.set 9 (.bool true) (s' := s) (based' := true) (m' := m) rfl rfl rfl)
    have HN := Lib.hid fun W => fun (k : Hx w W B rb lb l cv ev s true m o) => Hx.num hl k
    have HN2 := Lib.hid fun W => fun (k : Hx w W B rb lb l cv ev s true m (nN o)) => Hx.num hl k
    have HK : Hid (∀ W o, Hx w W B rb lb l cv ev s true m o → Calls Tryz.prog 135 #[.pointer (some ⟨lb, 0, none⟩), .int .i64 5] W fun e w' => e = .returned (.int .i64 (vC 5 o : Nat)) ∧ But lb W w' ∧ Hx w w' B rb lb l cv ev s true m (nC 5 o)) := fun W o k => Hx.count hl 5 (by decide) k
    have HK2 : Hid (∀ W o cv ev s, Hx w W B rb lb l cv ev s true m o → Calls Tryz.prog 135 #[.pointer (some ⟨lb, 0, none⟩), .int .i64 262144] W fun e w' => e = .returned (.int .i64 (vC 262144 o : Nat)) ∧ But lb W w' ∧ Hx w w' B rb lb l cv ev s true m (nC 262144 o)) := fun W o cv ev s k => Hx.count hl 262144 (by decide) k
    have HK0 : Hid (∀ W, Hx w W B rb lb l cv ev s true m (nN (nN o)) → Calls Tryz.prog 135 #[.pointer (some ⟨lb, 0, none⟩), .int .i64 5] W fun e w' => e = .returned (.int .i64 (vC 5 (nN (nN o)) : Nat)) ∧ But lb W w' ∧ Hx w w' B rb lb l cv ev s true m (nC 5 (nN (nN o)))) := fun W k => Hx.count hl 5 (by decide) k
    have HV : Hid (vN o < 18446744073709551616 ∧ vC 5 (nN (nN o)) ≤ 5 ∧ B ≤ w.heap.size ∧ s.l = []) := ⟨vN_lt o, vC_le _ _, hB, hz⟩
    generalize vN o = vb at *
    generalize vN (nN o) = vt at *
    generalize nN (nN o) = o2 at *
    generalize nN o = o1 at *
    generalize nC 5 o2 = o3 at *
    generalize vC 5 o2 = n at *
    have HC : Hid (∀ W o, Hx w W B rb lb l cv ev s true m o → W.cell? ⟨rb, 0, none⟩ = some (.pointer (some ⟨lb, 0, none⟩))) := fun W o k => k.z.a.cell rfl
    have HMy := Lib.hid fun W => must_yes rb W
    have HMn := Lib.hid fun W => must_no rb W
    obtain ⟨R, hR⟩ : ∃ R : Option Pr, (if Members (vCs 5 n o3) ∧ vb ≤ 4611686018427387904 then some ⟨{ s with base := vb, bterm := vt, conf := vCs 5 n o3 }, true, vC 262144 (nCs 5 n o3), nC 262144 (nCs 5 n o3)⟩ else none) = R := ⟨_, rfl⟩
    rw [hR]
    have HR := Lib.hid hR
    clear h hp X0 hR hB hz
    go_enter Tryz.func139, Tryz.ntmps139
    go_wp2_with fail
    refine hm.mono ?_
    rintro e w2 ⟨rfl, rfl⟩
    clear hm
    go_upto_region 2 with (fail)
    clear c9 f9
    generalize w.setCell ⟨rb, 9, none⟩ (.bool true) = w1 at *
    go_cut [2] from 10 to 23 (fun v2 wx => ∃ gb : Nat, v2 = .pointer (some ⟨gb, 0, none⟩) ∧ Hid (Gl w wx B rb lb l cv ev s m o2 gb vb vt (.slice none 0 0) []))
    case first =>
      have X1 := Lib.hid (HX.out.below (below_drew (Below.refl _ _)))
      have k0 := HC.out _ _ X1.out
      clear HX HMy HMn HR HK HK2 HK0
      go_region_held3 (fun W => W.cell? ⟨rb, 0, none⟩ = some (.pointer (some ⟨lb, 0, none⟩)))
        (first | (with_reducible exact k0) | assumption | (exact HC.out _ _ (Hx.below (Hid.out (by assumption)) (below_box _ _))) | (exact HC.out _ _ (gl_old (Hid.out (by assumption)) HO.out (Hid.out (by assumption)) _ _).x))
        (((go_at_call 158; first | (with_reducible refine (HN.out _ (by first | exact Hid.out (by assumption) | exact Hx.below (Hid.out (by assumption)) (below_box _ _))).mono ?_; rintro e w5 ⟨rfl, k5, x5⟩; have X5 := Lib.hid x5; have kc := HC.out _ _ x5; (first | (have hN := Lib.hid (nw_drew (Hid.out (by assumption)) k5)) | (have hN := Lib.hid (nw_first (Hid.out (by assumption)) k5)) | skip); clear x5 k5) | (with_reducible refine (HN2.out _ (by first | exact Hid.out (by assumption) | exact Hx.below (Hid.out (by assumption)) (below_box _ _))).mono ?_; rintro e w5 ⟨rfl, k5, x5⟩; have X5 := Lib.hid x5; have kc := HC.out _ _ x5; (first | (have hN := Lib.hid (nw_first (Hid.out (by assumption)) k5); obtain ⟨a0, a1, a2, a3, g0, g1, g2, g3⟩ := nl_cells hN.out) | (have hN := Lib.hid (nw_next HO.out hN.out k5); obtain ⟨a0, a1, a2, a3, g0, g1, g2, g3⟩ := nl_cells hN.out) | skip); clear x5 k5))))
      all_goals (
        first | (have HF := Lib.hid (gl_old X5.out HO.out hN.out vb vt)) | (have HF := Lib.hid (gl_new X5.out vb vt))
        clear HN2 HN X1 X5
        try clear hN a0 a1 a2 a3 g0 g1 g2 g3
        go_wp2_with fail
        go_meet
        case rel => exact ⟨_, rfl, HF⟩)
    case rest =>
      obtain ⟨gb, rfl, G0⟩ := hcut
      clear HN HN2 HX
      have k0 := HC.out _ _ G0.out.x
      have hK := HK0.out _ G0.out.x
      clear HK0
      go_wp2_with fail
      refine hK.mono ?_
      rintro e w3 ⟨rfl, b3, x3⟩
      have G3 := Lib.hid (G0.out.next HO.out b3 x3)
      clear hK b3 x3 k0 G0
      go_wp2_with fail
      go_loopw [29] (fun i wr => ∃ (k : Nat) (v : Value), i = .int .i64 (k : Nat) ∧ k ≤ n ∧ Hid (Gl w wr B rb lb l cv ev s m (nCs 5 k o3) gb vb vt v (vCs 5 k o3)))
        (fun i _ => n - (intOf i).toNat)
      case atStart => exact ⟨0, _, rfl, Nat.zero_le _, G3.out⟩
      case round =>
        obtain ⟨k, v, rfl, hk, HI⟩ := hrel
        by_cases hlt : k < n
        · have hki : (k : Int) < (n : Int) := by omega
          have hk5 : k < 5 := Nat.lt_of_lt_of_le hlt HV.out.2.1
          go_upto_region 5 with (fail)
          have X0 := Lib.hid (HI.out.below (below_drew (Below.refl _ _)))
          have HL : Hid ((vCs 5 k o3).length = k ∧ vCs 5 (k + 1) o3 = vCs 5 k o3 ++ [vC 5 (nCs 5 k o3)] ∧ nCs 5 (k + 1) o3 = nC 5 (nCs 5 k o3)) := ⟨vCs_length _ _ _, vCs_snoc _ _ _, nCs_snoc _ _ _⟩
          generalize vCs 5 k o3 = c at *
          generalize nCs 5 k o3 = o' at *
          have hK := HK.out _ _ X0.out.x
          generalize nC 5 o' = o'' at *
          generalize vC 5 o' = z at *
          have k0 := HC.out _ _ X0.out.x
          have g0 : wr.drew.cell? ⟨gb, 2, none⟩ = some v := X0.out.a.cell rfl
          have hcl : (ints c).length < 34359738368 := by have := HL.out.1; rw [ints_length]; exact Nat.lt_of_le_of_lt (Nat.le_of_eq this) (by omega)
          clear HK HK2 HMy HMn HR HI
          go_region_law
            (first
              | (refine dk.step_push noSh rfl _ _ rfl rfl w.heap.size v ⟨w5.heap.size, 0, none⟩ 1 (ints c) (z : Int) rfl rfl hcl X6.out.v X6.out.x.b.size HL5.out ?_
                 intro a7 c7 w7 O7 g7 l7
                 have z1 := (X6.out.push HO.out O7 g7).1
                 have z2 := (X6.out.push HO.out O7 g7).2.1)
              | (go_simp; go_at_call 135; refine hK.mono ?_; rintro e w5 ⟨rfl, k5, x5⟩
                 have X5 := Lib.hid (X0.out.next HO.out k5 x5)
                 have X6 := Lib.hid (X5.out.below (below_box w5 (.cells #[.int .i64 (z : Nat)] 3)))
                 have HL5 : Hid (rw.Sl noSh (w5.alloc (.cells #[.int .i64 (z : Nat)] 3)) (.slice (some ⟨w5.heap.size, 0, none⟩) 1 1) [(z : Int)]) := (rw.Own.lit noSh w5 [(z : Int)] (by simp) (by simp)).sl
                 have g1 : w5.cell? ⟨gb, 2, none⟩ = some v := X5.out.a.cell rfl
                 have g2 : (w5.alloc (.cells #[.int .i64 (z : Nat)] 3)).cell? ⟨gb, 2, none⟩ = some v := X6.out.a.cell rfl
                 clear k5 x5 hK X0))
          all_goals (
            have HP := Lib.hid (X6.out.push HO.out O7 g7).2.2
            clear z1 z2 O7 g7 l7 HL5 X6 X5 g0
            go_wp2_with fail
            go_roundw
            case rel => exact ⟨k + 1, _, by go_num, by omega, by rw [HL.out.2.1, HL.out.2.2]; exact HP⟩
            case measure => simp [intOf]; omega)
        · obtain rfl : k = n := by omega
          have hki : ¬ (k : Int) < (k : Int) := by omega
          obtain ⟨va, vc, rfl⟩ : ∃ a c, v = .slice a (ints (vCs 5 k o3)).length c := HI.out.v.form
          have hlen : (vCs 5 k o3).length = k := vCs_length _ _ _
          have hRB := rightBase_any vb vt _ (ints (vCs 5 k o3)) none 0 0 (by have := HV.out.2.1; rw [ints_length, hlen]; omega) wr HI.out.v.sl
          have hMI : decide (MembersIn (ints (vCs 5 k o3)) ∧ vb ≤ 4611686018427387904) = decide (Members (vCs 5 k o3) ∧ vb ≤ 4611686018427387904) := by rw [Bool.eq_iff_iff, decide_eq_true_eq, decide_eq_true_eq, members_ints]
          rw [hMI] at hRB
          have hHK2 := fun W cv ev s (k0 : Hx w W B rb lb l cv ev s true m (nCs 5 k o3)) => HK2.out W (nCs 5 k o3) cv ev s k0
          have HK3 := Lib.hid hHK2
          generalize nCs 5 k o3 = o' at *
          generalize vC 262144 o' = q at *
          generalize nC 262144 o' = o'' at *
          generalize vCs 5 k o3 = c at *
          obtain ⟨g0, g1, g2, g3⟩ : wr.cell? ⟨gb, 0, none⟩ = some (.int .u64 (vb : Nat)) ∧ wr.cell? ⟨gb, 1, none⟩ = some (.int .u64 (vt : Nat)) ∧ wr.cell? ⟨gb, 2, none⟩ = some (.slice va (ints c).length vc) ∧ wr.cell? ⟨gb, 3, none⟩ = some (.slice none 0 0) := ⟨HI.out.a.cell rfl, HI.out.a.cell rfl, HI.out.a.cell rfl, HI.out.a.cell rfl⟩
          clear HK HK2 hHK2 hMI hlen hki G3
          by_cases hM : Members c ∧ vb ≤ 4611686018427387904
          · rw [decide_eq_true hM] at hRB
            have HR2 : Hid (some ⟨{ s with base := vb, bterm := vt, conf := c }, true, q, o''⟩ = R) := Lib.hid (by rw [← HR.out, if_pos hM])
            clear HR hM HMn
            go_wp2_with fail
            refine hRB.mono ?_
            rintro e w4 ⟨rfl, b4⟩
            have G4 := Lib.hid (HI.out.below b4)
            have hm := HMy.out w4
            clear hRB b4 g0 g1 g2 g3 HI
            go_wp2_with fail
            refine hm.mono ?_
            rintro e w5 ⟨rfl, rfl⟩
            clear hm HMy
            obtain ⟨g0, g1, g2, g3⟩ : w4.cell? ⟨gb, 0, none⟩ = some (.int .u64 (vb : Nat)) ∧ w4.cell? ⟨gb, 1, none⟩ = some (.int .u64 (vt : Nat)) ∧ w4.cell? ⟨gb, 2, none⟩ = some (.slice va (ints c).length vc) ∧ w4.cell? ⟨gb, 3, none⟩ = some (.slice none 0 0) := ⟨G4.out.a.cell rfl, G4.out.a.cell rfl, G4.out.a.cell rfl, G4.out.a.cell rfl⟩
            obtain ⟨e4, e5, e6, e7⟩ : w4.cell? ⟨rb, 4, none⟩ = some (.int .u64 (s.base : Nat)) ∧ w4.cell? ⟨rb, 5, none⟩ = some (.int .u64 (s.bterm : Nat)) ∧ w4.cell? ⟨rb, 6, none⟩ = some cv ∧ w4.cell? ⟨rb, 7, none⟩ = some ev := ⟨G4.out.x.z.a.cell rfl, G4.out.x.z.a.cell rfl, G4.out.x.z.a.cell rfl, G4.out.x.z.a.cell rfl⟩
            obtain ⟨f4, f5, f6, f7⟩ : w4.frozen? ⟨rb, 4, none⟩ = false ∧ w4.frozen? ⟨rb, 5, none⟩ = false ∧ w4.frozen? ⟨rb, 6, none⟩ = false ∧ w4.frozen? ⟨rb, 7, none⟩ = false := ⟨G4.out.x.z.a.frozen 4, G4.out.x.z.a.frozen 5, G4.out.x.z.a.frozen 6, G4.out.x.z.a.frozen 7⟩
            have X7 := Lib.hid (Gl.lay HV.out.2.2.1 G4.out)
            clear G4
            go_upto_region 9 with (fail)
            clear g0 g1 g2 g3 e4 e5 e6 e7 f4 f5 f6 f7
            generalize (((w4.setCell ⟨rb, 4, none⟩ (.int .u64 (vb : Nat))).setCell ⟨rb, 5, none⟩ (.int .u64 (vt : Nat))).setCell ⟨rb, 6, none⟩ (.slice va (ints c).length vc)).setCell ⟨rb, 7, none⟩ (.slice none 0 0) = W7 at *
            have k0 : W7.cell? ⟨rb, 0, none⟩ = some (.pointer (some ⟨lb, 0, none⟩)) := X7.out.z.a.cell rfl
            have hK := HK3.out _ _ _ _ X7.out
            clear HK3 X7 HC
            go_wp2_with fail
            refine hK.mono ?_
            rintro e w8 ⟨rfl, -, x8⟩
            have k10 : w8.cell? ⟨rb, 10, none⟩ = some (.int .i64 (m : Nat)) := x8.z.a.cell rfl
            have f10 := x8.z.a.frozen 10
            have HE : Hid (ROut B rb lb l w R (.returned (.tuple #[])) (w8.setCell ⟨rb, 10, none⟩ (.int .i64 (q : Nat)))) := by
              have h := (x8.set 10 (.int .i64 (q : Nat)) (s' := { s with base := vb, bterm := vt, conf := c, l := [] }) (based' := true) (m' := q) rfl rfl rfl).out
              have e : ({ s with base := vb, bterm := vt, conf := c, l := [] } : St) = { s with base := vb, bterm := vt, conf := c } := by rw [← HV.out.2.2.2]
              rw [e, HR2.out] at h
              exact h
            clear hK k0 x8
            go_wp2_with fail
            exact bodyPost_end (results_none rfl _ _ _) rfl HE.out
          · rw [decide_eq_false hM] at hRB
            have HR2 : Hid (none = R) := Lib.hid (by rw [← HR.out, if_neg hM])
            clear HR hM HMy
            go_wp2_with fail
            refine hRB.mono ?_
            rintro e w4 ⟨rfl, b4⟩
            have HE : Hid (ROut B rb lb l w R (.panicked wrongs) w4) := by rw [← HR2.out]; exact ⟨HI.out.x.b.trans (b4.mono HI.out.x.le), rfl⟩
            have hm := HMn.out w4
            clear hRB b4 g0 g1 g2 g3 HI
            go_wp2_with fail
            refine hm.mono ?_
            rintro e w5 ⟨rfl, rfl⟩
            clear hm
            go_wp2_with fail
            exact bodyPost_panic rfl HE.out
end Go.Proofs.YteeeakbgofjinaaGreat.jr
/-! JrRd6 -/
namespace Go.Proofs.YteeeakbgofjinaaGreat.jr
set_option linter.unusedVariables false
open Go.RowKit
open fl (S S_size S_append)
open rw (Arr But Own below_box bnext below_drew below_drewN Fr)

/-- What a record leaves, or the panic. -/
def RecOut (B rb : Nat) (W : World) (o : Option Pr) (e : Ending) (W' : World) : Prop :=
  Below B W W' ∧ match o with
  | none => e = .panicked wrongs
  | some y => e = .returned (.tuple #[]) ∧ ∃ lv, Rz W' B rb lv y.s y.based y.m
/-- A state that the reader can bear. -/
structure Bear (s : St) (based : Bool) (m : Nat) : Prop where
  m : m ≤ 1000000
  i : s.image.length ≤ 1000000
  b : s.base ≤ 4611686018427387904
  l : s.l.length ≤ 100000000
  z : based = false → s.l = []
set_option maxRecDepth 100000 in
theorem base_no (B rb lb : Nat) (l : Bs) (x : Pr) (hb : x.based = true) (w : World) (h : Rz w B rb (.pointer (some ⟨lb, 0, none⟩)) x.s x.based x.m) :
    Calls Tryz.prog 139 #[.pointer (some ⟨rb, 0, none⟩)] w (ROut B rb lb l w none) := by
  obtain ⟨cv, ev, h⟩ := h
  rw [hb] at h
  have c9 : w.cell? ⟨rb, 9, none⟩ = some (.bool true) := h.a.cell rfl
  have hm := must_no rb w
  have HE : Hid (ROut B rb lb l w none (.panicked wrongs) w) := ⟨Below.refl _ _, rfl⟩
  clear h
  go_enter Tryz.func139, Tryz.ntmps139
  go_wp2_with fail
  refine hm.mono ?_
  rintro e w2 ⟨rfl, rfl⟩
  clear hm
  go_wp2_with fail
  exact bodyPost_panic rfl HE.out
theorem form_read {k : Nat} (h1 : 1 ≤ k) (h4 : k ≤ 4) (B rb lb : Nat) (l : Bs) (x : Pr) (hl : l.length ≤ 281474976710656) (hlb : B ≤ lb) (hx : Bear x.s x.based x.m) :
    ∃ wf rf, Form k wf rf ∧ ∀ W, B ≤ W.heap.size → Rz W B rb (.pointer (some ⟨lb, 0, none⟩)) x.s x.based x.m → PRd W lb l x.o → Calls Tryz.prog rf #[.pointer (some ⟨rb, 0, none⟩)] W (ROut B rb lb l W (pform k x)) := by
  have hk : k = 1 ∨ k = 2 ∨ k = 3 ∨ k = 4 := by omega
  rcases hk with rfl | rfl | rfl | rfl
  · refine ⟨_, _, form1, fun W hW h hp => ?_⟩
    by_cases hb : x.based = true
    · have e : pform 1 x = none := by unfold pform pbase; rw [if_pos rfl, if_pos hb]
      rw [e]
      exact base_no B rb lb l x hb W h
    · have e : pform 1 x = pbase x := by unfold pform; rw [if_pos rfl]
      rw [e]
      exact base_any B rb lb l x hl hlb (hx.z (by simpa using hb)) W hW h hp
  · refine ⟨_, _, form2, fun W hW h hp => ?_⟩
    have e : pform 2 x = ppiece x := by unfold pform; rw [if_neg (by decide), if_pos rfl]
    rw [e]
    exact piece_any B rb lb l x hl hx.m hx.i hlb W h hp
  · refine ⟨_, _, form3, fun W hW h hp => ?_⟩
    have e : pform 3 x = phard x := by unfold pform; rw [if_neg (by decide), if_neg (by decide), if_pos rfl]
    rw [e]
    exact hard_any B rb lb l x hl hlb W h hp
  · refine ⟨_, _, form4, fun W hW h hp => ?_⟩
    have e : pform 4 x = pent x := by unfold pform; rw [if_neg (by decide), if_neg (by decide), if_neg (by decide), if_pos rfl]
    rw [e]
    exact entry_any B rb lb l x hl hlb hx.b hx.l W h hp
set_option maxHeartbeats 8000000 in
set_option maxRecDepth 100000 in
theorem record_any (B rb : Nat) (lv : Value) (s : St) (based : Bool) (m : Nat) (body : Bs) (hl : body.length ≤ 281474976710656) (hb : Bear s based m) (w : World) (hB : B ≤ w.heap.size) (h : Rz w B rb lv s based m) :
    Calls Tryz.prog 108 #[.pointer (some ⟨rb, 0, none⟩), .string (S body)] w (RecOut B rb w (prec s based m body)) := by
  obtain ⟨cv, ev, h0⟩ := h
  have hO := pk.open_any (S body) w
  obtain ⟨lb, hlb⟩ : ∃ lb, w.heap.size = lb := ⟨_, rfl⟩
  have hZ : (w.alloc (.cells #[.string (S body), .int .i64 0, .int .i64 0] 212)).cell? ⟨rb, 0, none⟩ = some lv ∧ (w.alloc (.cells #[.string (S body), .int .i64 0, .int .i64 0] 212)).frozen? ⟨rb, 0, none⟩ = false ∧
      Hid (Rz ((w.alloc (.cells #[.string (S body), .int .i64 0, .int .i64 0] 212)).setCell ⟨rb, 0, none⟩ (.pointer (some ⟨lb, 0, none⟩))) B rb (.pointer (some ⟨lb, 0, none⟩)) s based m ∧ PRd ((w.alloc (.cells #[.string (S body), .int .i64 0, .int .i64 0] 212)).setCell ⟨rb, 0, none⟩ (.pointer (some ⟨lb, 0, none⟩))) lb body (some body) ∧
        Below B w ((w.alloc (.cells #[.string (S body), .int .i64 0, .int .i64 0] 212)).setCell ⟨rb, 0, none⟩ (.pointer (some ⟨lb, 0, none⟩)))) := by
    have k := below_box w (.cells #[.string (S body), .int .i64 0, .int .i64 0] 212)
    have h1 := h0.below k
    have hp : PRd (w.alloc (.cells #[.string (S body), .int .i64 0, .int .i64 0] 212)) lb body (some body) := ⟨0, 0, by rw [← hlb]; exact Arr.new w _ _, .inl ⟨body, 0, rfl, rfl, rfl, Nat.zero_le _, rfl⟩⟩
    exact ⟨h1.a.cell rfl, h1.a.frozen 0, ⟨⟨_, _, h1.set 0 _ (lv' := .pointer (some ⟨lb, 0, none⟩)) (s' := s) (based' := based) (m' := m) rfl rfl rfl⟩, hp.set h1 0 _, (k.mono hB).trans (h1.since 0 _)⟩⟩
  obtain ⟨z1, z2, HZ⟩ := hZ
  have hlB : B ≤ lb := hlb ▸ hB
  rw [hlb] at hO
  have hv4 : vC 4 (some body) ≤ 4 := vC_le _ _
  have hC : ∀ W, PRd W lb body (some body) → Calls Tryz.prog 135 #[.pointer (some ⟨lb, 0, none⟩), .int .i64 4] W fun e w' => e = .returned (.int .i64 (vC 4 (some body) : Nat)) ∧ But lb W w' ∧ PRd w' lb body (nC 4 (some body)) := fun W k => prcount_any lb body (some body) 4 (by decide) hl W k
  obtain ⟨R, hR⟩ : ∃ R : Option Pr, prec s based m body = R := ⟨_, rfl⟩
  rw [hR]
  unfold prec at hR
  have HR := Lib.hid hR
  have HC := Lib.hid hC
  generalize vC 4 (some body) = kn at *
  generalize nC 4 (some body) = o1 at *
  have HF : Hid (1 ≤ kn → ∃ wf rf, Form kn wf rf ∧ ∀ W, B ≤ W.heap.size → Rz W B rb (.pointer (some ⟨lb, 0, none⟩)) s based m → PRd W lb body o1 → Calls Tryz.prog rf #[.pointer (some ⟨rb, 0, none⟩)] W (ROut B rb lb body W (pform kn ⟨s, based, m, o1⟩))) := fun h1 => form_read h1 hv4 B rb lb body ⟨s, based, m, o1⟩ hl hlB hb
  clear hC h0 hb hR
  go_enter Tryz.func108, Tryz.ntmps108
  go_wp2_with fail
  refine hO.mono ?_
  rintro e w2 ⟨rfl, rfl⟩
  clear hO
  go_upto_region 1 with (fail)
  clear z1 z2
  generalize (w.alloc (.cells #[.string (S body), .int .i64 0, .int .i64 0] 212)).setCell ⟨rb, 0, none⟩ (.pointer (some ⟨lb, 0, none⟩)) = w1 at *
  obtain ⟨k0, hC⟩ : w1.cell? ⟨rb, 0, none⟩ = some (.pointer (some ⟨lb, 0, none⟩)) ∧ Calls Tryz.prog 135 #[.pointer (some ⟨lb, 0, none⟩), .int .i64 4] w1 fun e w' => e = .returned (.int .i64 (kn : Nat)) ∧ But lb w1 w' ∧ PRd w' lb body o1 := by
    obtain ⟨⟨cv, ev, h1⟩, hp, _⟩ := HZ.out
    exact ⟨h1.a.cell rfl, HC.out w1 hp⟩
  clear HC
  go_wp2_with fail
  refine hC.mono ?_
  rintro e w3 ⟨rfl, b3, p3⟩
  have HZ3 : Hid (Rz w3 B rb (.pointer (some ⟨lb, 0, none⟩)) s based m ∧ PRd w3 lb body o1 ∧ Below B w w3) := by
    obtain ⟨⟨cv, ev, h1⟩, hp, hw⟩ := HZ.out
    exact ⟨⟨cv, ev, h1.but hp b3⟩, p3, hw.trans (b3.below (Nat.le_trans h1.le (Nat.le_of_lt h1.lt)) hlB)⟩
  clear hC b3 p3 k0 HZ
  by_cases hk : kn = 0
  · have hm := must_no rb w3
    have HE : Hid (RecOut B rb w R (.panicked wrongs) w3) := by
      have := HR.out
      rw [if_pos hk] at this
      rw [← this]
      exact ⟨HZ3.out.2.2, rfl⟩
    subst hk
    clear HF HZ3 HR
    go_wp2_with fail
    refine hm.mono ?_
    rintro e w4 ⟨rfl, rfl⟩
    clear hm
    go_wp2_with fail
    exact bodyPost_panic rfl HE.out
  · obtain ⟨wf, rf, hf, hread⟩ := HF.out (by omega)
    have HD := Lib.hid hread
    have HR2 : Hid ((pform kn ⟨s, based, m, o1⟩).bind (fun y => if y.o = some [] then some y else none) = R) := Lib.hid (by rw [← HR.out, if_neg hk])
    have hm := must_yes rb w3
    have hkb : ((kn : Int) != 0) = true := by simp; omega
    have hidx := hf.idx
    have eg := hf.er
    have hfw := field_r wf rf
    have hk5 : (0 : Int) ≤ (kn : Int) := by omega
    have hk6 : (kn : Int) < 5 := by omega
    generalize pform kn ⟨s, based, m, o1⟩ = P at *
    clear HF hread HR hf hk hv4
    go_wp2_with fail
    refine hm.mono ?_
    rintro e w4 ⟨rfl, rfl⟩
    clear hm hkb
    have hFm := forms_any w3
    go_wp2_with fail
    refine hFm.mono ?_
    rintro e w5 ⟨rfl, b5⟩
    have HZ5 : Hid (Rz w5 B rb (.pointer (some ⟨lb, 0, none⟩)) s based m ∧ PRd w5 lb body o1 ∧ Below B w w5 ∧ B ≤ w5.heap.size) := by
      obtain ⟨h1, hp, hw⟩ := HZ3.out
      exact ⟨h1.below b5, hp.below b5, hw.trans (b5.mono (Nat.le_trans hB hw.size)), Nat.le_trans (Nat.le_trans hB hw.size) b5.size⟩
    have hD := HD.out w5 HZ5.out.2.2.2 HZ5.out.1 HZ5.out.2.1
    clear hFm b5 HZ3 HD
    go_wp2_with fail
    refine hD.mono ?_
    clear hD
    cases P with
    | none =>
      rintro e w6 ⟨b6, he⟩
      change e = .panicked wrongs at he
      subst he
      have HE : Hid (RecOut B rb w R (.panicked wrongs) w6) := by
        rw [← HR2.out]
        exact ⟨HZ5.out.2.2.1.trans b6, rfl⟩
      clear b6 HZ5 HR2
      go_wp2_with fail
      exact bodyPost_panic rfl HE.out
    | some y =>
      rintro e w6 ⟨b6, he, hz6, hp6⟩
      subst he
      have hEnd := prend_any lb body y.o hl w6 hp6
      have k0 : w6.cell? ⟨rb, 0, none⟩ = some (.pointer (some ⟨lb, 0, none⟩)) := by
        obtain ⟨cv, ev, h1⟩ := hz6
        exact h1.a.cell rfl
      have HZ6 : Hid (∀ w7, But lb w6 w7 → Rz w7 B rb (.pointer (some ⟨lb, 0, none⟩)) y.s y.based y.m ∧ Below B w w7) := fun w7 k => by
        obtain ⟨cv, ev, h1⟩ := hz6
        exact ⟨⟨cv, ev, h1.but hp6 k⟩, (HZ5.out.2.2.1.trans b6).trans (k.below (Nat.le_trans h1.le (Nat.le_of_lt h1.lt)) hlB)⟩
      have HR3 : Hid ((if y.o = some [] then some y else none) = R) := HR2
      clear b6 HZ5 HR2 hz6 hp6 hidx eg hfw hk5 hk6
      go_wp2_with fail
      refine hEnd.mono ?_
      clear hEnd
      rintro e w7 ⟨k7, ⟨ho, rfl⟩ | ⟨ho, n, hn, rfl⟩⟩
      · have hm := must_yes rb w7
        have HE : Hid (RecOut B rb w R (.returned (.tuple #[])) w7) := by
          rw [← HR3.out, if_pos ho]
          exact ⟨(HZ6.out w7 k7).2, rfl, _, (HZ6.out w7 k7).1⟩
        clear k7 ho HZ6 HR3 k0
        go_wp2_with fail
        refine hm.mono ?_
        rintro e w8 ⟨rfl, rfl⟩
        clear hm
        go_wp2_with fail
        exact bodyPost_end (results_none rfl _ _ _) rfl HE.out
      · have hm := must_no rb w7
        have HE : Hid (RecOut B rb w R (.panicked wrongs) w7) := by
          rw [← HR3.out, if_neg ho]
          exact ⟨(HZ6.out w7 k7).2, rfl⟩
        clear k7 ho HZ6 HR3 k0
        go_wp2_with fail
        refine hm.mono ?_
        rintro e w8 ⟨rfl, rfl⟩
        clear hm
        go_wp2_with fail
        exact bodyPost_panic rfl HE.out
end Go.Proofs.YteeeakbgofjinaaGreat.jr
/-! JrRd7 -/
namespace Go.Proofs.YteeeakbgofjinaaGreat.jr
set_option linter.unusedVariables false
open Go.RowKit
open fl (S S_size S_append)
open rw (Arr But Own below_box bnext below_drew below_drewN Fr)

/-! ### What holds from record to record -/
structure RIn (bs : List Bs) (k : Nat) (y : Rd) : Prop where
  r : records 0 ⟨zero, 0⟩ (bs.take k) = some y
  ok : Okd y
  l : y.s.l.length ≤ k
  z : k = 0 → y = ⟨zero, 0⟩
theorem rin_zero (bs : List Bs) : RIn bs 0 ⟨zero, 0⟩ := ⟨rfl, ⟨zero_ok, by decide, by decide⟩, by decide, fun _ => rfl⟩
theorem RIn.inv {bs : List Bs} {k : Nat} {y : Rd} (h : RIn bs k y) : InvR k y := ⟨fun e => by rw [h.z e], h.ok.image⟩
theorem RIn.bear {bs : List Bs} {k : Nat} {y : Rd} (h : RIn bs k y) (hk : k ≤ 100000000) : Bear y.s (decide (0 < k)) (y.size - y.s.image.length) :=
  ⟨by have := h.ok.size; omega, by have := h.ok.size; have := h.ok.image; omega, h.ok.ok.base, Nat.le_trans h.l hk, fun e => by
    have : k = 0 := by simpa using e
    rw [h.z this]; rfl⟩
theorem record_len {i : Nat} {x y : Rd} {b : Bs} (e : record i x b = some y) : y.s.l.length ≤ x.s.l.length + 1 := by
  unfold record at e
  obtain ⟨k, _, e⟩ := Option.bind_eq_some_iff.1 e
  split at e
  · unfold rdBase at e
    obtain ⟨_, _, e⟩ := Option.bind_eq_some_iff.1 e
    obtain ⟨_, _, e⟩ := Option.bind_eq_some_iff.1 e
    obtain ⟨_, _, e⟩ := Option.bind_eq_some_iff.1 e
    obtain ⟨_, _, e⟩ := Option.bind_eq_some_iff.1 e
    obtain ⟨_, _, e⟩ := Option.bind_eq_some_iff.1 e
    split at e
    · cases e; exact Nat.le_succ _
    · cases e
  · split at e
    · unfold rdPiece at e
      obtain ⟨_, _, e⟩ := Option.bind_eq_some_iff.1 e
      split at e
      · cases e; exact Nat.le_succ _
      · cases e
    · split at e
      · unfold rdHard at e
        obtain ⟨_, _, e⟩ := Option.bind_eq_some_iff.1 e
        obtain ⟨_, _, e⟩ := Option.bind_eq_some_iff.1 e
        obtain ⟨_, _, e⟩ := Option.bind_eq_some_iff.1 e
        split at e
        · cases e; exact Nat.le_succ _
        · cases e
      · split at e
        · unfold rdEnt at e
          obtain ⟨_, _, e⟩ := Option.bind_eq_some_iff.1 e
          obtain ⟨_, _, e⟩ := Option.bind_eq_some_iff.1 e
          obtain ⟨_, _, e⟩ := Option.bind_eq_some_iff.1 e
          obtain ⟨_, _, e⟩ := Option.bind_eq_some_iff.1 e
          split at e
          · cases e
            show (_ ++ [_]).length ≤ _
            rw [List.length_append, List.length_take, List.length_singleton]
            omega
          · cases e
        · cases e
/-- One record more. -/
theorem RIn.next {bs : List Bs} {k : Nat} {y : Rd} (h : RIn bs k y) (hk : k < bs.length) : prec y.s (decide (0 < k)) (y.size - y.s.image.length) (bs[k]'hk) = (record k y (bs[k]'hk)).map (fun z => toPr z true) ∧ (record k y (bs[k]'hk) = none → records 0 ⟨zero, 0⟩ bs = none) ∧ ∀ z, record k y (bs[k]'hk) = some z → RIn bs (k + 1) z := by
  have ht : bs.take (k + 1) = bs.take k ++ [bs[k]'hk] := List.take_succ_eq_append_getElem hk
  have hl : (bs.take k).length = k := by rw [List.length_take]; omega
  have hs : records 0 ⟨zero, 0⟩ (bs.take (k + 1)) = record k y (bs[k]'hk) := by
    rw [ht, records_snoc, h.r, Option.bind_some, hl, Nat.zero_add]
  refine ⟨prec_eq k y _ h.inv, fun e => ?_, fun z e => ⟨hs.trans e, record_ok h.ok (fun e0 => by rw [h.z e0]; rfl) e, by have := record_len e; have := h.l; omega, fun e => by omega⟩⟩
  have hsplit : bs = bs.take (k + 1) ++ bs.drop (k + 1) := (List.take_append_drop _ _).symm
  rw [hsplit]
  have hn := hs.trans e
  generalize bs.take (k + 1) = a at hn
  generalize bs.drop (k + 1) = b
  exact records_none a b 0 _ hn

/-! ### What is caught -/
set_option maxHeartbeats 4000000 in
theorem catch_idle (eb : Nat) (w : World) :
    CallsD Tryz.prog 107 #[.pointer (some ⟨eb, 0, none⟩)] .returning w fun e u' w' => e = .returned (.tuple #[]) ∧ u' = .returning ∧ w' = w := by
  refine callsD_of_wpS Tryz.func107 rfl fun c₀ cs hu => ?_
  apply wpS_seq
  apply wpS_region
  simp [wpOpsS, go_sem, recoverD, hu, Tryz.ntmps107, Exit.thenS]
  refine wpS_cond (t := false) (by simp [Act.eval, Array.replicate]) ?_
  simp only [Bool.false_eq_true, if_false]
  refine wpS_of_wp (wp_skip ?_)
  cases c₀
  simp_all [bodyPostS, results, Tryz.results107]
set_option maxRecDepth 100000 in
set_option maxHeartbeats 4000000 in
theorem catch_any (eb : Nat) (v : Value) (T : TypeId) (x : Int) (w : World) (hX : Arr w eb 26 #[.int .i64 x]) :
    CallsD Tryz.prog 107 #[.pointer (some ⟨eb, 0, none⟩)] (.panicking [{ v := .iface T v, recovered := false }]) w fun e u' w' =>
      e = .returned (.tuple #[]) ∧ u' = .panicking [{ v := .iface T v, recovered := true }] ∧ w' = w.setCell ⟨eb, 0, none⟩ (.int .i64 4) := by
  have e0 : w.cell? ⟨eb, 0, none⟩ = some (.int .i64 x) := hX.cell rfl
  have e1 := hX.frozen 0
  refine callsD_of_wpS Tryz.func107 rfl fun c₀ cs hu => ?_
  apply wpS_seq
  apply wpS_region
  simp [wpOpsS, go_sem, recoverD, hu, Tryz.ntmps107, Exit.thenS]
  refine wpS_cond (t := true) (by simp [Act.eval, Array.replicate]) ?_
  simp only [if_true]
  refine wpS_of_wp ?_
  change Code.wp _ _ _ { tmps := #[.pointer (some ⟨eb, 0, none⟩), .iface T v, .bool true], defers := [] } w
  go_wp2_with fail
  exact ⟨rfl, _, rfl, _, results_none rfl _ _ _, rfl, rfl, rfl⟩

theorem results_st {w : World} {fn : Func} {tmps : Array Value} {sb eb : Nat} {s : St} {cv ev : Value} {er : Int} (h : fn.results = #[.cell 2 87, .cell 3 26]) (h2 : tmps[2]? = some (.pointer (some ⟨sb, 0, none⟩))) (h3 : tmps[3]? = some (.pointer (some ⟨eb, 0, none⟩)))
    (hC : Arr w sb 87 (stC s cv ev)) (hE : Arr w eb 26 #[.int .i64 er]) :
    (results fn tmps).run Tryz.prog w = .ok (.tuple #[.agg (stC s cv ev), .int .i64 er]) w := by
  have z0 := hC.cell (j := 0) rfl
  have z1 := hC.cell (j := 1) rfl
  have z2 := hC.cell (j := 2) rfl
  have z3 := hC.cell (j := 3) rfl
  have z4 := hC.cell (j := 4) rfl
  have z5 := hC.cell (j := 5) rfl
  have z6 := hC.cell (j := 6) rfl
  have z7 := hC.cell (j := 7) rfl
  have ze := hE.cell (j := 0) rfl
  simp [results, h, h2, h3, go_sem, z0, z1, z2, z3, z4, z5, z6, z7, ze, stC]
/-- What the reading of a file's records leaves. -/
def ReadOut (w : World) (o : Option St) (e : Ending) (w' : World) : Prop :=
  Below w.heap.size w w' ∧ match o with
  | none => e = .returned (.tuple #[.agg (stC zero (.slice none 0 0) (.slice none 0 0)), .int .i64 4])
  | some s => ∃ cv ev, e = .returned (.tuple #[.agg (stC s cv ev), .int .i64 0]) ∧ Own noSh w' w.heap.size cv (ints s.conf) ∧ Own enSh w' w.heap.size ev (ens s.l)
theorem read_caught {w w2 : World} {sb eb : Nat} {x : Int} {a : Act} {fn : Func} (hres : fn.results = #[.cell 2 87, .cell 3 26])
    (hd : a.defers = [{ target := .fn (.func 107) #[.pointer (some ⟨eb, 0, none⟩)], args := #[] }])
    (h2 : a.tmps[2]? = some (.pointer (some ⟨sb, 0, none⟩))) (h3 : a.tmps[3]? = some (.pointer (some ⟨eb, 0, none⟩)))
    (hS : Arr w2 sb 87 (stC zero (.slice none 0 0) (.slice none 0 0))) (hX : Arr w2 eb 26 #[.int .i64 x]) (hb : Below w.heap.size w w2) (n2 : w.heap.size ≤ eb) (hne : eb ≠ sb) :
    bodyPostD Tryz.prog fn (ReadOut w none) (.panic wrongs) a w2 := by
  show Leaves Tryz.prog fn a.tmps _ a.defers (.panicking wrongs) w2
  rw [hd]
  refine leaves_cons (f := 107) (args := #[.pointer (some ⟨eb, 0, none⟩)]) (by simp) (by simp [go_sem]) ?_
  refine (catch_any eb _ _ x w2 hX).mono ?_
  rintro e u' w3 ⟨rfl, rfl, rfl⟩
  have k : But eb w2 (w2.setCell ⟨eb, 0, none⟩ (.int .i64 4)) := (But.refl eb w2).set 0 _
  exact ⟨_, results_st hres h2 h3 (k.arr hS (Ne.symm hne)) (hX.set 0 (.int .i64 4)), hb.setCell n2 _, rfl⟩
theorem read_done {w w2 : World} {sb eb : Nat} {s : St} {cv ev : Value} {a : Act} {fn : Func} (hres : fn.results = #[.cell 2 87, .cell 3 26])
    (hd : a.defers = [{ target := .fn (.func 107) #[.pointer (some ⟨eb, 0, none⟩)], args := #[] }])
    (h2 : a.tmps[2]? = some (.pointer (some ⟨sb, 0, none⟩))) (h3 : a.tmps[3]? = some (.pointer (some ⟨eb, 0, none⟩)))
    (hS : Arr w2 sb 87 (stC s cv ev)) (hX : Arr w2 eb 26 #[.int .i64 0]) (hb : Below w.heap.size w w2) (hc : Own noSh w2 w.heap.size cv (ints s.conf)) (hl : Own enSh w2 w.heap.size ev (ens s.l)) :
    bodyPostD Tryz.prog fn (ReadOut w (some s)) .ret a w2 := by
  show Leaves Tryz.prog fn a.tmps _ a.defers .returning w2
  rw [hd]
  refine leaves_cons (f := 107) (args := #[.pointer (some ⟨eb, 0, none⟩)]) (by simp) (by simp [go_sem]) ?_
  refine (catch_idle eb w2).mono ?_
  rintro e u' w3 ⟨rfl, rfl, rfl⟩
  exact ⟨_, results_st hres h2 h3 hS hX, hb, _, _, rfl, hc, hl⟩
end Go.Proofs.YteeeakbgofjinaaGreat.jr
/-! DkP6 -/
namespace Go.Proofs.YteeeakbgofjinaaGreat.dk
set_option linter.unusedVariables false
open Go.RowKit
open fl (S S_size S_append S_inj str_eq str_ne)
open rw (Arr But Row Own bnext below_box below_drew below_drewN addr_add Fr RowB)
open mp (Mp Turned kget kput kwithout kmap KSorted)

/-- How large a disk may be, for the program's calls. -/
structure Room (d : Dk) : Prop where
  r : Right d
  n : d.seen.length ≤ 100000
  p : d.pend.length ≤ 100000
theorem pend_steps {d : Dk} (h : Right d) : ∀ c ∈ d.pend, steps c ≤ 1048576 := by
  intro c hc
  obtain ⟨j, hj, e⟩ := List.getElem_of_mem hc
  have h1 := h.room (j + 1)
  have hsj : Sorted (full d.lasts (d.pend.take j)) := full_sorted h.so _
  rw [List.take_succ_eq_append_getElem hj, full_snoc, e] at h1
  have hcap := h.cap
  unfold steps
  split
  · next hk =>
    have h2 := bytes_get (bytes_of_used h1) c.name
    have hs : steps c = c.s.length := by unfold steps; rw [if_pos hk]
    have hp := steps_pos (h.np c hc)
    unfold done at h2
    rw [if_neg (by omega), if_pos hk, get_put_same hsj, hs, List.take_length] at h2
    simp only [Option.getD_some, List.length_append] at h2
    omega
  · omega
theorem count_bound {d : Dk} (h : Right d) : count d.pend ≤ d.pend.length * 1048576 := by
  have : ∀ l : List Call, (∀ c ∈ l, steps c ≤ 1048576) → count l ≤ l.length * 1048576 := by
    intro l
    induction l with
    | nil => intro _; simp [count]
    | cons c r ih =>
      intro h
      have h1 := ih fun x hx => h x (List.mem_cons_of_mem _ hx)
      have h2 := h c List.mem_cons_self
      have e : count (c :: r) = steps c + count r := by simp [count]
      rw [e, List.length_cons, Nat.add_mul]
      omega
  exact this _ (pend_steps h)
theorem turn_ref (d : Dk) (c : Call) (h : refused d c.name ≠ 0) : turn d c = (refused d c.name, d) := by
  unfold refused at h ⊢
  unfold turn
  by_cases h1 : c.name.length < 1 ∨ 80 < c.name.length
  · rw [if_pos h1, if_pos h1]
  · rw [if_neg h1, if_neg h1]
    rw [if_neg h1] at h
    by_cases h2 : off d = true
    · rw [if_pos h2, if_pos h2]
    · rw [if_neg h2] at h; exact absurd rfl h
theorem turn_not {d : Dk} {c : Call} (h : refused d c.name = 0) : ¬ (c.name.length < 1 ∨ 80 < c.name.length) ∧ off d = false ∧ turn d c = if c.kind = 3 ∧ get d.seen c.name = none then (6, d)
    else if c.kind = 1 ∧ c.s = [] then (0, d) else if d.cap < used (after d.seen c) then (7, d) else (0, spend { d with seen := after d.seen c, pend := d.pend ++ [c] }) := by
  unfold refused at h
  by_cases h1 : c.name.length < 1 ∨ 80 < c.name.length
  · rw [if_pos h1] at h; cases h
  · rw [if_neg h1] at h
    by_cases h2 : off d = true
    · rw [if_pos h2] at h; cases h
    · refine ⟨h1, by simpa using h2, ?_⟩
      unfold turn
      rw [if_neg h1, if_neg h2]
theorem Step.same {w w' : World} {F : Nat → Prop} {p : Nat} {d : Dk} (h : PD w F p d) (k : Below w.heap.size w w') : Step w F p d w' := ⟨F, h.below k, Fr.of_below k, Nu.refl _ _⟩
theorem Step.from {w w0 w' : World} {F : Nat → Prop} {p : Nat} {d : Dk} (k : Below w.heap.size w w0) (h : Step w0 F p d w') : Step w F p d w' := Step.after (Fr.of_below k) (Nu.refl _ _) h
theorem Step.drewN {w w' : World} {F : Nat → Prop} {p : Nat} {d : Dk} {n : Nat} (h : Step w F p d w') : Step w F p d w' := h

set_option maxHeartbeats 4000000 in
set_option maxRecDepth 100000 in
theorem padd_any (F : Nat → Prop) (p : Nat) (d : Dk) (n s : Bs) (hd : Room d) (hs : s.length ≤ 281474976710656) (w : World) (h : PD w F p d) :
    Calls Tryz.prog 81 #[.pointer (some ⟨p, 0, none⟩), .string (S n), .string (S s)] w fun e w' => e = .returned (.int .i64 ((turn d ⟨1, n, s⟩).1 : Nat)) ∧ Step w F p (turn d ⟨1, n, s⟩).2 w' := by
  obtain ⟨R, hR⟩ : ∃ R, turn d ⟨1, n, s⟩ = R := ⟨_, rfl⟩
  rw [hR]
  obtain ⟨W0, hW0⟩ : ∃ W0, (w.alloc (.cells #[.string (S n)] 9)).alloc (.cells #[.string (S s)] 9) = W0 := ⟨_, rfl⟩
  have b0 : Below w.heap.size w W0 := by rw [← hW0]; exact (below_box w _).trans ((below_box (w.alloc (.cells #[.string (S n)] 9)) _).mono (by simp))
  have z0 : W0.heap.size = w.heap.size + 2 := by rw [← hW0]; simp
  have x1 : Boxed W0 w.heap.size n := by rw [← hW0]; exact (Arr.new w _ _).below (below_box _ _)
  have x2 : Boxed W0 (w.heap.size + 1) s := by rw [← hW0]; have := Arr.new (w.alloc (.cells #[.string (S n)] 9)) 9 #[.string (S s)]; rwa [rw.size_1] at this
  have P0 := h.below b0
  have hRf := refuses_any F p d n W0 P0
  have e1 : W0.cell? ⟨w.heap.size, 0, none⟩ = some (.string (S n)) := x1.cell rfl
  by_cases hr : refused d n ≠ 0
  · have HS : Hid (Step w F p R.2 W0 ∧ R.1 = refused d n) := by
      rw [turn_ref d ⟨1, n, s⟩ hr] at hR
      rw [← hR]; exact ⟨Step.same h b0, rfl⟩
    have hri : ((refused d n : Nat) : Int) != 0 := by simpa using hr
    generalize refused d n = r at *
    clear h P0 x1 x2 z0 b0 hr hR
    go_enter Tryz.func81, Tryz.ntmps81
    go_wp2_with fail
    refine hRf.mono ?_
    rintro e w1 ⟨rfl, rfl⟩
    clear hRf
    go_wp2_with fail
    go_ret
    rw [HS.out.2]
    exact ⟨rfl, HS.out.1⟩
  have hr0 : refused d n = 0 := by omega
  obtain ⟨hn, ho, ht⟩ := turn_not (c := ⟨1, n, s⟩) hr0
  rw [hR] at ht
  rw [hr0, show ((0 : Nat) : Int) = 0 from rfl] at hRf
  have hcap := hd.r.cap
  have hus := hd.r.used
  have hse := hd.r.seen
  have hRm := fun k => room_any F p d (W0.drewN k) (P0.below (below_drewN (Below.refl _ _) k)) hcap (by omega)
  obtain ⟨rm, hrm⟩ : ∃ rm : Int, (d.cap : Int) - (used d.seen : Int) = rm := ⟨_, rfl⟩
  rw [hrm] at hRm
  have e2 : W0.drewN 1 = W0.drew := rfl
  have e3 : W0.cell? ⟨w.heap.size + 1, 0, none⟩ = some (.string (S s)) := x2.cell rfl
  have hz : ((S s).size : Int) = (s.length : Int) := by rw [S_size]
  have haf : after d.seen ⟨1, n, s⟩ = done d.seen ⟨1, n, s⟩ s.length := by simp [after, steps]
  have e4 : Hid (∀ k, (W0.drewN k).cell? ⟨w.heap.size + 1, 0, none⟩ = some (.string (S s))) := fun k => x2.cell rfl
  by_cases hs0 : s = []
  · have HS : Hid (∀ k, Step w F p R.2 (W0.drewN k) ∧ R.1 = 0) := fun k => by
      rw [ht, if_neg (fun hh => absurd hh.1 (show ¬ (1 = 3) by decide)), if_pos ⟨rfl, hs0⟩]
      exact ⟨Step.same h (below_drewN b0 k), rfl⟩
    subst hs0
    have hbig : ¬ ((0 : Int) > rm) := by omega
    have hz0 : ((S []).size : Int) = 0 := rfl
    clear h P0 x1 x2 z0 b0 hr hR hz hrm hcap hus hse ht haf hn ho hd hs hr0 e2
    go_enter Tryz.func81, Tryz.ntmps81
    go_wp2_with fail
    refine hRf.mono ?_
    rintro e w1 ⟨rfl, rfl⟩
    clear hRf
    go_wp2_with fail
    go_quiet (first | (go_at_call 58; refine Calls.quiet_of (hRm _)))
    have e5 := e4.out nq
    go_wp2_with fail
    go_ret
    rw [(HS.out nq).2]
    exact ⟨rfl, (HS.out nq).1⟩
  have hpos : 0 < s.length := List.length_pos_iff.2 hs0
  have hgood : Good ⟨1, n, s⟩ := ⟨by unfold Named; show 1 ≤ n.length ∧ n.length ≤ 80; have : ¬ (n.length < 1 ∨ 80 < n.length) := hn; omega, fun _ => hs0⟩
  have hud := used_done hd.r.sorted ⟨1, n, s⟩ (n := s.length) hpos
  have hgd : get (done d.seen ⟨1, n, s⟩ s.length) n = some ((get d.seen n).getD [] ++ s) := by
    unfold done
    rw [if_neg (by omega), if_pos rfl, get_put_same hd.r.sorted]
    show some (_ ++ s.take s.length) = _
    rw [List.take_length]
  have hu1 : used (done d.seen ⟨1, n, s⟩ s.length) = used d.seen + s.length := by
    rw [show (⟨1, n, s⟩ : Call).name = n from rfl, hgd] at hud
    simp only [Option.getD_some, List.length_append] at hud
    omega
  by_cases hbig : (s.length : Int) > rm
  · have HS : Hid (∀ k, Step w F p R.2 (W0.drewN k) ∧ R.1 = 7) := fun k => by
      rw [ht, if_neg (fun hh => absurd hh.1 (show ¬ (1 = 3) by decide)), if_neg (fun hh => hs0 hh.2), if_pos (by rw [haf, hu1]; omega)]
      exact ⟨Step.same h (below_drewN b0 k), rfl⟩
    clear h P0 x1 x2 z0 b0 hr hR hrm hcap hus hse ht haf hn ho hd hs hr0 e2 hgd hu1 hud hgood hpos hs0
    generalize s.length = L at *
    go_enter Tryz.func81, Tryz.ntmps81
    go_wp2_with fail
    refine hRf.mono ?_
    rintro e w1 ⟨rfl, rfl⟩
    clear hRf
    go_wp2_with fail
    go_quiet (first | (go_at_call 58; refine Calls.quiet_of (hRm _)))
    go_wp2_with fail
    go_ret
    rw [(HS.out nq).2]
    exact ⟨rfl, (HS.out nq).1⟩
  have hR2 : R = (0, spend { d with seen := done d.seen ⟨1, n, s⟩ s.length, pend := d.pend ++ [⟨1, n, s⟩] }) := by
    rw [ht, if_neg (fun hh => absurd hh.1 (show ¬ (1 = 3) by decide)), if_neg (fun hh => hs0 hh.2), if_neg (by rw [haf, hu1]; omega), haf]
  have hcb := count_bound hd.r
  have hpl := hd.p
  have hst : steps ⟨1, n, s⟩ = s.length := by simp [steps]
  have HD : Hid (∀ W, Below w.heap.size w W → Boxed W w.heap.size n → Boxed W (w.heap.size + 1) s → Calls Tryz.prog 61 #[.pointer (some ⟨p, 0, none⟩), .string (S n), .agg #[.int .i64 (s.length : Nat), .func (.func 111) #[] #[.pointer (some ⟨w.heap.size, 0, none⟩), .pointer (some ⟨w.heap.size + 1, 0, none⟩)]]] W fun e w' => e = .returned (.tuple #[]) ∧ Step w F p R.2 w') := by
    intro W k y1 y2
    have h1 := do_any F p d ((111, #[.pointer (some ⟨w.heap.size, 0, none⟩), .pointer (some ⟨w.heap.size + 1, 0, none⟩)]), ⟨1, n, s⟩) hgood ho hcap hd.n hd.p (by omega) (by show used (done d.seen ⟨1, n, s⟩ (steps ⟨1, n, s⟩)) ≤ _; rw [hst, hu1]; omega) hd.r.sorted (by show s.length ≤ _; omega)
      (by show count d.pend + steps ⟨1, n, s⟩ ≤ _; rw [hst]; omega) W (h.below k) (.inl ⟨rfl, _, _, rfl, y1, y2⟩)
    rw [show steps (((111, #[.pointer (some ⟨w.heap.size, 0, none⟩), .pointer (some ⟨w.heap.size + 1, 0, none⟩)]), ⟨1, n, s⟩) : TC).2 = s.length from hst] at h1
    refine h1.mono ?_
    rintro e w' ⟨e1, e2⟩
    exact ⟨e1, by rw [hR2]; exact Step.from k e2⟩
  have HC1 : Hid (∀ W, Calls Tryz.prog 60 #[.string (S n)] W fun e w' => e = .returned (.string (S n)) ∧ Below W.heap.size W w') := fun W => clone_any n W (by have : ¬ (n.length < 1 ∨ 80 < n.length) := hn; omega)
  have HC2 : Hid (∀ W, Calls Tryz.prog 60 #[.string (S s)] W fun e w' => e = .returned (.string (S s)) ∧ Below W.heap.size W w') := fun W => clone_any s W hs
  have HK : Hid (∀ W, Below W0.heap.size W0 W → W.cell? ⟨w.heap.size, 0, none⟩ = some (.string (S n)) ∧ W.cell? ⟨w.heap.size + 1, 0, none⟩ = some (.string (S s)) ∧ W.frozen? ⟨w.heap.size, 0, none⟩ = false ∧ W.frozen? ⟨w.heap.size + 1, 0, none⟩ = false) :=
    fun W k => ⟨(x1.of (k.block _ x1.lt)).cell rfl, (x2.of (k.block _ x2.lt)).cell rfl, Arr.frozen (x1.of (k.block _ x1.lt)) 0, Arr.frozen (x2.of (k.block _ x2.lt)) 0⟩
  have HE : Hid (∀ W, Below W0.heap.size W0 W → Below w.heap.size w ((W.setCell ⟨w.heap.size, 0, none⟩ (.string (S n))).setCell ⟨w.heap.size + 1, 0, none⟩ (.string (S s))) ∧ Boxed ((W.setCell ⟨w.heap.size, 0, none⟩ (.string (S n))).setCell ⟨w.heap.size + 1, 0, none⟩ (.string (S s))) w.heap.size n ∧ Boxed ((W.setCell ⟨w.heap.size, 0, none⟩ (.string (S n))).setCell ⟨w.heap.size + 1, 0, none⟩ (.string (S s))) (w.heap.size + 1) s) := by
    intro W k
    have y1 := x1.of (k.block _ x1.lt)
    have y2 := x2.of (k.block _ x2.lt)
    have q1 := (But.refl w.heap.size W).set 0 (.string (S n))
    have q2 := (But.refl (w.heap.size + 1) (W.setCell ⟨w.heap.size, 0, none⟩ (.string (S n)))).set 0 (.string (S s))
    have r1 : Below w.heap.size w W := b0.trans (k.mono (by omega))
    refine ⟨(r1.trans (q1.below r1.size (Nat.le_refl _))).trans (q2.below (Nat.le_trans r1.size q1.size) (by omega)), ?_, ?_⟩
    · exact q2.arr (Arr.set y1 0 _) (by omega)
    · exact Arr.set (q1.arr y2 (by omega)) 0 _
  have HE1 : Hid (∀ W, Below W0.heap.size W0 W → ((W.setCell ⟨w.heap.size, 0, none⟩ (.string (S n))).cell? ⟨w.heap.size, 0, none⟩ = some (.string (S n)) ∧ (W.setCell ⟨w.heap.size, 0, none⟩ (.string (S n))).cell? ⟨w.heap.size + 1, 0, none⟩ = some (.string (S s)) ∧ (W.setCell ⟨w.heap.size, 0, none⟩ (.string (S n))).frozen? ⟨w.heap.size, 0, none⟩ = false ∧ (W.setCell ⟨w.heap.size, 0, none⟩ (.string (S n))).frozen? ⟨w.heap.size + 1, 0, none⟩ = false) ∧
      (((W.setCell ⟨w.heap.size, 0, none⟩ (.string (S n))).setCell ⟨w.heap.size + 1, 0, none⟩ (.string (S s))).cell? ⟨w.heap.size, 0, none⟩ = some (.string (S n)) ∧ ((W.setCell ⟨w.heap.size, 0, none⟩ (.string (S n))).setCell ⟨w.heap.size + 1, 0, none⟩ (.string (S s))).cell? ⟨w.heap.size + 1, 0, none⟩ = some (.string (S s)) ∧
        ((W.setCell ⟨w.heap.size, 0, none⟩ (.string (S n))).setCell ⟨w.heap.size + 1, 0, none⟩ (.string (S s))).frozen? ⟨w.heap.size, 0, none⟩ = false ∧ ((W.setCell ⟨w.heap.size, 0, none⟩ (.string (S n))).setCell ⟨w.heap.size + 1, 0, none⟩ (.string (S s))).frozen? ⟨w.heap.size + 1, 0, none⟩ = false)) := by
    intro W k
    have y1 := Arr.set (x1.of (k.block _ x1.lt)) 0 (.string (S n))
    have y2 := ((But.refl w.heap.size W).set 0 (.string (S n))).arr (x2.of (k.block _ x2.lt)) (by omega)
    have y3 := ((But.refl (w.heap.size + 1) (W.setCell ⟨w.heap.size, 0, none⟩ (.string (S n)))).set 0 (.string (S s))).arr y1 (by omega)
    have y4 := y2.set 0 (.string (S s))
    exact ⟨⟨y1.cell rfl, y2.cell rfl, y1.frozen 0, y2.frozen 0⟩, y3.cell rfl, y4.cell rfl, y3.frozen 0, y4.frozen 0⟩
  clear h P0 x1 x2 z0 b0 hr hR hrm hcap hus hse ht haf hn ho hd hs hr0 e2 hgd hu1 hud hgood hs0 hcb hpl hst
  have hR1 : Hid (R.1 = 0) := by rw [hR2]; rfl
  clear hR2
  generalize hL : s.length = L at *
  clear hL
  have hne : ((L : Int) == 0) = false := by rw [beq_eq_false_iff_ne]; omega
  go_enter Tryz.func81, Tryz.ntmps81
  go_wp2_with fail
  refine hRf.mono ?_
  rintro e w1 ⟨rfl, rfl⟩
  clear hRf
  go_wp2_with fail
  go_quiet (first | (go_at_call 58; refine Calls.quiet_of (hRm _)))
  have e5 := e4.out nq
  have hwq : Hid (Below w1.heap.size w1 (w1.drewN nq).drew) := below_drew (below_drewN (Below.refl _ _) nq)
  go_upto_region 8 with (fail)
  clear e1 e3 e4 e5 hRm
  generalize w1.drewN nq = w2 at *
  have k1 := HK.out _ hwq.out
  go_region_held3 (fun W => W.cell? ⟨w.heap.size, 0, none⟩ = some (.string (S n)) ∧ W.cell? ⟨w.heap.size + 1, 0, none⟩ = some (.string (S s)) ∧ W.frozen? ⟨w.heap.size, 0, none⟩ = false ∧ W.frozen? ⟨w.heap.size + 1, 0, none⟩ = false)
    (first | (with_reducible exact k1) | (with_reducible exact s3) | (with_reducible exact s4) | (with_reducible exact t1) | (with_reducible exact t2) | go_keep)
    ((first
      | (go_at_call 60; with_reducible refine (HC1.out _).mono ?_; rintro e w3 ⟨rfl, b3⟩
         have h3 := hwq.out.trans (b3.mono hwq.out.size)
         have s3 := HK.out _ h3)
      | (go_at_call 60; with_reducible refine (HC2.out _).mono ?_; rintro e w4 ⟨rfl, b4⟩
         have h4 := h3.trans (b4.mono h3.size)
         have s4 := HK.out _ h4
         have t1 := (HE1.out _ h4).1
         have t2 := (HE1.out _ h4).2)))
  obtain ⟨y0, y1, y2⟩ := HE.out _ h4
  generalize (w4.setCell ⟨w.heap.size, 0, none⟩ (.string (S n))).setCell ⟨w.heap.size + 1, 0, none⟩ (.string (S s)) = w5 at *
  have e1 : w5.cell? ⟨w.heap.size, 0, none⟩ = some (.string (S n)) := Arr.cell y1 rfl
  have e2 : w5.cell? ⟨w.heap.size + 1, 0, none⟩ = some (.string (S s)) := Arr.cell y2 rfl
  have hD := HD.out w5 y0 y1 y2
  clear HD HE HE1 HK s3 s4 t1 t2 h3 h4 b3 b4 k1 hwq y0 y1 y2 HC1 HC2
  go_wp2_with fail
  refine hD.mono ?_
  rintro e w6 ⟨rfl, s6⟩
  have S6 := Lib.hid s6
  clear hD s6 e1 e2
  go_wp2_with fail
  go_ret
  rw [hR1.out]
  exact ⟨rfl, S6.out⟩

set_option maxHeartbeats 4000000 in
set_option maxRecDepth 100000 in
theorem pput_any (F : Nat → Prop) (p : Nat) (d : Dk) (n s : Bs) (hd : Room d) (hs : s.length ≤ 281474976710656) (w : World) (h : PD w F p d) :
    Calls Tryz.prog 20 #[.pointer (some ⟨p, 0, none⟩), .string (S n), .string (S s)] w fun e w' => e = .returned (.int .i64 ((turn d ⟨2, n, s⟩).1 : Nat)) ∧ Step w F p (turn d ⟨2, n, s⟩).2 w' := by
  obtain ⟨R, hR⟩ : ∃ R, turn d ⟨2, n, s⟩ = R := ⟨_, rfl⟩
  rw [hR]
  obtain ⟨W0, hW0⟩ : ∃ W0, (w.alloc (.cells #[.string (S n)] 9)).alloc (.cells #[.string (S s)] 9) = W0 := ⟨_, rfl⟩
  have b0 : Below w.heap.size w W0 := by rw [← hW0]; exact (below_box w _).trans ((below_box (w.alloc (.cells #[.string (S n)] 9)) _).mono (by simp))
  have z0 : W0.heap.size = w.heap.size + 2 := by rw [← hW0]; simp
  have x1 : Boxed W0 w.heap.size n := by rw [← hW0]; exact (Arr.new w _ _).below (below_box _ _)
  have x2 : Boxed W0 (w.heap.size + 1) s := by rw [← hW0]; have := Arr.new (w.alloc (.cells #[.string (S n)] 9)) 9 #[.string (S s)]; rwa [rw.size_1] at this
  have P0 := h.below b0
  have hRf := refuses_any F p d n W0 P0
  have e1 : W0.cell? ⟨w.heap.size, 0, none⟩ = some (.string (S n)) := x1.cell rfl
  by_cases hr : refused d n ≠ 0
  · have HS : Hid (Step w F p R.2 W0 ∧ R.1 = refused d n) := by
      rw [turn_ref d ⟨2, n, s⟩ hr] at hR
      rw [← hR]; exact ⟨Step.same h b0, rfl⟩
    have hri : ((refused d n : Nat) : Int) != 0 := by simpa using hr
    generalize refused d n = r at *
    clear h x1 x2 z0 b0 hr hR
    go_enter Tryz.func20, Tryz.ntmps20
    go_wp2_with fail
    refine hRf.mono ?_
    rintro e w1 ⟨rfl, rfl⟩
    clear hRf
    go_wp2_with fail
    go_ret
    rw [HS.out.2]
    exact ⟨rfl, HS.out.1⟩
  have hr0 : refused d n = 0 := by omega
  obtain ⟨hn, ho, ht⟩ := turn_not (c := ⟨2, n, s⟩) hr0
  rw [hR] at ht
  rw [hr0, show ((0 : Nat) : Int) = 0 from rfl] at hRf
  have hcap := hd.r.cap
  have hus := hd.r.used
  have hse := hd.r.seen
  have hRm := fun k => room_any F p d (W0.drewN k) (P0.below (below_drewN (Below.refl _ _) k)) hcap (by omega)
  obtain ⟨rm, hrm⟩ : ∃ rm : Int, (d.cap : Int) - (used d.seen : Int) = rm := ⟨_, rfl⟩
  rw [hrm] at hRm
  have e2 : W0.drewN 1 = W0.drew := rfl
  have e3 : W0.cell? ⟨w.heap.size + 1, 0, none⟩ = some (.string (S s)) := x2.cell rfl
  have hz : ((S s).size : Int) = (s.length : Int) := by rw [S_size]
  have haf : after d.seen ⟨2, n, s⟩ = done d.seen ⟨2, n, s⟩ 1 := by simp [after, done]
  obtain ⟨bs, bl, Fs, Fl, pv, ts, fz, hpc, _⟩ := P0
  have e4 : Hid (∀ k, (W0.drewN k).cell? ⟨w.heap.size + 1, 0, none⟩ = some (.string (S s))) := fun k => x2.cell rfl
  have hgood : Good ⟨2, n, s⟩ := ⟨by unfold Named; show 1 ≤ n.length ∧ n.length ≤ 80; have : ¬ (n.length < 1 ∨ 80 < n.length) := hn; omega, fun h => absurd h (show ¬ (2 = 1) by decide)⟩
  have hud := used_done hd.r.sorted ⟨2, n, s⟩ (n := 1) (Nat.le_refl _)
  have hgd : get (done d.seen ⟨2, n, s⟩ 1) n = some s := by
    unfold done
    rw [if_neg (by omega), if_neg (show ¬ (2 = 1) by decide), if_pos rfl, get_put_same hd.r.sorted]
  obtain ⟨o, hold⟩ : ∃ o, ((get d.seen n).getD []).length = o := ⟨_, rfl⟩
  have hol : o ≤ used d.seen := by rw [← hold]; exact bytes_get (bytes_of_used (Nat.le_refl _)) n
  have hu1 : used (done d.seen ⟨2, n, s⟩ 1) + o = used d.seen + s.length := by
    rw [show (⟨2, n, s⟩ : Call).name = n from rfl, hgd, hold] at hud
    simp only [Option.getD_some] at hud
    exact hud
  have hSz := fun k => size_any _ _ _ n (by have : ¬ (n.length < 1 ∨ 80 < n.length) := hn; unfold maxLen; omega) (W0.drewN k) (FM.below hpc.s (below_drewN (Below.refl _ _) k))
  rw [hold] at hSz
  have hpl1 : W0.cell? ⟨p, 1, none⟩ = some (.map (some bs)) := hpc.cell rfl
  obtain ⟨rs, hrs⟩ : ∃ rs : Int, rm + (o : Int) = rs := ⟨_, rfl⟩
  have hwr : IntKind.i64.wrap (rm + (o : Int)) = rs := by rw [← hrs]; exact IntWalk.i64_in _ (by omega)
  by_cases hbig : (s.length : Int) > rs
  · have HS : Hid (∀ k, Step w F p R.2 (W0.drewN k) ∧ R.1 = 7) := fun k => by
      rw [ht, if_neg (fun hh => absurd hh.1 (show ¬ (2 = 3) by decide)), if_neg (fun hh => absurd hh.1 (show ¬ (2 = 1) by decide)), if_pos (by rw [haf]; omega)]
      exact ⟨Step.same h (below_drewN b0 k), rfl⟩
    clear h x1 x2 z0 b0 hr hR hrm hcap hus hse ht haf hn ho hd hs hr0 e2 hgd hu1 hud hgood hold hol hrs hpc
    generalize s.length = L at *
    go_enter Tryz.func20, Tryz.ntmps20
    go_wp2_with fail
    refine hRf.mono ?_
    rintro e w1 ⟨rfl, rfl⟩
    clear hRf
    go_wp2_with fail
    go_quiet (first | (go_at_call 58; refine Calls.quiet_of (hRm _)) | (go_at_call 59; refine Calls.quiet_of_same (hSz _)))
    go_wp2_with fail
    go_ret
    rw [(HS.out nq).2]
    exact ⟨rfl, (HS.out nq).1⟩
  have hR2 : R = (0, spend { d with seen := done d.seen ⟨2, n, s⟩ 1, pend := d.pend ++ [⟨2, n, s⟩] }) := by
    rw [ht, if_neg (fun hh => absurd hh.1 (show ¬ (2 = 3) by decide)), if_neg (fun hh => absurd hh.1 (show ¬ (2 = 1) by decide)), if_neg (by rw [haf]; omega), haf]
  have hcb := count_bound hd.r
  have hpl := hd.p
  have hst : steps ⟨2, n, s⟩ = 1 := by simp [steps]
  have HD : Hid (∀ W, Below w.heap.size w W → Boxed W w.heap.size n → Boxed W (w.heap.size + 1) s → Calls Tryz.prog 61 #[.pointer (some ⟨p, 0, none⟩), .string (S n), .agg #[.int .i64 ((1 : Nat) : Int), .func (.func 62) #[] #[.pointer (some ⟨w.heap.size, 0, none⟩), .pointer (some ⟨w.heap.size + 1, 0, none⟩)]]] W fun e w' => e = .returned (.tuple #[]) ∧ Step w F p R.2 w') := by
    intro W k y1 y2
    have h1 := do_any F p d ((62, #[.pointer (some ⟨w.heap.size, 0, none⟩), .pointer (some ⟨w.heap.size + 1, 0, none⟩)]), ⟨2, n, s⟩) hgood ho hcap hd.n hd.p (by omega) (by show used (done d.seen ⟨2, n, s⟩ (steps ⟨2, n, s⟩)) ≤ _; rw [hst]; omega) hd.r.sorted (by show s.length ≤ _; omega)
      (by show count d.pend + steps ⟨2, n, s⟩ ≤ _; rw [hst]; omega) W (h.below k) (.inr (.inl ⟨rfl, _, _, rfl, y1, y2⟩))
    rw [show steps (((62, #[.pointer (some ⟨w.heap.size, 0, none⟩), .pointer (some ⟨w.heap.size + 1, 0, none⟩)]), ⟨2, n, s⟩) : TC).2 = 1 from hst] at h1
    refine h1.mono ?_
    rintro e w' ⟨e1, e2⟩
    exact ⟨e1, by rw [hR2]; exact Step.from k e2⟩
  have HC1 : Hid (∀ W, Calls Tryz.prog 60 #[.string (S n)] W fun e w' => e = .returned (.string (S n)) ∧ Below W.heap.size W w') := fun W => clone_any n W (by have : ¬ (n.length < 1 ∨ 80 < n.length) := hn; omega)
  have HC2 : Hid (∀ W, Calls Tryz.prog 60 #[.string (S s)] W fun e w' => e = .returned (.string (S s)) ∧ Below W.heap.size W w') := fun W => clone_any s W hs
  have HK : Hid (∀ W, Below W0.heap.size W0 W → W.cell? ⟨w.heap.size, 0, none⟩ = some (.string (S n)) ∧ W.cell? ⟨w.heap.size + 1, 0, none⟩ = some (.string (S s)) ∧ W.frozen? ⟨w.heap.size, 0, none⟩ = false ∧ W.frozen? ⟨w.heap.size + 1, 0, none⟩ = false) :=
    fun W k => ⟨(x1.of (k.block _ x1.lt)).cell rfl, (x2.of (k.block _ x2.lt)).cell rfl, Arr.frozen (x1.of (k.block _ x1.lt)) 0, Arr.frozen (x2.of (k.block _ x2.lt)) 0⟩
  have HE : Hid (∀ W, Below W0.heap.size W0 W → Below w.heap.size w ((W.setCell ⟨w.heap.size, 0, none⟩ (.string (S n))).setCell ⟨w.heap.size + 1, 0, none⟩ (.string (S s))) ∧ Boxed ((W.setCell ⟨w.heap.size, 0, none⟩ (.string (S n))).setCell ⟨w.heap.size + 1, 0, none⟩ (.string (S s))) w.heap.size n ∧ Boxed ((W.setCell ⟨w.heap.size, 0, none⟩ (.string (S n))).setCell ⟨w.heap.size + 1, 0, none⟩ (.string (S s))) (w.heap.size + 1) s) := by
    intro W k
    have y1 := x1.of (k.block _ x1.lt)
    have y2 := x2.of (k.block _ x2.lt)
    have q1 := (But.refl w.heap.size W).set 0 (.string (S n))
    have q2 := (But.refl (w.heap.size + 1) (W.setCell ⟨w.heap.size, 0, none⟩ (.string (S n)))).set 0 (.string (S s))
    have r1 : Below w.heap.size w W := b0.trans (k.mono (by omega))
    refine ⟨(r1.trans (q1.below r1.size (Nat.le_refl _))).trans (q2.below (Nat.le_trans r1.size q1.size) (by omega)), ?_, ?_⟩
    · exact q2.arr (Arr.set y1 0 _) (by omega)
    · exact Arr.set (q1.arr y2 (by omega)) 0 _
  have HE1 : Hid (∀ W, Below W0.heap.size W0 W → ((W.setCell ⟨w.heap.size, 0, none⟩ (.string (S n))).cell? ⟨w.heap.size, 0, none⟩ = some (.string (S n)) ∧ (W.setCell ⟨w.heap.size, 0, none⟩ (.string (S n))).cell? ⟨w.heap.size + 1, 0, none⟩ = some (.string (S s)) ∧ (W.setCell ⟨w.heap.size, 0, none⟩ (.string (S n))).frozen? ⟨w.heap.size, 0, none⟩ = false ∧ (W.setCell ⟨w.heap.size, 0, none⟩ (.string (S n))).frozen? ⟨w.heap.size + 1, 0, none⟩ = false) ∧
      (((W.setCell ⟨w.heap.size, 0, none⟩ (.string (S n))).setCell ⟨w.heap.size + 1, 0, none⟩ (.string (S s))).cell? ⟨w.heap.size, 0, none⟩ = some (.string (S n)) ∧ ((W.setCell ⟨w.heap.size, 0, none⟩ (.string (S n))).setCell ⟨w.heap.size + 1, 0, none⟩ (.string (S s))).cell? ⟨w.heap.size + 1, 0, none⟩ = some (.string (S s)) ∧
        ((W.setCell ⟨w.heap.size, 0, none⟩ (.string (S n))).setCell ⟨w.heap.size + 1, 0, none⟩ (.string (S s))).frozen? ⟨w.heap.size, 0, none⟩ = false ∧ ((W.setCell ⟨w.heap.size, 0, none⟩ (.string (S n))).setCell ⟨w.heap.size + 1, 0, none⟩ (.string (S s))).frozen? ⟨w.heap.size + 1, 0, none⟩ = false)) := by
    intro W k
    have y1 := Arr.set (x1.of (k.block _ x1.lt)) 0 (.string (S n))
    have y2 := ((But.refl w.heap.size W).set 0 (.string (S n))).arr (x2.of (k.block _ x2.lt)) (by omega)
    have y3 := ((But.refl (w.heap.size + 1) (W.setCell ⟨w.heap.size, 0, none⟩ (.string (S n)))).set 0 (.string (S s))).arr y1 (by omega)
    have y4 := y2.set 0 (.string (S s))
    exact ⟨⟨y1.cell rfl, y2.cell rfl, y1.frozen 0, y2.frozen 0⟩, y3.cell rfl, y4.cell rfl, y3.frozen 0, y4.frozen 0⟩
  clear h x1 x2 z0 b0 hr hR hrm hcap hus hse ht haf hn ho hd hs hr0 e2 hgd hu1 hud hgood hcb hpl hst hold hol hrs hpc
  have hR1 : Hid (R.1 = 0) := by rw [hR2]; rfl
  clear hR2
  generalize hL : s.length = L at *
  clear hL
  go_enter Tryz.func20, Tryz.ntmps20
  go_wp2_with fail
  refine hRf.mono ?_
  rintro e w1 ⟨rfl, rfl⟩
  clear hRf
  go_wp2_with fail
  go_quiet (first | (go_at_call 58; refine Calls.quiet_of (hRm _)) | (go_at_call 59; refine Calls.quiet_of_same (hSz _)))
  have hwq : Hid (Below w1.heap.size w1 (w1.drewN nq).drew) := below_drew (below_drewN (Below.refl _ _) nq)
  go_upto_region 6 with (fail)
  clear e1 e3 e4 hRm hSz hpl1
  generalize w1.drewN nq = w2 at *
  have k1 := HK.out _ hwq.out
  go_region_held3 (fun W => W.cell? ⟨w.heap.size, 0, none⟩ = some (.string (S n)) ∧ W.cell? ⟨w.heap.size + 1, 0, none⟩ = some (.string (S s)) ∧ W.frozen? ⟨w.heap.size, 0, none⟩ = false ∧ W.frozen? ⟨w.heap.size + 1, 0, none⟩ = false)
    (first | (with_reducible exact k1) | (with_reducible exact s3) | (with_reducible exact s4) | (with_reducible exact t1) | (with_reducible exact t2) | go_keep)
    ((first
      | (go_at_call 60; with_reducible refine (HC1.out _).mono ?_; rintro e w3 ⟨rfl, b3⟩
         have h3 := hwq.out.trans (b3.mono hwq.out.size)
         have s3 := HK.out _ h3)
      | (go_at_call 60; with_reducible refine (HC2.out _).mono ?_; rintro e w4 ⟨rfl, b4⟩
         have h4 := h3.trans (b4.mono h3.size)
         have s4 := HK.out _ h4
         have t1 := (HE1.out _ h4).1
         have t2 := (HE1.out _ h4).2)))
  obtain ⟨y0, y1, y2⟩ := HE.out _ h4
  generalize (w4.setCell ⟨w.heap.size, 0, none⟩ (.string (S n))).setCell ⟨w.heap.size + 1, 0, none⟩ (.string (S s)) = w5 at *
  have e1 : w5.cell? ⟨w.heap.size, 0, none⟩ = some (.string (S n)) := Arr.cell y1 rfl
  have e2 : w5.cell? ⟨w.heap.size + 1, 0, none⟩ = some (.string (S s)) := Arr.cell y2 rfl
  have hD := HD.out w5 y0 y1 y2
  clear HD HE HE1 HK s3 s4 t1 t2 h3 h4 b3 b4 k1 hwq y0 y1 y2 HC1 HC2
  go_wp2_with fail
  refine hD.mono ?_
  rintro e w6 ⟨rfl, s6⟩
  have S6 := Lib.hid s6
  clear hD s6 e1 e2
  go_wp2_with fail
  go_ret
  rw [hR1.out]
  exact ⟨rfl, S6.out⟩
end Go.Proofs.YteeeakbgofjinaaGreat.dk
/-! DkP7 -/
namespace Go.Proofs.YteeeakbgofjinaaGreat.dk
set_option linter.unusedVariables false
open Go.RowKit
open fl (S S_size S_append S_inj str_eq str_ne)
open rw (Arr But Row Own bnext below_box below_drew below_drewN addr_add Fr RowB)
open mp (Mp Turned kget kput kwithout kmap KSorted)

end Go.Proofs.YteeeakbgofjinaaGreat.dk
/-! DkP8 -/
namespace Go.Proofs.YteeeakbgofjinaaGreat.dk
set_option linter.unusedVariables false
open Go.RowKit
open fl (S S_size S_append S_inj str_eq str_ne)
open rw (Arr But Row Own bnext below_box below_drew below_drewN addr_add Fr RowB)
open mp (Mp Turned kget kput kwithout kmap KSorted)

theorem pend_s {d : Dk} (h : Right d) : ∀ c ∈ d.pend, c.kind = 1 ∨ c.kind = 2 → c.s.length ≤ 1048576 := by
  intro c hc hk
  obtain ⟨j, hj, e⟩ := List.getElem_of_mem hc
  have h1 := h.room (j + 1)
  have hsj : Sorted (full d.lasts (d.pend.take j)) := full_sorted h.so _
  rw [List.take_succ_eq_append_getElem hj, full_snoc, e] at h1
  have hcap := h.cap
  have h2 := bytes_get (bytes_of_used h1) c.name
  have hp := steps_pos (h.np c hc)
  unfold done at h2
  rw [if_neg (by omega)] at h2
  rcases hk with hk | hk
  · have hs : steps c = c.s.length := by unfold steps; rw [if_pos hk]
    rw [if_pos hk, get_put_same hsj, hs, List.take_length] at h2
    simp only [Option.getD_some, List.length_append] at h2
    omega
  · rw [if_neg (by omega), if_pos hk, get_put_same hsj] at h2
    simp only [Option.getD_some] at h2
    omega
/-- does_runs, where only what is laid is bounded. -/
theorem does_runs' (F : Nat → Prop) (b : Nat) (l : List File) (v : Value) (c : Call) (n : Nat) (hc : Good c) (hn1 : 1 ≤ n) (hn2 : n ≤ steps c) (hl : l.length ≤ 1000000) (hz : c.kind = 1 ∨ c.kind = 2 → ((get l c.name).getD []).length + c.s.length ≤ 140737488355328) (w : World) (h : FM w F b l) (hd : Does w v c) :
    (∃ a1 a2, v = .func (.func 111) #[] #[.pointer (some ⟨a1, 0, none⟩), .pointer (some ⟨a2, 0, none⟩)] ∧
      Hid (∀ W, Below w.heap.size w W → Calls Tryz.prog 111 #[.map (some b), .int .i64 (n : Nat), .pointer (some ⟨a1, 0, none⟩), .pointer (some ⟨a2, 0, none⟩)] W fun e w' => e = .returned (.tuple #[]) ∧ Made W F b (done l c n) w')) ∨
    (∃ a1 a2, v = .func (.func 62) #[] #[.pointer (some ⟨a1, 0, none⟩), .pointer (some ⟨a2, 0, none⟩)] ∧
      Hid (∀ W, Below w.heap.size w W → Calls Tryz.prog 62 #[.map (some b), .int .i64 (n : Nat), .pointer (some ⟨a1, 0, none⟩), .pointer (some ⟨a2, 0, none⟩)] W fun e w' => e = .returned (.tuple #[]) ∧ Made W F b (done l c n) w')) ∨
    (∃ a1 : Nat, False ∧ Hid True) := by
  rcases hd with ⟨h1, a1, a2, h2, h3, h4⟩ | ⟨h1, a1, a2, h2, h3, h4⟩ | ⟨h1, a1, h2, h3⟩
  · exact .inl ⟨a1, a2, h2, fun W k => add1_any F b l c a1 a2 n h1 hc hn1 hn2 hl (hz (.inl h1)) W (h.below k) (h3.of (k.block _ h3.lt)) (h4.of (k.block _ h4.lt))⟩
  · exact .inr (.inl ⟨a1, a2, h2, fun W k => put1_any F b l c a1 a2 n h1 hc hn1 hl (by have := hz (.inr h1); omega) W (h.below k) (h3.of (k.block _ h3.lt)) (h4.of (k.block _ h4.lt))⟩)
  · exact h2.elim
/-- A round of settle: the pieces, and what has turned since. -/
structure Set (w wr : World) (F : Nat → Prop) (p : Nat) (d : Dk) (K j : Nat) (cs : Array Value) (bs bl : Nat) (Fs Fl : Nat → Prop) (pv : Value) (ts : List TC) : Prop where
  pc : Pc wr p cs bs bl Fs Fl d.seen (again d.lasts (d.pend.take j) K) pv ts
  fr : Fr F w wr
  nu : Nu w F (fo p Fs Fl pv)
theorem Set.below {w wr wx : World} {F : Nat → Prop} {p : Nat} {d : Dk} {K j : Nat} {cs : Array Value} {bs bl : Nat} {Fs Fl : Nat → Prop} {pv : Value} {ts : List TC}
    (h : Set w wr F p d K j cs bs bl Fs Fl pv ts) (k : Below wr.heap.size wr wx) : Set w wx F p d K j cs bs bl Fs Fl pv ts := ⟨h.pc.below k, h.fr.then_below k, h.nu⟩
theorem ownT_at {w : World} {v : Value} {l : List TC} (h : OwnT w v l) {j : Nat} (hj : j < l.length) : ∃ b cap, v = .slice (some ⟨b, 0, none⟩) l.length cap ∧ w.cell? ⟨b, j * 2, none⟩ = some (.int .i64 (steps l[j].2 : Nat)) ∧ w.cell? ⟨b, j * 2 + 1, none⟩ = some (fnv l[j]) := by
  obtain ⟨a, c, e, _, hr, _⟩ := rw.Own.sl turnSh h
  obtain ⟨b, off, e2, hb, hc⟩ := hr.at _ hj
  obtain ⟨_, ⟨e3, h0⟩ | ⟨g, cap, cur, e3, _⟩⟩ := h
  · omega
  · rw [e] at e3
    rw [e2] at e3
    injection e3 with e4
    injection e4 with e4
    injection e4 with e5 e6
    subst e6
    rw [e2] at e
    have h0 := hc 0 (by decide)
    have h1 := hc 1 (by decide)
    rw [Nat.zero_add] at h0 h1
    exact ⟨b, c, e, h0, h1⟩

theorem Pc.clear {w : World} {p : Nat} {cs : Array Value} {bs bl : Nat} {Fs Fl : Nat → Prop} {seen lasts : List File} {pv : Value} {ts : List TC} (h : Pc w p cs bs bl Fs Fl seen lasts pv ts) : Pc w p cs bs bl Fs Fl seen lasts (.slice none 0 0) [] :=
  ⟨h.a, h.s, h.l, rw.Own.nil turnSh w 0, fun x hx => (by cases hx), h.dis⟩
theorem again_stop (l : List File) (p : List Call) (K j : Nat) (hj : j ≤ p.length) (h : K ≤ count (p.take j)) : again l p K = again l (p.take j) K := by
  rw [again_take l p K j hj, Nat.min_eq_right h, Nat.sub_self, again_zero]
set_option maxHeartbeats 4000000 in
set_option maxRecDepth 100000 in
theorem settle_any (F : Nat → Prop) (p : Nat) (d : Dk) (K : Nat) (hd : Right d) (hl : d.lasts.length ≤ 100000) (hp : d.pend.length ≤ 100000) (hK : K ≤ count d.pend) (w : World) (h : PD w F p d) :
    Calls Tryz.prog 52 #[.pointer (some ⟨p, 0, none⟩), .int .i64 (K : Nat)] w fun e w' => e = .returned (.tuple #[]) ∧ Step w F p { d with lasts := again d.lasts d.pend K, pend := [] } w' := by
  obtain ⟨bs, bl, Fs, Fl, pv, ts, fz, h1, h2, hf, hF⟩ := h
  have htl : ts.length = d.pend.length := by rw [← h2, List.length_map]
  have hcb := count_bound hd
  have hpv := h1.o.form
  obtain ⟨pa, pc, rfl⟩ := hpv
  have hend : Hid (∀ wr Fl' j, Set w wr F p d K j (dkCells d bs bl (.slice pa ts.length pc) fz) bs bl Fs Fl' (.slice pa ts.length pc) ts → again d.lasts d.pend K = again d.lasts (d.pend.take j) K →
      wr.cell? ⟨p, 4, none⟩ = some (.slice pa ts.length pc) ∧ wr.frozen? ⟨p, 4, none⟩ = false ∧ (wr.setCell ⟨p, 4, none⟩ (.slice none 0 0)).cell? ⟨p, 5, none⟩ = some (.int .i64 (count d.pend : Nat)) ∧ (wr.setCell ⟨p, 4, none⟩ (.slice none 0 0)).frozen? ⟨p, 5, none⟩ = false ∧
      Step w F p { d with lasts := again d.lasts d.pend K, pend := [] } ((wr.setCell ⟨p, 4, none⟩ (.slice none 0 0)).setCell ⟨p, 5, none⟩ (.int .i64 0))) := by
    intro wr Fl' j S e
    have P1 := S.pc.clear.set 4 (.slice none 0 0)
    have P2 := P1.set 5 (.int .i64 0)
    refine ⟨S.pc.cell rfl, S.pc.a.frozen 4, P1.cell rfl, P1.a.frozen 5, fo p Fs Fl' (.slice none 0 0), ?_, ?_, ?_⟩
    · refine PD.of_pc (d := { d with lasts := again d.lasts d.pend K, pend := [] }) (fz := fz) (ts := []) (bs := bs) (bl := bl) ?_ rfl rfl hf
      rw [e]
      exact P2
    · have k1 := (But.refl p wr).set 4 (.slice none 0 0)
      have k2 := (But.refl p (wr.setCell ⟨p, 4, none⟩ (.slice none 0 0))).set 5 (.int .i64 0)
      have hp : F p := (hF p).2 (.inl rfl)
      exact (S.fr.trans (G := fun i => i = p) (Fr.but k1 rfl) fun i _ e => e ▸ hp).trans (G := fun i => i = p) (Fr.but k2 rfl) fun i _ e => e ▸ hp
    · intro k hk
      rcases hk with hk | hk | hk | hk
      · exact S.nu k (.inl hk)
      · exact S.nu k (.inr (.inl hk))
      · exact S.nu k (.inr (.inr (.inl hk)))
      · cases hk
  have S0 : Hid (Set w w F p d K 0 (dkCells d bs bl (.slice pa ts.length pc) fz) bs bl Fs Fl (.slice pa ts.length pc) ts) := ⟨h1, Fr.refl _ _, fun k hk => .inl ((hF k).2 hk)⟩
  have c4 : w.cell? ⟨p, 4, none⟩ = some (.slice pa ts.length pc) := h1.cell rfl
  have HD : Hid (Right d ∧ d.lasts.length ≤ 100000 ∧ d.pend.length ≤ 100000 ∧ ts.map (·.2) = d.pend ∧ ts.length = d.pend.length ∧ p < w.heap.size ∧ K ≤ 1099511627776) := ⟨hd, hl, hp, h2, htl, h1.a.lt, by omega⟩
  clear h1 hF hf hd hl hp h2 hcb htl hK
  go_enter Tryz.func52, Tryz.ntmps52
  go_wp2_with fail
  go_loopw [1, 12] (fun kk i wr => ∃ (j r : Nat) (Fl' : Nat → Prop), i = .int .i64 j ∧ j ≤ ts.length ∧ kk = .int .i64 r ∧ Hid (r = K - min (count (d.pend.take j)) K ∧ Set w wr F p d K j (dkCells d bs bl (.slice pa ts.length pc) fz) bs bl Fs Fl' (.slice pa ts.length pc) ts))
    (fun _ i _ => ts.length - (intOf i).toNat)
  case atStart => exact ⟨0, K, Fl, rfl, Nat.zero_le _, rfl, by simp [count], S0.out⟩
  case round =>
    obtain ⟨j, r, Fl', rfl, hj, rfl, HI⟩ := hrel
    by_cases hlt : j < ts.length
    · have hki : (j : Int) < (ts.length : Int) := by omega
      obtain ⟨b, cap, e, q0, q1⟩ := ownT_at HI.out.2.pc.o hlt
      cases e
      obtain ⟨x, hx⟩ : ∃ x, ts[j]'hlt = x := ⟨_, rfl⟩
      rw [hx] at q0 q1
      have hjp : j < d.pend.length := by have := HD.out.2.2.2.2.1; omega
      have hxc : d.pend[j]'hjp = x.2 := by
        have h1 := HD.out.2.2.2.1
        have : (ts.map (·.2))[j]'(by rw [List.length_map]; exact hlt) = x.2 := by rw [List.getElem_map, hx]
        rw [← this]
        congr 1
        exact h1.symm
      have hxm : x ∈ ts := hx ▸ List.getElem_mem hlt
      have hcm : x.2 ∈ d.pend := hxc ▸ List.getElem_mem hjp
      have hgood := HD.out.1.np _ hcm
      have hs1 := steps_pos hgood
      have hdo := HI.out.2.pc.does x hxm
      obtain ⟨N, hN⟩ : ∃ N, steps x.2 = N := ⟨_, rfl⟩
      rw [hN] at q0 hs1
      by_cases hr0 : r = 0
      · -- the first steps are done
        subst hr0
        have hdo' := hdo
        have hst : again d.lasts d.pend K = again d.lasts (d.pend.take j) K := again_stop _ _ _ _ (by omega) (by have := HI.out.1; omega)
        have b1 := below_box wr (.cells #[.int .i64 (N : Nat), fnv x] 115)
        obtain ⟨e1, e2, e3, e4, e5⟩ := hend.out _ _ _ (HI.out.2.below b1) hst
        have HS := Lib.hid e5
        have hN0 : ¬ ((N : Int) < 0) := by omega
        obtain ⟨f, caps, hV⟩ : ∃ f caps, fnv x = .func (.func f) #[] caps := ⟨_, _, rfl⟩
        rw [hV] at q1 e1 e2 e3 e4 HS
        clear hdo hdo' hst b1 e5 hgood hxc hcm hxm hx HI hV hjp
        go_wp2_with fail
        exact bodyPost_end (results_none rfl _ _ _) rfl ⟨rfl, HS.out⟩
      · obtain ⟨f, caps, hV⟩ : ∃ f caps, fnv x = .func (.func f) #[] caps := ⟨_, _, rfl⟩
        have A2 : Arr (wr.alloc (.cells #[.int .i64 (N : Nat), .func (.func f) #[] caps] 115)) wr.heap.size 115 #[.int .i64 (N : Nat), .func (.func f) #[] caps] := Arr.new _ _ _
        have b1 := below_box wr (.cells #[.int .i64 (N : Nat), .func (.func f) #[] caps] 115)
        have S2 := HI.out.2.below b1
        have h64 : Hid ((r : Int) ≤ 1099511627776 ∧ r ≤ K) := by
          have := HI.out.1
          have := HD.out.2.2.2.2.2.2
          exact ⟨by omega, by omega⟩
        obtain ⟨m, hm⟩ : ∃ m, min N r = m := ⟨_, rfl⟩
        have hag := again_snoc d.lasts d.pend K hjp
        rw [hxc, hN, ← HI.out.1, hm] at hag
        have hul := again_used HD.out.1 j K
        have hbg := bytes_get (bytes_of_used (Nat.le_trans hul HD.out.1.cap)) x.2.name
        have hlen := again_length d.lasts (d.pend.take j) K
        rw [List.length_take] at hlen
        have hR := does_runs' Fl' bl (again d.lasts (d.pend.take j) K) (fnv x) x.2 m hgood (by omega) (by omega) (by have := HD.out; omega) (fun hk => by have := pend_s HD.out.1 _ hcm hk; omega) _ S2.pc.l (hdo.below b1)
        rw [hV] at hR q1
        have hcnt := count_take d.pend j hjp
        rw [hxc, hN] at hcnt
        have HJ : Hid (r - m = K - min (count (d.pend.take (j + 1))) K) := by
          have := HI.out.1
          show r - m = _
          rw [hcnt]; omega
        have HM2 : Hid (∀ w2, Made (wr.alloc (.cells #[.int .i64 (N : Nat), .func (.func f) #[] caps] 115)).drew Fl' bl (done (again d.lasts (d.pend.take j) K) x.2 m) w2 →
            (w2.cell? ⟨wr.heap.size, 1, none⟩ = some (.func (.func f) #[] caps) ∧ w2.cell? ⟨p, 3, none⟩ = some (.map (some bl))) ∧
            ∃ Fl2, Set w w2 F p d K (j + 1) (dkCells d bs bl (.slice (some ⟨b, 0, none⟩) ts.length pc) fz) bs bl Fs Fl2 (.slice (some ⟨b, 0, none⟩) ts.length pc) ts) := by
          rintro w2 ⟨Fl2, x1, x2, x3⟩
          have r0 : Below (wr.alloc (.cells #[.int .i64 (N : Nat), .func (.func f) #[] caps] 115)).heap.size (wr.alloc (.cells #[.int .i64 (N : Nat), .func (.func f) #[] caps] 115)) (wr.alloc (.cells #[.int .i64 (N : Nat), .func (.func f) #[] caps] 115)).drew := below_drew (Below.refl _ _)
          rw [← hag] at x1
          have P1 := (S2.pc.below r0).turnL x1 x2 x3
          have hBF : ¬ Fl' wr.heap.size := fun hk => by have := HI.out.2.pc.l.lt hk; omega
          have A3 := x2.arr (A2.below r0) hBF
          refine ⟨⟨A3.cell rfl, P1.cell rfl⟩, Fl2, P1, (S2.fr.then_below r0).trans x2 fun i hi hk => ?_, fun k hk => ?_⟩
          · rcases HI.out.2.nu i (.inr (.inr (.inl hk))) with h | h
            · exact h
            · omega
          · rcases hk with hk | hk | hk | hk
            · exact S2.nu k (.inl hk)
            · exact S2.nu k (.inr (.inl hk))
            · rcases x3 k hk with h3 | h3
              · exact S2.nu k (.inr (.inr (.inl h3)))
              · have := (S2.fr.then_below r0).size
                exact .inr (by omega)
            · exact S2.nu k (.inr (.inr (.inr hk)))
        have HB0 : Hid (∀ W, Below (wr.alloc (.cells #[.int .i64 (N : Nat), .func (.func f) #[] caps] 115)).heap.size (wr.alloc (.cells #[.int .i64 (N : Nat), .func (.func f) #[] caps] 115)) W → W.cell? ⟨wr.heap.size, 1, none⟩ = some (.func (.func f) #[] caps) ∧ W.cell? ⟨p, 3, none⟩ = some (.map (some bl))) :=
          fun W k => ⟨(A2.below k).cell rfl, (S2.pc.below k).cell rfl⟩
        have hm1 : 1 ≤ m := by omega
        have hmr : m ≤ r := by omega
        have hmz : ((m : Int) == 0) = false := by rw [beq_eq_false_iff_ne]; omega
        have hmi : min (r : Int) (N : Int) = (m : Int) := by omega
        have hwr : IntKind.i64.wrap ((r : Int) - (m : Int)) = ((r - m : Nat) : Int) := by
          have := h64.out
          rw [IntWalk.i64_in _ (by omega)]; omega
        have A2c : (wr.alloc (.cells #[.int .i64 (N : Nat), .func (.func f) #[] caps] 115)).cell? ⟨wr.heap.size, 0, none⟩ = some (.int .i64 (N : Nat)) := A2.cell rfl
        obtain ⟨rm, hrm⟩ : ∃ rm, r - m = rm := ⟨_, rfl⟩
        rw [hrm] at hwr HJ
        clear A2 b1 S2 h64 hag hul hbg hlen hcnt hm hgood hxc hcm hxm hx HI hV hjp hdo hs1 hN hrm
        go_upto_region 5 with (fail)
        go_cut [] from 13 to 33 (fun wx => ∃ Fl2, Hid (Set w wx F p d K (j + 1) (dkCells d bs bl (.slice (some ⟨b, 0, none⟩) ts.length pc) fz) bs bl Fs Fl2 (.slice (some ⟨b, 0, none⟩) ts.length pc) ts))
        case first =>
          clear HJ hend hwr
          rcases hR with ⟨a1, a2, hv, hR⟩ | ⟨a1, a2, hv, hR⟩ | ⟨a1, hv, hR⟩
          · injection hv with e1 _ e2
            injection e1 with e1
            subst e1 e2
            have hrun := hR.out _ (below_drew (Below.refl _ _))
            have k0 := HB0.out _ (below_drew (Below.refl _ _))
            go_region_held3 (fun W => W.cell? ⟨wr.heap.size, 1, none⟩ = some (.func (.func 111) #[] #[.pointer (some ⟨a1, 0, none⟩), .pointer (some ⟨a2, 0, none⟩)]) ∧ W.cell? ⟨p, 3, none⟩ = some (.map (some bl)))
              (first | (with_reducible exact k0) | (with_reducible exact hcl) | go_keep)
              ((go_at_call 111; refine hrun.mono ?_; rintro e w2 ⟨rfl, hM⟩; have hcl := (HM2.out w2 hM).1))
            have hr := (HM2.out w2 hM).2
            clear hrun k0 hR hM HM2 HB0 hcl
            go_wp2_with fail
            go_meet
            case rel => exact hr
          · injection hv with e1 _ e2
            injection e1 with e1
            subst e1 e2
            have hrun := hR.out _ (below_drew (Below.refl _ _))
            have k0 := HB0.out _ (below_drew (Below.refl _ _))
            go_region_held3 (fun W => W.cell? ⟨wr.heap.size, 1, none⟩ = some (.func (.func 62) #[] #[.pointer (some ⟨a1, 0, none⟩), .pointer (some ⟨a2, 0, none⟩)]) ∧ W.cell? ⟨p, 3, none⟩ = some (.map (some bl)))
              (first | (with_reducible exact k0) | (with_reducible exact hcl) | go_keep)
              ((go_at_call 62; refine hrun.mono ?_; rintro e w2 ⟨rfl, hM⟩; have hcl := (HM2.out w2 hM).1))
            have hr := (HM2.out w2 hM).2
            clear hrun k0 hR hM HM2 HB0 hcl
            go_wp2_with fail
            go_meet
            case rel => exact hr
          · exact hv.elim
        case rest =>
          obtain ⟨Fl2, M2⟩ := hcut
          clear hR HB0 HM2
          have hwi : IntKind.i64.wrap ((j : Int) + 1) = ((j + 1 : Nat) : Int) := by
            have := HD.out
            rw [IntWalk.i64_in _ (by omega)]; omega
          go_wp2_with fail
          go_roundw
          case rel => exact ⟨j + 1, rm, Fl2, rfl, by omega, rfl, HJ.out, M2.out⟩
          case measure => simp [intOf]; omega
    · obtain rfl : j = ts.length := by omega
      have hst : again d.lasts d.pend K = again d.lasts (d.pend.take ts.length) K := by rw [HD.out.2.2.2.2.1, List.take_length]
      obtain ⟨e1, e2, e3, e4, e5⟩ := hend.out _ _ _ HI.out.2 hst
      have HS := Lib.hid e5
      clear e5 hst HI
      go_wp2_with fail
      exact bodyPost_end (results_none rfl _ _ _) rfl ⟨rfl, HS.out⟩
end Go.Proofs.YteeeakbgofjinaaGreat.dk
/-! DkP9 -/
namespace Go.Proofs.YteeeakbgofjinaaGreat.dk
set_option linter.unusedVariables false
open Go.RowKit
open fl (S S_size S_append S_inj str_eq str_ne)
open rw (Arr But Row Own bnext below_box below_drew below_drewN addr_add Fr RowB)
open mp (Mp Turned kget kput kwithout kmap KSorted Ranging)

set_option maxHeartbeats 1000000 in
set_option maxRecDepth 100000 in
theorem psync_any (F : Nat → Prop) (p : Nat) (d : Dk) (hd : Right d) (hl : d.lasts.length ≤ 100000) (hp : d.pend.length ≤ 100000) (w : World) (h : PD w F p d) :
    Calls Tryz.prog 21 #[.pointer (some ⟨p, 0, none⟩)] w fun e w' => e = .returned (.int .i64 ((sync d).1 : Nat)) ∧ Step w F p (sync d).2 w' := by
  have hO := off_any F p d w h
  unfold sync
  cases ho : off d with
  | true =>
    rw [ho] at hO
    have HS : Hid (Step w F p d w) := Step.same h (Below.refl _ _)
    clear h hd hl hp ho
    go_enter Tryz.func21, Tryz.ntmps21
    go_wp2_with fail
    refine hO.mono ?_
    rintro e w1 ⟨rfl, rfl⟩
    clear hO
    go_wp2_with fail
    go_ret
    exact ⟨rfl, HS.out⟩
  | false =>
    rw [ho] at hO
    have c5 : w.cell? ⟨p, 5, none⟩ = some (.int .i64 (count d.pend : Nat)) := by
      obtain ⟨bs, bl, Fs, Fl, pv, ts, fz, h1, _⟩ := h
      exact h1.cell rfl
    have hS := settle_any F p d (count d.pend) hd hl hp (Nat.le_refl _) w h
    rw [again_full _ _ _ (Nat.le_refl _), ← hd.seen] at hS
    have HB : Hid (∀ F1 w1, PD w1 F1 p { d with lasts := d.seen, pend := [] } → Calls Tryz.prog 64 #[.pointer (some ⟨p, 0, none⟩)] w1 fun e w' => e = .returned (.tuple #[]) ∧ Step w1 F1 p (spend { d with lasts := d.seen, pend := [] }) w') :=
      fun F1 w1 h1 => burn_any F1 p { d with lasts := d.seen, pend := [] } ho w1 h1
    clear h hd hl hp ho
    go_enter Tryz.func21, Tryz.ntmps21
    go_wp2_with fail
    refine hO.mono ?_
    rintro e w1 ⟨rfl, rfl⟩
    clear hO
    go_wp2_with fail
    refine hS.mono ?_
    rintro e w2 ⟨rfl, F1, p1, f1, n1⟩
    have HF := Lib.hid (And.intro f1 n1)
    have hB := HB.out F1 w2 p1
    clear hS p1 f1 n1 HB c5
    go_wp2_with fail
    refine hB.mono ?_
    rintro e w3 ⟨rfl, s3⟩
    have HS := Lib.hid (Step.after HF.out.1 HF.out.2 s3)
    clear hB s3 HF
    go_wp2_with fail
    go_ret
    exact ⟨rfl, HS.out⟩

/-! ### Files gone over -/
theorem vals_mem {fs : List FV} {n : Bs} {v : Value} (h : (n, v) ∈ vals fs) : ∃ s r, (n, (s, r)) ∈ fs ∧ v = .agg #[r] := by
  obtain ⟨f, hf, e⟩ := List.mem_map.1 h
  injection e with e1 e2
  subst e1 e2
  exact ⟨f.2.1, f.2.2, hf, rfl⟩
theorem vals_without (fs : List FV) (n : Bs) : kwithout (vals fs) n = vals (kwithout fs n) := by unfold vals; rw [mp.kmap_without]
theorem used_take_one {fs : List FV} (h : KSorted fs) {n s : Bs} {r : Value} (hm : (n, (s, r)) ∈ fs) : used (con fs) = used (con (kwithout fs n)) + s.length := by
  have h1 := used_without (l := con fs) ((mp.kmap_sorted _).2 h) n
  rw [con_without]
  have : get (con fs) n = some s := by
    rw [← get_k, mp.kmap_get, mp.kget_of_mem h hm]
    rfl
  rw [this] at h1
  exact h1
theorem used_con_le {fs : List FV} (h : KSorted fs) {n s : Bs} {r : Value} (hm : (n, (s, r)) ∈ fs) : s.length ≤ used (con fs) := by have := used_take_one h hm; omega

set_option maxHeartbeats 1000000 in
set_option maxRecDepth 100000 in
theorem sum_any (F : Nat → Prop) (b : Nat) (l : List File) (hu : used l ≤ 1048576) (w : World) (h : FM w F b l) :
    Calls Tryz.prog 54 #[.map (some b)] w fun e w' => e = .returned (.int .i64 (used l : Nat)) ∧ Below w.heap.size w w' := by
  obtain ⟨fs, h1, rfl, hF⟩ := h
  obtain ⟨w0, hr, hG, hB, hz⟩ := h1.map.range und_f
  have H1 := Lib.hid h1
  have HB0 := Lib.hid hB
  have HG0 := Lib.hid hG
  have HU := Lib.hid hu
  clear hB hG hz h1 hF hu
  go_enter Tryz.func54, Tryz.ntmps54
  go_wp2_with fail
  go_loopw [3] (fun v wr => ∃ (fr : List FV) (m : Nat), v = .int .i64 m ∧ Hid (fr.Sublist fs ∧ Ranging wr b w.heap.size (vals fs) (vals fr) ∧ m + used (con fr) = used (con fs) ∧ Below w.heap.size w wr))
    (fun _ wr => wr.rangeLeft b w.heap.size)
  case atStart => exact ⟨fs, 0, rfl, List.Sublist.refl _, HG0.out, by simp, HB0.out⟩
  case round =>
    obtain ⟨fr, m, rfl, HI⟩ := hrel
    rcases HI.out.2.1.next 0 with ⟨e1, hrun⟩ | ⟨n, v, w1, hm, hn, hrun, hG1, hT, hlt, hen⟩
    · have hfr : fr = [] := by cases fr with | nil => rfl | cons _ _ => cases e1
      subst hfr
      have HE : Hid (m = used (con fs) ∧ Below w.heap.size w wr) := ⟨by have := HI.out.2.2.1; simpa [used] using this, HI.out.2.2.2⟩
      clear HI e1
      go_wp2_with fail
      go_ret
      rw [HE.out.1]
      exact ⟨rfl, HE.out.2⟩
    · obtain ⟨s, r, hm2, rfl⟩ := vals_mem hm
      have hsf := HI.out.1
      have hso : KSorted fr := List.Pairwise.sublist hsf H1.out.sorted
      have hrow := H1.out.own _ (hsf.subset hm2)
      obtain ⟨a, c, e, _⟩ := hrow.form
      simp only at e
      subst e
      have ht := used_take_one hso hm2
      have hU := HU.out
      have hsum := HI.out.2.2.1
      have b1 : Below w.heap.size wr w1 := ⟨hT.os, hT.tape, hT.output, Nat.le_of_eq hT.size.symm, fun k hk => hT.block k (by omega)⟩
      have b2 := below_box w1 (.cells #[.slice (some a) s.length c] 152)
      have bb2 : Below w.heap.size wr (w1.alloc (.cells #[.slice (some a) s.length c] 152)) := b1.trans (b2.mono (by have := HI.out.2.2.2.size; rw [hT.size]; exact this))
      have HN : Hid ((kwithout fr n).Sublist fs ∧ Ranging (w1.alloc (.cells #[.slice (some a) s.length c] 152)) b w.heap.size (vals fs) (vals (kwithout fr n)) ∧ (m + s.length) + used (con (kwithout fr n)) = used (con fs) ∧ Below w.heap.size w (w1.alloc (.cells #[.slice (some a) s.length c] 152)) ∧
          (w1.alloc (.cells #[.slice (some a) s.length c] 152)).rangeLeft b w.heap.size < wr.rangeLeft b w.heap.size) := by
        refine ⟨List.Sublist.trans List.filter_sublist hsf, ?_, by omega, HI.out.2.2.2.trans bb2, ?_⟩
        · rw [← vals_without]
          exact hG1.of (b2.block _ hG1.mp.lt) (b2.block _ hG1.lt)
        · rw [mp.left_of (b2.block _ hG1.mp.lt) (b2.block _ hG1.lt)]
          exact hlt
      have hw : IntKind.i64.wrap ((m : Int) + (s.length : Int)) = ((m + s.length : Nat) : Int) := by
        rw [IntWalk.i64_in _ (by omega)]; omega
      obtain ⟨ms, hms⟩ : ∃ ms, m + s.length = ms := ⟨_, rfl⟩
      rw [hms] at hw HN
      clear HI hm hm2 hn hG1 hT hlt hsf hso hrow ht hU hsum b1 b2 bb2 hms
      generalize s.length = L at *
      go_wp2_with fail
      go_roundw
      case rel => exact ⟨kwithout fr n, ms, rfl, HN.out.1, HN.out.2.1, HN.out.2.2.1, HN.out.2.2.2.1⟩
      case measure => exact HN.out.2.2.2.2
end Go.Proofs.YteeeakbgofjinaaGreat.dk
/-! DkPA -/
namespace Go.Proofs.YteeeakbgofjinaaGreat.dk
set_option linter.unusedVariables false
open Go.RowKit
open fl (S S_size S_append S_inj str_eq str_ne)
open rw (Arr But Row Own bnext below_box below_drew below_drewN addr_add Fr RowB)
open mp (Mp Turned kget kput kwithout kmap KSorted Ranging)

theorem clone_row (v : Value) (s : Bs) (w : World) (h : RowB w v s) (hlen : s.length ≤ 140737488355328) :
    ∃ v' w', (Builtin.append_ #[135, 135] 135 #[.slice (some ⟨w.heap.size, 0, none⟩) 0 0, v]).run Tryz.prog (w.alloc (.cells #[] 5)) = .ok v' w' ∧ RowB w' v' s ∧ Below w.heap.size w w' ∧ ∃ q, v'.ownBlock = some q ∧ w.heap.size ≤ q := by
  obtain ⟨i0, hi, hz0, hz1, hz2⟩ := info_parts rw.info8
  have b0 := below_box w (.cells #[] 5)
  have ho : (w.alloc (.cells #[] 5)).ownsRow w.heap.size 5 1 (.slice (some ⟨w.heap.size, 0, none⟩) 0 0) 0 [] := World.ownsRow_made (base := w.heap.size) (e := 5) (size := 1) w #[] 0 (Nat.le_refl _) (by unfold maxLen; omega) (by simp)
  have h1 : RowB (w.alloc (.cells #[] 5)) v s := h.of fun q hq => by
    obtain ⟨g, e, hlt, _⟩ := h.at
    rw [hq] at e
    cases e
    exact b0.block q hlt
  obtain ⟨g, cap, rfl, hc⟩ := h1.cell
  obtain ⟨v', w', g1, g2, g3, g4, g5⟩ := run_append_own_at (P := Tryz.prog) (w.alloc (.cells #[] 5)) w.heap.size 135 135 5 i0 (.int .u8 0) 1 1 Tryz.underlying135 hi hz0 hz1 hz2 rfl (by decide) _ 0 [] ho ⟨g, 0, none⟩ s.length cap (rw.byt s) (by rw [rw.byt_length]; omega)
    (fun j u hj => by
      have hjl : j < s.length := by have := (List.getElem?_eq_some_iff.1 hj).1; rwa [rw.byt_length] at this
      rw [addr_add, Nat.zero_add, hc j hjl, ← hj]
      simp [rw.byt, hjl]) (rw.byt_one s) (by unfold maxLen; omega) (by omega) b0.size
  rw [Nat.zero_add, List.nil_append] at g2
  have hne : v' ≠ .slice none 0 0 := fun e => by
    have := (g4.1 e).1
    cases this
  have hB : Below w.heap.size w w' := b0.trans ⟨g3.os, g3.tape, g3.output, g3.size, fun k hk => g3.block k (Nat.lt_of_lt_of_le hk b0.size) fun e => by
    have e2 : w.heap.size = k := by simpa [Value.ownBlock] using e.symm
    omega⟩
  refine ⟨v', w', g1, RowB.of_own g2 hne, hB, ?_⟩
  rcases g5 with e | e
  · exact ⟨_, e, Nat.le_refl _⟩
  · exact ⟨_, e, b0.size⟩
set_option maxHeartbeats 1000000 in
set_option maxRecDepth 100000 in
theorem cloneB_any (v : Value) (s : Bs) (hlen : s.length ≤ 140737488355328) (w : World) (h : RowB w v s) :
    Calls Tryz.prog 96 #[v] w fun e w' => ∃ v', e = .returned v' ∧ RowB w' v' s ∧ Below w.heap.size w w' ∧ ∃ q, v'.ownBlock = some q ∧ w.heap.size ≤ q := by
  obtain ⟨v', w1, ha, hr, hb, q, hq, hle⟩ := clone_row v s w h hlen
  obtain ⟨a, c, rfl, _⟩ := h.form
  have HX : Hid (RowB w1 v' s ∧ Below w.heap.size w w1 ∧ ∃ q, v'.ownBlock = some q ∧ w.heap.size ≤ q) := ⟨hr, hb, q, hq, hle⟩
  obtain ⟨a', c', rfl, _⟩ := hr.form
  generalize s.length = L at *
  clear hr hb hq hle h hlen
  have heq := run_eql_slice_nil (P := Tryz.prog) w 135 5 (some a) L c Tryz.underlying135
  go_enter Tryz.func96, Tryz.ntmps96
  go_wp2_with (first | (refine rw.wpList_append_at _ _ _ rfl rfl _ _ _ _ rfl rfl ha ?_) | fail)
  go_ret
  exact ⟨_, rfl, HX.out⟩
theorem FMs.below' {w w' : World} {b : Nat} {fs : List FV} (h : FMs w b fs) (k : Below w.heap.size w w') : FMs w' b fs :=
  h.of fun i hi => k.block i (FM.lt (F := foot b fs) (l := con fs) ⟨fs, h, rfl, fun _ => Iff.rfl⟩ hi)
/-- Files that are made anew. -/
def FNew (w : World) (w' : World) (b : Nat) (l : List File) : Prop := ∃ F', FM w' F' b l ∧ ∀ k, F' k → w.heap.size ≤ k
theorem con_nil : con [] = [] := rfl

/-- A copy under way: what was gone over stands in the new map. -/
structure Copy (w wr : World) (b b2 r : Nat) (fs fr f2 : List FV) : Prop where
  sub : fr.Sublist fs
  go : Ranging wr b r (vals fs) (vals fr)
  new : FMs wr b2 f2
  ftt : ∀ k, foot b2 f2 k → w.heap.size ≤ k
  cnn : ∀ n, kget (con f2) n = if (kget fr n).isSome then none else kget (con fs) n
  len : f2.length + fr.length ≤ fs.length
  below : Below w.heap.size w wr
  ge : w.heap.size ≤ r ∧ w.heap.size ≤ b2 ∧ b2 ≠ r ∧ b < w.heap.size
theorem sorted_ext {l m : List File} (hl : Sorted l) (hm : Sorted m) (h : ∀ n, get l n = get m n) : l = m := by
  induction l generalizing m with
  | nil =>
    cases m with
    | nil => rfl
    | cons x t =>
      have := h x.1
      rw [get_of_mem hm (show (x.1, x.2) ∈ x :: t from List.mem_cons_self)] at this
      cases this
  | cons x l ih =>
    obtain ⟨hx, hl'⟩ := List.pairwise_cons.1 hl
    cases m with
    | nil =>
      have := h x.1
      rw [get_of_mem hl (show (x.1, x.2) ∈ x :: l from List.mem_cons_self)] at this
      cases this
    | cons y m =>
      obtain ⟨hy, hm'⟩ := List.pairwise_cons.1 hm
      have hxy : x.1 = y.1 := by
        have h1 := h x.1
        rw [get_of_mem hl (show (x.1, x.2) ∈ x :: l from List.mem_cons_self)] at h1
        have h1 := get_some h1.symm
        have h2 := h y.1
        rw [get_of_mem hm (show (y.1, y.2) ∈ y :: m from List.mem_cons_self)] at h2
        have h2 := get_some h2
        rcases List.mem_cons.1 h1 with e | h1
        · rw [← e]
        · rcases List.mem_cons.1 h2 with e | h2
          · rw [← e]
          · have a1 := hy _ h1
            have a2 := hx _ h2
            exact absurd (lt_tr a1 a2) (lt_irr _)
      have he : x = y := by
        have h1 := h x.1
        rw [get_of_mem hl (show (x.1, x.2) ∈ x :: l from List.mem_cons_self), hxy, get_of_mem hm (show (y.1, y.2) ∈ y :: m from List.mem_cons_self)] at h1
        exact Prod.ext hxy (Option.some.inj h1)
      subst he
      congr 1
      refine ih hl' hm' fun n => ?_
      by_cases e : x.1 = n
      · have h1 : get l n = none := get_eq_none fun f hf e2 => by have := hx f hf; rw [e, e2] at this; exact lt_irr _ this
        have h2 : get m n = none := get_eq_none fun f hf e2 => by have := hy f hf; rw [e, e2] at this; exact lt_irr _ this
        rw [h1, h2]
      · have h1 := h n
        unfold get at h1 ⊢
        rw [List.find?_cons, List.find?_cons] at h1
        simpa [e] using h1
theorem kget_without' {β : Type} (l : List (Bs × β)) (n m : Bs) : kget (kwithout l n) m = if m = n then none else kget l m := by
  split
  · next h => subst h; exact mp.kget_eq_none fun f hf => (mp.mem_kwithout.1 hf).2
  · next h =>
    unfold mp.kget mp.kwithout
    rw [List.find?_filter]
    congr 2
    funext f
    by_cases h2 : f.1 = m
    · subst h2; simp [h]
    · simp [h2]
theorem kwithout_less {β : Type} {l : List (Bs × β)} {n : Bs} {v : β} (h : (n, v) ∈ l) : (kwithout l n).length < l.length := by
  unfold mp.kwithout
  rw [List.length_filter_lt_length_iff_exists]
  exact ⟨_, h, by simp⟩
theorem Copy.step {w wr w1 wx : World} {b b2 r : Nat} {fs fr f2 : List FV} (h : Copy w wr b b2 r fs fr f2) {n s : Bs} {v : Value} {a : Value} (hm : (n, (s, v)) ∈ fr) (hn : n.length ≤ maxLen) (hs0 : KSorted fs)
    (hG1 : Ranging w1 b r (vals fs) (kwithout (vals fr) n)) (hT : Turned r wr w1) (k : Below w1.heap.size w1 wx) (ha : RowB wx a s) (hq : ∃ q, a.ownBlock = some q ∧ w1.heap.size ≤ q) (hl : f2.length < maxLen) :
    ∃ w2, (Instr.mapUpdate tf (.map (some b2)) (.string (S n)) (.agg #[a])).run Tryz.prog wx = .ok () w2 ∧ Copy w w2 b b2 r fs (kwithout fr n) (kput f2 (n, (s, a))) ∧ w2.rangeLeft b r = w1.rangeLeft b r := by
  obtain ⟨g2, hg2, h3, hbw⟩ := h.ge
  have b1 : Below r wr w1 := ⟨hT.os, hT.tape, hT.output, Nat.le_of_eq hT.size.symm, fun i hi => hT.block i (by omega)⟩
  have hb2r : ∀ i, foot b2 f2 i → i ≠ r := by
    rintro i (e | ⟨f, hf, e⟩) e2
    · omega
    · obtain ⟨g, e3, _, cur, fr', hh⟩ := (h.new.own f hf).at
      obtain ⟨x1, x2, x3, x4, hit⟩ := h.go.iter
      rw [e] at e3
      cases e3
      rw [e2, hit] at hh
      cases hh
  have hlt2 : ∀ i, foot b2 f2 i → i < wr.heap.size := by
    intro i hi
    exact FM.lt (F := foot b2 f2) (l := con f2) ⟨f2, h.new, rfl, fun _ => Iff.rfl⟩ hi
  have n1 : FMs w1 b2 f2 := h.new.of fun i hi => hT.block i (hb2r i hi)
  have n2 : FMs wx b2 f2 := n1.of fun i hi => k.block i (by rw [hT.size]; exact hlt2 i hi)
  have hlen : (vals f2).length < maxLen := by rw [mp.kmap_length]; exact hl
  obtain ⟨w2, hup, hm2, ht⟩ := n2.map.store und_f n hn hlen (.agg #[a])
  obtain ⟨q, hqo, hqs⟩ := hq
  obtain ⟨gq, eq1, hql, cur, frz, hqh⟩ := ha.at
  rw [hqo] at eq1
  cases eq1
  have hqb : q ≠ b2 := by have := hlt2 b2 (.inl rfl); rw [hT.size] at hqs; omega
  have hF2 := n2.put (w' := w2) (n := n) (s := s) (v := a) hm2 (ha.of fun i hi => ht.block i (by rw [hqo] at hi; cases hi; exact hqb)) hn
    (fun f hf hne i hi => ht.block i (n2.row_ne hf hi))
    (fun f hf hne i hi e => by
      rw [hqo] at e
      cases e
      have := hlt2 _ (.inr ⟨f, hf, hi⟩)
      rw [hT.size] at hqs
      omega)
  have hbb : b ≠ b2 := by omega
  refine ⟨w2, hup, ⟨List.Sublist.trans List.filter_sublist h.sub, ?_, hF2, fun i hi => ?_, fun m => ?_, ?_, ?_, h.ge⟩, ?_⟩
  · rw [← vals_without]
    exact (hG1.of (k.block _ hG1.mp.lt) (k.block _ hG1.lt)).of (ht.block _ hbb) (ht.block _ (fun e => h3 e.symm))
  · rcases foot_put hi with hi | hi
    · exact h.ftt i hi
    · rw [hqo] at hi
      cases hi
      have := h.below.size
      rw [hT.size] at hqs
      omega
  · rw [con_put, get_k]
    have hsf2 : Sorted (con f2) := (mp.kmap_sorted _).2 h.new.sorted
    by_cases e : m = n
    · subst e
      rw [get_put_same hsf2, kget_without']
      simp only [if_true, Option.isSome_none]
      have : kget (con fs) m = some s := by rw [mp.kmap_get, mp.kget_of_mem hs0 (h.sub.subset hm)]; rfl
      rw [this]
      rfl
    · rw [get_put_other hsf2 s e, ← get_k, h.cnn m, kget_without', if_neg e]
  · have x1 := h.len
    have x2 := kwithout_less hm
    have x3 := mp.kput_length f2 (n, (s, a))
    omega
  · have hw1 : w.heap.size ≤ w1.heap.size := by rw [hT.size]; exact h.below.size
    have hwx : w.heap.size ≤ wx.heap.size := Nat.le_trans hw1 k.size
    have b3 : Below w.heap.size wx w2 := ⟨ht.os, ht.tape, ht.output, Nat.le_of_eq ht.size.symm, fun i hi => ht.block i (by omega)⟩
    exact ((h.below.trans (b1.mono g2)).trans (k.mono hw1)).trans b3
  · rw [mp.left_of (ht.block _ hbb) (ht.block _ (fun e => h3 e.symm)), mp.left_of (k.block _ hG1.mp.lt) (k.block _ hG1.lt)]

theorem Copy.done {w wr : World} {b b2 r : Nat} {fs f2 : List FV} (h : Copy w wr b b2 r fs [] f2) (hs : KSorted fs) : FNew w wr b2 (con fs) := by
  refine ⟨foot b2 f2, ⟨f2, h.new, ?_, fun _ => Iff.rfl⟩, h.ftt⟩
  refine sorted_ext ((mp.kmap_sorted _).2 h.new.sorted) ((mp.kmap_sorted _).2 hs) fun n => ?_
  have h1 := h.cnn n
  rw [show kget ([] : List FV) n = none from rfl] at h1
  exact h1
set_option maxHeartbeats 1000000 in
set_option maxRecDepth 100000 in
theorem ftwin_any (F : Nat → Prop) (b : Nat) (l : List File) (hu : used l ≤ 1048576) (hl : l.length ≤ 1000000) (w : World) (h : FM w F b l) :
    Calls Tryz.prog 53 #[.map (some b)] w fun e w' => ∃ b2, e = .returned (.map (some b2)) ∧ FNew w w' b2 l ∧ Below w.heap.size w w' := by
  obtain ⟨fs, h1, rfl, hF⟩ := h
  obtain ⟨W0, hW0⟩ : ∃ W0, w.alloc (.map #[] 0) = W0 := ⟨_, rfl⟩
  have b0 : Below w.heap.size w W0 := hW0 ▸ below_box w _
  have z0 : W0.heap.size = w.heap.size + 1 := by rw [← hW0]; simp
  have m0 : Mp W0 w.heap.size [] := hW0 ▸ Mp.made w
  obtain ⟨w0, hr, hG, hB, hz⟩ := (h1.below' b0).map.range und_f
  rw [z0] at hr hG
  have C0 : Hid (Copy w w0 b w.heap.size (w.heap.size + 1) fs fs []) := by
    refine ⟨List.Sublist.refl _, hG, ⟨m0.of (hB.block _ (by omega)), fun f hf => (by cases hf), fun f hf => (by cases hf), fun f hf => (by cases hf)⟩, ?_, fun n => ?_, Nat.le_of_eq (Nat.zero_add _), b0.trans (hB.mono (by omega)), by omega, Nat.le_refl _, by omega, h1.map.lt⟩
    · rintro k (e | ⟨f, hf, _⟩)
      · omega
      · cases hf
    · show none = _
      rw [mp.kmap_get]
      cases kget fs n <;> rfl
  have hmm := @run_makeMap Tryz.prog
  have HX : Hid (FMs w b fs ∧ used (con fs) ≤ 1048576 ∧ (con fs).length ≤ 1000000) := ⟨h1, hu, hl⟩
  clear hB hG hz h1 hF hu hl b0 z0 m0
  go_enter Tryz.func53, Tryz.ntmps53
  go_wp2_with fail
  go_loopw [] (fun wr => ∃ fr f2 : List FV, Hid (Copy w wr b w.heap.size (w.heap.size + 1) fs fr f2))
    (fun wr => wr.rangeLeft b (w.heap.size + 1))
  case atStart => exact ⟨fs, [], C0.out⟩
  case round =>
    obtain ⟨fr, f2, HI⟩ := hrel
    rcases HI.out.go.next 0 with ⟨e1, hrun⟩ | ⟨n, v, w1, hm, hn, hrun, hG1, hT, hlt, hen⟩
    · have hfr : fr = [] := by cases fr with | nil => rfl | cons _ _ => cases e1
      subst hfr
      have HE : Hid (FNew w wr w.heap.size (con fs) ∧ Below w.heap.size w wr) := ⟨HI.out.done HX.out.1.sorted, HI.out.below⟩
      clear HI e1
      go_wp2_with fail
      go_ret
      exact ⟨_, rfl, HE.out⟩
    · obtain ⟨s, r, hm2, rfl⟩ := vals_mem hm
      have hrow := HX.out.1.own _ (HI.out.sub.subset hm2)
      have hcs : s.length ≤ used (con fs) := used_con_le HX.out.1.sorted (HI.out.sub.subset hm2)
      obtain ⟨a, c, e, _⟩ := hrow.form
      simp only at e
      subst e
      have b1 : Below (w.heap.size + 1) wr w1 := ⟨hT.os, hT.tape, hT.output, Nat.le_of_eq hT.size.symm, fun k hk => hT.block k (by omega)⟩
      obtain ⟨w2, hw2⟩ : ∃ w2, w1.alloc (.cells #[.slice (some a) s.length c] 152) = w2 := ⟨_, rfl⟩
      have b2 : Below w1.heap.size w1 w2 := hw2 ▸ below_box w1 _
      have hwl : w.heap.size ≤ w1.heap.size := by rw [hT.size]; exact HI.out.below.size
      have hro : RowB w2 (.slice (some a) s.length c) s := hrow.of fun q hq => by
        obtain ⟨g, e, hlt, _⟩ := hrow.at
        rw [hq] at e
        cases e
        rw [b2.block q (by omega), hT.block q (by omega)]
        exact HI.out.below.block q hlt
      have hC := cloneB_any _ s (by have := HX.out.2.1; omega) w2 hro
      have HS : Hid (∀ v' w3, RowB w3 v' s → Below w2.heap.size w2 w3 → (∃ q, v'.ownBlock = some q ∧ w2.heap.size ≤ q) → ∃ w4, (Instr.mapUpdate tf (.map (some w.heap.size)) (.string (S n)) (.agg #[v'])).run Tryz.prog w3 = .ok () w4 ∧
          Hid (Copy w w4 b w.heap.size (w.heap.size + 1) fs (kwithout fr n) (kput f2 (n, (s, v'))) ∧ w4.rangeLeft b (w.heap.size + 1) < wr.rangeLeft b (w.heap.size + 1))) := by
        intro v' w3 h1 h2 ⟨q, h3, h4⟩
        obtain ⟨w4, x1, x2, x3⟩ := HI.out.step hm2 hn HX.out.1.sorted hG1 hT (b2.trans (h2.mono b2.size)) h1 ⟨q, h3, Nat.le_trans b2.size h4⟩ (by
          have := HI.out.len
          have h5 := HX.out.2.2
          rw [mp.kmap_length] at h5
          unfold maxLen; omega)
        exact ⟨w4, x1, x2, by rw [x3]; exact hlt⟩
      clear HI hm hm2 hn hG1 hT hlt hrow hcs b1 b2 hwl hro
      generalize s.length = L at *
      have c0 : w2.cell? ⟨w1.heap.size, 0, none⟩ = some (.slice (some a) L c) := by rw [← hw2]; exact (Arr.new w1 _ _).cell rfl
      go_upto_region 5 with (fail)
      clear hw2 hrun hen
      go_wp2_with fail
      refine hC.mono ?_
      rintro e w3 ⟨v', rfl, r3, b3, q3⟩
      obtain ⟨w4, hup, HC4⟩ := HS.out v' w3 r3 b3 q3
      obtain ⟨a3, c3, rfl, _⟩ := r3.form
      generalize s.length = L3 at *
      clear hC HS r3 b3 q3 c0
      go_wp2_with (first | (refine wpList_update_at _ _ _ _ rfl rfl _ _ _ _ rfl rfl rfl hup ?_) | fail)
      go_frame
      go_roundw
      case rel => exact ⟨_, _, HC4.out.1⟩
      case measure => exact HC4.out.2
end Go.Proofs.YteeeakbgofjinaaGreat.dk
/-! DkPB -/
namespace Go.Proofs.YteeeakbgofjinaaGreat.dk
set_option linter.unusedVariables false
open Go.RowKit Go.Sort
open fl (S S_size S_append S_inj str_eq str_ne)
open rw (Arr But Row Own bnext below_box below_drew below_drewN addr_add Fr RowB)
open mp (Mp Turned kget kput kwithout kmap KSorted Ranging)

theorem own_of {α : Type} (s : rw.Sh α) {w w' : World} {B : Nat} {v : Value} {l : List α} (h : Own s w B v l) (hb : ∀ q, v.ownBlock = some q → w'.heap[q]? = w.heap[q]?) : Own s w' B v l := by
  obtain ⟨h1, h2 | ⟨g, cap, cur, h3, h4, h5, h6⟩⟩ := h
  · exact ⟨h1, .inl h2⟩
  · exact ⟨h1, .inr ⟨g, cap, cur, h3, h4, (hb g (by rw [h3]; rfl)).trans h5, h6⟩⟩
theorem own_ge {α : Type} (s : rw.Sh α) {w : World} {B : Nat} {v : Value} {l : List α} (h : Own s w B v l) {q : Nat} (hq : v.ownBlock = some q) : B ≤ q ∧ q < w.heap.size := by
  obtain ⟨h1, ⟨e, _⟩ | ⟨g, cap, cur, h3, h4, h5, h6⟩⟩ := h
  · rw [e] at hq; cases hq
  · rw [h3] at hq
    cases hq
    exact ⟨h4, (Array.getElem?_eq_some_iff.1 h5).1⟩
theorem own_base {α : Type} (s : rw.Sh α) {w : World} {B B' : Nat} {v : Value} {l : List α} (h : Own s w B v l) (hB : B' ≤ B) : Own s w B' v l := by
  obtain ⟨h1, h2 | ⟨g, cap, cur, h3, h4, h5, h6⟩⟩ := h
  · exact ⟨h1, .inl h2⟩
  · exact ⟨h1, .inr ⟨g, cap, cur, h3, by omega, h5, h6⟩⟩
def strSh : rw.Sh Bs where
  t := 9
  st := 130
  k := 1
  bytes := 16
  z := .string ⟨#[]⟩
  enc := fun s => [.string (S s)]
  hu := Tryz.underlying130
  hi := by kernel_rfl
  hz := by rfl
  hk := by decide
  hb := by decide
  len := fun _ => rfl
  one := fun x u hu => by
    simp only [List.mem_cons, List.not_mem_nil, or_false] at hu
    rcases hu with rfl; rfl
theorem cells_str (l : List Bs) : rw.cellsG strSh l = l.map encStr := by
  unfold rw.cellsG
  induction l with
  | nil => rfl
  | cons x r ih => rw [List.flatMap_cons, ih]; rfl
theorem perm_without {fs : List FV} (h : KSorted fs) {n : Bs} {x : Bs × Value} (hm : (n, x) ∈ fs) : (n :: (kwithout fs n).map (·.1)).Perm (fs.map (·.1)) := by
  induction fs with
  | nil => cases hm
  | cons y r ih =>
    obtain ⟨hy, hr⟩ := List.pairwise_cons.1 h
    by_cases e : y.1 = n
    · have hall : ∀ f ∈ r, f.1 ≠ n := fun f hf e2 => by
        have := hy f hf
        rw [e, e2] at this
        exact mp.klt_irr _ this
      have hw : kwithout r n = r := by
        unfold mp.kwithout
        rw [List.filter_eq_self]
        intro f hf
        simpa using hall f hf
      have h1 : kwithout (y :: r) n = r := by unfold mp.kwithout at hw ⊢; rw [List.filter_cons]; simpa [e] using hw
      rw [h1, List.map_cons, e]
    · have h1 : kwithout (y :: r) n = y :: kwithout r n := by unfold mp.kwithout; rw [List.filter_cons]; simp [e]
      rcases List.mem_cons.1 hm with e2 | hm
      · rw [← e2] at e; exact absurd rfl e
      · rw [h1, List.map_cons, List.map_cons]
        exact (List.Perm.swap _ _ _).trans ((ih hr hm).cons _)
theorem names_sorted {l : List File} (h : Sorted l) {ss : List Bs} (hp : ss.Perm (l.map (·.1))) : (ss.mergeSort fun x y => decide (x ≤ y)) = l.map (·.1) := by
  have e := mergeSort_of_perm hp
  show ss.mergeSort leB = _
  rw [e]
  refine List.mergeSort_of_pairwise ?_
  refine List.pairwise_map.2 (h.imp fun {a b} hab => ?_)
  simp only [decide_eq_true_eq]
  exact List.le_of_lt hab

end Go.Proofs.YteeeakbgofjinaaGreat.dk
/-! JrRd8 -/
namespace Go.Proofs.YteeeakbgofjinaaGreat.jr
set_option linter.unusedVariables false
open Go.RowKit
open fl (S S_size S_append)
open rw (Arr But Own below_box bnext below_drew below_drewN Fr)

theorem slS_at {w : World} {v : Value} {l : List Bs} (h : rw.Sl dk.strSh w v l) {j : Nat} (hj : j < l.length) : ∃ b off c, v = .slice (some ⟨b, off, none⟩) l.length c ∧ b < w.heap.size ∧ w.cell? ⟨b, off + j, none⟩ = some (.string (S l[j])) := by
  obtain ⟨a, c, rfl, hc, hr, hn⟩ := h
  obtain ⟨b, off, rfl, hb, hcell⟩ := hr.at _ hj
  have h0 := hcell 0 (by decide)
  exact ⟨b, off, c, rfl, hb, by simpa [dk.strSh] using h0⟩
/-- The reading under way: the results' blocks, the reader's. -/
structure Rg (w W : World) (s : St) (based : Bool) (m : Nat) : Prop where
  sa : Arr W w.heap.size 87 (stC zero (.slice none 0 0) (.slice none 0 0))
  e : Arr W (w.heap.size + 1) 26 #[.int .i64 0]
  z : ∃ lv, Rz W (w.heap.size + 2) (w.heap.size + 2) lv s based m
  b : Below w.heap.size w W
theorem Rg.lt {w W : World} {s : St} {based : Bool} {m : Nat} (h : Rg w W s based m) : w.heap.size + 2 < W.heap.size := by
  obtain ⟨lv, cv, ev, h⟩ := h.z
  exact h.a.lt
theorem Rg.next {w W W' : World} {s s' : St} {based based' : Bool} {m m' : Nat} (h : Rg w W s based m) (k : Below (w.heap.size + 2) W W') (hz : ∃ lv, Rz W' (w.heap.size + 2) (w.heap.size + 2) lv s' based' m') : Rg w W' s' based' m' :=
  ⟨h.sa.of (k.block _ (by omega)), h.e.of (k.block _ (by omega)), hz, h.b.trans (k.mono (by omega))⟩
/-- The state laid into the result's block. -/
def laidW (w W : World) (s : St) (cv ev : Value) : World := ((((((((W.setCell ⟨w.heap.size, 0, none⟩ (.int .u64 (s.h.term : Nat))).setCell ⟨w.heap.size, 1, none⟩ (.int .i64 (s.h.vote : Nat))).setCell ⟨w.heap.size, 2, none⟩ (.int .u64 (s.h.life : Nat))).setCell ⟨w.heap.size, 3, none⟩ (.int .u64 (s.base : Nat))).setCell ⟨w.heap.size, 4, none⟩ (.int .u64 (s.bterm : Nat))).setCell ⟨w.heap.size, 5, none⟩ cv).setCell ⟨w.heap.size, 6, none⟩ ev).setCell ⟨w.heap.size, 7, none⟩ (.string (S s.image))).setCell ⟨w.heap.size + 1, 0, none⟩ (.int .i64 0)
theorem Rg.done {w W : World} {s : St} {based : Bool} {m : Nat} {lv cv ev : Value} (h : Rg w W s based m) (hz : Rz0 W (w.heap.size + 2) (w.heap.size + 2) lv cv ev s based m) :
    Arr (laidW w W s cv ev) w.heap.size 87 (stC s cv ev) ∧ Arr (laidW w W s cv ev) (w.heap.size + 1) 26 #[.int .i64 0] ∧ Below w.heap.size w (laidW w W s cv ev) ∧ Own noSh (laidW w W s cv ev) w.heap.size cv (ints s.conf) ∧ Own enSh (laidW w W s cv ev) w.heap.size ev (ens s.l) := by
  have k1 : But w.heap.size W ((((((((W.setCell ⟨w.heap.size, 0, none⟩ (.int .u64 (s.h.term : Nat))).setCell ⟨w.heap.size, 1, none⟩ (.int .i64 (s.h.vote : Nat))).setCell ⟨w.heap.size, 2, none⟩ (.int .u64 (s.h.life : Nat))).setCell ⟨w.heap.size, 3, none⟩ (.int .u64 (s.base : Nat))).setCell ⟨w.heap.size, 4, none⟩ (.int .u64 (s.bterm : Nat))).setCell ⟨w.heap.size, 5, none⟩ cv).setCell ⟨w.heap.size, 6, none⟩ ev).setCell ⟨w.heap.size, 7, none⟩ (.string (S s.image))) := ((((((((But.refl w.heap.size W).set 0 _).set 1 _).set 2 _).set 3 _).set 4 _).set 5 _).set 6 _).set 7 _
  have a1 : Arr ((((((((W.setCell ⟨w.heap.size, 0, none⟩ (.int .u64 (s.h.term : Nat))).setCell ⟨w.heap.size, 1, none⟩ (.int .i64 (s.h.vote : Nat))).setCell ⟨w.heap.size, 2, none⟩ (.int .u64 (s.h.life : Nat))).setCell ⟨w.heap.size, 3, none⟩ (.int .u64 (s.base : Nat))).setCell ⟨w.heap.size, 4, none⟩ (.int .u64 (s.bterm : Nat))).setCell ⟨w.heap.size, 5, none⟩ cv).setCell ⟨w.heap.size, 6, none⟩ ev).setCell ⟨w.heap.size, 7, none⟩ (.string (S s.image))) w.heap.size 87 (stC s cv ev) := by
    have e : ((((((((stC zero (.slice none 0 0) (.slice none 0 0)).setIfInBounds 0 (.int .u64 (s.h.term : Nat))).setIfInBounds 1 (.int .i64 (s.h.vote : Nat))).setIfInBounds 2 (.int .u64 (s.h.life : Nat))).setIfInBounds 3 (.int .u64 (s.base : Nat))).setIfInBounds 4 (.int .u64 (s.bterm : Nat))).setIfInBounds 5 cv).setIfInBounds 6 ev).setIfInBounds 7 (.string (S s.image)) = stC s cv ev := by simp [stC]
    rw [← e]
    exact (((((((h.sa.set 0 _).set 1 _).set 2 _).set 3 _).set 4 _).set 5 _).set 6 _).set 7 _
  unfold laidW
  generalize ((((((((W.setCell ⟨w.heap.size, 0, none⟩ (.int .u64 (s.h.term : Nat))).setCell ⟨w.heap.size, 1, none⟩ (.int .i64 (s.h.vote : Nat))).setCell ⟨w.heap.size, 2, none⟩ (.int .u64 (s.h.life : Nat))).setCell ⟨w.heap.size, 3, none⟩ (.int .u64 (s.base : Nat))).setCell ⟨w.heap.size, 4, none⟩ (.int .u64 (s.bterm : Nat))).setCell ⟨w.heap.size, 5, none⟩ cv).setCell ⟨w.heap.size, 6, none⟩ ev).setCell ⟨w.heap.size, 7, none⟩ (.string (S s.image))) = V at *
  have k2 : But (w.heap.size + 1) V (V.setCell ⟨w.heap.size + 1, 0, none⟩ (.int .i64 0)) := (But.refl (w.heap.size + 1) V).set 0 _
  have e1 := k1.arr h.e (by omega)
  exact ⟨k2.arr a1 (by omega), e1.set 0 (.int .i64 0), (h.b.trans (k1.below h.b.size (Nat.le_refl _))).trans (k2.below (Nat.le_trans h.b.size k1.size) (by omega)),
    own_lower (own_but (own_but hz.c h.sa (by decide) k1) e1 (by decide) k2) (by omega), own_lower (own_but (own_but hz.l h.sa (by decide) k1) e1 (by decide) k2) (by omega)⟩
def zeroS : Array Value := #[.int .u64 0, .int .i64 0, .int .u64 0, .int .u64 0, .int .u64 0, .slice none 0 0, .slice none 0 0, .string ⟨#[]⟩]
def zeroR : Array Value := #[.pointer none, .int .u64 0, .int .i64 0, .int .u64 0, .int .u64 0, .int .u64 0, .slice none 0 0, .slice none 0 0, .string ⟨#[]⟩, .bool false, .int .i64 0]
theorem rg_new (w : World) : Rg w (((w.alloc (.cells zeroS 87)).alloc (.cells #[.int .i64 0] 26)).alloc (.cells zeroR 172)) zero false 0 := by
  have k1 := below_box w (.cells zeroS 87)
  have k2 := below_box (w.alloc (.cells zeroS 87)) (.cells #[.int .i64 0] 26)
  have k3 := below_box ((w.alloc (.cells zeroS 87)).alloc (.cells #[.int .i64 0] 26)) (.cells zeroR 172)
  have a1 : Arr (w.alloc (.cells zeroS 87)) w.heap.size 87 (stC zero (.slice none 0 0) (.slice none 0 0)) := Arr.new w _ _
  have a2 := Arr.new (w.alloc (.cells zeroS 87)) 26 #[.int .i64 0]
  have a3 := Arr.new ((w.alloc (.cells zeroS 87)).alloc (.cells #[.int .i64 0] 26)) 172 zeroR
  rw [show (w.alloc (.cells zeroS 87)).heap.size = w.heap.size + 1 by simp] at a2
  rw [show ((w.alloc (.cells zeroS 87)).alloc (.cells #[.int .i64 0] 26)).heap.size = w.heap.size + 2 by simp] at a3
  exact ⟨(a1.below k2).below k3, a2.below k3, ⟨.pointer none, _, _, Nat.le_refl _, a3, Own.nil _ _ _, Own.nil _ _ _⟩, (k1.trans (k2.mono k1.size)).trans (k3.mono (k1.trans (k2.mono k1.size)).size)⟩

set_option maxHeartbeats 8000000 in
set_option maxRecDepth 100000 in
theorem read_any (v : Value) (bs : List Bs) (hn : bs.length ≤ 100000000) (hl : ∀ b ∈ bs, b.length ≤ 281474976710656) (w : World) (h : rw.Sl dk.strSh w v bs) :
    Calls Tryz.prog 80 #[v] w (ReadOut w (readAll bs)) := by
  obtain ⟨va, vc, rfl⟩ := sl_form h
  have HS := Lib.hid h
  have HL := Lib.hid hl
  have G0 := Lib.hid (rg_new w)
  obtain ⟨R, hR⟩ : ∃ R, readAll bs = R := ⟨_, rfl⟩
  rw [hR]
  have HR := Lib.hid hR
  clear h hl hR
  go_enter_defers Tryz.func80, Tryz.ntmps80
  go_wp2_with fail
  change Hid (Rg w (((w.alloc (.cells #[.int .u64 0, .int .i64 0, .int .u64 0, .int .u64 0, .int .u64 0, .slice none 0 0, .slice none 0 0, .string ⟨#[]⟩] 87)).alloc (.cells #[.int .i64 0] 26)).alloc (.cells #[.pointer none, .int .u64 0, .int .i64 0, .int .u64 0, .int .u64 0, .int .u64 0, .slice none 0 0, .slice none 0 0, .string ⟨#[]⟩, .bool false, .int .i64 0] 172)) zero false 0) at G0
  generalize ((w.alloc (.cells #[.int .u64 0, .int .i64 0, .int .u64 0, .int .u64 0, .int .u64 0, .slice none 0 0, .slice none 0 0, .string ⟨#[]⟩] 87)).alloc (.cells #[.int .i64 0] 26)).alloc (.cells #[.pointer none, .int .u64 0, .int .i64 0, .int .u64 0, .int .u64 0, .int .u64 0, .slice none 0 0, .slice none 0 0, .string ⟨#[]⟩, .bool false, .int .i64 0] 172) = w1 at *
  rw [show w.heap.size + 1 + 1 = w.heap.size + 2 from rfl]
  go_loopw [10] (fun i wr => ∃ (k : Nat) (y : Rd), i = .int .i64 (k : Nat) ∧ k ≤ bs.length ∧ Hid (RIn bs k y ∧ Rg w wr y.s (decide (0 < k)) (y.size - y.s.image.length)))
    (fun i _ => bs.length - (intOf i).toNat)
  case atStart => exact ⟨0, ⟨zero, 0⟩, rfl, Nat.zero_le _, rin_zero bs, G0.out⟩
  case round =>
    obtain ⟨k, y, rfl, hk, HI⟩ := hrel
    by_cases hlt : k < bs.length
    · have hki : (k : Int) < (bs.length : Int) := by omega
      obtain ⟨hr, hg⟩ := HI.out
      obtain ⟨b, off, c, e, hb, c0⟩ := slS_at (HS.out.later _ hg.b) hlt
      injection e with e1 e2 e3
      subst e1 e3
      obtain ⟨x, hx⟩ : ∃ x, bs[k]'hlt = x := ⟨_, rfl⟩
      obtain ⟨n1, n2, n3⟩ := hr.next hlt
      obtain ⟨lv, hz⟩ := hg.z
      have hRec := record_any (w.heap.size + 2) (w.heap.size + 2) lv y.s (decide (0 < k)) (y.size - y.s.image.length) x (HL.out x (hx ▸ List.getElem_mem hlt)) (hr.bear (by omega)) wr (Nat.le_of_lt hg.lt) hz
      rw [hx] at c0 n1 n2 n3
      rw [n1] at hRec
      have HG := Lib.hid hg
      have HN := Lib.hid (And.intro n2 n3)
      generalize record k y x = P at *
      clear n1 n2 n3 hr hg hz hx HI hb e2 G0
      go_wp2_with fail
      refine hRec.mono ?_
      clear hRec
      cases P with
      | none =>
        rintro e w6 ⟨b6, he⟩
        change e = .panicked wrongs at he
        subst he
        have HE : Hid (none = R ∧ Arr w6 w.heap.size 87 (stC zero (.slice none 0 0) (.slice none 0 0)) ∧ Arr w6 (w.heap.size + 1) 26 #[.int .i64 0] ∧ Below w.heap.size w w6) := by
          refine ⟨?_, HG.out.sa.of (b6.block _ (by omega)), HG.out.e.of (b6.block _ (by omega)), HG.out.b.trans (b6.mono (by omega))⟩
          rw [← HR.out]
          unfold readAll
          rw [HN.out.1 rfl]
          rfl
        clear b6 HG HN c0
        go_wp2_with fail
        rw [← HE.out.1]
        exact read_caught (sb := w.heap.size) (eb := w.heap.size + 1) rfl rfl rfl rfl HE.out.2.1 HE.out.2.2.1 HE.out.2.2.2 (by omega) (by omega)
      | some z =>
        rintro e w6 ⟨b6, he, hz6⟩
        subst he
        have HE : Hid (RIn bs (k + 1) z ∧ Rg w w6 z.s (decide (0 < k + 1)) (z.size - z.s.image.length)) := by
          refine ⟨HN.out.2 z rfl, ?_⟩
          rw [show decide (0 < k + 1) = true by simp]
          exact HG.out.next b6 hz6
        clear b6 hz6 HG HN c0
        go_wp2_with fail
        go_roundw
        case rel => exact ⟨k + 1, z, by go_num, by omega, HE⟩
        case measure => simp [intOf]; omega
    · obtain rfl : k = bs.length := by omega
      have hki : ¬ (bs.length : Int) < (bs.length : Int) := by omega
      obtain ⟨hr, hg⟩ := HI.out
      obtain ⟨lv, cv, ev, hz⟩ := hg.z
      have hW := whole_any wr ⟨cv, ev, hz⟩
      have HG := Lib.hid hg
      have HZ := Lib.hid hz
      have him := hr.ok.image
      have HQ : Hid ((bs ≠ [] ∧ y.s.image.length = y.size ↔ (decide (0 < bs.length) = true ∧ y.size - y.s.image.length = 0)) ∧ (if bs ≠ [] ∧ y.s.image.length = y.size then some y.s else none) = R) := by
        refine ⟨?_, ?_⟩
        · rw [decide_eq_true_eq, List.length_pos_iff]
          constructor
          · rintro ⟨a, b⟩; exact ⟨a, by omega⟩
          · rintro ⟨a, b⟩; exact ⟨a, by omega⟩
        · rw [← HR.out]
          have := hr.r
          rw [List.take_length] at this
          unfold readAll
          rw [this, Option.bind_some]
      clear hr hg hz him G0 HI
      by_cases hC : decide (0 < bs.length) = true ∧ y.size - y.s.image.length = 0
      · rw [decide_eq_true hC] at hW
        have HR2 : Hid (some y.s = R) := by
          have h := HQ.out
          rw [if_pos (h.1.2 hC)] at h
          exact h.2
        have hm := must_yes (w.heap.size + 2) wr
        clear HQ hC
        go_wp2_with fail
        refine hW.mono ?_
        rintro e w2 ⟨rfl, rfl⟩
        clear hW
        go_wp2_with fail
        refine hm.mono ?_
        rintro e w3 ⟨rfl, rfl⟩
        clear hm
        obtain ⟨z1, z2, z3, z4, z5, z6, z7, z8⟩ : wr.cell? ⟨w.heap.size + 2, 1, none⟩ = some (.int .u64 (y.s.h.term : Nat)) ∧ wr.cell? ⟨w.heap.size + 2, 2, none⟩ = some (.int .i64 (y.s.h.vote : Nat)) ∧ wr.cell? ⟨w.heap.size + 2, 3, none⟩ = some (.int .u64 (y.s.h.life : Nat)) ∧ wr.cell? ⟨w.heap.size + 2, 4, none⟩ = some (.int .u64 (y.s.base : Nat)) ∧ wr.cell? ⟨w.heap.size + 2, 5, none⟩ = some (.int .u64 (y.s.bterm : Nat)) ∧ wr.cell? ⟨w.heap.size + 2, 6, none⟩ = some cv ∧ wr.cell? ⟨w.heap.size + 2, 7, none⟩ = some ev ∧ wr.cell? ⟨w.heap.size + 2, 8, none⟩ = some (.string (S y.s.image)) :=
          ⟨HZ.out.a.cell rfl, HZ.out.a.cell rfl, HZ.out.a.cell rfl, HZ.out.a.cell rfl, HZ.out.a.cell rfl, HZ.out.a.cell rfl, HZ.out.a.cell rfl, HZ.out.a.cell rfl⟩
        obtain ⟨x0, x1, x2, x3, x4, x5, x6, x7⟩ : wr.cell? ⟨w.heap.size, 0, none⟩ = some (.int .u64 0) ∧ wr.cell? ⟨w.heap.size, 1, none⟩ = some (.int .i64 0) ∧ wr.cell? ⟨w.heap.size, 2, none⟩ = some (.int .u64 0) ∧ wr.cell? ⟨w.heap.size, 3, none⟩ = some (.int .u64 0) ∧ wr.cell? ⟨w.heap.size, 4, none⟩ = some (.int .u64 0) ∧ wr.cell? ⟨w.heap.size, 5, none⟩ = some (.slice none 0 0) ∧ wr.cell? ⟨w.heap.size, 6, none⟩ = some (.slice none 0 0) ∧ wr.cell? ⟨w.heap.size, 7, none⟩ = some (.string ⟨#[]⟩) :=
          ⟨HG.out.sa.cell rfl, HG.out.sa.cell rfl, HG.out.sa.cell rfl, HG.out.sa.cell rfl, HG.out.sa.cell rfl, HG.out.sa.cell rfl, HG.out.sa.cell rfl, HG.out.sa.cell rfl⟩
        obtain ⟨y0, y1, y2, y3, y4, y5, y6, y7⟩ : wr.frozen? ⟨w.heap.size, 0, none⟩ = false ∧ wr.frozen? ⟨w.heap.size, 1, none⟩ = false ∧ wr.frozen? ⟨w.heap.size, 2, none⟩ = false ∧ wr.frozen? ⟨w.heap.size, 3, none⟩ = false ∧ wr.frozen? ⟨w.heap.size, 4, none⟩ = false ∧ wr.frozen? ⟨w.heap.size, 5, none⟩ = false ∧ wr.frozen? ⟨w.heap.size, 6, none⟩ = false ∧ wr.frozen? ⟨w.heap.size, 7, none⟩ = false :=
          ⟨HG.out.sa.frozen 0, HG.out.sa.frozen 1, HG.out.sa.frozen 2, HG.out.sa.frozen 3, HG.out.sa.frozen 4, HG.out.sa.frozen 5, HG.out.sa.frozen 6, HG.out.sa.frozen 7⟩
        have w0 : wr.cell? ⟨w.heap.size + 1, 0, none⟩ = some (.int .i64 0) := HG.out.e.cell rfl
        have w1' := HG.out.e.frozen 0
        have HD := Lib.hid (HG.out.done HZ.out)
        obtain ⟨ca, cc, rfl⟩ : ∃ a c, cv = .slice a (ints y.s.conf).length c := HZ.out.c.form
        obtain ⟨ea, ec, rfl⟩ : ∃ a c, ev = .slice a (ens y.s.l).length c := HZ.out.l.form
        clear HG HZ
        go_wp2_with fail
        rw [← HR2.out]
        exact read_done (sb := w.heap.size) (eb := w.heap.size + 1) rfl rfl rfl rfl HD.out.1 HD.out.2.1 HD.out.2.2.1 HD.out.2.2.2.1 HD.out.2.2.2.2
      · rw [decide_eq_false hC] at hW
        have HR2 : Hid (none = R) := by
          have h := HQ.out
          rw [if_neg fun hh => hC (h.1.1 hh)] at h
          exact h.2
        have hm := must_no (w.heap.size + 2) wr
        clear HQ hC
        go_wp2_with fail
        refine hW.mono ?_
        rintro e w2 ⟨rfl, rfl⟩
        clear hW
        go_wp2_with fail
        refine hm.mono ?_
        rintro e w3 ⟨rfl, rfl⟩
        clear hm
        go_wp2_with fail
        rw [← HR2.out]
        exact read_caught (sb := w.heap.size) (eb := w.heap.size + 1) rfl rfl rfl rfl HG.out.sa HG.out.e HG.out.b (by omega) (by omega)
end Go.Proofs.YteeeakbgofjinaaGreat.jr
/-! DkPC -/
namespace Go.Proofs.YteeeakbgofjinaaGreat.dk
set_option linter.unusedVariables false
open Go.RowKit
open fl (S S_size S_append S_inj str_eq str_ne)
open rw (Arr But Row Own bnext below_box below_drew below_drewN addr_add Fr RowB)
open mp (Mp Turned kget kput kwithout kmap KSorted Ranging)

/-- What is made anew. -/
def PNew (w w' : World) (p : Nat) (d : Dk) : Prop := ∃ F', PD w' F' p d ∧ ∀ k, F' k → w.heap.size ≤ k
theorem FM.made (w : World) : FM (w.alloc (.map #[] 0)) (fun k => k = w.heap.size) w.heap.size [] :=
  ⟨[], ⟨Mp.made w, fun f hf => (by cases hf), fun f hf => (by cases hf), fun f hf => (by cases hf)⟩, rfl, fun k => ⟨fun e => .inl e, fun h => by
    rcases h with e | ⟨f, hf, _⟩
    · exact e
    · cases hf⟩⟩
/-- What New answers. -/
def NewOut (n : Int) (w : World) (e : Ending) (w' : World) : Prop :=
  ((n < 0 ∨ 1048576 < n) ∧ e = .returned (.tuple #[.pointer none, .int .i64 1]) ∧ w' = w) ∨
  (∃ cap : Nat, n = cap ∧ cap ≤ 1048576 ∧ ∃ p, e = .returned (.tuple #[.pointer (some ⟨p, 0, none⟩), .int .i64 0]) ∧ PNew w w' p (fresh cap) ∧ Below w.heap.size w w')
set_option maxHeartbeats 1000000 in
set_option maxRecDepth 100000 in
theorem pnew_any (n : Int) (w : World) :
    Calls Tryz.prog 8 #[.int .i64 n] w fun e w' => NewOut n w e w' := by
  by_cases h : n < 0 ∨ 1048576 < n
  · rcases h with h | h
    · go_enter Tryz.func8, Tryz.ntmps8
      go_wp2_with fail
      go_ret2
      exact .inl ⟨.inl h, rfl, rfl⟩
    · have h0 : ¬ n < 0 := by omega
      have hg : n > 1048576 := h
      go_enter Tryz.func8, Tryz.ntmps8
      go_wp2_with fail
      go_ret2
      exact .inl ⟨.inr h, rfl, rfl⟩
  · obtain ⟨cap, rfl⟩ : ∃ cap : Nat, n = cap := ⟨n.toNat, by omega⟩
    have h0 : ¬ (cap : Int) < 0 := by omega
    have hg : ¬ (cap : Int) > 1048576 := by omega
    have hmm := @run_makeMap Tryz.prog
    have HP : Hid (∃ W, (((w.alloc (.map #[] 0)).alloc (.map #[] 0)).alloc (.cells #[.int .i64 (cap : Nat), .map (some w.heap.size), .int .i64 0, .map (some (w.heap.size + 1)), .slice none 0 0, .int .i64 0, .int .i64 (-1)] 81)) = W ∧ PNew w W (w.heap.size + 2) (fresh cap) ∧ Below w.heap.size w W) := by
      have b1 := below_box w (.map #[] 0)
      have z1 : (w.alloc (.map #[] 0)).heap.size = w.heap.size + 1 := rw.size_1 _ _
      have b2 := below_box (w.alloc (.map #[] 0)) (.map #[] 0)
      have z2 : ((w.alloc (.map #[] 0)).alloc (.map #[] 0)).heap.size = w.heap.size + 2 := by rw [rw.size_1, z1]
      have b3 := below_box ((w.alloc (.map #[] 0)).alloc (.map #[] 0)) (.cells #[.int .i64 (cap : Nat), .map (some w.heap.size), .int .i64 0, .map (some (w.heap.size + 1)), .slice none 0 0, .int .i64 0, .int .i64 (-1)] 81)
      have m1 := ((FM.made w).below b2).below b3
      have m2 := FM.made (w.alloc (.map #[] 0))
      rw [z1] at m2
      have m2 := m2.below b3
      have A := Arr.new ((w.alloc (.map #[] 0)).alloc (.map #[] 0)) 81 #[.int .i64 (cap : Nat), .map (some w.heap.size), .int .i64 0, .map (some (w.heap.size + 1)), .slice none 0 0, .int .i64 0, .int .i64 (-1)]
      rw [z2] at A
      refine ⟨_, rfl, ⟨_, PD.of_pc (d := fresh cap) (fz := -1) (ts := []) (bs := w.heap.size) (bl := w.heap.size + 1) (pv := .slice none 0 0) ⟨A, m1, m2, rw.Own.nil turnSh _ _, fun x hx => (by cases hx), fun k h1 h2 => by omega⟩ rfl rfl (.inr ⟨rfl, by decide, by decide⟩), fun k hk => ?_⟩, (b1.trans (b2.mono (by omega))).trans (b3.mono (by omega))⟩
      rcases hk with hk | hk | hk | hk
      · omega
      · omega
      · omega
      · cases hk
    obtain ⟨W, hW, hP⟩ := HP.out
    have HP2 := Lib.hid hP
    clear hP HP
    go_enter Tryz.func8, Tryz.ntmps8
    go_wp2_with fail
    go_ret2
    exact .inr ⟨cap, rfl, by omega, _, rfl, HP2.out⟩

/-- Another map is what is seen. -/
theorem Pc.seen' {w : World} {p : Nat} {cs : Array Value} {bs bl b2 : Nat} {Fs Fl F2 : Nat → Prop} {seen lasts seen2 : List File} {pv : Value} {ts : List TC} (h : Pc w p cs bs bl Fs Fl seen lasts pv ts) (h2 : FM w F2 b2 seen2) (hd : ∀ k, F2 k → ¬ Fl k) : Pc w p cs b2 bl F2 Fl seen2 lasts pv ts :=
  ⟨h.a, h2, h.l, h.o, h.does, hd⟩
set_option maxHeartbeats 2000000 in
set_option maxRecDepth 100000 in
theorem pcrash_any (F : Nat → Prop) (p : Nat) (d : Dk) (k : Int) (hd : Right d) (hl : d.lasts.length ≤ 100000) (hp : d.pend.length ≤ 100000) (w : World) (h : PD w F p d) :
    Calls Tryz.prog 18 #[.pointer (some ⟨p, 0, none⟩), .int .i64 k] w fun e w' => e = .returned (.int .i64 ((crash d k).1 : Nat)) ∧ Step w F p (crash d k).2 w' := by
  have c5 : w.cell? ⟨p, 5, none⟩ = some (.int .i64 (count d.pend : Nat)) := by
    obtain ⟨bs, bl, Fs, Fl, pv, ts, fz, h1, _⟩ := h
    exact h1.cell rfl
  unfold crash
  by_cases hk : k < 0 ∨ (count d.pend : Int) < k
  · rw [if_pos hk]
    have HS : Hid (Step w F p d w) := Step.same h (Below.refl _ _)
    generalize count d.pend = cp at *
    clear h hd hl hp
    rcases hk with hk | hk
    · go_enter Tryz.func18, Tryz.ntmps18
      go_wp2_with fail
      go_ret
      exact ⟨rfl, HS.out⟩
    · have h0 : ¬ k < 0 := by omega
      have hg : k > (cp : Int) := hk
      go_enter Tryz.func18, Tryz.ntmps18
      go_wp2_with fail
      go_ret
      exact ⟨rfl, HS.out⟩
  rw [if_neg hk]
  obtain ⟨K, rfl⟩ : ∃ K : Nat, k = K := ⟨k.toNat, by omega⟩
  rw [Int.toNat_natCast]
  have hK : K ≤ count d.pend := by omega
  have hS := settle_any F p d K hd hl hp hK w h
  have hroom := again_room d.lasts d.pend K hd.so hd.room
  have hcap := hd.cap
  have hlen := again_length d.lasts d.pend K
  obtain ⟨L, hL⟩ : ∃ L, again d.lasts d.pend K = L := ⟨_, rfl⟩
  rw [hL] at hS hroom hlen ⊢
  have HL : Hid (used L ≤ 1048576 ∧ L.length ≤ 1000000) := ⟨by omega, by omega⟩
  have h0 : ¬ (K : Int) < 0 := by omega
  have hg : ¬ (K : Int) > (count d.pend : Int) := by omega
  have HP := Lib.hid h.own
  clear h hd hl hp hk hroom hcap hlen hL hK
  generalize count d.pend = cp at *
  go_enter Tryz.func18, Tryz.ntmps18
  go_wp2_with fail
  refine hS.mono ?_
  rintro e w1 ⟨rfl, F1, ⟨bs, bl, Fs, Fl, pv, ts, fz, p1, p2, p3, pF⟩, f1, n1⟩
  have c3 := p1.cell (j := 3) (v := .map (some bl)) rfl
  have hT := ftwin_any Fl bl L HL.out.1 HL.out.2 w1 p1.l
  have H1 : Hid (Pc w1 p (dkCells { d with lasts := L, pend := [] } bs bl pv fz) bs bl Fs Fl d.seen L pv ts ∧ ts.map (·.2) = [] ∧ (∀ k, F1 k ↔ fo p Fs Fl pv k) ∧ Fr F w w1 ∧ Nu w F F1) := ⟨p1, p2, pF, f1, n1⟩
  clear hS p1 p2 p3 pF f1 n1 c5
  go_wp2_with fail
  refine hT.mono ?_
  rintro e w2 ⟨b2, rfl, ⟨F2, m2, x2⟩, k2⟩
  have P2 := (H1.out.1.below k2).seen' m2 (fun k hk hl => by have := x2 k hk; have := H1.out.1.l.lt hl; omega)
  have c1 : w2.cell? ⟨p, 1, none⟩ = some (.map (some bs)) := P2.cell rfl
  have f1 := P2.a.frozen 1
  have P3 := P2.set 1 (.map (some b2))
  have q1 : Hid (But p w2 (w2.setCell ⟨p, 1, none⟩ (.map (some b2)))) := (But.refl p w2).set 1 _
  obtain ⟨W3, hW3⟩ : ∃ W3, w2.setCell ⟨p, 1, none⟩ (.map (some b2)) = W3 := ⟨_, rfl⟩
  rw [hW3] at P3 q1
  have c1' : W3.cell? ⟨p, 1, none⟩ = some (.map (some b2)) := P3.cell rfl
  have hU := sum_any F2 b2 L HL.out.1 W3 P3.s
  have H3 : Hid (Pc W3 p ((dkCells { d with lasts := L, pend := [] } bs bl pv fz).setIfInBounds 1 (.map (some b2))) b2 bl F2 Fl L L pv ts ∧ Fr F w W3 ∧ ∀ k, fo p F2 Fl pv k → F k ∨ w.heap.size ≤ k) := by
    have hpF := HP.out
    refine ⟨P3, (H1.out.2.2.2.1.then_below k2).trans (G := fun i => i = p) (Fr.but q1.out rfl) fun i _ e => e ▸ hpF, fun k hk => ?_⟩
    rcases hk with hk | hk | hk | hk
    · exact .inl (hk ▸ hpF)
    · exact .inr (Nat.le_trans H1.out.2.2.2.1.size (x2 k hk))
    · exact H1.out.2.2.2.2 k ((H1.out.2.2.1 k).2 (.inr (.inr (.inl hk))))
    · exact H1.out.2.2.2.2 k ((H1.out.2.2.1 k).2 (.inr (.inr (.inr hk))))
  clear hT m2 x2 k2 P2 P3 q1
  go_upto_region 5 with (fail)
  clear hW3 c1 f1
  go_wp2_with fail
  refine hU.mono ?_
  rintro e w4 ⟨rfl, b4⟩
  have P4 := H3.out.1.below b4
  have c2 : w4.cell? ⟨p, 2, none⟩ = some (.int .i64 (used d.seen : Nat)) := P4.cell rfl
  have f2 := P4.a.frozen 2
  have P5 := P4.set 2 (.int .i64 (used L : Nat))
  have c6 : (w4.setCell ⟨p, 2, none⟩ (.int .i64 (used L : Nat))).cell? ⟨p, 6, none⟩ = some (.int .i64 fz) := P5.cell rfl
  have f6 := P5.a.frozen 6
  have P6 := P5.set 6 (.int .i64 (-1))
  have HS : Hid (Step w F p { d with seen := L, lasts := L, pend := [], fused := false } ((w4.setCell ⟨p, 2, none⟩ (.int .i64 (used L : Nat))).setCell ⟨p, 6, none⟩ (.int .i64 (-1)))) := by
    have k1 := (But.refl p w4).set 2 (.int .i64 (used L : Nat))
    have k2 := (But.refl p (w4.setCell ⟨p, 2, none⟩ (.int .i64 (used L : Nat)))).set 6 (.int .i64 (-1))
    have hpF := HP.out
    refine ⟨_, PD.of_pc (d := { d with seen := L, lasts := L, pend := [], fused := false }) (fz := -1) (bs := b2) (bl := bl) P6 rfl H1.out.2.1 (.inr ⟨rfl, by decide, by decide⟩), ?_, H3.out.2.2⟩
    exact ((H3.out.2.1.then_below b4).trans (G := fun i => i = p) (Fr.but k1 rfl) fun i _ e => e ▸ hpF).trans (G := fun i => i = p) (Fr.but k2 rfl) fun i _ e => e ▸ hpF
  generalize used d.seen = ud at *
  generalize used L = uL at *
  clear hU b4 P4 P5 P6 H1 H3 c1' c3
  go_wp2_with fail
  go_ret
  exact ⟨rfl, HS.out⟩
end Go.Proofs.YteeeakbgofjinaaGreat.dk
/-! DkPD -/
namespace Go.Proofs.YteeeakbgofjinaaGreat.dk
set_option linter.unusedVariables false
open Go.RowKit
open fl (S S_size S_append S_inj str_eq str_ne)
open rw (Arr But Row Own bnext below_box below_drew below_drewN addr_add Fr RowB)
open mp (Mp Turned kget kput kwithout kmap KSorted Ranging)

end Go.Proofs.YteeeakbgofjinaaGreat.dk
/-! DkL1 -/
namespace Go.Proofs.YteeeakbgofjinaaGreat.dk
set_option linter.unusedVariables false
open Go.RowKit
open fl (S S_size S_append S_inj str_eq str_ne)
open rw (Arr But Row Own bnext below_box below_drew below_drewN addr_add Fr RowB)
open mp (Mp Turned kget kput kwithout kmap KSorted Ranging)

/-- Block p is a disk that was made since w0. -/
def Live (w0 w : World) (p : Nat) (d : Dk) : Prop := ∃ F, PD w F p d ∧ (∀ k, F k → w0.heap.size ≤ k) ∧ Below w0.heap.size w0 w
theorem Live.step {w0 w w' : World} {F : Nat → Prop} {p : Nat} {d' : Dk} (hF : ∀ k, F k → w0.heap.size ≤ k) (hB : Below w0.heap.size w0 w) (s : Step w F p d' w') : Live w0 w' p d' := by
  obtain ⟨F', h1, h2, h3⟩ := s
  refine ⟨F', h1, fun k hk => ?_, hB.trans (h2.below hB.size hF)⟩
  rcases h3 k hk with h | h
  · exact hF k h
  · exact Nat.le_trans hB.size h
theorem Live.below {w0 w w' : World} {p : Nat} {d : Dk} (h : Live w0 w p d) (k : Below w.heap.size w w') : Live w0 w' p d := by
  obtain ⟨F, h1, h2, h3⟩ := h
  exact ⟨F, h1.below k, h2, h3.trans (k.mono h3.size)⟩
theorem Live.since {w0 w : World} {p : Nat} {d : Dk} (h : Live w0 w p d) : Below w0.heap.size w0 w := by obtain ⟨F, h1, h2, h3⟩ := h; exact h3
theorem Live.new {w0 w w' : World} {p : Nat} {d : Dk} (hB : Below w0.heap.size w0 w) (h : PNew w w' p d) (k : Below w.heap.size w w') : Live w0 w' p d := by
  obtain ⟨F, h1, h2⟩ := h
  exact ⟨F, h1, fun i hi => Nat.le_trans hB.size (h2 i hi), hB.trans (k.mono hB.size)⟩
theorem ladd_any {w0 : World} (p : Nat) (d : Dk) (n s : Bs) (hd : Room d) (hs : s.length ≤ 281474976710656) (w : World) (h : Live w0 w p d) :
    Calls Tryz.prog 81 #[.pointer (some ⟨p, 0, none⟩), .string (S n), .string (S s)] w fun e w' => e = .returned (.int .i64 ((turn d ⟨1, n, s⟩).1 : Nat)) ∧ Live w0 w' p (turn d ⟨1, n, s⟩).2 := by
  obtain ⟨F, h1, h2, h3⟩ := h
  exact (padd_any F p d n s hd hs w h1).mono fun e w' ⟨a, b⟩ => ⟨a, Live.step h2 h3 b⟩
theorem lput_any {w0 : World} (p : Nat) (d : Dk) (n s : Bs) (hd : Room d) (hs : s.length ≤ 281474976710656) (w : World) (h : Live w0 w p d) :
    Calls Tryz.prog 20 #[.pointer (some ⟨p, 0, none⟩), .string (S n), .string (S s)] w fun e w' => e = .returned (.int .i64 ((turn d ⟨2, n, s⟩).1 : Nat)) ∧ Live w0 w' p (turn d ⟨2, n, s⟩).2 := by
  obtain ⟨F, h1, h2, h3⟩ := h
  exact (pput_any F p d n s hd hs w h1).mono fun e w' ⟨a, b⟩ => ⟨a, Live.step h2 h3 b⟩
/-- .. with the bounds that Sync, Crash, Twin, Names ask. -/
structure Rm (d : Dk) : Prop where
  r : Right d
  s : d.seen.length ≤ 1000
  l : d.lasts.length ≤ 1000
  p : d.pend.length ≤ 1000
theorem Rm.room {d : Dk} (h : Rm d) : Room d := ⟨h.r, Nat.le_trans h.s (by decide), Nat.le_trans h.p (by decide)⟩
theorem lsync_any {w0 : World} (p : Nat) (d : Dk) (hd : Rm d) (w : World) (h : Live w0 w p d) :
    Calls Tryz.prog 21 #[.pointer (some ⟨p, 0, none⟩)] w fun e w' => e = .returned (.int .i64 ((sync d).1 : Nat)) ∧ Live w0 w' p (sync d).2 := by
  obtain ⟨F, h1, h2, h3⟩ := h
  exact (psync_any F p d hd.r (Nat.le_trans hd.l (by decide)) (Nat.le_trans hd.p (by decide)) w h1).mono fun e w' ⟨a, b⟩ => ⟨a, Live.step h2 h3 b⟩
theorem lcrash_any {w0 : World} (p : Nat) (d : Dk) (k : Int) (hd : Rm d) (w : World) (h : Live w0 w p d) :
    Calls Tryz.prog 18 #[.pointer (some ⟨p, 0, none⟩), .int .i64 k] w fun e w' => e = .returned (.int .i64 ((crash d k).1 : Nat)) ∧ Live w0 w' p (crash d k).2 := by
  obtain ⟨F, h1, h2, h3⟩ := h
  exact (pcrash_any F p d k hd.r (Nat.le_trans hd.l (by decide)) (Nat.le_trans hd.p (by decide)) w h1).mono fun e w' ⟨a, b⟩ => ⟨a, Live.step h2 h3 b⟩
theorem lread_any {w0 : World} (p : Nat) (d : Dk) (n : Bs) (hn : n.length ≤ maxLen) (w : World) (h : Live w0 w p d) :
    Calls Tryz.prog 43 #[.pointer (some ⟨p, 0, none⟩), .string (S n)] w fun e w' => e = .returned (.tuple #[.string (S (read d n).1), .int .i64 ((read d n).2 : Nat)]) ∧ Below w.heap.size w w' := by
  obtain ⟨F, h1, h2, h3⟩ := h
  exact read_any F p d n hn w h1
theorem lpending_any {w0 : World} (p : Nat) (d : Dk) (w : World) (h : Live w0 w p d) :
    Calls Tryz.prog 44 #[.pointer (some ⟨p, 0, none⟩)] w fun e w' => e = .returned (.int .i64 (count d.pend : Nat)) ∧ w' = w := by
  obtain ⟨F, h1, h2, h3⟩ := h
  exact pending_any F p d w h1
/-! ### alive -/
def d0 : Dk := fresh 9
def d1 : Dk := ⟨9, [([97], [120, 121, 122])], [], [⟨1, [97], [120, 121, 122]⟩], false, 0⟩
def d2 : Dk := ⟨9, [([97], [120, 121, 122])], [([97], [120, 121, 122])], [], false, 0⟩
def d3 : Dk := ⟨9, [([97], [120, 121, 122, 117, 118])], [([97], [120, 121, 122])], [⟨1, [97], [117, 118]⟩], false, 0⟩
def d4 : Dk := ⟨9, [([97], [120, 121, 122, 117, 118]), ([98], [49])], [([97], [120, 121, 122])], [⟨1, [97], [117, 118]⟩, ⟨2, [98], [49]⟩], false, 0⟩
def d5 : Dk := ⟨9, [([97], [120, 121, 122, 117])], [([97], [120, 121, 122, 117])], [], false, 0⟩
theorem e1 : turn d0 ⟨1, [97], [120, 121, 122]⟩ = (0, d1) := by rfl
theorem e2 : sync d1 = (0, d2) := by rfl
theorem e3 : turn d2 ⟨1, [97], [117, 118]⟩ = (0, d3) := by rfl
theorem e4 : turn d3 ⟨2, [98], [49]⟩ = (0, d4) := by rfl
theorem e5 : crash d4 1 = (0, d5) := by rfl
theorem e6 : read d5 [97] = ([120, 121, 122, 117], 0) := by rfl
theorem r0 : Rm d0 := ⟨fresh_right (by decide), by decide, by decide, by decide⟩
theorem r1 : Rm d1 := ⟨by have := turn_right r0.r ⟨1, [97], [120, 121, 122]⟩; rwa [e1] at this, by decide, by decide, by decide⟩
theorem r2 : Rm d2 := ⟨by have := sync_right r1.r; rwa [e2] at this, by decide, by decide, by decide⟩
theorem r3 : Rm d3 := ⟨by have := turn_right r2.r ⟨1, [97], [117, 118]⟩; rwa [e3] at this, by decide, by decide, by decide⟩
theorem r4 : Rm d4 := ⟨by have := turn_right r3.r ⟨2, [98], [49]⟩; rwa [e4] at this, by decide, by decide, by decide⟩
theorem r5 : Rm d5 := ⟨by have := crash_right r4.r 1; rwa [e5] at this, by decide, by decide, by decide⟩
end Go.Proofs.YteeeakbgofjinaaGreat.dk
/-! DkInv -/
namespace Go.Proofs.YteeeakbgofjinaaGreat.dk
set_option linter.unusedVariables false

/-! ### How large a disk is behind so many calls -/
theorem full_length (l : List File) (p : List Call) : (full l p).length ≤ l.length + p.length := by
  induction p generalizing l with
  | nil => exact Nat.le_refl _
  | cons c r ih =>
    have h1 := ih (done l c (steps c))
    have h2 := done_le l c (steps c)
    show (full (done l c (steps c)) r).length ≤ _
    rw [List.length_cons]
    omega
theorem Rm.of {d : Dk} (h : Right d) (hs : d.lasts.length + d.pend.length ≤ 1000) : Rm d :=
  ⟨h, by rw [h.seen]; have := full_length d.lasts d.pend; omega, by omega, by omega⟩
theorem turn_size (d : Dk) (c : Call) : (turn d c).2.lasts.length + (turn d c).2.pend.length ≤ d.lasts.length + d.pend.length + 1 := by
  obtain ⟨e1, _, _, p, e4, e5⟩ := turn_kept d c
  rw [e1, e4, List.length_append]
  rcases e5 with rfl | rfl
  · simp
  · rw [List.length_singleton]; omega
/-- What holds behind j acts. -/
structure Inv (j : Nat) (d : Dk) : Prop where
  r : Right d
  n : d.lasts.length + d.pend.length ≤ j
  s : ∀ c ∈ d.pend, c.s.length ≤ 140737488355328
  f : d.fused = true → 0 ≤ d.left ∧ d.left ≤ 9223372036854775807
theorem Inv.mono {j j' : Nat} {d : Dk} (h : Inv j d) (k : j ≤ j') : Inv j' d := ⟨h.r, Nat.le_trans h.n k, h.s, h.f⟩
theorem inv_fresh {cap : Nat} (h : cap ≤ 1048576) : Inv 0 (fresh cap) := ⟨fresh_right h, Nat.le_refl _, fun c hc => (by cases hc), fun hf => (by cases hf)⟩
theorem off_left {d : Dk} (ho : off d = false) (hf : d.fused = true) : 1 ≤ d.left := by
  unfold off at ho
  rw [hf, Bool.true_and, decide_eq_false_iff_not] at ho
  omega
theorem spend_f {d : Dk} (ho : off d = false) (h : d.fused = true → 0 ≤ d.left ∧ d.left ≤ 9223372036854775807) : (spend d).fused = true → 0 ≤ (spend d).left ∧ (spend d).left ≤ 9223372036854775807 := by
  intro hf
  rw [(spend_parts d).2.2.2.2] at hf
  have h1 := h hf
  have h2 := off_left ho hf
  unfold spend
  rw [if_pos hf]
  exact ⟨by show 0 ≤ d.left - 1; omega, by show d.left - 1 ≤ _; omega⟩
theorem turn_off' {d : Dk} {c : Call} (h : (turn d c).2 ≠ d) : off d = false := by
  unfold turn at h
  by_cases h1 : c.name.length < 1 ∨ 80 < c.name.length
  · rw [if_pos h1] at h; exact absurd rfl h
  · rw [if_neg h1] at h
    by_cases h2 : off d = true
    · rw [if_pos h2] at h; exact absurd rfl h
    · simpa using h2
theorem inv_turn {j : Nat} {d : Dk} (h : Inv j d) (c : Call) (hs : c.s.length ≤ 140737488355328) : Inv (j + 1) (turn d c).2 := by
  by_cases he : (turn d c).2 = d
  · rw [he]; exact h.mono (Nat.le_succ j)
  have ho := turn_off' he
  refine ⟨turn_right h.r c, by have := turn_size d c; have := h.n; omega, fun x hx => ?_, ?_⟩
  · obtain ⟨_, _, _, p, e4, e5⟩ := turn_kept d c
    rw [e4] at hx
    rcases List.mem_append.1 hx with hx | hx
    · exact h.s x hx
    · rcases e5 with rfl | rfl
      · cases hx
      · rw [List.mem_singleton.1 hx]; exact hs
  · rcases turn_cases d c with e | ⟨_, hg, hu, e⟩
    · exact absurd e he
    · rw [e]
      exact spend_f (d := { d with seen := done d.seen c (steps c), pend := d.pend ++ [c] }) ho h.f
theorem inv_sync {j : Nat} {d : Dk} (h : Inv j d) : Inv (j + 1) (sync d).2 := by
  have hr := sync_right h.r
  unfold sync at hr ⊢
  split
  · exact h.mono (Nat.le_succ j)
  · next ho =>
    have ho : off d = false := by simpa using ho
    rw [if_neg (by rw [ho]; decide)] at hr
    obtain ⟨e1, e2, e3, e4, e5⟩ := spend_parts { d with lasts := d.seen, pend := [] }
    refine ⟨hr, ?_, fun c hc => ?_, spend_f (d := { d with lasts := d.seen, pend := [] }) ho h.f⟩
    · show (spend { d with lasts := d.seen, pend := [] }).lasts.length + (spend { d with lasts := d.seen, pend := [] }).pend.length ≤ j + 1
      rw [e3, e4]
      show d.seen.length + ([] : List Call).length ≤ j + 1
      have h1 := full_length d.lasts d.pend
      rw [← h.r.seen] at h1
      have := h.n
      simp only [List.length_nil]
      omega
    · have hc' : c ∈ (spend { d with lasts := d.seen, pend := [] }).pend := hc
      rw [e4] at hc'
      cases hc'
theorem inv_crash {j : Nat} {d : Dk} (h : Inv j d) (k : Int) : Inv (j + 1) (crash d k).2 := by
  have hr := crash_right h.r k
  unfold crash at hr ⊢
  split
  · exact h.mono (Nat.le_succ j)
  · next hk =>
    rw [if_neg hk] at hr
    refine ⟨hr, ?_, fun c hc => (by cases hc), fun hf => (by cases hf)⟩
    show (again d.lasts d.pend k.toNat).length + ([] : List Call).length ≤ j + 1
    have := again_length d.lasts d.pend k.toNat
    have := h.n
    simp only [List.length_nil]
    omega
theorem inv_fuse {j : Nat} {d : Dk} (h : Inv j d) (n : Int) (hn : n ≤ 9223372036854775807) : Inv j (fuse d n) :=
  ⟨fuse_right h.r n, h.n, h.s, fun hf => ⟨of_decide_eq_true (show decide (0 ≤ n) = true from hf), hn⟩⟩
theorem Inv.rm {j : Nat} {d : Dk} (h : Inv j d) (hj : j ≤ 1000) : Rm d := Rm.of h.r (Nat.le_trans h.n hj)
end Go.Proofs.YteeeakbgofjinaaGreat.dk
/-! JrW6 -/
namespace Go.Proofs.YteeeakbgofjinaaGreat.jr
set_option linter.unusedVariables false
open Go.RowKit
open fl (S S_size S_append S_inj)
open rw (Arr But Own bnext below_box below_drew below_drewN)

/-- While a file is written. -/
structure InF (w W : World) (sb : Nat) (s : St) (cv lv : Value) (q : Bs) : Prop where
  st : StAt W sb 87 s cv lv
  f : ∃ p, Bld w.heap.size w.heap.size p W ∧ Cutt p q
  b : Below w.heap.size w W
theorem InF.next {w W W' : World} {sb : Nat} {s : St} {cv lv : Value} {q q' : Bs} {e : Ending} (h0 : StAt w sb 87 s cv lv) (h : InF w W sb s cv lv q) (k : FOut w.heap.size w.heap.size W q' e W') : InF w W' sb s cv lv q' := by
  obtain ⟨_, p, x1, x2, x3⟩ := k
  exact ⟨h0.below (h.b.trans x3), ⟨p, x1, x2⟩, h.b.trans x3⟩
theorem InF.below {w W W' : World} {sb : Nat} {s : St} {cv lv : Value} {q : Bs} (h : InF w W sb s cv lv q) (k : Below W.heap.size W W') : InF w W' sb s cv lv q := by
  obtain ⟨p, x1, x2⟩ := h.f
  exact ⟨h.st.below k, ⟨p, x1.of k, x2⟩, bnext h.b k⟩
theorem FOut.of {B b : Nat} {W W' : World} {l body q : Bs} {e : Ending} (hl : Cutt l q) (hb : body.length ≤ 65536) (h : e = .returned (.tuple #[]) ∧ Bld B b (addF l body) W' ∧ Below B W W') : FOut B b W (q ++ sl.frame body) e W' :=
  ⟨h.1, _, h.2.1, hl.add hb, h.2.2⟩

theorem rec1 {w W : World} {sb : Nat} {s : St} {a1 : Option Addr} {n1 c1 : Nat} {a2 : Option Addr} {n2 c2 : Nat} (ho : Ok s) (h : InF w W sb s (.slice a1 n1 c1) (.slice a2 n2 c2) []) :
    Calls Tryz.prog 82 #[.pointer (some ⟨w.heap.size, 0, none⟩), .agg #[.int .i64 1, .int .u64 (s.base : Nat), .int .u64 (s.bterm : Nat), .slice a1 n1 c1, .slice a2 n2 c2, .int .i64 (s.image.length : Nat), .string ⟨#[]⟩, .int .u64 0, .int .i64 0, .int .u64 0, .int .u64 0, .int .u64 0, .int .i64 0, .string ⟨#[]⟩]] W (FOut w.heap.size w.heap.size W (sl.frame (baseB s))) := by
  obtain ⟨p, x1, x2⟩ := h.f
  have hbl := baseB_len ho
  have e1 : (baseB s).length = (num 1).length + (num s.base ++ (num s.bterm ++ (nums s.conf ++ num s.image.length))).length := by unfold baseB; rw [List.length_append]
  have hi := ho.image
  have hbase := ho.base
  have hR := frec_any _ _ p ⟨1, s.base, s.bterm, s.image.length, [], ⟨0, 0, 0⟩, 0, ⟨0, 0, []⟩⟩ a1 n1 c1 a2 n2 c2 _ _ form1 (show 1 ≤ 1 ∧ 1 ≤ 4 by omega) (num s.base ++ (num s.bterm ++ (nums s.conf ++ num s.image.length))) (by omega) (by have := x2.1; omega) W x1
    (fun W' k => wBase_any ⟨1, s.base, s.bterm, s.image.length, [], ⟨0, 0, 0⟩, 0, ⟨0, 0, []⟩⟩ _ a2 n2 c2 s.conf (by show s.base < _; omega) ho.bterm (by show s.image.length ≤ _; omega) (fun x hx => by have := (ho.conf.1 x hx).2; omega) (by have := members_length ho.conf; omega) W' (h.st.c.later _ k))
  refine hR.mono fun e w' hh => ?_
  have := FOut.of (body := baseB s) x2 (by omega) hh
  rwa [List.nil_append] at this
theorem rec3 {w W : World} {sb : Nat} {s : St} {cv lv : Value} {q : Bs} (ho : Ok s) (h : InF w W sb s cv lv q) :
    Calls Tryz.prog 82 #[.pointer (some ⟨w.heap.size, 0, none⟩), .agg #[.int .i64 3, .int .u64 0, .int .u64 0, .slice none 0 0, .slice none 0 0, .int .i64 0, .string ⟨#[]⟩, .int .u64 (s.h.term : Nat), .int .i64 (s.h.vote : Nat), .int .u64 (s.h.life : Nat), .int .u64 0, .int .u64 0, .int .i64 0, .string ⟨#[]⟩]] W (FOut w.heap.size w.heap.size W (q ++ hardRec s.h)) := by
  obtain ⟨p, x1, x2⟩ := h.f
  have hbl := hardB_len ho.term ho.vote ho.life
  have e1 : (hardB s.h).length = (num 3).length + (num s.h.term ++ (num s.h.vote ++ num s.h.life)).length := by unfold hardB; rw [List.length_append]
  have hR := frec_any _ _ p ⟨3, 0, 0, 0, [], s.h, 0, ⟨0, 0, []⟩⟩ none 0 0 none 0 0 _ _ form3 (show 1 ≤ 3 ∧ 3 ≤ 4 by omega) (num s.h.term ++ (num s.h.vote ++ num s.h.life)) (by omega) (by have := x2.1; omega) W x1
    (fun W' k => wHard_any ⟨3, 0, 0, 0, [], s.h, 0, ⟨0, 0, []⟩⟩ none 0 0 none 0 0 ho.term ho.vote ho.life W')
  exact hR.mono fun e w' hh => FOut.of (body := hardB s.h) x2 (by omega) hh

theorem image_call {w W : World} {sb : Nat} {s : St} {cv lv : Value} {q : Bs} (ho : Ok s) (h : InF w W sb s cv lv q) :
    Calls Tryz.prog 103 #[.pointer (some ⟨w.heap.size, 0, none⟩), .string (S s.image)] W (FOut w.heap.size w.heap.size W (q ++ pieceRecs (pieces s.image) s.image)) := by
  obtain ⟨p, x1, x2⟩ := h.f
  exact image_any _ _ p q s.image x2 (by have := ho.image; omega) W x1
theorem ents_call {w W : World} {sb : Nat} {s : St} {cv lv : Value} {q : Bs} {b1 : Nat} (h0 : StAt w sb 87 s cv lv) (ho : Ok s) (hll : s.l.length ≤ 1000000000) (hb : s.base + 1 = b1) (h : InF w W sb s cv lv q) :
    Calls Tryz.prog 101 #[.pointer (some ⟨w.heap.size, 0, none⟩), .int .u64 (b1 : Nat), lv] W (FOut w.heap.size w.heap.size W (q ++ entRecs (s.base + 1) s.l)) := by
  obtain ⟨p, x1, x2⟩ := h.f
  subst hb
  have := entries_any _ _ p q (s.base + 1) lv (ens s.l) x2 (ens_good ho) (by rw [ens_length]; have := ho.base; omega) (by rw [ens_length]; exact hll) W x1 (fun W' k => h0.l.later _ (h.b.trans k)) h.b.size
  rwa [ens_to] at this
theorem InF.step {w W : World} {sb : Nat} {s : St} {cv lv : Value} {q q' : Bs} {f : Nat} {args : Array Value} (h0 : StAt w sb 87 s cv lv) (h : InF w W sb s cv lv q) (c : Calls Tryz.prog f args W (FOut w.heap.size w.heap.size W q')) :
    Calls Tryz.prog f args W fun e w' => e = .returned (.tuple #[]) ∧ InF w w' sb s cv lv q' := c.mono fun _ _ k => ⟨k.1, InF.next h0 h k⟩

set_option maxHeartbeats 4000000 in
set_option maxRecDepth 100000 in
theorem file_any (sb : Nat) (s : St) (cv lv : Value) (ho : Ok s) (hll : s.l.length ≤ 1000000000) (w : World) (h : StAt w sb 87 s cv lv) :
    Calls Tryz.prog 77 #[.pointer (some ⟨sb, 0, none⟩)] w (SOut w (fileOf s)) := by
  obtain ⟨a1, c1, rfl⟩ := sl_form h.c
  obtain ⟨a2, c2, rfl⟩ := sl_form h.l
  have X0 : InF w (w.alloc (.cells #[.pointer none, .slice none 0 0] 139)) sb s (.slice a1 (ints s.conf).length c1) (.slice a2 (ens s.l).length c2) [] :=
    ⟨h.below (below_box _ _), ⟨[], Bld.new w, Cutt.refl (by simp)⟩, below_box _ _⟩
  have HO := Lib.hid (And.intro ho h)
  have HS : Hid (∀ W q, InF w W sb s (.slice a1 (ints s.conf).length c1) (.slice a2 (ens s.l).length c2) q → (W.cell? ⟨sb, 0, none⟩ = some (.int .u64 (s.h.term : Nat)) ∧ W.cell? ⟨sb, 1, none⟩ = some (.int .i64 (s.h.vote : Nat)) ∧ W.cell? ⟨sb, 2, none⟩ = some (.int .u64 (s.h.life : Nat)) ∧ W.cell? ⟨sb, 3, none⟩ = some (.int .u64 (s.base : Nat)) ∧ W.cell? ⟨sb, 4, none⟩ = some (.int .u64 (s.bterm : Nat)) ∧
      W.cell? ⟨sb, 5, none⟩ = some (.slice a1 (ints s.conf).length c1) ∧ W.cell? ⟨sb, 6, none⟩ = some (.slice a2 (ens s.l).length c2) ∧ W.cell? ⟨sb, 7, none⟩ = some (.string (S s.image)))) := fun W q h => ⟨h.st.a.cell rfl, h.st.a.cell rfl, h.st.a.cell rfl, h.st.a.cell rfl, h.st.a.cell rfl, h.st.a.cell rfl, h.st.a.cell rfl, h.st.a.cell rfl⟩
  have hz := S_size s.image
  have hi := ho.image
  have hbase := ho.base
  have hw5 : IntKind.u64.wrap ((s.base : Int) + 1) = ((s.base + 1 : Nat) : Int) := by rw [IntWalk.u64_in _ (by omega)]; omega
  obtain ⟨b1, hb1⟩ : ∃ b1, s.base + 1 = b1 := ⟨_, rfl⟩
  rw [hb1] at hw5
  have HX := Lib.hid X0
  clear X0 h ho
  go_enter Tryz.func77, Tryz.ntmps77
  go_upto_region 2 with (fail)
  generalize w.alloc (.cells #[.pointer none, .slice none 0 0] 139) = W1 at *
  have X1 := Lib.hid (HX.out.below (below_drew (Below.refl _ _)))
  have k0 := HS.out _ _ X1.out
  clear HX
  go_region_held3 (fun W => W.cell? ⟨sb, 0, none⟩ = some (.int .u64 (s.h.term : Nat)) ∧ W.cell? ⟨sb, 1, none⟩ = some (.int .i64 (s.h.vote : Nat)) ∧ W.cell? ⟨sb, 2, none⟩ = some (.int .u64 (s.h.life : Nat)) ∧ W.cell? ⟨sb, 3, none⟩ = some (.int .u64 (s.base : Nat)) ∧ W.cell? ⟨sb, 4, none⟩ = some (.int .u64 (s.bterm : Nat)) ∧
      W.cell? ⟨sb, 5, none⟩ = some (.slice a1 (ints s.conf).length c1) ∧ W.cell? ⟨sb, 6, none⟩ = some (.slice a2 (ens s.l).length c2) ∧ W.cell? ⟨sb, 7, none⟩ = some (.string (S s.image)))
    (first | (with_reducible exact k0) | (with_reducible exact kx))
    ((go_at_call 82; with_reducible refine (InF.step HO.out.2 X1.out (rec1 HO.out.1 X1.out)).mono ?_; rintro e w2 ⟨rfl, x2⟩; have X2 := Lib.hid x2; clear x2; have kx := HS.out _ _ X2.out))
  clear k0 X1
  obtain ⟨y0, y1, y2, y3, y4, y5, y6, y7⟩ := kx
  have hI := InF.step HO.out.2 X2.out (image_call HO.out.1 X2.out)
  go_wp2_with fail
  refine hI.mono ?_
  rintro e w3 ⟨rfl, x3⟩
  have X3 := Lib.hid x3
  clear x3
  clear y0 y1 y2 y3 y4 y5 y6 y7 hI X2
  obtain ⟨y0, y1, y2, y3, y4, y5, y6, y7⟩ := HS.out _ _ X3.out
  have hH := InF.step HO.out.2 X3.out (rec3 HO.out.1 X3.out)
  go_wp2_with fail
  refine hH.mono ?_
  rintro e w4 ⟨rfl, x4⟩
  have X4 := Lib.hid x4
  clear x4
  clear y0 y1 y2 y3 y4 y5 y6 y7 hH X3
  go_upto_region 5 with (fail)
  have X5 := Lib.hid (X4.out.below (below_drew (Below.refl _ _)))
  have k0 := HS.out _ _ X5.out
  clear X4
  go_region_held3 (fun W => W.cell? ⟨sb, 0, none⟩ = some (.int .u64 (s.h.term : Nat)) ∧ W.cell? ⟨sb, 1, none⟩ = some (.int .i64 (s.h.vote : Nat)) ∧ W.cell? ⟨sb, 2, none⟩ = some (.int .u64 (s.h.life : Nat)) ∧ W.cell? ⟨sb, 3, none⟩ = some (.int .u64 (s.base : Nat)) ∧ W.cell? ⟨sb, 4, none⟩ = some (.int .u64 (s.bterm : Nat)) ∧
      W.cell? ⟨sb, 5, none⟩ = some (.slice a1 (ints s.conf).length c1) ∧ W.cell? ⟨sb, 6, none⟩ = some (.slice a2 (ens s.l).length c2) ∧ W.cell? ⟨sb, 7, none⟩ = some (.string (S s.image)))
    (first | (with_reducible exact k0) | (with_reducible exact kx))
    ((go_at_call 101; with_reducible refine (InF.step HO.out.2 X5.out (ents_call HO.out.2 HO.out.1 hll hb1 X5.out)).mono ?_; rintro e w6 ⟨rfl, x6⟩; have X6 := Lib.hid x6; clear x6; have kx := HS.out _ _ X6.out))
  clear k0 X5 kx
  obtain ⟨p, hp⟩ := X6.out.f
  have hSt := bstring_any _ _ p w6 hp.1 (hp.2.ne (by simp [frame_ne]))
  have hq : Hid (Cutt p (fileOf s)) := by
    have h1 := hp.2
    unfold fileOf
    simp only [List.append_assoc] at h1
    exact h1
  clear hp
  go_wp2_with fail
  refine hSt.mono ?_
  rintro e w7 ⟨rfl, b7⟩
  have H7 : Hid (SOut w (fileOf s) (.returned (.string (S p))) w7) := ⟨p, rfl, hq.out, X6.out.b.trans b7⟩
  clear hSt b7 X6 hq
  go_wp2_with fail
  go_ret
  exact H7.out
end Go.Proofs.YteeeakbgofjinaaGreat.jr
/-! JrP1 -/
namespace Go.Proofs.YteeeakbgofjinaaGreat.jr
set_option linter.unusedVariables false
open Go.RowKit
open fl (S S_size S_append S_inj)
open rw (Arr But Own bnext below_box below_drew below_drewN Fr)
open dk (PD Step Nu Inv)

theorem log_S : S log = ⟨#[108, 111, 103]⟩ := rfl
theorem jput_inv {j : Nat} {d : dk.Dk} (h : Inv j d) (kind : Nat) (s : Bs) (hs : s.length ≤ 140737488355328) : Inv (j + 2) (jput d kind s).2 := by
  unfold jput
  split
  · exact (dk.inv_turn h _ hs).mono (by omega)
  · exact dk.inv_sync (dk.inv_turn h _ hs)
theorem two_step {w w1 w2 : World} {F : Nat → Prop} {p : Nat} {d1 d2 : dk.Dk} (h : Step w F p d1 w1) (k : ∀ F1, PD w1 F1 p d1 → Step w1 F1 p d2 w2) : Step w F p d2 w2 := by
  obtain ⟨F1, x1, x2, x3⟩ := h
  exact dk.Step.after x2 x3 (k F1 x1)

set_option maxHeartbeats 1000000 in
set_option maxRecDepth 100000 in
theorem add_any (F : Nat → Prop) (p j : Nat) (d : dk.Dk) (s : Bs) (hd : Inv j d) (hj : j ≤ 990) (hs : s.length ≤ 140737488355328) (w : World) (h : PD w F p d) :
    Calls Tryz.prog 36 #[.pointer (some ⟨p, 0, none⟩), .string (S s)] w fun e w' => e = .returned (.int .i64 ((jput d 1 s).1 : Nat)) ∧ Step w F p (jput d 1 s).2 w' := by
  have hA := dk.padd_any F p d log s (hd.rm (by omega)).room (by omega) w h
  have hi := dk.inv_turn hd ⟨1, log, s⟩ hs
  rw [log_S] at hA
  unfold jput
  obtain ⟨R, hR⟩ : ∃ R, dk.turn d ⟨1, log, s⟩ = R := ⟨_, rfl⟩
  rw [hR] at hA hi ⊢
  obtain ⟨e0, d1⟩ := R
  simp only at hA hi ⊢
  have HS : Hid (∀ w2, Step w F p d1 w2 → Calls Tryz.prog 21 #[.pointer (some ⟨p, 0, none⟩)] w2 fun e w' => e = .returned (.int .i64 ((dk.sync d1).1 : Nat)) ∧ Step w F p (dk.sync d1).2 w') := fun w2 s2 => by
    obtain ⟨F1, x1, x2, x3⟩ := s2
    have hr := hi.rm (by omega)
    exact (dk.psync_any F1 p d1 hr.r (Nat.le_trans hr.l (by decide)) (Nat.le_trans hr.p (by decide)) w2 x1).mono fun e w' ⟨a, b⟩ => ⟨a, dk.Step.after x2 x3 b⟩
  clear hi hR hd hs h
  by_cases h0 : e0 = 0
  · subst h0
    rw [if_neg (by simp)]
    go_enter Tryz.func36, Tryz.ntmps36
    go_wp2_with fail
    refine hA.mono ?_
    rintro e w2 ⟨rfl, s2⟩
    have hB := HS.out w2 s2
    clear hA s2 HS
    go_wp2_with fail
    refine hB.mono ?_
    rintro e w3 ⟨rfl, s3⟩
    have S3 := Lib.hid s3
    clear hB s3
    go_wp2_with fail
    go_ret
    exact ⟨rfl, S3.out⟩
  · rw [if_pos h0]
    have hne : (e0 : Int) != 0 := by simpa using h0
    clear HS
    go_enter Tryz.func36, Tryz.ntmps36
    go_wp2_with fail
    refine hA.mono ?_
    rintro e w2 ⟨rfl, s2⟩
    have S2 := Lib.hid s2
    clear hA s2
    go_wp2_with fail
    go_ret
    exact ⟨rfl, S2.out⟩
set_option maxHeartbeats 1000000 in
set_option maxRecDepth 100000 in
theorem put_any (F : Nat → Prop) (p j : Nat) (d : dk.Dk) (s : Bs) (hd : Inv j d) (hj : j ≤ 990) (hs : s.length ≤ 140737488355328) (w : World) (h : PD w F p d) :
    Calls Tryz.prog 76 #[.pointer (some ⟨p, 0, none⟩), .string (S s)] w fun e w' => e = .returned (.int .i64 ((jput d 2 s).1 : Nat)) ∧ Step w F p (jput d 2 s).2 w' := by
  have hA := dk.pput_any F p d log s (hd.rm (by omega)).room (by omega) w h
  have hi := dk.inv_turn hd ⟨2, log, s⟩ hs
  rw [log_S] at hA
  unfold jput
  obtain ⟨R, hR⟩ : ∃ R, dk.turn d ⟨2, log, s⟩ = R := ⟨_, rfl⟩
  rw [hR] at hA hi ⊢
  obtain ⟨e0, d1⟩ := R
  simp only at hA hi ⊢
  have HS : Hid (∀ w2, Step w F p d1 w2 → Calls Tryz.prog 21 #[.pointer (some ⟨p, 0, none⟩)] w2 fun e w' => e = .returned (.int .i64 ((dk.sync d1).1 : Nat)) ∧ Step w F p (dk.sync d1).2 w') := fun w2 s2 => by
    obtain ⟨F1, x1, x2, x3⟩ := s2
    have hr := hi.rm (by omega)
    exact (dk.psync_any F1 p d1 hr.r (Nat.le_trans hr.l (by decide)) (Nat.le_trans hr.p (by decide)) w2 x1).mono fun e w' ⟨a, b⟩ => ⟨a, dk.Step.after x2 x3 b⟩
  clear hi hR hd hs h
  by_cases h0 : e0 = 0
  · subst h0
    rw [if_neg (by simp)]
    go_enter Tryz.func76, Tryz.ntmps76
    go_wp2_with fail
    refine hA.mono ?_
    rintro e w2 ⟨rfl, s2⟩
    have hB := HS.out w2 s2
    clear hA s2 HS
    go_wp2_with fail
    refine hB.mono ?_
    rintro e w3 ⟨rfl, s3⟩
    have S3 := Lib.hid s3
    clear hB s3
    go_wp2_with fail
    go_ret
    exact ⟨rfl, S3.out⟩
  · rw [if_pos h0]
    have hne : (e0 : Int) != 0 := by simpa using h0
    clear HS
    go_enter Tryz.func76, Tryz.ntmps76
    go_wp2_with fail
    refine hA.mono ?_
    rintro e w2 ⟨rfl, s2⟩
    have S2 := Lib.hid s2
    clear hA s2
    go_wp2_with fail
    go_ret
    exact ⟨rfl, S2.out⟩

/-! ### What is too long is refused as it is -/
theorem used_ge {l : List dk.File} (h : dk.Sorted l) (f : dk.File) : f.2.length ≤ dk.used (dk.put l f) := by
  have h1 := dk.used_put h f
  have h2 := dk.used_without h f.1
  omega
theorem turn_long {d : dk.Dk} (hd : dk.Right d) {k : Nat} (hk : k = 1 ∨ k = 2) {s : Bs} (hs : 1048576 < s.length) : dk.turn d ⟨k, log, s⟩ = (if dk.off d = true then 8 else 7, d) := by
  unfold dk.turn
  rw [if_neg (show ¬ (log.length < 1 ∨ 80 < log.length) by decide)]
  split
  · rfl
  · have hne : s ≠ [] := fun e => by rw [e] at hs; simp at hs
    rw [if_neg (fun h => by have h3 : k = 3 := h.1; omega), if_neg (fun h => hne h.2), if_pos]
    have hc := hd.cap
    have hso := hd.sorted
    show d.cap < dk.used (dk.after d.seen ⟨k, log, s⟩)
    unfold dk.after
    split
    · have := used_ge hso (log, s)
      simp only at this ⊢
      omega
    · next h2 =>
      have h2 : k ≠ 2 := h2
      have h1 : k = 1 := by omega
      unfold dk.done dk.steps
      simp only [h1, if_true]
      rw [if_neg (by omega), List.take_length]
      have := used_ge hso (log, (dk.get d.seen log).getD [] ++ s)
      simp only [List.length_append] at this
      omega
theorem jput_cut {d : dk.Dk} (hd : dk.Right d) {k : Nat} (hk : k = 1 ∨ k = 2) {p q : Bs} (h : Cutt p q) : jput d k p = jput d k q := by
  rcases h.2 with rfl | ⟨h1, h2⟩
  · rfl
  · unfold jput
    rw [turn_long hd hk h1, turn_long hd hk h2]
end Go.Proofs.YteeeakbgofjinaaGreat.jr
/-! JrLd0 -/
namespace Go.Proofs.YteeeakbgofjinaaGreat.jr
set_option linter.unusedVariables false
open Go.RowKit
open fl (S S_size S_append)
open rw (Arr But Own below_box bnext below_drew below_drewN Fr)
open dk (PD Step Nu Inv)

def rdErr : Option St → Nat
  | none => 4
  | some _ => 0
/-- Behind what was read. -/
def loadB (d : dk.Dk) (b : Bs) : Nat × Option St × dk.Dk :=
  if sl.err b ≠ 0 ∧ sl.err b ≠ 3 then (sl.err b, none, d)
  else if sl.err b = 3 then
    (if (jput d 2 (b.take (sl.fin 0 b))).1 ≠ 0 then ((jput d 2 (b.take (sl.fin 0 b))).1, none, (jput d 2 (b.take (sl.fin 0 b))).2)
    else (rdErr (readAll (sl.bodies b)), readAll (sl.bodies b), (jput d 2 (b.take (sl.fin 0 b))).2))
  else (rdErr (readAll (sl.bodies b)), readAll (sl.bodies b), d)
def loadJ (d : dk.Dk) : Nat × Option St × dk.Dk :=
  if (dk.read d log).2 = 6 then
    (if (jput d 2 (fileOf zero)).1 ≠ 0 then ((jput d 2 (fileOf zero)).1, none, (jput d 2 (fileOf zero)).2) else (0, some zero, (jput d 2 (fileOf zero)).2))
  else if (dk.read d log).2 ≠ 0 then ((dk.read d log).2, none, d)
  else loadB d (dk.read d log).1
theorem err_zero (b : Bs) : sl.err b = 0 ↔ sl.fin 0 b = b.length := by
  unfold sl.err
  split
  · next h => exact ⟨fun _ => h, fun _ => rfl⟩
  · next h =>
    have := sl.cut_fin b 0
    rw [Nat.sub_zero] at this
    exact ⟨fun e => absurd e this, fun e => absurd e h⟩
theorem fin_lt {b : Bs} (h : sl.err b ≠ 0) : sl.fin 0 b < b.length := by
  have h1 := (sl.fin_le b 0).1
  have h2 : sl.fin 0 b ≠ b.length := fun e => h ((err_zero b).2 e)
  omega
theorem cut_ne4 (l : Bs) : (sl.cut l).2.2 ≠ 4 := by
  unfold sl.cut
  split
  · decide
  · split
    · decide
    · split
      · decide
      · split
        · decide
        · show ¬ (0 = 4); decide
theorem err_ne4 (b : Bs) : sl.err b ≠ 4 := by
  unfold sl.err
  split
  · decide
  · exact cut_ne4 _
theorem open2_load (d : dk.Dk) (b : Bs) : open2 d b = match (loadB d b).2.1 with
    | none => loadB d b
    | some s => open3 (loadB d b).2.2 s := by
  by_cases h1 : sl.err b ≠ 0 ∧ sl.err b ≠ 3
  · have hf : found b = (none, 0, sl.err b) := by unfold found; rw [if_pos h1]
    have hl : loadB d b = (sl.err b, none, d) := by unfold loadB; rw [if_pos h1]
    unfold open2
    rw [hf, hl]
    exact if_pos ⟨h1.1, err_ne4 b⟩
  · cases hr : readAll (sl.bodies b) with
    | none =>
      have hf : found b = (none, sl.fin 0 b, 4) := by unfold found; rw [if_neg h1, hr]
      unfold open2
      rw [hf]
      simp only
      rw [if_neg (by decide)]
      by_cases h3 : sl.err b = 3
      · have hlt := fin_lt (b := b) (by omega)
        have hl : loadB d b = if (jput d 2 (b.take (sl.fin 0 b))).1 ≠ 0 then ((jput d 2 (b.take (sl.fin 0 b))).1, none, (jput d 2 (b.take (sl.fin 0 b))).2) else (4, none, (jput d 2 (b.take (sl.fin 0 b))).2) := by
          unfold loadB; rw [if_neg h1, if_pos h3, hr]; rfl
        rw [if_pos hlt, hl]
        by_cases h0 : (jput d 2 (b.take (sl.fin 0 b))).1 ≠ 0
        · rw [if_pos h0]
        · rw [if_neg h0]
      · have hfe := (err_zero b).1 (by omega)
        have hl : loadB d b = (4, none, d) := by unfold loadB; rw [if_neg h1, if_neg h3, hr]; rfl
        rw [if_neg (by omega), hl]
    | some s =>
      have hf : found b = (some s, sl.fin 0 b, 0) := by unfold found; rw [if_neg h1, hr]
      unfold open2
      rw [hf]
      simp only
      rw [if_neg (by decide)]
      by_cases h3 : sl.err b = 3
      · have hlt := fin_lt (b := b) (by omega)
        have hl : loadB d b = if (jput d 2 (b.take (sl.fin 0 b))).1 ≠ 0 then ((jput d 2 (b.take (sl.fin 0 b))).1, none, (jput d 2 (b.take (sl.fin 0 b))).2) else (0, some s, (jput d 2 (b.take (sl.fin 0 b))).2) := by
          unfold loadB; rw [if_neg h1, if_pos h3, hr]; rfl
        rw [if_pos hlt, hl]
        by_cases h0 : (jput d 2 (b.take (sl.fin 0 b))).1 ≠ 0
        · rw [if_pos h0, if_pos h0]
        · rw [if_neg h0, if_neg h0]
      · have hfe := (err_zero b).1 (by omega)
        have hl : loadB d b = (0, some s, d) := by unfold loadB; rw [if_neg h1, if_neg h3, hr]; rfl
        rw [if_neg (by omega), hl]
theorem found_zero : found (fileOf zero) = (some zero, (fileOf zero).length, 0) := by
  rw [file_zero]
  exact found_frames (K := K0) (by rw [K0_eq]; decide) read_K0
theorem openJ_load (d : dk.Dk) : openJ d = match (loadJ d).2.1 with
    | none => loadJ d
    | some s => open3 (loadJ d).2.2 s := by
  unfold openJ loadJ
  by_cases h1 : (dk.read d log).2 = 6
  · rw [if_pos h1, if_pos h1]
    by_cases h0 : (jput d 2 (fileOf zero)).1 ≠ 0
    · rw [if_pos h0, if_pos h0]
    · rw [if_neg h0, if_neg h0]
      unfold open2
      rw [found_zero]
      simp only
      rw [if_neg (by decide), if_neg (Nat.lt_irrefl _)]
  · rw [if_neg h1, if_neg h1]
    by_cases h2 : (dk.read d log).2 ≠ 0
    · rw [if_pos h2, if_pos h2]
    · rw [if_neg h2, if_neg h2]
      exact open2_load d _

/-! ### What is not the disk's stays -/
def Away (t : TypeId) : Prop := t ≠ 81 ∧ t ≠ 115 ∧ t ≠ 5
theorem away_of {w : World} {F : Nat → Prop} {p : Nat} {d : dk.Dk} (hp : PD w F p d) {t : TypeId} (ht : Away t) {b : Nat} {cs : Array Value} {fr : Nat × Nat} (h : w.heap[b]? = some (.cells cs t fr)) : ¬ F b := fun hF => by
  rcases hp.off hF h with e | e | e
  · exact ht.1 e
  · exact ht.2.1 e
  · exact ht.2.2 e
theorem arr_step {w w' : World} {F : Nat → Prop} {p : Nat} {d : dk.Dk} (hp : PD w F p d) (k : Fr F w w') {b : Nat} {t : TypeId} {cs : Array Value} (ht : Away t) (h : Arr w b t cs) : Arr w' b t cs := k.arr h (away_of hp ht h)
theorem own_step {α : Type} {s : rw.Sh α} {w w' : World} {F : Nat → Prop} {p : Nat} {d : dk.Dk} (hp : PD w F p d) (k : Fr F w w') {B : Nat} {v : Value} {l : List α} (ht : Away s.t) (h : Own s w B v l) : Own s w' B v l :=
  own_of h fun q hq => by
    obtain ⟨cs, hc⟩ := own_typed h hq
    exact k.block q (Array.getElem?_eq_some_iff.1 hc).1 (away_of hp ht hc)
theorem sl_step {α : Type} {s : rw.Sh α} {w w' : World} {F : Nat → Prop} (k : Fr F w w') {v : Value} {l : List α} (ha : rw.Apt F v l) (h : rw.Sl s w v l) : rw.Sl s w' v l := by
  obtain ⟨a, c, h1, h2, h3, h4⟩ := h
  refine ⟨a, c, h1, h2, ?_, h4⟩
  by_cases hl : l = []
  · exact .inl hl
  · rcases h3 with h | ⟨b, off, e, hb, hc⟩
    · exact absurd h hl
    · have hn : ¬ F b := ha hl b (by rw [h1, e]; rfl)
      exact .inr ⟨b, off, e, Nat.lt_of_lt_of_le hb k.size, fun j hj i hi => (World.cell?_of_block (k.block b hb hn)).trans (hc j hj i hi)⟩
/-- A row of one's own is apart by its type. -/
theorem own_apt {α : Type} {s : rw.Sh α} {w : World} {F : Nat → Prop} {p : Nat} {d : dk.Dk} (hp : PD w F p d) (ht : Away s.t) {B : Nat} {v : Value} {l : List α} (h : Own s w B v l) : rw.Apt F v l := fun hl q hq => by
  rcases h.2 with ⟨rfl, h0⟩ | ⟨g, cap, cur, rfl, hg, hh, _⟩
  · cases hq
  · cases hq
    exact away_of hp ht hh
/-- What the loading leaves. -/
def LoadOut (w : World) (F : Nat → Prop) (p : Nat) (r : Nat × Option St × dk.Dk) (e : Ending) (w' : World) : Prop :=
  ∃ cv ev, e = .returned (.tuple #[.agg (stC (r.2.1.getD zero) cv ev), .int .i64 (r.1 : Nat)]) ∧ Step w F p r.2.2 w' ∧ Own noSh w' w.heap.size cv (ints (r.2.1.getD zero).conf) ∧ Own enSh w' w.heap.size ev (ens (r.2.1.getD zero).l)
end Go.Proofs.YteeeakbgofjinaaGreat.jr
/-! SealClone -/
namespace Go.Proofs.YteeeakbgofjinaaGreat.sl
open Go.RowKit

set_option maxRecDepth 100000 in
theorem clone_any (s : ByteArray) (w : World) (hlim : s.size ≤ 281474976710656) :
    Calls Tryz.prog 60 #[.string s] w fun e w' => e = .returned (.string s) ∧ Below w.heap.size w w' := by
  go_enter Tryz.func60, Tryz.ntmps60
  go_wp2_with fail
  refine (Tryz.stringslite_Clone s w hlim).mono ?_
  rintro e w1 ⟨rfl, hb⟩
  go_wp2
  go_ret
  exact ⟨rfl, hb⟩
end Go.Proofs.YteeeakbgofjinaaGreat.sl
