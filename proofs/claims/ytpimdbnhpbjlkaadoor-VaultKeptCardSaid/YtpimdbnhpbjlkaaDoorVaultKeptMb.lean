/-
  What the law's walk stands on, part 2 of 3: the texts DkP5, DkP6, DkP7, DkP8, DkP9, DkPA, DkPB, DkPC, DkPD, DkL1, DkInv, DigPad, DigHex, DigBytes, DigHash, DigWrite, DigDone, DigUnhex, DigUn, DigHexP, DigUnP, VtSpec, one behind the other.
-/
import Derived.Deep.RegionWith
import Derived.Deep.RegionLaw
import Derived.Deep.CutRange
import Derived.Laws.EntriesVeiled
import Derived.Lib.LazyBuf
import Derived.Sort.OwnSorted
import Derived.Laws.BytesArg
import Derived.BigRegion
import Derived.Deep.QuietTactic
import Derived.BigQuiet
import Derived.Lib.VarintMem
import Derived.Lib.Varint
import Derived.Lib.BufferWrite
import Derived.Deep.RegionHeld3
import Derived.Deep.AppendLies
import Derived.Test.YtpimdbnhpbjlkaaDoorVaultKeptMa
/-! DkP5 -/
namespace Go.Proofs.YtpimdbnhpbjlkaaDoor.dk
set_option linter.unusedVariables false
open Go.RowKit
open fl (S S_size S_append S_inj str_eq str_ne)
open rw (Arr But Row Own bnext below_box below_drew below_drewN addr_add Fr RowB)
open mp (Mp Turned kget kput kwithout kmap KSorted)

/-- 'append(v, x)': where the new row lies, too. -/
theorem append_at {α : Type} (s : rw.Sh α) (B : Nat) (v : Value) (o : List α) (x : α) (ad : Addr) (c : Nat) (hlen : o.length < 34359738368) (w : World) (ho : Own s w B v o) (hB : B ≤ w.heap.size) (hu : rw.Sl s w (.slice (some ad) 1 c) [x]) :
    ∃ v' w', rw.App s v (.slice (some ad) 1 c) w v' w' ∧ Own s w' B v' (o ++ [x]) ∧ w.grownBy w' v.ownBlock ∧ (v'.ownBlock = v.ownBlock ∨ v'.ownBlock = some w.heap.size) := by
  obtain ⟨v', w', h1, h2, _, h4⟩ := rw.append_own s B v o [x] _ (by simp; omega) w ho hB hu
  obtain ⟨i0, hi, hz0, hz1, hz2⟩ := info_parts s.hi
  obtain ⟨a, c', e, hc, hr, hn⟩ := hu
  cases e
  rcases hr with hr | ⟨b, off, hab, hbw, hcell⟩
  · cases hr
  · obtain rfl : ad = ⟨b, off, none⟩ := Option.some.inj hab
    have hnews : ∀ j y, (rw.cellsG s [x])[j]? = some y → w.cell? ((⟨b, off, none⟩ : Addr).add j) = some y := by
      intro j y hj
      have hjl : j < s.k := by
        rcases Nat.lt_or_ge j s.k with h | h
        · exact h
        · rw [List.getElem?_eq_none (by rw [rw.cellsG_length]; simpa using h)] at hj; cases hj
      have h2 := hcell 0 (by simp) j hjl
      rw [Nat.zero_mul, Nat.add_zero] at h2
      rw [addr_add, h2, ← hj, rw.cellsG_one]
      rfl
    have hby : (o.length + 1) * s.bytes ≤ 140737488355328 := Nat.le_trans (Nat.mul_le_mul (show o.length + 1 ≤ 34359738368 by omega) s.hb) (by decide)
    obtain ⟨v2, w2, g1, _, _, _, g5⟩ := run_append_own_at (P := Tryd.prog) (w := w) B s.st s.st s.t i0 s.z s.k s.bytes s.hu hi hz0 hz1 hz2 s.hz s.hk v o.length (rw.cellsG s o) ho ⟨b, off, none⟩ 1 c
      (rw.cellsG s [x]) (rw.cellsG_length s [x]) hnews (rw.cellsG_cell s) (by unfold maxLen; omega) hby hB
    have h1' := h1
    unfold rw.App at h1'
    rw [g1] at h1'
    injection h1' with e1 e2
    subst e1 e2
    exact ⟨_, _, h1, h2, h4, g5⟩
theorem step_push {α : Type} (s : rw.Sh α) {ops : Array Oper} {o : Oper} {a : Act} {w : World} {K : Act → World → Prop} {Q : Exit → Act → World → Prop} {E : Prop} (hgd : o.guard = none) (x y : Operand)
    (ho : o.op = .call { callee := .builtin .append, args := #[x, y], argTypes := #[s.st, s.st] }) (hty : o.type = s.st) (B : Nat) (v : Value) (ad : Addr) (c : Nat) (m : List α) (z : α) (hx : a.eval x = v) (hy : a.eval y = .slice (some ad) 1 c)
    (hlen : m.length < 34359738368) (hown : Own s w B v m) (hB : B ≤ w.heap.size) (hu : rw.Sl s w (.slice (some ad) 1 c) [z])
    (h : ∀ ad cp w', Own s w' B (.slice ad (m.length + 1) cp) (m ++ [z]) → w.grownBy w' v.ownBlock → ((Value.slice ad (m.length + 1) cp).ownBlock = v.ownBlock ∨ (Value.slice ad (m.length + 1) cp).ownBlock = some w.heap.size) → K (a.put o.dst (.slice ad (m.length + 1) cp)) w') :
    if Region.wanted o (yielded ops a.tmps) = true then Oper.wp Tryd.prog o a w K Q else E := by
  have hw : Region.wanted o (yielded ops a.tmps) = true := by simp [Region.wanted, hgd]
  rw [if_pos hw]
  obtain ⟨v', w', hr, h2, h3, h4⟩ := append_at s B v m z ad c hlen w hown hB hu
  unfold rw.App at hr
  unfold Oper.wp execOp
  simp only [ho, hty, resolve, invoke, builtin, Sem.run_bind, Sem.run_pure, Result.andThen_ok, List.map_toArray, List.map_cons, List.map_nil, hx, hy, hr]
  obtain ⟨ad', cp, rfl⟩ := h2.form
  rw [List.length_append] at h2 h4 ⊢
  exact h ad' cp w' (by simpa using h2) h3 h4

/-- What a closure does, by its kind. -/
theorem does_runs (F : Nat → Prop) (b : Nat) (l : List File) (v : Value) (c : Call) (n : Nat) (hc : Good c) (hn1 : 1 ≤ n) (hn2 : n ≤ steps c) (hl : l.length ≤ 1000000) (hz : ((get l c.name).getD []).length + c.s.length ≤ 140737488355328) (w : World) (h : FM w F b l) (hd : Does w v c) :
    (∃ a1 a2 : Nat, False ∧ Hid True) ∨
    (∃ a1 a2, v = .func (.func 42) #[] #[.pointer (some ⟨a1, 0, none⟩), .pointer (some ⟨a2, 0, none⟩)] ∧
      Hid (∀ W, Below w.heap.size w W → Calls Tryd.prog 42 #[.map (some b), .int .i64 (n : Nat), .pointer (some ⟨a1, 0, none⟩), .pointer (some ⟨a2, 0, none⟩)] W fun e w' => e = .returned (.tuple #[]) ∧ Made W F b (done l c n) w')) ∨
    (∃ a1, v = .func (.func 54) #[] #[.pointer (some ⟨a1, 0, none⟩)] ∧
      Hid (∀ W, Below w.heap.size w W → Calls Tryd.prog 54 #[.map (some b), .int .i64 (n : Nat), .pointer (some ⟨a1, 0, none⟩)] W fun e w' => e = .returned (.tuple #[]) ∧ Made W F b (done l c n) w')) := by
  rcases hd with ⟨h1, a1, a2, h2, h3, h4⟩ | ⟨h1, a1, a2, h2, h3, h4⟩ | ⟨h1, a1, h2, h3⟩
  · exact h2.elim
  · exact .inr (.inl ⟨a1, a2, h2, fun W k => put1_any F b l c a1 a2 n h1 hc hn1 hl (by omega) W (h.below k) (h3.of (k.block _ h3.lt)) (h4.of (k.block _ h4.lt))⟩)
  · exact .inr (.inr ⟨a1, h2, fun W k => drop1_any F b l c a1 n h1 hc hn1 W (h.below k) (h3.of (k.block _ h3.lt))⟩)
theorem fo_s {p : Nat} {Fs Fl : Nat → Prop} {pv : Value} {k : Nat} (h : Fs k) : fo p Fs Fl pv k := .inr (.inl h)
theorem count_snoc (l : List Call) (c : Call) : count (l ++ [c]) = count l + steps c := by simp [count]

theorem used_done {l : List File} (h : Sorted l) (c : Call) {n : Nat} (hn : 1 ≤ n) : used (done l c n) + ((get l c.name).getD []).length = used l + ((get (done l c n) c.name).getD []).length := by
  unfold done
  rw [if_neg (by omega)]
  split
  · have := used_put h (c.name, (get l c.name).getD [] ++ c.s.take n)
    rw [get_put_same h]
    exact this
  · split
    · have := used_put h (c.name, c.s)
      rw [get_put_same h]
      exact this
    · have := used_without h c.name
      rw [get_without_same]
      simp only [Option.getD_none, List.length_nil]
      omega
/-- What is there behind the closure. -/
structure Mid (w w2 : World) (F : Nat → Prop) (p : Nat) (d : Dk) (L : List File) (B : Nat) (x : TC) (cs : Array Value) (bs bl : Nat) (Fs Fl : Nat → Prop) (pv : Value) (ts : List TC) : Prop where
  pc : Pc w2 p cs bs bl Fs Fl L d.lasts pv ts
  box : Arr w2 B 74 #[.int .i64 (steps x.2 : Nat), fnv x]
  does : Does w2 (fnv x) x.2
  fr : Fr F w w2
  nu : Nu w F (fo p Fs Fl pv)
theorem Mid.below {w w2 w3 : World} {F : Nat → Prop} {p : Nat} {d : Dk} {L : List File} {B : Nat} {x : TC} {cs : Array Value} {bs bl : Nat} {Fs Fl : Nat → Prop} {pv : Value} {ts : List TC}
    (h : Mid w w2 F p d L B x cs bs bl Fs Fl pv ts) (k : Below w2.heap.size w2 w3) : Mid w w3 F p d L B x cs bs bl Fs Fl pv ts :=
  ⟨h.pc.below k, h.box.below k, h.does.below k, h.fr.then_below k, h.nu⟩
theorem Mid.set {w w2 : World} {F : Nat → Prop} {p : Nat} {d : Dk} {L : List File} {B : Nat} {x : TC} {cs : Array Value} {bs bl : Nat} {Fs Fl : Nat → Prop} {pv : Value} {ts : List TC}
    (h : Mid w w2 F p d L B x cs bs bl Fs Fl pv ts) (hB : B ≠ p) (hp : F p) (j : Nat) (u : Value) : Mid w (w2.setCell ⟨p, j, none⟩ u) F p d L B x (cs.setIfInBounds j u) bs bl Fs Fl pv ts := by
  have k := (But.refl p w2).set j u
  have kf : Fr (fun i => i = p) w2 (w2.setCell ⟨p, j, none⟩ u) := Fr.but k rfl
  exact ⟨h.pc.set j u, k.arr h.box hB, h.does.fr kf (fun i hi s hs => h.pc.nobox i (.inl hi) s hs), h.fr.trans kf fun i _ e => e ▸ hp, h.nu⟩

theorem Step.after {w W w' : World} {F F1 : Nat → Prop} {p : Nat} {d : Dk} (hF : Fr F w W) (hN : Nu w F F1) (h : Step W F1 p d w') : Step w F p d w' := by
  obtain ⟨F', h1, h2, h3⟩ := h
  refine ⟨F', h1, hF.trans h2 fun i hi hk => ?_, hN.trans h3 hF.size⟩
  rcases hN i hk with h | h
  · exact h
  · omega
set_option maxHeartbeats 4000000 in
set_option maxRecDepth 100000 in
theorem do_any (F : Nat → Prop) (p : Nat) (d : Dk) (x : TC) (hc : Good x.2) (ho : off d = false) (hcap : d.cap ≤ 1048576) (hl : d.seen.length ≤ 100000) (hp : d.pend.length ≤ 100000) (hu0 : used d.seen ≤ 1048576) (hu : used (done d.seen x.2 (steps x.2)) ≤ 1048576)
    (hso : Sorted d.seen) (hsl : x.2.s.length ≤ 1048576) (hcnt : count d.pend + steps x.2 ≤ 1099511627776) (w : World) (h : PD w F p d) (hx : Does w (fnv x) x.2) :
    Calls Tryd.prog 41 #[.pointer (some ⟨p, 0, none⟩), .string (S x.2.name), .agg #[.int .i64 (steps x.2 : Nat), fnv x]] w fun e w' => e = .returned (.tuple #[]) ∧
      Step w F p (spend { d with seen := done d.seen x.2 (steps x.2), pend := d.pend ++ [x.2] }) w' := by
  obtain ⟨N, hN⟩ : ∃ N, steps x.2 = N := ⟨_, rfl⟩
  obtain ⟨L, hL⟩ : ∃ L, done d.seen x.2 N = L := ⟨_, rfl⟩
  have hs1 := steps_pos hc
  have hgrow := used_done hso x.2 hs1
  have hsteps : steps x.2 ≤ 1048576 := by unfold steps; split <;> omega
  have hn2 : N ≤ steps x.2 := Nat.le_of_eq hN.symm
  rw [hN] at hu hcnt hs1 hgrow hsteps ⊢
  rw [hL] at hu hgrow ⊢
  obtain ⟨bs, bl, Fs, Fl, pv, ts, fz, h1, h2, hf, hF⟩ := h
  have hnm : x.2.name.length ≤ maxLen := by have := hc.1.2; unfold maxLen; omega
  have hgl : ∀ l : List File, used l ≤ 1048576 → ((get l x.2.name).getD []).length ≤ 1048576 := fun l hl => bytes_get (bytes_of_used hl) _
  have g0 := hgl _ hu0
  have g1 := hgl _ hu
  have hltp := h1.a.lt
  -- behind the box of t
  obtain ⟨g, caps, hV⟩ : ∃ g caps, fnv x = .func (.func g) #[] caps := ⟨_, _, rfl⟩
  rw [hV] at hx ⊢
  obtain ⟨W0, hW0⟩ : ∃ W0, w.alloc (.cells #[.int .i64 (N : Nat), .func (.func g) #[] caps] 74) = W0 := ⟨_, rfl⟩
  have b0 : Below w.heap.size w W0 := hW0 ▸ below_box w _
  have A0 : Arr W0 w.heap.size 74 #[.int .i64 (N : Nat), .func (.func g) #[] caps] := hW0 ▸ Arr.new _ _ _
  have z0 : W0.heap.size = w.heap.size + 1 := hW0 ▸ rw.size_1 _ _
  have P0 := h1.below b0
  have X0 := hx.below b0
  have hR := does_runs Fs bs d.seen (.func (.func g) #[] caps) x.2 N hc hs1 hn2 (by omega) (by omega) _ P0.s X0
  rw [hL] at hR
  have hS0 := size_any Fs bs d.seen x.2.name hnm _ P0.s
  -- behind the closure
  have HM2 : Hid (∀ w2, Made W0.drew Fs bs L w2 →
      (w2.cell? ⟨w.heap.size, 0, none⟩ = some (.int .i64 (N : Nat)) ∧ w2.cell? ⟨w.heap.size, 1, none⟩ = some (.func (.func g) #[] caps) ∧ w2.cell? ⟨p, 1, none⟩ = some (.map (some bs))) ∧
      ∃ Fs', Mid w w2 F p d L w.heap.size x (dkCells d bs bl pv fz) bs bl Fs' Fl pv ts) := by
    rintro w2 ⟨Fs', x1, x2, x3⟩
    have r : Below W0.heap.size W0 W0.drew := below_drew (Below.refl _ _)
    have P1 := (P0.below r).turn x1 x2 x3
    have hBF : ¬ Fs w.heap.size := fun hk => by have := h1.lt (fo_s (p := p) (Fl := Fl) (pv := pv) hk); omega
    have A2 := x2.arr (A0.below r) hBF
    have hnb : NoBox W0.drew Fs := fun k hk s hs => (P0.below r).nobox k (.inr (.inl hk)) s hs
    have D2 := (X0.below r).fr x2 hnb
    have hsz : W0.drew.heap.size = w.heap.size + 1 := z0
    refine ⟨⟨A2.cell rfl, A2.cell rfl, P1.cell rfl⟩, Fs', P1, by rw [hN, hV]; exact A2, by rw [hV]; exact D2, (Fr.of_below (F := F) (b0.trans (r.mono b0.size))).trans x2 (fun i _ hi => (hF i).2 (fo_s hi)), fun k hk => ?_⟩
    rcases hk with hk | hk | hk | hk
    · exact .inl ((hF k).2 (.inl hk))
    · rcases x3 k hk with h3 | h3
      · exact .inl ((hF k).2 (fo_s h3))
      · exact .inr (by omega)
    · exact .inl ((hF k).2 (.inr (.inr (.inl hk))))
    · exact .inl ((hF k).2 (.inr (.inr (.inr hk))))
  have HB0 : Hid (∀ W, Below W0.heap.size W0 W → W.cell? ⟨w.heap.size, 0, none⟩ = some (.int .i64 (N : Nat)) ∧ W.cell? ⟨w.heap.size, 1, none⟩ = some (.func (.func g) #[] caps) ∧ W.cell? ⟨p, 1, none⟩ = some (.map (some bs))) :=
    fun W k => ⟨(A0.below k).cell rfl, (A0.below k).cell rfl, (P0.below k).cell rfl⟩
  have cs0 : W0.cell? ⟨p, 1, none⟩ = some (.map (some bs)) := P0.cell rfl
  -- the numbers
  obtain ⟨z, hz⟩ : ∃ z : Int, (((get L x.2.name).getD []).length : Int) - (((get d.seen x.2.name).getD []).length : Int) = z := ⟨_, rfl⟩
  have hz1 : IntKind.i64.wrap ((((get L x.2.name).getD []).length : Int) - (((get d.seen x.2.name).getD []).length : Int)) = z := by rw [hz]; exact IntWalk.i64_in _ (by omega)
  have hz2 : IntKind.i64.wrap ((used d.seen : Int) + z) = (used L : Int) := by
    have : (used d.seen : Int) + z = (used L : Int) := by omega
    rw [this]; exact IntWalk.i64_in _ (by omega)
  have hz3 : IntKind.i64.wrap ((count d.pend : Int) + (N : Int)) = ((count d.pend + N : Nat) : Int) := by rw [Int.natCast_add]; exact IntWalk.i64_in _ (by omega)
  have HS2 : Hid (∀ Fs' w2, FM w2 Fs' bs L → Calls Tryd.prog 39 #[.map (some bs), .string (S x.2.name)] w2 fun e w' => e = .returned (.int .i64 (((get L x.2.name).getD []).length : Nat)) ∧ w' = w2) := fun Fs' w2 h => size_any Fs' bs L x.2.name hnm w2 h
  have HX : Hid (ts.map (·.2) = d.pend ∧ FuseOk d fz ∧ off d = false ∧ steps x.2 = N ∧ F p ∧ w.heap.size ≠ p ∧ d.pend.length ≤ 100000 ∧ ∀ q, pv.ownBlock = some q → q < w.heap.size ∧ F q) := ⟨h2, hf, ho, hN, (hF p).2 (.inl rfl), by omega, hp, fun q hq => ⟨h1.lt (.inr (.inr (.inr hq))), (hF q).2 (.inr (.inr (.inr hq)))⟩⟩
  have HV := Lib.hid hV
  clear h1 hF hf h2 hgl g0 g1 hs1 hgrow A0 P0 b0 hnm ho hcap hl hu0 hu hso hsl hcnt hc hz hsteps hltp hp hL hN hV hn2 hx X0 z0
  generalize ((get L x.2.name).getD []).length = n1 at *
  generalize ((get d.seen x.2.name).getD []).length = n0 at *
  obtain ⟨cp, hcp⟩ : ∃ cp, count d.pend = cp := ⟨_, rfl⟩
  rw [hcp] at hz3
  have HCP := Lib.hid hcp
  clear hcp
  obtain ⟨u0, hu0⟩ : ∃ u, used d.seen = u := ⟨_, rfl⟩
  rw [hu0] at hz2
  have HU0 := Lib.hid hu0
  clear hu0
  go_enter Tryd.func41, Tryd.ntmps41
  go_upto_region 1 with (fail)
  clear hW0
  go_wp2_with fail
  refine hS0.mono ?_
  rintro e w1 ⟨rfl, rfl⟩
  clear hS0 cs0
  go_upto_region 2 with (fail)
  go_cut [] from 13 to 21 (fun wx => ∃ Fs2, Hid (Mid w wx F p d L w.heap.size x (dkCells d bs bl pv fz) bs bl Fs2 Fl pv ts))
  case first =>
    clear HS2 HX HCP HU0 hz1 hz2 hz3
    rcases hR with ⟨a1, a2, hv, hR⟩ | ⟨a1, a2, hv, hR⟩ | ⟨a1, hv, hR⟩
    · exact hv.elim
    · injection hv with e1 _ e2
      injection e1 with e1
      subst e1 e2
      have hrun := hR.out w1.drew (below_drew (Below.refl _ _))
      have k0 : w1.drew.cell? ⟨w.heap.size, 0, none⟩ = some (.int .i64 (N : Nat)) := (HB0.out w1.drew (below_drew (Below.refl _ _))).1
      have k1 : w1.drew.cell? ⟨w.heap.size, 1, none⟩ = some (.func (.func 42) #[] #[.pointer (some ⟨a1, 0, none⟩), .pointer (some ⟨a2, 0, none⟩)]) := (HB0.out w1.drew (below_drew (Below.refl _ _))).2.1
      have k2 : w1.drew.cell? ⟨p, 1, none⟩ = some (.map (some bs)) := (HB0.out w1.drew (below_drew (Below.refl _ _))).2.2
      go_region_held3 (fun W => W.cell? ⟨w.heap.size, 0, none⟩ = some (.int .i64 (N : Nat)) ∧ W.cell? ⟨w.heap.size, 1, none⟩ = some (.func (.func 42) #[] #[.pointer (some ⟨a1, 0, none⟩), .pointer (some ⟨a2, 0, none⟩)]) ∧ W.cell? ⟨p, 1, none⟩ = some (.map (some bs)))
        (first | (with_reducible exact ⟨k0, k1, k2⟩) | (with_reducible exact hcl) | go_keep)
        ((go_at_call 42; refine hrun.mono ?_; rintro e w2 ⟨rfl, hM⟩; have hcl := (HM2.out w2 hM).1))
      have hr := (HM2.out w2 hM).2
      clear hrun k0 k1 k2 hR hM HM2 HB0 hcl
      go_wp2_with fail
      go_meet
      case rel => exact hr
    · injection hv with e1 _ e2
      injection e1 with e1
      subst e1 e2
      have hrun := hR.out w1.drew (below_drew (Below.refl _ _))
      have k0 : w1.drew.cell? ⟨w.heap.size, 0, none⟩ = some (.int .i64 (N : Nat)) := (HB0.out w1.drew (below_drew (Below.refl _ _))).1
      have k1 : w1.drew.cell? ⟨w.heap.size, 1, none⟩ = some (.func (.func 54) #[] #[.pointer (some ⟨a1, 0, none⟩)]) := (HB0.out w1.drew (below_drew (Below.refl _ _))).2.1
      have k2 : w1.drew.cell? ⟨p, 1, none⟩ = some (.map (some bs)) := (HB0.out w1.drew (below_drew (Below.refl _ _))).2.2
      go_region_held3 (fun W => W.cell? ⟨w.heap.size, 0, none⟩ = some (.int .i64 (N : Nat)) ∧ W.cell? ⟨w.heap.size, 1, none⟩ = some (.func (.func 54) #[] #[.pointer (some ⟨a1, 0, none⟩)]) ∧ W.cell? ⟨p, 1, none⟩ = some (.map (some bs)))
        (first | (with_reducible exact ⟨k0, k1, k2⟩) | (with_reducible exact hcl) | go_keep)
        ((go_at_call 54; refine hrun.mono ?_; rintro e w2 ⟨rfl, hM⟩; have hcl := (HM2.out w2 hM).1))
      have hr := (HM2.out w2 hM).2
      clear hrun k0 k1 k2 hR hM HM2 HB0 hcl
      go_wp2_with fail
      go_meet
      case rel => exact hr
  case rest =>
    obtain ⟨Fs2, M2⟩ := hcut
    clear hR HB0 HM2
    go_upto_region 3 with (fail)
    go_cut [] from 22 to 36 (fun wx => Hid (Mid w wx F p d L w.heap.size x ((dkCells d bs bl pv fz).setIfInBounds 2 (.int .i64 (used L : Nat))) bs bl Fs2 Fl pv ts))
    case first =>
      have hS3 := HS2.out Fs2 wc.drew (M2.out.pc.s.below (below_drew (Below.refl _ _)))
      have M3 := M2.out.below (below_drew (Below.refl _ _))
      have k1 : wc.drew.cell? ⟨p, 1, none⟩ = some (.map (some bs)) := M3.pc.cell rfl
      have k2 : wc.drew.cell? ⟨p, 2, none⟩ = some (.int .i64 (u0 : Nat)) := by rw [← HU0.out]; exact M3.pc.cell rfl
      have k3 := M3.pc.a.frozen 2
      have HM3 : Hid (Mid w (wc.drew.setCell ⟨p, 2, none⟩ (.int .i64 (used L : Nat))) F p d L w.heap.size x ((dkCells d bs bl pv fz).setIfInBounds 2 (.int .i64 (used L : Nat))) bs bl Fs2 Fl pv ts) := M3.set HX.out.2.2.2.2.2.1 HX.out.2.2.2.2.1 2 _
      clear M3 M2 HS2 HX HV hz3 HCP HU0
      generalize used L = u1 at *
      go_region_with ((go_at_call 39; refine hS3.mono ?_; rintro e w4 ⟨rfl, rfl⟩))
      all_goals (
        go_wp2_with fail
        go_meet
        case rel => exact HM3)
    case rest =>
      have M4 := hcut
      clear hcut M2 HS2 hz1 hz2 HU0
      go_upto_region 4 with (fail)
      go_cut [] from 37 to 46 (fun wx => ∃ a7 c7, Hid (Mid w wx F p d L w.heap.size x (((dkCells d bs bl pv fz).setIfInBounds 2 (.int .i64 (used L : Nat))).setIfInBounds 4 (.slice a7 (ts.length + 1) c7)) bs bl Fs2 Fl (.slice a7 (ts.length + 1) c7) (ts ++ [x])))
      case first =>
        obtain ⟨pa, pc, rfl⟩ := M4.out.pc.o.form
        have hlenT : ts.length < 34359738368 := by
          have h1 := congrArg List.length HX.out.1
          rw [List.length_map] at h1
          have := HX.out.2.2.2.2.2.2.1
          omega
        have bL : Below wc.heap.size wc (wc.alloc (.cells #[.int .i64 (N : Nat), .func (.func g) #[] caps] 74)).drew := below_drew (below_box wc _)
        have M5 := M4.out.below bL
        have hszL : (wc.alloc (.cells #[.int .i64 (N : Nat), .func (.func g) #[] caps] 74)).drew.heap.size = wc.heap.size + 1 := rw.size_1 _ _
        have hlit : Hid (rw.Sl turnSh (wc.alloc (.cells #[.int .i64 (N : Nat), .func (.func g) #[] caps] 74)).drew (.slice (some ⟨wc.heap.size, 0, none⟩) 1 1) [x]) := by
          have h1 := (rw.Own.lit turnSh wc [x] (by simp) (by simp)).sl
          have e : (rw.cellsG turnSh [x]).toArray = #[.int .i64 (N : Nat), .func (.func g) #[] caps] := by
            rw [rw.cellsG_one]
            show #[.int .i64 (steps x.2 : Nat), fnv x] = _
            rw [HX.out.2.2.2.1, HV.out]
          rw [e] at h1
          exact h1.later _ (below_drew (Below.refl _ _))
        have HP : Hid (∀ a7 c7 w7, OwnT w7 (.slice a7 (ts.length + 1) c7) (ts ++ [x]) → (wc.alloc (.cells #[.int .i64 (N : Nat), .func (.func g) #[] caps] 74)).drew.grownBy w7 (Value.ownBlock (.slice pa ts.length pc)) →
            ((Value.slice a7 (ts.length + 1) c7).ownBlock = Value.ownBlock (.slice pa ts.length pc) ∨ (Value.slice a7 (ts.length + 1) c7).ownBlock = some (wc.alloc (.cells #[.int .i64 (N : Nat), .func (.func g) #[] caps] 74)).drew.heap.size) →
            w7.cell? ⟨p, 4, none⟩ = some (.slice pa ts.length pc) ∧ w7.frozen? ⟨p, 4, none⟩ = false ∧
            Mid w (w7.setCell ⟨p, 4, none⟩ (.slice a7 (ts.length + 1) c7)) F p d L w.heap.size x (((dkCells d bs bl (.slice pa ts.length pc) fz).setIfInBounds 2 (.int .i64 (used L : Nat))).setIfInBounds 4 (.slice a7 (ts.length + 1) c7)) bs bl Fs2 Fl (.slice a7 (ts.length + 1) c7) (ts ++ [x])) := by
          intro a7 c7 w7 O7 g7 l7
          have hq := HX.out.2.2.2.2.2.2.2
          have P7 := M5.pc.push O7 g7 M5.does
          have kf : Fr (fun i => Value.ownBlock (.slice pa ts.length pc) = some i) (wc.alloc (.cells #[.int .i64 (N : Nat), .func (.func g) #[] caps] 74)).drew w7 := Fr.grown g7 fun q hq => hq
          have M7 : Mid w w7 F p d L w.heap.size x ((dkCells d bs bl (.slice pa ts.length pc) fz).setIfInBounds 2 (.int .i64 (used L : Nat))) bs bl Fs2 Fl (.slice a7 (ts.length + 1) c7) (ts ++ [x]) := by
            refine ⟨P7, kf.arr M5.box fun e => ?_, M5.does.fr kf fun i hi s hs => M5.pc.nobox i (.inr (.inr (.inr hi))) s hs, M5.fr.trans kf fun i _ e => (hq i e).2, fun k hk => ?_⟩
            · have := (hq _ e).1; omega
            · rcases hk with hk | hk | hk | hk
              · exact M5.nu k (.inl hk)
              · exact M5.nu k (.inr (.inl hk))
              · exact M5.nu k (.inr (.inr (.inl hk)))
              · rcases l7 with e | e
                · rw [e] at hk; exact .inl (hq k hk).2
                · rw [e, hszL] at hk
                  have := M4.out.fr.size
                  cases hk
                  exact .inr (by omega)
          exact ⟨P7.cell rfl, P7.a.frozen 4, M7.set HX.out.2.2.2.2.2.1 HX.out.2.2.2.2.1 4 _⟩
        have o1 : Hid (OwnT (wc.alloc (.cells #[.int .i64 (N : Nat), .func (.func g) #[] caps] 74)).drew (.slice pa ts.length pc) ts) := M5.pc.o
        have M6 := M4.out.below (below_drew (Below.refl _ _))
        have hNN := HX.out.2.2.2.1
        have hVV := HV.out
        have k1 : wc.drew.cell? ⟨p, 4, none⟩ = some (.slice pa ts.length pc) := M6.pc.cell rfl
        have k2 : (wc.alloc (.cells #[.int .i64 (N : Nat), .func (.func g) #[] caps] 74)).drew.cell? ⟨p, 4, none⟩ = some (.slice pa ts.length pc) := M5.pc.cell rfl
        have k3 : wc.drew.cell? ⟨w.heap.size, 0, none⟩ = some (.int .i64 (N : Nat)) := by rw [← hNN]; exact M6.box.cell rfl
        have k4 : wc.drew.cell? ⟨w.heap.size, 1, none⟩ = some (.func (.func g) #[] caps) := by rw [← hVV]; exact M6.box.cell rfl
        clear M5 M6 M4 HX HV HCP hz3 hszL bL hNN hVV
        generalize used L = u1 at *
        go_region_law
          ((refine step_push turnSh rfl _ _ rfl rfl 0 (.slice pa ts.length pc) ⟨wc.heap.size, 0, none⟩ 1 ts x rfl rfl hlenT (by first | exact o1.out) (Nat.zero_le _) (by first | exact hlit.out) ?_
            intro a7 c7 w7 O7 g7 l7
            have z1 := (HP.out _ _ _ O7 g7 l7).1
            have z2 := (HP.out _ _ _ O7 g7 l7).2.1))
        all_goals (
          have HM5 := (HP.out _ _ _ O7 g7 l7).2.2
          clear z1 z2 O7 g7 l7 HP hlit o1
          go_wp2_with fail
          go_meet
          case rel => exact ⟨_, _, HM5⟩)
      case rest =>
        obtain ⟨a7, c7, M6⟩ := hcut
        clear M4
        have M7 := M6.out.below (below_drew (Below.refl _ _))
        have k1 : wc.drew.cell? ⟨p, 5, none⟩ = some (.int .i64 (cp : Nat)) := by rw [← HCP.out]; exact M7.pc.cell rfl
        have k2 : wc.drew.cell? ⟨w.heap.size, 0, none⟩ = some (.int .i64 (N : Nat)) := by
          have := M7.box.cell (j := 0) rfl
          rwa [HX.out.2.2.2.1] at this
        have k3 := M7.pc.a.frozen 5
        have M8 := M7.set HX.out.2.2.2.2.2.1 HX.out.2.2.2.2.1 5 (.int .i64 ((cp + N : Nat) : Int))
        have hpd : PD (wc.drew.setCell ⟨p, 5, none⟩ (.int .i64 ((cp + N : Nat) : Int))) (fo p Fs2 Fl (.slice a7 (ts.length + 1) c7)) p { d with seen := L, pend := d.pend ++ [x.2] } := by
          refine PD.of_pc (fz := fz) (ts := ts ++ [x]) (bs := bs) (bl := bl) M8.pc ?_ (by rw [List.map_append, HX.out.1]; rfl) HX.out.2.1
          show _ = #[_, _, _, _, _, _, _]
          rw [count_snoc, HX.out.2.2.2.1, HCP.out]
          rfl
        have hB := burn_any _ p { d with seen := L, pend := d.pend ++ [x.2] } HX.out.2.2.1 _ hpd
        have HF : Hid (Fr F w (wc.drew.setCell ⟨p, 5, none⟩ (.int .i64 ((cp + N : Nat) : Int))) ∧ Nu w F (fo p Fs2 Fl (.slice a7 (ts.length + 1) c7))) := ⟨M8.fr, M8.nu⟩
        clear M6 M7 M8 HX HV HCP hpd
        go_upto_region 5 with (fail)
        go_region
        go_wp2_with fail
        refine hB.mono ?_
        rintro e w9 ⟨rfl, s9⟩
        have S9 := Lib.hid (Step.after HF.out.1 HF.out.2 s9)
        clear hB s9 HF
        go_wp2_with fail
        exact bodyPost_end (results_none rfl _ _ _) rfl ⟨rfl, S9.out⟩
end Go.Proofs.YtpimdbnhpbjlkaaDoor.dk
/-! DkP6 -/
namespace Go.Proofs.YtpimdbnhpbjlkaaDoor.dk
set_option linter.unusedVariables false
open Go.RowKit
open fl (S S_size S_append S_inj str_eq str_ne)
open rw (Arr But Row Own bnext below_box below_drew below_drewN addr_add Fr RowB)
open mp (Mp Turned kget kput kwithout kmap KSorted)

/-- How large a disk may be, for the program's calls. -/
structure Room (d : Dk) : Prop where
  r : Right d
  n : d.seen.length ≤ 100000
  p : d.pend.length ≤ 100000
theorem pend_steps {d : Dk} (h : Right d) : ∀ c ∈ d.pend, steps c ≤ 1048576 := by
  intro c hc
  obtain ⟨j, hj, e⟩ := List.getElem_of_mem hc
  have h1 := h.room (j + 1)
  have hsj : Sorted (full d.lasts (d.pend.take j)) := full_sorted h.so _
  rw [List.take_succ_eq_append_getElem hj, full_snoc, e] at h1
  have hcap := h.cap
  unfold steps
  split
  · next hk =>
    have h2 := bytes_get (bytes_of_used h1) c.name
    have hs : steps c = c.s.length := by unfold steps; rw [if_pos hk]
    have hp := steps_pos (h.np c hc)
    unfold done at h2
    rw [if_neg (by omega), if_pos hk, get_put_same hsj, hs, List.take_length] at h2
    simp only [Option.getD_some, List.length_append] at h2
    omega
  · omega
theorem count_bound {d : Dk} (h : Right d) : count d.pend ≤ d.pend.length * 1048576 := by
  have : ∀ l : List Call, (∀ c ∈ l, steps c ≤ 1048576) → count l ≤ l.length * 1048576 := by
    intro l
    induction l with
    | nil => intro _; simp [count]
    | cons c r ih =>
      intro h
      have h1 := ih fun x hx => h x (List.mem_cons_of_mem _ hx)
      have h2 := h c List.mem_cons_self
      have e : count (c :: r) = steps c + count r := by simp [count]
      rw [e, List.length_cons, Nat.add_mul]
      omega
  exact this _ (pend_steps h)
theorem turn_ref (d : Dk) (c : Call) (h : refused d c.name ≠ 0) : turn d c = (refused d c.name, d) := by
  unfold refused at h ⊢
  unfold turn
  by_cases h1 : c.name.length < 1 ∨ 80 < c.name.length
  · rw [if_pos h1, if_pos h1]
  · rw [if_neg h1, if_neg h1]
    rw [if_neg h1] at h
    by_cases h2 : off d = true
    · rw [if_pos h2, if_pos h2]
    · rw [if_neg h2] at h; exact absurd rfl h
theorem turn_not {d : Dk} {c : Call} (h : refused d c.name = 0) : ¬ (c.name.length < 1 ∨ 80 < c.name.length) ∧ off d = false ∧ turn d c = if c.kind = 3 ∧ get d.seen c.name = none then (6, d)
    else if c.kind = 1 ∧ c.s = [] then (0, d) else if d.cap < used (after d.seen c) then (7, d) else (0, spend { d with seen := after d.seen c, pend := d.pend ++ [c] }) := by
  unfold refused at h
  by_cases h1 : c.name.length < 1 ∨ 80 < c.name.length
  · rw [if_pos h1] at h; cases h
  · rw [if_neg h1] at h
    by_cases h2 : off d = true
    · rw [if_pos h2] at h; cases h
    · refine ⟨h1, by simpa using h2, ?_⟩
      unfold turn
      rw [if_neg h1, if_neg h2]
theorem Step.same {w w' : World} {F : Nat → Prop} {p : Nat} {d : Dk} (h : PD w F p d) (k : Below w.heap.size w w') : Step w F p d w' := ⟨F, h.below k, Fr.of_below k, Nu.refl _ _⟩
theorem Step.from {w w0 w' : World} {F : Nat → Prop} {p : Nat} {d : Dk} (k : Below w.heap.size w w0) (h : Step w0 F p d w') : Step w F p d w' := Step.after (Fr.of_below k) (Nu.refl _ _) h
theorem Step.drewN {w w' : World} {F : Nat → Prop} {p : Nat} {d : Dk} {n : Nat} (h : Step w F p d w') : Step w F p d w' := h

set_option maxHeartbeats 4000000 in
set_option maxRecDepth 100000 in
theorem pput_any (F : Nat → Prop) (p : Nat) (d : Dk) (n s : Bs) (hd : Room d) (hs : s.length ≤ 281474976710656) (w : World) (h : PD w F p d) :
    Calls Tryd.prog 19 #[.pointer (some ⟨p, 0, none⟩), .string (S n), .string (S s)] w fun e w' => e = .returned (.int .i64 ((turn d ⟨2, n, s⟩).1 : Nat)) ∧ Step w F p (turn d ⟨2, n, s⟩).2 w' := by
  obtain ⟨R, hR⟩ : ∃ R, turn d ⟨2, n, s⟩ = R := ⟨_, rfl⟩
  rw [hR]
  obtain ⟨W0, hW0⟩ : ∃ W0, (w.alloc (.cells #[.string (S n)] 9)).alloc (.cells #[.string (S s)] 9) = W0 := ⟨_, rfl⟩
  have b0 : Below w.heap.size w W0 := by rw [← hW0]; exact (below_box w _).trans ((below_box (w.alloc (.cells #[.string (S n)] 9)) _).mono (by simp))
  have z0 : W0.heap.size = w.heap.size + 2 := by rw [← hW0]; simp
  have x1 : Boxed W0 w.heap.size n := by rw [← hW0]; exact (Arr.new w _ _).below (below_box _ _)
  have x2 : Boxed W0 (w.heap.size + 1) s := by rw [← hW0]; have := Arr.new (w.alloc (.cells #[.string (S n)] 9)) 9 #[.string (S s)]; rwa [rw.size_1] at this
  have P0 := h.below b0
  have hRf := refuses_any F p d n W0 P0
  have e1 : W0.cell? ⟨w.heap.size, 0, none⟩ = some (.string (S n)) := x1.cell rfl
  by_cases hr : refused d n ≠ 0
  · have HS : Hid (Step w F p R.2 W0 ∧ R.1 = refused d n) := by
      rw [turn_ref d ⟨2, n, s⟩ hr] at hR
      rw [← hR]; exact ⟨Step.same h b0, rfl⟩
    have hri : ((refused d n : Nat) : Int) != 0 := by simpa using hr
    generalize refused d n = r at *
    clear h x1 x2 z0 b0 hr hR
    go_enter Tryd.func19, Tryd.ntmps19
    go_wp2_with fail
    refine hRf.mono ?_
    rintro e w1 ⟨rfl, rfl⟩
    clear hRf
    go_wp2_with fail
    go_ret
    rw [HS.out.2]
    exact ⟨rfl, HS.out.1⟩
  have hr0 : refused d n = 0 := by omega
  obtain ⟨hn, ho, ht⟩ := turn_not (c := ⟨2, n, s⟩) hr0
  rw [hR] at ht
  rw [hr0, show ((0 : Nat) : Int) = 0 from rfl] at hRf
  have hcap := hd.r.cap
  have hus := hd.r.used
  have hse := hd.r.seen
  have hRm := fun k => room_any F p d (W0.drewN k) (P0.below (below_drewN (Below.refl _ _) k)) hcap (by omega)
  obtain ⟨rm, hrm⟩ : ∃ rm : Int, (d.cap : Int) - (used d.seen : Int) = rm := ⟨_, rfl⟩
  rw [hrm] at hRm
  have e2 : W0.drewN 1 = W0.drew := rfl
  have e3 : W0.cell? ⟨w.heap.size + 1, 0, none⟩ = some (.string (S s)) := x2.cell rfl
  have hz : ((S s).size : Int) = (s.length : Int) := by rw [S_size]
  have haf : after d.seen ⟨2, n, s⟩ = done d.seen ⟨2, n, s⟩ 1 := by simp [after, done]
  obtain ⟨bs, bl, Fs, Fl, pv, ts, fz, hpc, _⟩ := P0
  have e4 : Hid (∀ k, (W0.drewN k).cell? ⟨w.heap.size + 1, 0, none⟩ = some (.string (S s))) := fun k => x2.cell rfl
  have hgood : Good ⟨2, n, s⟩ := ⟨by unfold Named; show 1 ≤ n.length ∧ n.length ≤ 80; have : ¬ (n.length < 1 ∨ 80 < n.length) := hn; omega, fun h => absurd h (show ¬ (2 = 1) by decide)⟩
  have hud := used_done hd.r.sorted ⟨2, n, s⟩ (n := 1) (Nat.le_refl _)
  have hgd : get (done d.seen ⟨2, n, s⟩ 1) n = some s := by
    unfold done
    rw [if_neg (by omega), if_neg (show ¬ (2 = 1) by decide), if_pos rfl, get_put_same hd.r.sorted]
  obtain ⟨o, hold⟩ : ∃ o, ((get d.seen n).getD []).length = o := ⟨_, rfl⟩
  have hol : o ≤ used d.seen := by rw [← hold]; exact bytes_get (bytes_of_used (Nat.le_refl _)) n
  have hu1 : used (done d.seen ⟨2, n, s⟩ 1) + o = used d.seen + s.length := by
    rw [show (⟨2, n, s⟩ : Call).name = n from rfl, hgd, hold] at hud
    simp only [Option.getD_some] at hud
    exact hud
  have hSz := fun k => size_any _ _ _ n (by have : ¬ (n.length < 1 ∨ 80 < n.length) := hn; unfold maxLen; omega) (W0.drewN k) (FM.below hpc.s (below_drewN (Below.refl _ _) k))
  rw [hold] at hSz
  have hpl1 : W0.cell? ⟨p, 1, none⟩ = some (.map (some bs)) := hpc.cell rfl
  obtain ⟨rs, hrs⟩ : ∃ rs : Int, rm + (o : Int) = rs := ⟨_, rfl⟩
  have hwr : IntKind.i64.wrap (rm + (o : Int)) = rs := by rw [← hrs]; exact IntWalk.i64_in _ (by omega)
  by_cases hbig : (s.length : Int) > rs
  · have HS : Hid (∀ k, Step w F p R.2 (W0.drewN k) ∧ R.1 = 7) := fun k => by
      rw [ht, if_neg (fun hh => absurd hh.1 (show ¬ (2 = 3) by decide)), if_neg (fun hh => absurd hh.1 (show ¬ (2 = 1) by decide)), if_pos (by rw [haf]; omega)]
      exact ⟨Step.same h (below_drewN b0 k), rfl⟩
    clear h x1 x2 z0 b0 hr hR hrm hcap hus hse ht haf hn ho hd hs hr0 e2 hgd hu1 hud hgood hold hol hrs hpc
    generalize s.length = L at *
    go_enter Tryd.func19, Tryd.ntmps19
    go_wp2_with fail
    refine hRf.mono ?_
    rintro e w1 ⟨rfl, rfl⟩
    clear hRf
    go_wp2_with fail
    go_quiet (first | (go_at_call 38; refine Calls.quiet_of (hRm _)) | (go_at_call 39; refine Calls.quiet_of_same (hSz _)))
    go_wp2_with fail
    go_ret
    rw [(HS.out nq).2]
    exact ⟨rfl, (HS.out nq).1⟩
  have hR2 : R = (0, spend { d with seen := done d.seen ⟨2, n, s⟩ 1, pend := d.pend ++ [⟨2, n, s⟩] }) := by
    rw [ht, if_neg (fun hh => absurd hh.1 (show ¬ (2 = 3) by decide)), if_neg (fun hh => absurd hh.1 (show ¬ (2 = 1) by decide)), if_neg (by rw [haf]; omega), haf]
  have hcb := count_bound hd.r
  have hpl := hd.p
  have hst : steps ⟨2, n, s⟩ = 1 := by simp [steps]
  have HD : Hid (∀ W, Below w.heap.size w W → Boxed W w.heap.size n → Boxed W (w.heap.size + 1) s → Calls Tryd.prog 41 #[.pointer (some ⟨p, 0, none⟩), .string (S n), .agg #[.int .i64 ((1 : Nat) : Int), .func (.func 42) #[] #[.pointer (some ⟨w.heap.size, 0, none⟩), .pointer (some ⟨w.heap.size + 1, 0, none⟩)]]] W fun e w' => e = .returned (.tuple #[]) ∧ Step w F p R.2 w') := by
    intro W k y1 y2
    have h1 := do_any F p d ((42, #[.pointer (some ⟨w.heap.size, 0, none⟩), .pointer (some ⟨w.heap.size + 1, 0, none⟩)]), ⟨2, n, s⟩) hgood ho hcap hd.n hd.p (by omega) (by show used (done d.seen ⟨2, n, s⟩ (steps ⟨2, n, s⟩)) ≤ _; rw [hst]; omega) hd.r.sorted (by show s.length ≤ _; omega)
      (by show count d.pend + steps ⟨2, n, s⟩ ≤ _; rw [hst]; omega) W (h.below k) (.inr (.inl ⟨rfl, _, _, rfl, y1, y2⟩))
    rw [show steps (((42, #[.pointer (some ⟨w.heap.size, 0, none⟩), .pointer (some ⟨w.heap.size + 1, 0, none⟩)]), ⟨2, n, s⟩) : TC).2 = 1 from hst] at h1
    refine h1.mono ?_
    rintro e w' ⟨e1, e2⟩
    exact ⟨e1, by rw [hR2]; exact Step.from k e2⟩
  have HC1 : Hid (∀ W, Calls Tryd.prog 40 #[.string (S n)] W fun e w' => e = .returned (.string (S n)) ∧ Below W.heap.size W w') := fun W => clone_any n W (by have : ¬ (n.length < 1 ∨ 80 < n.length) := hn; omega)
  have HC2 : Hid (∀ W, Calls Tryd.prog 40 #[.string (S s)] W fun e w' => e = .returned (.string (S s)) ∧ Below W.heap.size W w') := fun W => clone_any s W hs
  have HK : Hid (∀ W, Below W0.heap.size W0 W → W.cell? ⟨w.heap.size, 0, none⟩ = some (.string (S n)) ∧ W.cell? ⟨w.heap.size + 1, 0, none⟩ = some (.string (S s)) ∧ W.frozen? ⟨w.heap.size, 0, none⟩ = false ∧ W.frozen? ⟨w.heap.size + 1, 0, none⟩ = false) :=
    fun W k => ⟨(x1.of (k.block _ x1.lt)).cell rfl, (x2.of (k.block _ x2.lt)).cell rfl, Arr.frozen (x1.of (k.block _ x1.lt)) 0, Arr.frozen (x2.of (k.block _ x2.lt)) 0⟩
  have HE : Hid (∀ W, Below W0.heap.size W0 W → Below w.heap.size w ((W.setCell ⟨w.heap.size, 0, none⟩ (.string (S n))).setCell ⟨w.heap.size + 1, 0, none⟩ (.string (S s))) ∧ Boxed ((W.setCell ⟨w.heap.size, 0, none⟩ (.string (S n))).setCell ⟨w.heap.size + 1, 0, none⟩ (.string (S s))) w.heap.size n ∧ Boxed ((W.setCell ⟨w.heap.size, 0, none⟩ (.string (S n))).setCell ⟨w.heap.size + 1, 0, none⟩ (.string (S s))) (w.heap.size + 1) s) := by
    intro W k
    have y1 := x1.of (k.block _ x1.lt)
    have y2 := x2.of (k.block _ x2.lt)
    have q1 := (But.refl w.heap.size W).set 0 (.string (S n))
    have q2 := (But.refl (w.heap.size + 1) (W.setCell ⟨w.heap.size, 0, none⟩ (.string (S n)))).set 0 (.string (S s))
    have r1 : Below w.heap.size w W := b0.trans (k.mono (by omega))
    refine ⟨(r1.trans (q1.below r1.size (Nat.le_refl _))).trans (q2.below (Nat.le_trans r1.size q1.size) (by omega)), ?_, ?_⟩
    · exact q2.arr (Arr.set y1 0 _) (by omega)
    · exact Arr.set (q1.arr y2 (by omega)) 0 _
  have HE1 : Hid (∀ W, Below W0.heap.size W0 W → ((W.setCell ⟨w.heap.size, 0, none⟩ (.string (S n))).cell? ⟨w.heap.size, 0, none⟩ = some (.string (S n)) ∧ (W.setCell ⟨w.heap.size, 0, none⟩ (.string (S n))).cell? ⟨w.heap.size + 1, 0, none⟩ = some (.string (S s)) ∧ (W.setCell ⟨w.heap.size, 0, none⟩ (.string (S n))).frozen? ⟨w.heap.size, 0, none⟩ = false ∧ (W.setCell ⟨w.heap.size, 0, none⟩ (.string (S n))).frozen? ⟨w.heap.size + 1, 0, none⟩ = false) ∧
      (((W.setCell ⟨w.heap.size, 0, none⟩ (.string (S n))).setCell ⟨w.heap.size + 1, 0, none⟩ (.string (S s))).cell? ⟨w.heap.size, 0, none⟩ = some (.string (S n)) ∧ ((W.setCell ⟨w.heap.size, 0, none⟩ (.string (S n))).setCell ⟨w.heap.size + 1, 0, none⟩ (.string (S s))).cell? ⟨w.heap.size + 1, 0, none⟩ = some (.string (S s)) ∧
        ((W.setCell ⟨w.heap.size, 0, none⟩ (.string (S n))).setCell ⟨w.heap.size + 1, 0, none⟩ (.string (S s))).frozen? ⟨w.heap.size, 0, none⟩ = false ∧ ((W.setCell ⟨w.heap.size, 0, none⟩ (.string (S n))).setCell ⟨w.heap.size + 1, 0, none⟩ (.string (S s))).frozen? ⟨w.heap.size + 1, 0, none⟩ = false)) := by
    intro W k
    have y1 := Arr.set (x1.of (k.block _ x1.lt)) 0 (.string (S n))
    have y2 := ((But.refl w.heap.size W).set 0 (.string (S n))).arr (x2.of (k.block _ x2.lt)) (by omega)
    have y3 := ((But.refl (w.heap.size + 1) (W.setCell ⟨w.heap.size, 0, none⟩ (.string (S n)))).set 0 (.string (S s))).arr y1 (by omega)
    have y4 := y2.set 0 (.string (S s))
    exact ⟨⟨y1.cell rfl, y2.cell rfl, y1.frozen 0, y2.frozen 0⟩, y3.cell rfl, y4.cell rfl, y3.frozen 0, y4.frozen 0⟩
  clear h x1 x2 z0 b0 hr hR hrm hcap hus hse ht haf hn ho hd hs hr0 e2 hgd hu1 hud hgood hcb hpl hst hold hol hrs hpc
  have hR1 : Hid (R.1 = 0) := by rw [hR2]; rfl
  clear hR2
  generalize hL : s.length = L at *
  clear hL
  go_enter Tryd.func19, Tryd.ntmps19
  go_wp2_with fail
  refine hRf.mono ?_
  rintro e w1 ⟨rfl, rfl⟩
  clear hRf
  go_wp2_with fail
  go_quiet (first | (go_at_call 38; refine Calls.quiet_of (hRm _)) | (go_at_call 39; refine Calls.quiet_of_same (hSz _)))
  have hwq : Hid (Below w1.heap.size w1 (w1.drewN nq).drew) := below_drew (below_drewN (Below.refl _ _) nq)
  go_upto_region 6 with (fail)
  clear e1 e3 e4 hRm hSz hpl1
  generalize w1.drewN nq = w2 at *
  have k1 := HK.out _ hwq.out
  go_region_held3 (fun W => W.cell? ⟨w.heap.size, 0, none⟩ = some (.string (S n)) ∧ W.cell? ⟨w.heap.size + 1, 0, none⟩ = some (.string (S s)) ∧ W.frozen? ⟨w.heap.size, 0, none⟩ = false ∧ W.frozen? ⟨w.heap.size + 1, 0, none⟩ = false)
    (first | (with_reducible exact k1) | (with_reducible exact s3) | (with_reducible exact s4) | (with_reducible exact t1) | (with_reducible exact t2) | go_keep)
    ((first
      | (go_at_call 40; with_reducible refine (HC1.out _).mono ?_; rintro e w3 ⟨rfl, b3⟩
         have h3 := hwq.out.trans (b3.mono hwq.out.size)
         have s3 := HK.out _ h3)
      | (go_at_call 40; with_reducible refine (HC2.out _).mono ?_; rintro e w4 ⟨rfl, b4⟩
         have h4 := h3.trans (b4.mono h3.size)
         have s4 := HK.out _ h4
         have t1 := (HE1.out _ h4).1
         have t2 := (HE1.out _ h4).2)))
  obtain ⟨y0, y1, y2⟩ := HE.out _ h4
  generalize (w4.setCell ⟨w.heap.size, 0, none⟩ (.string (S n))).setCell ⟨w.heap.size + 1, 0, none⟩ (.string (S s)) = w5 at *
  have e1 : w5.cell? ⟨w.heap.size, 0, none⟩ = some (.string (S n)) := Arr.cell y1 rfl
  have e2 : w5.cell? ⟨w.heap.size + 1, 0, none⟩ = some (.string (S s)) := Arr.cell y2 rfl
  have hD := HD.out w5 y0 y1 y2
  clear HD HE HE1 HK s3 s4 t1 t2 h3 h4 b3 b4 k1 hwq y0 y1 y2 HC1 HC2
  go_wp2_with fail
  refine hD.mono ?_
  rintro e w6 ⟨rfl, s6⟩
  have S6 := Lib.hid s6
  clear hD s6 e1 e2
  go_wp2_with fail
  go_ret
  rw [hR1.out]
  exact ⟨rfl, S6.out⟩
end Go.Proofs.YtpimdbnhpbjlkaaDoor.dk
/-! DkP7 -/
namespace Go.Proofs.YtpimdbnhpbjlkaaDoor.dk
set_option linter.unusedVariables false
open Go.RowKit
open fl (S S_size S_append S_inj str_eq str_ne)
open rw (Arr But Row Own bnext below_box below_drew below_drewN addr_add Fr RowB)
open mp (Mp Turned kget kput kwithout kmap KSorted)

set_option maxHeartbeats 4000000 in
set_option maxRecDepth 100000 in
theorem pdrop_any (F : Nat → Prop) (p : Nat) (d : Dk) (n : Bs) (hd : Room d) (w : World) (h : PD w F p d) :
    Calls Tryd.prog 32 #[.pointer (some ⟨p, 0, none⟩), .string (S n)] w fun e w' => e = .returned (.int .i64 ((turn d ⟨3, n, []⟩).1 : Nat)) ∧ Step w F p (turn d ⟨3, n, []⟩).2 w' := by
  obtain ⟨R, hR⟩ : ∃ R, turn d ⟨3, n, []⟩ = R := ⟨_, rfl⟩
  rw [hR]
  obtain ⟨W0, hW0⟩ : ∃ W0, w.alloc (.cells #[.string (S n)] 9) = W0 := ⟨_, rfl⟩
  have b0 : Below w.heap.size w W0 := by rw [← hW0]; exact below_box w _
  have z0 : W0.heap.size = w.heap.size + 1 := by rw [← hW0]; simp
  have x1 : Boxed W0 w.heap.size n := by rw [← hW0]; exact Arr.new w _ _
  have P0 := h.below b0
  have hRf := refuses_any F p d n W0 P0
  have e1 : W0.cell? ⟨w.heap.size, 0, none⟩ = some (.string (S n)) := x1.cell rfl
  by_cases hr : refused d n ≠ 0
  · have HS : Hid (Step w F p R.2 W0 ∧ R.1 = refused d n) := by
      rw [turn_ref d ⟨3, n, []⟩ hr] at hR
      rw [← hR]; exact ⟨Step.same h b0, rfl⟩
    have hri : ((refused d n : Nat) : Int) != 0 := by simpa using hr
    generalize refused d n = r at *
    clear h P0 x1 z0 b0 hr hR
    go_enter Tryd.func32, Tryd.ntmps32
    go_wp2_with fail
    refine hRf.mono ?_
    rintro e w1 ⟨rfl, rfl⟩
    clear hRf
    go_wp2_with fail
    go_ret
    rw [HS.out.2]
    exact ⟨rfl, HS.out.1⟩
  have hr0 : refused d n = 0 := by omega
  obtain ⟨hn, ho, ht⟩ := turn_not (c := ⟨3, n, []⟩) hr0
  have hn80 : ¬ (n.length < 1 ∨ 80 < n.length) := hn
  rw [hR] at ht
  rw [hr0, show ((0 : Nat) : Int) = 0 from rfl] at hRf
  have hcap := hd.r.cap
  have hus := hd.r.used
  obtain ⟨bs, bl, Fs, Fl, pv, ts, fz, hpc, _⟩ := P0
  have hHs := has_any Fs bs d.seen n (by unfold maxLen; omega) W0.drew (FM.below hpc.s (below_drew (Below.refl _ _)))
  have k0 : W0.drew.cell? ⟨p, 1, none⟩ = some (.map (some bs)) ∧ W0.drew.cell? ⟨w.heap.size, 0, none⟩ = some (.string (S n)) := ⟨hpc.cell rfl, x1.cell rfl⟩
  have HK : Hid (∀ W, Below W0.heap.size W0 W → W.cell? ⟨p, 1, none⟩ = some (.map (some bs)) ∧ W.cell? ⟨w.heap.size, 0, none⟩ = some (.string (S n))) :=
    fun W k => ⟨(hpc.below k).cell rfl, (x1.of (k.block _ x1.lt)).cell rfl⟩
  by_cases hno : get d.seen n = none
  · have HS : Hid (∀ W, Below W0.heap.size W0 W → Step w F p R.2 W ∧ R.1 = 6) := fun W k => by
      rw [ht, if_pos ⟨rfl, hno⟩]
      exact ⟨Step.same h (b0.trans (k.mono b0.size)), rfl⟩
    rw [hno] at hHs
    simp only [Option.isSome_none] at hHs
    clear h x1 z0 b0 hr hR hcap hus ht hn ho hd hr0 hno hpc hn80
    go_enter Tryd.func32, Tryd.ntmps32
    go_wp2_with fail
    refine hRf.mono ?_
    rintro e w1 ⟨rfl, rfl⟩
    clear hRf
    go_upto_region 4 with (fail)
    go_region_held3 (fun W => W.cell? ⟨p, 1, none⟩ = some (.map (some bs)) ∧ W.cell? ⟨w.heap.size, 0, none⟩ = some (.string (S n)))
      (first | (with_reducible exact k0) | (with_reducible exact s3) | go_keep)
      ((first
        | (go_at_call 46; refine hHs.mono ?_; rintro e w3 ⟨rfl, b3⟩
           have h3 := (below_drew (Below.refl w1.heap.size w1)).trans b3
           have s3 := HK.out _ h3)))
    have H3 := Lib.hid h3
    clear b3 h3 s3 k0 hHs
    go_wp2_with fail
    go_ret
    rw [(HS.out _ H3.out).2]
    exact ⟨rfl, (HS.out _ H3.out).1⟩
  have hgood : Good ⟨3, n, []⟩ := ⟨by unfold Named; show 1 ≤ n.length ∧ n.length ≤ 80; omega, fun h => absurd h (show ¬ (3 = 1) by decide)⟩
  have haf : after d.seen ⟨3, n, []⟩ = done d.seen ⟨3, n, []⟩ 1 := by simp [after, done, steps]
  have hud := used_done hd.r.sorted ⟨3, n, []⟩ (n := 1) (Nat.le_refl _)
  have hgd : get (done d.seen ⟨3, n, []⟩ 1) n = none := by
    unfold done
    rw [if_neg (by omega), if_neg (show ¬ (3 = 1) by decide), if_neg (show ¬ (3 = 2) by decide)]
    exact get_without_same _ _
  have hu1 : used (done d.seen ⟨3, n, []⟩ 1) ≤ used d.seen := by
    rw [show (⟨3, n, []⟩ : Call).name = n from rfl, hgd] at hud
    simp only [Option.getD_none, List.length_nil] at hud
    omega
  have hR2 : R = (0, spend { d with seen := done d.seen ⟨3, n, []⟩ 1, pend := d.pend ++ [⟨3, n, []⟩] }) := by
    rw [ht, if_neg (fun hh => hno hh.2), if_neg (fun hh => absurd hh.1 (show ¬ (3 = 1) by decide)), if_neg (by rw [haf]; omega), haf]
  have hcb := count_bound hd.r
  have hpl := hd.p
  have hst : steps ⟨3, n, []⟩ = 1 := by simp [steps]
  have HD : Hid (∀ W, Below w.heap.size w W → Boxed W w.heap.size n → Calls Tryd.prog 41 #[.pointer (some ⟨p, 0, none⟩), .string (S n), .agg #[.int .i64 ((1 : Nat) : Int), .func (.func 54) #[] #[.pointer (some ⟨w.heap.size, 0, none⟩)]]] W fun e w' => e = .returned (.tuple #[]) ∧ Step w F p R.2 w') := by
    intro W k y1
    have h1 := do_any F p d ((54, #[.pointer (some ⟨w.heap.size, 0, none⟩)]), ⟨3, n, []⟩) hgood ho hcap hd.n hd.p (by omega) (by show used (done d.seen ⟨3, n, []⟩ (steps ⟨3, n, []⟩)) ≤ _; rw [hst]; omega) hd.r.sorted (by show ([] : Bs).length ≤ _; simp)
      (by show count d.pend + steps ⟨3, n, []⟩ ≤ _; rw [hst]; omega) W (h.below k) (.inr (.inr ⟨rfl, _, rfl, y1⟩))
    rw [show steps (((54, #[.pointer (some ⟨w.heap.size, 0, none⟩)]), ⟨3, n, []⟩) : TC).2 = 1 from hst] at h1
    refine h1.mono ?_
    rintro e w' ⟨e1, e2⟩
    exact ⟨e1, by rw [hR2]; exact Step.from k e2⟩
  have HC1 : Hid (∀ W, Calls Tryd.prog 40 #[.string (S n)] W fun e w' => e = .returned (.string (S n)) ∧ Below W.heap.size W w') := fun W => clone_any n W (by omega)
  have HE : Hid (∀ W, Below W0.heap.size W0 W → W.cell? ⟨w.heap.size, 0, none⟩ = some (.string (S n)) ∧ W.frozen? ⟨w.heap.size, 0, none⟩ = false ∧ Below w.heap.size w (W.setCell ⟨w.heap.size, 0, none⟩ (.string (S n))) ∧ Boxed (W.setCell ⟨w.heap.size, 0, none⟩ (.string (S n))) w.heap.size n) := by
    intro W k
    have y1 := x1.of (k.block _ x1.lt)
    have q1 := (But.refl w.heap.size W).set 0 (.string (S n))
    have r1 : Below w.heap.size w W := b0.trans (k.mono (by omega))
    exact ⟨y1.cell rfl, Arr.frozen y1 0, r1.trans (q1.below r1.size (Nat.le_refl _)), Arr.set y1 0 _⟩
  have hsome : (get d.seen n).isSome = true := by cases hg : get d.seen n with
    | none => exact absurd hg hno
    | some _ => rfl
  rw [hsome] at hHs
  have hR1 : Hid (R.1 = 0) := by rw [hR2]; rfl
  clear h x1 z0 b0 hr hR hcap hus ht hn ho hd hr0 hno hpc hn80 hR2 hgood haf hud hgd hu1 hcb hpl hst hsome
  go_enter Tryd.func32, Tryd.ntmps32
  go_wp2_with fail
  refine hRf.mono ?_
  rintro e w1 ⟨rfl, rfl⟩
  clear hRf
  go_upto_region 4 with (fail)
  go_region_held3 (fun W => W.cell? ⟨p, 1, none⟩ = some (.map (some bs)) ∧ W.cell? ⟨w.heap.size, 0, none⟩ = some (.string (S n)))
    (first | (with_reducible exact k0) | (with_reducible exact s3) | go_keep)
    ((first
      | (go_at_call 46; refine hHs.mono ?_; rintro e w3 ⟨rfl, b3⟩
         have h3 := (below_drew (Below.refl w1.heap.size w1)).trans b3
         have s3 := HK.out _ h3)))
  have H3 := Lib.hid h3
  have c3 := (HE.out _ h3).1
  have hC := HC1.out w3
  clear b3 h3 s3 k0 hHs e1 HK
  go_wp2_with fail
  refine hC.mono ?_
  rintro e w4 ⟨rfl, b4⟩
  have h4 := H3.out.trans (b4.mono H3.out.size)
  obtain ⟨c4, f4, y4, z4⟩ := HE.out _ h4
  have H4 := Lib.hid y4
  have hD := HD.out _ y4 z4
  have c5 : (w4.setCell ⟨w.heap.size, 0, none⟩ (.string (S n))).cell? ⟨w.heap.size, 0, none⟩ = some (.string (S n)) := Arr.cell z4 rfl
  clear hC b4 h4 y4 z4 HE c3
  go_wp2_with fail
  refine hD.mono ?_
  rintro e w6 ⟨rfl, s6⟩
  have S6 := Lib.hid s6
  clear hD s6 c4 c5 f4 H4 H3
  go_wp2_with fail
  go_ret
  rw [hR1.out]
  exact ⟨rfl, S6.out⟩
end Go.Proofs.YtpimdbnhpbjlkaaDoor.dk
/-! DkP8 -/
namespace Go.Proofs.YtpimdbnhpbjlkaaDoor.dk
set_option linter.unusedVariables false
open Go.RowKit
open fl (S S_size S_append S_inj str_eq str_ne)
open rw (Arr But Row Own bnext below_box below_drew below_drewN addr_add Fr RowB)
open mp (Mp Turned kget kput kwithout kmap KSorted)

theorem pend_s {d : Dk} (h : Right d) : ∀ c ∈ d.pend, c.kind = 1 ∨ c.kind = 2 → c.s.length ≤ 1048576 := by
  intro c hc hk
  obtain ⟨j, hj, e⟩ := List.getElem_of_mem hc
  have h1 := h.room (j + 1)
  have hsj : Sorted (full d.lasts (d.pend.take j)) := full_sorted h.so _
  rw [List.take_succ_eq_append_getElem hj, full_snoc, e] at h1
  have hcap := h.cap
  have h2 := bytes_get (bytes_of_used h1) c.name
  have hp := steps_pos (h.np c hc)
  unfold done at h2
  rw [if_neg (by omega)] at h2
  rcases hk with hk | hk
  · have hs : steps c = c.s.length := by unfold steps; rw [if_pos hk]
    rw [if_pos hk, get_put_same hsj, hs, List.take_length] at h2
    simp only [Option.getD_some, List.length_append] at h2
    omega
  · rw [if_neg (by omega), if_pos hk, get_put_same hsj] at h2
    simp only [Option.getD_some] at h2
    omega
/-- does_runs, where only what is laid is bounded. -/
theorem does_runs' (F : Nat → Prop) (b : Nat) (l : List File) (v : Value) (c : Call) (n : Nat) (hc : Good c) (hn1 : 1 ≤ n) (hn2 : n ≤ steps c) (hl : l.length ≤ 1000000) (hz : c.kind = 1 ∨ c.kind = 2 → ((get l c.name).getD []).length + c.s.length ≤ 140737488355328) (w : World) (h : FM w F b l) (hd : Does w v c) :
    (∃ a1 a2 : Nat, False ∧ Hid True) ∨
    (∃ a1 a2, v = .func (.func 42) #[] #[.pointer (some ⟨a1, 0, none⟩), .pointer (some ⟨a2, 0, none⟩)] ∧
      Hid (∀ W, Below w.heap.size w W → Calls Tryd.prog 42 #[.map (some b), .int .i64 (n : Nat), .pointer (some ⟨a1, 0, none⟩), .pointer (some ⟨a2, 0, none⟩)] W fun e w' => e = .returned (.tuple #[]) ∧ Made W F b (done l c n) w')) ∨
    (∃ a1, v = .func (.func 54) #[] #[.pointer (some ⟨a1, 0, none⟩)] ∧
      Hid (∀ W, Below w.heap.size w W → Calls Tryd.prog 54 #[.map (some b), .int .i64 (n : Nat), .pointer (some ⟨a1, 0, none⟩)] W fun e w' => e = .returned (.tuple #[]) ∧ Made W F b (done l c n) w')) := by
  rcases hd with ⟨h1, a1, a2, h2, h3, h4⟩ | ⟨h1, a1, a2, h2, h3, h4⟩ | ⟨h1, a1, h2, h3⟩
  · exact h2.elim
  · exact .inr (.inl ⟨a1, a2, h2, fun W k => put1_any F b l c a1 a2 n h1 hc hn1 hl (by have := hz (.inr h1); omega) W (h.below k) (h3.of (k.block _ h3.lt)) (h4.of (k.block _ h4.lt))⟩)
  · exact .inr (.inr ⟨a1, h2, fun W k => drop1_any F b l c a1 n h1 hc hn1 W (h.below k) (h3.of (k.block _ h3.lt))⟩)
/-- A round of settle: the pieces, and what has turned since. -/
structure Set (w wr : World) (F : Nat → Prop) (p : Nat) (d : Dk) (K j : Nat) (cs : Array Value) (bs bl : Nat) (Fs Fl : Nat → Prop) (pv : Value) (ts : List TC) : Prop where
  pc : Pc wr p cs bs bl Fs Fl d.seen (again d.lasts (d.pend.take j) K) pv ts
  fr : Fr F w wr
  nu : Nu w F (fo p Fs Fl pv)
theorem Set.below {w wr wx : World} {F : Nat → Prop} {p : Nat} {d : Dk} {K j : Nat} {cs : Array Value} {bs bl : Nat} {Fs Fl : Nat → Prop} {pv : Value} {ts : List TC}
    (h : Set w wr F p d K j cs bs bl Fs Fl pv ts) (k : Below wr.heap.size wr wx) : Set w wx F p d K j cs bs bl Fs Fl pv ts := ⟨h.pc.below k, h.fr.then_below k, h.nu⟩
theorem ownT_at {w : World} {v : Value} {l : List TC} (h : OwnT w v l) {j : Nat} (hj : j < l.length) : ∃ b cap, v = .slice (some ⟨b, 0, none⟩) l.length cap ∧ w.cell? ⟨b, j * 2, none⟩ = some (.int .i64 (steps l[j].2 : Nat)) ∧ w.cell? ⟨b, j * 2 + 1, none⟩ = some (fnv l[j]) := by
  obtain ⟨a, c, e, _, hr, _⟩ := rw.Own.sl turnSh h
  obtain ⟨b, off, e2, hb, hc⟩ := hr.at _ hj
  obtain ⟨_, ⟨e3, h0⟩ | ⟨g, cap, cur, e3, _⟩⟩ := h
  · omega
  · rw [e] at e3
    rw [e2] at e3
    injection e3 with e4
    injection e4 with e4
    injection e4 with e5 e6
    subst e6
    rw [e2] at e
    have h0 := hc 0 (by decide)
    have h1 := hc 1 (by decide)
    rw [Nat.zero_add] at h0 h1
    exact ⟨b, c, e, h0, h1⟩

theorem Pc.clear {w : World} {p : Nat} {cs : Array Value} {bs bl : Nat} {Fs Fl : Nat → Prop} {seen lasts : List File} {pv : Value} {ts : List TC} (h : Pc w p cs bs bl Fs Fl seen lasts pv ts) : Pc w p cs bs bl Fs Fl seen lasts (.slice none 0 0) [] :=
  ⟨h.a, h.s, h.l, rw.Own.nil turnSh w 0, fun x hx => (by cases hx), h.dis⟩
theorem again_stop (l : List File) (p : List Call) (K j : Nat) (hj : j ≤ p.length) (h : K ≤ count (p.take j)) : again l p K = again l (p.take j) K := by
  rw [again_take l p K j hj, Nat.min_eq_right h, Nat.sub_self, again_zero]
set_option maxHeartbeats 4000000 in
set_option maxRecDepth 100000 in
theorem settle_any (F : Nat → Prop) (p : Nat) (d : Dk) (K : Nat) (hd : Right d) (hl : d.lasts.length ≤ 100000) (hp : d.pend.length ≤ 100000) (hK : K ≤ count d.pend) (w : World) (h : PD w F p d) :
    Calls Tryd.prog 33 #[.pointer (some ⟨p, 0, none⟩), .int .i64 (K : Nat)] w fun e w' => e = .returned (.tuple #[]) ∧ Step w F p { d with lasts := again d.lasts d.pend K, pend := [] } w' := by
  obtain ⟨bs, bl, Fs, Fl, pv, ts, fz, h1, h2, hf, hF⟩ := h
  have htl : ts.length = d.pend.length := by rw [← h2, List.length_map]
  have hcb := count_bound hd
  have hpv := h1.o.form
  obtain ⟨pa, pc, rfl⟩ := hpv
  have hend : Hid (∀ wr Fl' j, Set w wr F p d K j (dkCells d bs bl (.slice pa ts.length pc) fz) bs bl Fs Fl' (.slice pa ts.length pc) ts → again d.lasts d.pend K = again d.lasts (d.pend.take j) K →
      wr.cell? ⟨p, 4, none⟩ = some (.slice pa ts.length pc) ∧ wr.frozen? ⟨p, 4, none⟩ = false ∧ (wr.setCell ⟨p, 4, none⟩ (.slice none 0 0)).cell? ⟨p, 5, none⟩ = some (.int .i64 (count d.pend : Nat)) ∧ (wr.setCell ⟨p, 4, none⟩ (.slice none 0 0)).frozen? ⟨p, 5, none⟩ = false ∧
      Step w F p { d with lasts := again d.lasts d.pend K, pend := [] } ((wr.setCell ⟨p, 4, none⟩ (.slice none 0 0)).setCell ⟨p, 5, none⟩ (.int .i64 0))) := by
    intro wr Fl' j S e
    have P1 := S.pc.clear.set 4 (.slice none 0 0)
    have P2 := P1.set 5 (.int .i64 0)
    refine ⟨S.pc.cell rfl, S.pc.a.frozen 4, P1.cell rfl, P1.a.frozen 5, fo p Fs Fl' (.slice none 0 0), ?_, ?_, ?_⟩
    · refine PD.of_pc (d := { d with lasts := again d.lasts d.pend K, pend := [] }) (fz := fz) (ts := []) (bs := bs) (bl := bl) ?_ rfl rfl hf
      rw [e]
      exact P2
    · have k1 := (But.refl p wr).set 4 (.slice none 0 0)
      have k2 := (But.refl p (wr.setCell ⟨p, 4, none⟩ (.slice none 0 0))).set 5 (.int .i64 0)
      have hp : F p := (hF p).2 (.inl rfl)
      exact (S.fr.trans (G := fun i => i = p) (Fr.but k1 rfl) fun i _ e => e ▸ hp).trans (G := fun i => i = p) (Fr.but k2 rfl) fun i _ e => e ▸ hp
    · intro k hk
      rcases hk with hk | hk | hk | hk
      · exact S.nu k (.inl hk)
      · exact S.nu k (.inr (.inl hk))
      · exact S.nu k (.inr (.inr (.inl hk)))
      · cases hk
  have S0 : Hid (Set w w F p d K 0 (dkCells d bs bl (.slice pa ts.length pc) fz) bs bl Fs Fl (.slice pa ts.length pc) ts) := ⟨h1, Fr.refl _ _, fun k hk => .inl ((hF k).2 hk)⟩
  have c4 : w.cell? ⟨p, 4, none⟩ = some (.slice pa ts.length pc) := h1.cell rfl
  have HD : Hid (Right d ∧ d.lasts.length ≤ 100000 ∧ d.pend.length ≤ 100000 ∧ ts.map (·.2) = d.pend ∧ ts.length = d.pend.length ∧ p < w.heap.size ∧ K ≤ 1099511627776) := ⟨hd, hl, hp, h2, htl, h1.a.lt, by omega⟩
  clear h1 hF hf hd hl hp h2 hcb htl hK
  go_enter Tryd.func33, Tryd.ntmps33
  go_wp2_with fail
  go_loopw [1, 12] (fun kk i wr => ∃ (j r : Nat) (Fl' : Nat → Prop), i = .int .i64 j ∧ j ≤ ts.length ∧ kk = .int .i64 r ∧ Hid (r = K - min (count (d.pend.take j)) K ∧ Set w wr F p d K j (dkCells d bs bl (.slice pa ts.length pc) fz) bs bl Fs Fl' (.slice pa ts.length pc) ts))
    (fun _ i _ => ts.length - (intOf i).toNat)
  case atStart => exact ⟨0, K, Fl, rfl, Nat.zero_le _, rfl, by simp [count], S0.out⟩
  case round =>
    obtain ⟨j, r, Fl', rfl, hj, rfl, HI⟩ := hrel
    by_cases hlt : j < ts.length
    · have hki : (j : Int) < (ts.length : Int) := by omega
      obtain ⟨b, cap, e, q0, q1⟩ := ownT_at HI.out.2.pc.o hlt
      cases e
      obtain ⟨x, hx⟩ : ∃ x, ts[j]'hlt = x := ⟨_, rfl⟩
      rw [hx] at q0 q1
      have hjp : j < d.pend.length := by have := HD.out.2.2.2.2.1; omega
      have hxc : d.pend[j]'hjp = x.2 := by
        have h1 := HD.out.2.2.2.1
        have : (ts.map (·.2))[j]'(by rw [List.length_map]; exact hlt) = x.2 := by rw [List.getElem_map, hx]
        rw [← this]
        congr 1
        exact h1.symm
      have hxm : x ∈ ts := hx ▸ List.getElem_mem hlt
      have hcm : x.2 ∈ d.pend := hxc ▸ List.getElem_mem hjp
      have hgood := HD.out.1.np _ hcm
      have hs1 := steps_pos hgood
      have hdo := HI.out.2.pc.does x hxm
      obtain ⟨N, hN⟩ : ∃ N, steps x.2 = N := ⟨_, rfl⟩
      rw [hN] at q0 hs1
      by_cases hr0 : r = 0
      · -- the first steps are done
        subst hr0
        have hdo' := hdo
        have hst : again d.lasts d.pend K = again d.lasts (d.pend.take j) K := again_stop _ _ _ _ (by omega) (by have := HI.out.1; omega)
        have b1 := below_box wr (.cells #[.int .i64 (N : Nat), fnv x] 74)
        obtain ⟨e1, e2, e3, e4, e5⟩ := hend.out _ _ _ (HI.out.2.below b1) hst
        have HS := Lib.hid e5
        have hN0 : ¬ ((N : Int) < 0) := by omega
        obtain ⟨f, caps, hV⟩ : ∃ f caps, fnv x = .func (.func f) #[] caps := ⟨_, _, rfl⟩
        rw [hV] at q1 e1 e2 e3 e4 HS
        clear hdo hdo' hst b1 e5 hgood hxc hcm hxm hx HI hV hjp
        go_wp2_with fail
        exact bodyPost_end (results_none rfl _ _ _) rfl ⟨rfl, HS.out⟩
      · obtain ⟨f, caps, hV⟩ : ∃ f caps, fnv x = .func (.func f) #[] caps := ⟨_, _, rfl⟩
        have A2 : Arr (wr.alloc (.cells #[.int .i64 (N : Nat), .func (.func f) #[] caps] 74)) wr.heap.size 74 #[.int .i64 (N : Nat), .func (.func f) #[] caps] := Arr.new _ _ _
        have b1 := below_box wr (.cells #[.int .i64 (N : Nat), .func (.func f) #[] caps] 74)
        have S2 := HI.out.2.below b1
        have h64 : Hid ((r : Int) ≤ 1099511627776 ∧ r ≤ K) := by
          have := HI.out.1
          have := HD.out.2.2.2.2.2.2
          exact ⟨by omega, by omega⟩
        obtain ⟨m, hm⟩ : ∃ m, min N r = m := ⟨_, rfl⟩
        have hag := again_snoc d.lasts d.pend K hjp
        rw [hxc, hN, ← HI.out.1, hm] at hag
        have hul := again_used HD.out.1 j K
        have hbg := bytes_get (bytes_of_used (Nat.le_trans hul HD.out.1.cap)) x.2.name
        have hlen := again_length d.lasts (d.pend.take j) K
        rw [List.length_take] at hlen
        have hR := does_runs' Fl' bl (again d.lasts (d.pend.take j) K) (fnv x) x.2 m hgood (by omega) (by omega) (by have := HD.out; omega) (fun hk => by have := pend_s HD.out.1 _ hcm hk; omega) _ S2.pc.l (hdo.below b1)
        rw [hV] at hR q1
        have hcnt := count_take d.pend j hjp
        rw [hxc, hN] at hcnt
        have HJ : Hid (r - m = K - min (count (d.pend.take (j + 1))) K) := by
          have := HI.out.1
          show r - m = _
          rw [hcnt]; omega
        have HM2 : Hid (∀ w2, Made (wr.alloc (.cells #[.int .i64 (N : Nat), .func (.func f) #[] caps] 74)).drew Fl' bl (done (again d.lasts (d.pend.take j) K) x.2 m) w2 →
            (w2.cell? ⟨wr.heap.size, 1, none⟩ = some (.func (.func f) #[] caps) ∧ w2.cell? ⟨p, 3, none⟩ = some (.map (some bl))) ∧
            ∃ Fl2, Set w w2 F p d K (j + 1) (dkCells d bs bl (.slice (some ⟨b, 0, none⟩) ts.length pc) fz) bs bl Fs Fl2 (.slice (some ⟨b, 0, none⟩) ts.length pc) ts) := by
          rintro w2 ⟨Fl2, x1, x2, x3⟩
          have r0 : Below (wr.alloc (.cells #[.int .i64 (N : Nat), .func (.func f) #[] caps] 74)).heap.size (wr.alloc (.cells #[.int .i64 (N : Nat), .func (.func f) #[] caps] 74)) (wr.alloc (.cells #[.int .i64 (N : Nat), .func (.func f) #[] caps] 74)).drew := below_drew (Below.refl _ _)
          rw [← hag] at x1
          have P1 := (S2.pc.below r0).turnL x1 x2 x3
          have hBF : ¬ Fl' wr.heap.size := fun hk => by have := HI.out.2.pc.l.lt hk; omega
          have A3 := x2.arr (A2.below r0) hBF
          refine ⟨⟨A3.cell rfl, P1.cell rfl⟩, Fl2, P1, (S2.fr.then_below r0).trans x2 fun i hi hk => ?_, fun k hk => ?_⟩
          · rcases HI.out.2.nu i (.inr (.inr (.inl hk))) with h | h
            · exact h
            · omega
          · rcases hk with hk | hk | hk | hk
            · exact S2.nu k (.inl hk)
            · exact S2.nu k (.inr (.inl hk))
            · rcases x3 k hk with h3 | h3
              · exact S2.nu k (.inr (.inr (.inl h3)))
              · have := (S2.fr.then_below r0).size
                exact .inr (by omega)
            · exact S2.nu k (.inr (.inr (.inr hk)))
        have HB0 : Hid (∀ W, Below (wr.alloc (.cells #[.int .i64 (N : Nat), .func (.func f) #[] caps] 74)).heap.size (wr.alloc (.cells #[.int .i64 (N : Nat), .func (.func f) #[] caps] 74)) W → W.cell? ⟨wr.heap.size, 1, none⟩ = some (.func (.func f) #[] caps) ∧ W.cell? ⟨p, 3, none⟩ = some (.map (some bl))) :=
          fun W k => ⟨(A2.below k).cell rfl, (S2.pc.below k).cell rfl⟩
        have hm1 : 1 ≤ m := by omega
        have hmr : m ≤ r := by omega
        have hmz : ((m : Int) == 0) = false := by rw [beq_eq_false_iff_ne]; omega
        have hmi : min (r : Int) (N : Int) = (m : Int) := by omega
        have hwr : IntKind.i64.wrap ((r : Int) - (m : Int)) = ((r - m : Nat) : Int) := by
          have := h64.out
          rw [IntWalk.i64_in _ (by omega)]; omega
        have A2c : (wr.alloc (.cells #[.int .i64 (N : Nat), .func (.func f) #[] caps] 74)).cell? ⟨wr.heap.size, 0, none⟩ = some (.int .i64 (N : Nat)) := A2.cell rfl
        obtain ⟨rm, hrm⟩ : ∃ rm, r - m = rm := ⟨_, rfl⟩
        rw [hrm] at hwr HJ
        clear A2 b1 S2 h64 hag hul hbg hlen hcnt hm hgood hxc hcm hxm hx HI hV hjp hdo hs1 hN hrm
        go_upto_region 5 with (fail)
        go_cut [] from 13 to 33 (fun wx => ∃ Fl2, Hid (Set w wx F p d K (j + 1) (dkCells d bs bl (.slice (some ⟨b, 0, none⟩) ts.length pc) fz) bs bl Fs Fl2 (.slice (some ⟨b, 0, none⟩) ts.length pc) ts))
        case first =>
          clear HJ hend hwr
          rcases hR with ⟨a1, a2, hv, hR⟩ | ⟨a1, a2, hv, hR⟩ | ⟨a1, hv, hR⟩
          · exact hv.elim
          · injection hv with e1 _ e2
            injection e1 with e1
            subst e1 e2
            have hrun := hR.out _ (below_drew (Below.refl _ _))
            have k0 := HB0.out _ (below_drew (Below.refl _ _))
            go_region_held3 (fun W => W.cell? ⟨wr.heap.size, 1, none⟩ = some (.func (.func 42) #[] #[.pointer (some ⟨a1, 0, none⟩), .pointer (some ⟨a2, 0, none⟩)]) ∧ W.cell? ⟨p, 3, none⟩ = some (.map (some bl)))
              (first | (with_reducible exact k0) | (with_reducible exact hcl) | go_keep)
              ((go_at_call 42; refine hrun.mono ?_; rintro e w2 ⟨rfl, hM⟩; have hcl := (HM2.out w2 hM).1))
            have hr := (HM2.out w2 hM).2
            clear hrun k0 hR hM HM2 HB0 hcl
            go_wp2_with fail
            go_meet
            case rel => exact hr
          · injection hv with e1 _ e2
            injection e1 with e1
            subst e1 e2
            have hrun := hR.out _ (below_drew (Below.refl _ _))
            have k0 := HB0.out _ (below_drew (Below.refl _ _))
            go_region_held3 (fun W => W.cell? ⟨wr.heap.size, 1, none⟩ = some (.func (.func 54) #[] #[.pointer (some ⟨a1, 0, none⟩)]) ∧ W.cell? ⟨p, 3, none⟩ = some (.map (some bl)))
              (first | (with_reducible exact k0) | (with_reducible exact hcl) | go_keep)
              ((go_at_call 54; refine hrun.mono ?_; rintro e w2 ⟨rfl, hM⟩; have hcl := (HM2.out w2 hM).1))
            have hr := (HM2.out w2 hM).2
            clear hrun k0 hR hM HM2 HB0 hcl
            go_wp2_with fail
            go_meet
            case rel => exact hr
        case rest =>
          obtain ⟨Fl2, M2⟩ := hcut
          clear hR HB0 HM2
          have hwi : IntKind.i64.wrap ((j : Int) + 1) = ((j + 1 : Nat) : Int) := by
            have := HD.out
            rw [IntWalk.i64_in _ (by omega)]; omega
          go_wp2_with fail
          go_roundw
          case rel => exact ⟨j + 1, rm, Fl2, rfl, by omega, rfl, HJ.out, M2.out⟩
          case measure => simp [intOf]; omega
    · obtain rfl : j = ts.length := by omega
      have hst : again d.lasts d.pend K = again d.lasts (d.pend.take ts.length) K := by rw [HD.out.2.2.2.2.1, List.take_length]
      obtain ⟨e1, e2, e3, e4, e5⟩ := hend.out _ _ _ HI.out.2 hst
      have HS := Lib.hid e5
      clear e5 hst HI
      go_wp2_with fail
      exact bodyPost_end (results_none rfl _ _ _) rfl ⟨rfl, HS.out⟩
end Go.Proofs.YtpimdbnhpbjlkaaDoor.dk
/-! DkP9 -/
namespace Go.Proofs.YtpimdbnhpbjlkaaDoor.dk
set_option linter.unusedVariables false
open Go.RowKit
open fl (S S_size S_append S_inj str_eq str_ne)
open rw (Arr But Row Own bnext below_box below_drew below_drewN addr_add Fr RowB)
open mp (Mp Turned kget kput kwithout kmap KSorted Ranging)

set_option maxHeartbeats 1000000 in
set_option maxRecDepth 100000 in
theorem psync_any (F : Nat → Prop) (p : Nat) (d : Dk) (hd : Right d) (hl : d.lasts.length ≤ 100000) (hp : d.pend.length ≤ 100000) (w : World) (h : PD w F p d) :
    Calls Tryd.prog 26 #[.pointer (some ⟨p, 0, none⟩)] w fun e w' => e = .returned (.int .i64 ((sync d).1 : Nat)) ∧ Step w F p (sync d).2 w' := by
  have hO := off_any F p d w h
  unfold sync
  cases ho : off d with
  | true =>
    rw [ho] at hO
    have HS : Hid (Step w F p d w) := Step.same h (Below.refl _ _)
    clear h hd hl hp ho
    go_enter Tryd.func26, Tryd.ntmps26
    go_wp2_with fail
    refine hO.mono ?_
    rintro e w1 ⟨rfl, rfl⟩
    clear hO
    go_wp2_with fail
    go_ret
    exact ⟨rfl, HS.out⟩
  | false =>
    rw [ho] at hO
    have c5 : w.cell? ⟨p, 5, none⟩ = some (.int .i64 (count d.pend : Nat)) := by
      obtain ⟨bs, bl, Fs, Fl, pv, ts, fz, h1, _⟩ := h
      exact h1.cell rfl
    have hS := settle_any F p d (count d.pend) hd hl hp (Nat.le_refl _) w h
    rw [again_full _ _ _ (Nat.le_refl _), ← hd.seen] at hS
    have HB : Hid (∀ F1 w1, PD w1 F1 p { d with lasts := d.seen, pend := [] } → Calls Tryd.prog 47 #[.pointer (some ⟨p, 0, none⟩)] w1 fun e w' => e = .returned (.tuple #[]) ∧ Step w1 F1 p (spend { d with lasts := d.seen, pend := [] }) w') :=
      fun F1 w1 h1 => burn_any F1 p { d with lasts := d.seen, pend := [] } ho w1 h1
    clear h hd hl hp ho
    go_enter Tryd.func26, Tryd.ntmps26
    go_wp2_with fail
    refine hO.mono ?_
    rintro e w1 ⟨rfl, rfl⟩
    clear hO
    go_wp2_with fail
    refine hS.mono ?_
    rintro e w2 ⟨rfl, F1, p1, f1, n1⟩
    have HF := Lib.hid (And.intro f1 n1)
    have hB := HB.out F1 w2 p1
    clear hS p1 f1 n1 HB c5
    go_wp2_with fail
    refine hB.mono ?_
    rintro e w3 ⟨rfl, s3⟩
    have HS := Lib.hid (Step.after HF.out.1 HF.out.2 s3)
    clear hB s3 HF
    go_wp2_with fail
    go_ret
    exact ⟨rfl, HS.out⟩

/-! ### Files gone over -/
theorem vals_mem {fs : List FV} {n : Bs} {v : Value} (h : (n, v) ∈ vals fs) : ∃ s r, (n, (s, r)) ∈ fs ∧ v = .agg #[r] := by
  obtain ⟨f, hf, e⟩ := List.mem_map.1 h
  injection e with e1 e2
  subst e1 e2
  exact ⟨f.2.1, f.2.2, hf, rfl⟩
theorem vals_without (fs : List FV) (n : Bs) : kwithout (vals fs) n = vals (kwithout fs n) := by unfold vals; rw [mp.kmap_without]
theorem used_take_one {fs : List FV} (h : KSorted fs) {n s : Bs} {r : Value} (hm : (n, (s, r)) ∈ fs) : used (con fs) = used (con (kwithout fs n)) + s.length := by
  have h1 := used_without (l := con fs) ((mp.kmap_sorted _).2 h) n
  rw [con_without]
  have : get (con fs) n = some s := by
    rw [← get_k, mp.kmap_get, mp.kget_of_mem h hm]
    rfl
  rw [this] at h1
  exact h1
theorem used_con_le {fs : List FV} (h : KSorted fs) {n s : Bs} {r : Value} (hm : (n, (s, r)) ∈ fs) : s.length ≤ used (con fs) := by have := used_take_one h hm; omega

set_option maxHeartbeats 1000000 in
set_option maxRecDepth 100000 in
theorem sum_any (F : Nat → Prop) (b : Nat) (l : List File) (hu : used l ≤ 1048576) (w : World) (h : FM w F b l) :
    Calls Tryd.prog 35 #[.map (some b)] w fun e w' => e = .returned (.int .i64 (used l : Nat)) ∧ Below w.heap.size w w' := by
  obtain ⟨fs, h1, rfl, hF⟩ := h
  obtain ⟨w0, hr, hG, hB, hz⟩ := h1.map.range und_f
  have H1 := Lib.hid h1
  have HB0 := Lib.hid hB
  have HG0 := Lib.hid hG
  have HU := Lib.hid hu
  clear hB hG hz h1 hF hu
  go_enter Tryd.func35, Tryd.ntmps35
  go_wp2_with fail
  go_loopw [3] (fun v wr => ∃ (fr : List FV) (m : Nat), v = .int .i64 m ∧ Hid (fr.Sublist fs ∧ Ranging wr b w.heap.size (vals fs) (vals fr) ∧ m + used (con fr) = used (con fs) ∧ Below w.heap.size w wr))
    (fun _ wr => wr.rangeLeft b w.heap.size)
  case atStart => exact ⟨fs, 0, rfl, List.Sublist.refl _, HG0.out, by simp, HB0.out⟩
  case round =>
    obtain ⟨fr, m, rfl, HI⟩ := hrel
    rcases HI.out.2.1.next 0 with ⟨e1, hrun⟩ | ⟨n, v, w1, hm, hn, hrun, hG1, hT, hlt, hen⟩
    · have hfr : fr = [] := by cases fr with | nil => rfl | cons _ _ => cases e1
      subst hfr
      have HE : Hid (m = used (con fs) ∧ Below w.heap.size w wr) := ⟨by have := HI.out.2.2.1; simpa [used] using this, HI.out.2.2.2⟩
      clear HI e1
      go_wp2_with fail
      go_ret
      rw [HE.out.1]
      exact ⟨rfl, HE.out.2⟩
    · obtain ⟨s, r, hm2, rfl⟩ := vals_mem hm
      have hsf := HI.out.1
      have hso : KSorted fr := List.Pairwise.sublist hsf H1.out.sorted
      have hrow := H1.out.own _ (hsf.subset hm2)
      obtain ⟨a, c, e, _⟩ := hrow.form
      simp only at e
      subst e
      have ht := used_take_one hso hm2
      have hU := HU.out
      have hsum := HI.out.2.2.1
      have b1 : Below w.heap.size wr w1 := ⟨hT.os, hT.tape, hT.output, Nat.le_of_eq hT.size.symm, fun k hk => hT.block k (by omega)⟩
      have b2 := below_box w1 (.cells #[.slice (some a) s.length c] 77)
      have bb2 : Below w.heap.size wr (w1.alloc (.cells #[.slice (some a) s.length c] 77)) := b1.trans (b2.mono (by have := HI.out.2.2.2.size; rw [hT.size]; exact this))
      have HN : Hid ((kwithout fr n).Sublist fs ∧ Ranging (w1.alloc (.cells #[.slice (some a) s.length c] 77)) b w.heap.size (vals fs) (vals (kwithout fr n)) ∧ (m + s.length) + used (con (kwithout fr n)) = used (con fs) ∧ Below w.heap.size w (w1.alloc (.cells #[.slice (some a) s.length c] 77)) ∧
          (w1.alloc (.cells #[.slice (some a) s.length c] 77)).rangeLeft b w.heap.size < wr.rangeLeft b w.heap.size) := by
        refine ⟨List.Sublist.trans List.filter_sublist hsf, ?_, by omega, HI.out.2.2.2.trans bb2, ?_⟩
        · rw [← vals_without]
          exact hG1.of (b2.block _ hG1.mp.lt) (b2.block _ hG1.lt)
        · rw [mp.left_of (b2.block _ hG1.mp.lt) (b2.block _ hG1.lt)]
          exact hlt
      have hw : IntKind.i64.wrap ((m : Int) + (s.length : Int)) = ((m + s.length : Nat) : Int) := by
        rw [IntWalk.i64_in _ (by omega)]; omega
      obtain ⟨ms, hms⟩ : ∃ ms, m + s.length = ms := ⟨_, rfl⟩
      rw [hms] at hw HN
      clear HI hm hm2 hn hG1 hT hlt hsf hso hrow ht hU hsum b1 b2 bb2 hms
      generalize s.length = L at *
      go_wp2_with fail
      go_roundw
      case rel => exact ⟨kwithout fr n, ms, rfl, HN.out.1, HN.out.2.1, HN.out.2.2.1, HN.out.2.2.2.1⟩
      case measure => exact HN.out.2.2.2.2
end Go.Proofs.YtpimdbnhpbjlkaaDoor.dk
/-! DkPA -/
namespace Go.Proofs.YtpimdbnhpbjlkaaDoor.dk
set_option linter.unusedVariables false
open Go.RowKit
open fl (S S_size S_append S_inj str_eq str_ne)
open rw (Arr But Row Own bnext below_box below_drew below_drewN addr_add Fr RowB)
open mp (Mp Turned kget kput kwithout kmap KSorted Ranging)

theorem clone_row (v : Value) (s : Bs) (w : World) (h : RowB w v s) (hlen : s.length ≤ 140737488355328) :
    ∃ v' w', (Builtin.append_ #[75, 75] 75 #[.slice (some ⟨w.heap.size, 0, none⟩) 0 0, v]).run Tryd.prog (w.alloc (.cells #[] 5)) = .ok v' w' ∧ RowB w' v' s ∧ Below w.heap.size w w' ∧ ∃ q, v'.ownBlock = some q ∧ w.heap.size ≤ q := by
  obtain ⟨i0, hi, hz0, hz1, hz2⟩ := info_parts rw.info8
  have b0 := below_box w (.cells #[] 5)
  have ho : (w.alloc (.cells #[] 5)).ownsRow w.heap.size 5 1 (.slice (some ⟨w.heap.size, 0, none⟩) 0 0) 0 [] := World.ownsRow_made (base := w.heap.size) (e := 5) (size := 1) w #[] 0 (Nat.le_refl _) (by unfold maxLen; omega) (by simp)
  have h1 : RowB (w.alloc (.cells #[] 5)) v s := h.of fun q hq => by
    obtain ⟨g, e, hlt, _⟩ := h.at
    rw [hq] at e
    cases e
    exact b0.block q hlt
  obtain ⟨g, cap, rfl, hc⟩ := h1.cell
  obtain ⟨v', w', g1, g2, g3, g4, g5⟩ := run_append_own_at (P := Tryd.prog) (w.alloc (.cells #[] 5)) w.heap.size 75 75 5 i0 (.int .u8 0) 1 1 Tryd.underlying75 hi hz0 hz1 hz2 rfl (by decide) _ 0 [] ho ⟨g, 0, none⟩ s.length cap (rw.byt s) (by rw [rw.byt_length]; omega)
    (fun j u hj => by
      have hjl : j < s.length := by have := (List.getElem?_eq_some_iff.1 hj).1; rwa [rw.byt_length] at this
      rw [addr_add, Nat.zero_add, hc j hjl, ← hj]
      simp [rw.byt, hjl]) (rw.byt_one s) (by unfold maxLen; omega) (by omega) b0.size
  rw [Nat.zero_add, List.nil_append] at g2
  have hne : v' ≠ .slice none 0 0 := fun e => by
    have := (g4.1 e).1
    cases this
  have hB : Below w.heap.size w w' := b0.trans ⟨g3.os, g3.tape, g3.output, g3.size, fun k hk => g3.block k (Nat.lt_of_lt_of_le hk b0.size) fun e => by
    have e2 : w.heap.size = k := by simpa [Value.ownBlock] using e.symm
    omega⟩
  refine ⟨v', w', g1, RowB.of_own g2 hne, hB, ?_⟩
  rcases g5 with e | e
  · exact ⟨_, e, Nat.le_refl _⟩
  · exact ⟨_, e, b0.size⟩
set_option maxHeartbeats 1000000 in
set_option maxRecDepth 100000 in
theorem cloneB_any (v : Value) (s : Bs) (hlen : s.length ≤ 140737488355328) (w : World) (h : RowB w v s) :
    Calls Tryd.prog 56 #[v] w fun e w' => ∃ v', e = .returned v' ∧ RowB w' v' s ∧ Below w.heap.size w w' ∧ ∃ q, v'.ownBlock = some q ∧ w.heap.size ≤ q := by
  obtain ⟨v', w1, ha, hr, hb, q, hq, hle⟩ := clone_row v s w h hlen
  obtain ⟨a, c, rfl, _⟩ := h.form
  have HX : Hid (RowB w1 v' s ∧ Below w.heap.size w w1 ∧ ∃ q, v'.ownBlock = some q ∧ w.heap.size ≤ q) := ⟨hr, hb, q, hq, hle⟩
  obtain ⟨a', c', rfl, _⟩ := hr.form
  generalize s.length = L at *
  clear hr hb hq hle h hlen
  have heq := run_eql_slice_nil (P := Tryd.prog) w 75 5 (some a) L c Tryd.underlying75
  go_enter Tryd.func56, Tryd.ntmps56
  go_wp2_with (first | (refine rw.wpList_append_at _ _ _ rfl rfl _ _ _ _ rfl rfl ha ?_) | fail)
  go_ret
  exact ⟨_, rfl, HX.out⟩
theorem FMs.below' {w w' : World} {b : Nat} {fs : List FV} (h : FMs w b fs) (k : Below w.heap.size w w') : FMs w' b fs :=
  h.of fun i hi => k.block i (FM.lt (F := foot b fs) (l := con fs) ⟨fs, h, rfl, fun _ => Iff.rfl⟩ hi)
/-- Files that are made anew. -/
def FNew (w : World) (w' : World) (b : Nat) (l : List File) : Prop := ∃ F', FM w' F' b l ∧ ∀ k, F' k → w.heap.size ≤ k
theorem con_nil : con [] = [] := rfl

/-- A copy under way: what was gone over stands in the new map. -/
structure Copy (w wr : World) (b b2 r : Nat) (fs fr f2 : List FV) : Prop where
  sub : fr.Sublist fs
  go : Ranging wr b r (vals fs) (vals fr)
  new : FMs wr b2 f2
  ftt : ∀ k, foot b2 f2 k → w.heap.size ≤ k
  cnn : ∀ n, kget (con f2) n = if (kget fr n).isSome then none else kget (con fs) n
  len : f2.length + fr.length ≤ fs.length
  below : Below w.heap.size w wr
  ge : w.heap.size ≤ r ∧ w.heap.size ≤ b2 ∧ b2 ≠ r ∧ b < w.heap.size
theorem sorted_ext {l m : List File} (hl : Sorted l) (hm : Sorted m) (h : ∀ n, get l n = get m n) : l = m := by
  induction l generalizing m with
  | nil =>
    cases m with
    | nil => rfl
    | cons x t =>
      have := h x.1
      rw [get_of_mem hm (show (x.1, x.2) ∈ x :: t from List.mem_cons_self)] at this
      cases this
  | cons x l ih =>
    obtain ⟨hx, hl'⟩ := List.pairwise_cons.1 hl
    cases m with
    | nil =>
      have := h x.1
      rw [get_of_mem hl (show (x.1, x.2) ∈ x :: l from List.mem_cons_self)] at this
      cases this
    | cons y m =>
      obtain ⟨hy, hm'⟩ := List.pairwise_cons.1 hm
      have hxy : x.1 = y.1 := by
        have h1 := h x.1
        rw [get_of_mem hl (show (x.1, x.2) ∈ x :: l from List.mem_cons_self)] at h1
        have h1 := get_some h1.symm
        have h2 := h y.1
        rw [get_of_mem hm (show (y.1, y.2) ∈ y :: m from List.mem_cons_self)] at h2
        have h2 := get_some h2
        rcases List.mem_cons.1 h1 with e | h1
        · rw [← e]
        · rcases List.mem_cons.1 h2 with e | h2
          · rw [← e]
          · have a1 := hy _ h1
            have a2 := hx _ h2
            exact absurd (lt_tr a1 a2) (lt_irr _)
      have he : x = y := by
        have h1 := h x.1
        rw [get_of_mem hl (show (x.1, x.2) ∈ x :: l from List.mem_cons_self), hxy, get_of_mem hm (show (y.1, y.2) ∈ y :: m from List.mem_cons_self)] at h1
        exact Prod.ext hxy (Option.some.inj h1)
      subst he
      congr 1
      refine ih hl' hm' fun n => ?_
      by_cases e : x.1 = n
      · have h1 : get l n = none := get_eq_none fun f hf e2 => by have := hx f hf; rw [e, e2] at this; exact lt_irr _ this
        have h2 : get m n = none := get_eq_none fun f hf e2 => by have := hy f hf; rw [e, e2] at this; exact lt_irr _ this
        rw [h1, h2]
      · have h1 := h n
        unfold get at h1 ⊢
        rw [List.find?_cons, List.find?_cons] at h1
        simpa [e] using h1
theorem kget_without' {β : Type} (l : List (Bs × β)) (n m : Bs) : kget (kwithout l n) m = if m = n then none else kget l m := by
  split
  · next h => subst h; exact mp.kget_eq_none fun f hf => (mp.mem_kwithout.1 hf).2
  · next h =>
    unfold mp.kget mp.kwithout
    rw [List.find?_filter]
    congr 2
    funext f
    by_cases h2 : f.1 = m
    · subst h2; simp [h]
    · simp [h2]
theorem kwithout_less {β : Type} {l : List (Bs × β)} {n : Bs} {v : β} (h : (n, v) ∈ l) : (kwithout l n).length < l.length := by
  unfold mp.kwithout
  rw [List.length_filter_lt_length_iff_exists]
  exact ⟨_, h, by simp⟩
theorem Copy.step {w wr w1 wx : World} {b b2 r : Nat} {fs fr f2 : List FV} (h : Copy w wr b b2 r fs fr f2) {n s : Bs} {v : Value} {a : Value} (hm : (n, (s, v)) ∈ fr) (hn : n.length ≤ maxLen) (hs0 : KSorted fs)
    (hG1 : Ranging w1 b r (vals fs) (kwithout (vals fr) n)) (hT : Turned r wr w1) (k : Below w1.heap.size w1 wx) (ha : RowB wx a s) (hq : ∃ q, a.ownBlock = some q ∧ w1.heap.size ≤ q) (hl : f2.length < maxLen) :
    ∃ w2, (Instr.mapUpdate tf (.map (some b2)) (.string (S n)) (.agg #[a])).run Tryd.prog wx = .ok () w2 ∧ Copy w w2 b b2 r fs (kwithout fr n) (kput f2 (n, (s, a))) ∧ w2.rangeLeft b r = w1.rangeLeft b r := by
  obtain ⟨g2, hg2, h3, hbw⟩ := h.ge
  have b1 : Below r wr w1 := ⟨hT.os, hT.tape, hT.output, Nat.le_of_eq hT.size.symm, fun i hi => hT.block i (by omega)⟩
  have hb2r : ∀ i, foot b2 f2 i → i ≠ r := by
    rintro i (e | ⟨f, hf, e⟩) e2
    · omega
    · obtain ⟨g, e3, _, cur, fr', hh⟩ := (h.new.own f hf).at
      obtain ⟨x1, x2, x3, x4, hit⟩ := h.go.iter
      rw [e] at e3
      cases e3
      rw [e2, hit] at hh
      cases hh
  have hlt2 : ∀ i, foot b2 f2 i → i < wr.heap.size := by
    intro i hi
    exact FM.lt (F := foot b2 f2) (l := con f2) ⟨f2, h.new, rfl, fun _ => Iff.rfl⟩ hi
  have n1 : FMs w1 b2 f2 := h.new.of fun i hi => hT.block i (hb2r i hi)
  have n2 : FMs wx b2 f2 := n1.of fun i hi => k.block i (by rw [hT.size]; exact hlt2 i hi)
  have hlen : (vals f2).length < maxLen := by rw [mp.kmap_length]; exact hl
  obtain ⟨w2, hup, hm2, ht⟩ := n2.map.store und_f n hn hlen (.agg #[a])
  obtain ⟨q, hqo, hqs⟩ := hq
  obtain ⟨gq, eq1, hql, cur, frz, hqh⟩ := ha.at
  rw [hqo] at eq1
  cases eq1
  have hqb : q ≠ b2 := by have := hlt2 b2 (.inl rfl); rw [hT.size] at hqs; omega
  have hF2 := n2.put (w' := w2) (n := n) (s := s) (v := a) hm2 (ha.of fun i hi => ht.block i (by rw [hqo] at hi; cases hi; exact hqb)) hn
    (fun f hf hne i hi => ht.block i (n2.row_ne hf hi))
    (fun f hf hne i hi e => by
      rw [hqo] at e
      cases e
      have := hlt2 _ (.inr ⟨f, hf, hi⟩)
      rw [hT.size] at hqs
      omega)
  have hbb : b ≠ b2 := by omega
  refine ⟨w2, hup, ⟨List.Sublist.trans List.filter_sublist h.sub, ?_, hF2, fun i hi => ?_, fun m => ?_, ?_, ?_, h.ge⟩, ?_⟩
  · rw [← vals_without]
    exact (hG1.of (k.block _ hG1.mp.lt) (k.block _ hG1.lt)).of (ht.block _ hbb) (ht.block _ (fun e => h3 e.symm))
  · rcases foot_put hi with hi | hi
    · exact h.ftt i hi
    · rw [hqo] at hi
      cases hi
      have := h.below.size
      rw [hT.size] at hqs
      omega
  · rw [con_put, get_k]
    have hsf2 : Sorted (con f2) := (mp.kmap_sorted _).2 h.new.sorted
    by_cases e : m = n
    · subst e
      rw [get_put_same hsf2, kget_without']
      simp only [if_true, Option.isSome_none]
      have : kget (con fs) m = some s := by rw [mp.kmap_get, mp.kget_of_mem hs0 (h.sub.subset hm)]; rfl
      rw [this]
      rfl
    · rw [get_put_other hsf2 s e, ← get_k, h.cnn m, kget_without', if_neg e]
  · have x1 := h.len
    have x2 := kwithout_less hm
    have x3 := mp.kput_length f2 (n, (s, a))
    omega
  · have hw1 : w.heap.size ≤ w1.heap.size := by rw [hT.size]; exact h.below.size
    have hwx : w.heap.size ≤ wx.heap.size := Nat.le_trans hw1 k.size
    have b3 : Below w.heap.size wx w2 := ⟨ht.os, ht.tape, ht.output, Nat.le_of_eq ht.size.symm, fun i hi => ht.block i (by omega)⟩
    exact ((h.below.trans (b1.mono g2)).trans (k.mono hw1)).trans b3
  · rw [mp.left_of (ht.block _ hbb) (ht.block _ (fun e => h3 e.symm)), mp.left_of (k.block _ hG1.mp.lt) (k.block _ hG1.lt)]

theorem Copy.done {w wr : World} {b b2 r : Nat} {fs f2 : List FV} (h : Copy w wr b b2 r fs [] f2) (hs : KSorted fs) : FNew w wr b2 (con fs) := by
  refine ⟨foot b2 f2, ⟨f2, h.new, ?_, fun _ => Iff.rfl⟩, h.ftt⟩
  refine sorted_ext ((mp.kmap_sorted _).2 h.new.sorted) ((mp.kmap_sorted _).2 hs) fun n => ?_
  have h1 := h.cnn n
  rw [show kget ([] : List FV) n = none from rfl] at h1
  exact h1
set_option maxHeartbeats 1000000 in
set_option maxRecDepth 100000 in
theorem ftwin_any (F : Nat → Prop) (b : Nat) (l : List File) (hu : used l ≤ 1048576) (hl : l.length ≤ 1000000) (w : World) (h : FM w F b l) :
    Calls Tryd.prog 34 #[.map (some b)] w fun e w' => ∃ b2, e = .returned (.map (some b2)) ∧ FNew w w' b2 l ∧ Below w.heap.size w w' := by
  obtain ⟨fs, h1, rfl, hF⟩ := h
  obtain ⟨W0, hW0⟩ : ∃ W0, w.alloc (.map #[] 0) = W0 := ⟨_, rfl⟩
  have b0 : Below w.heap.size w W0 := hW0 ▸ below_box w _
  have z0 : W0.heap.size = w.heap.size + 1 := by rw [← hW0]; simp
  have m0 : Mp W0 w.heap.size [] := hW0 ▸ Mp.made w
  obtain ⟨w0, hr, hG, hB, hz⟩ := (h1.below' b0).map.range und_f
  rw [z0] at hr hG
  have C0 : Hid (Copy w w0 b w.heap.size (w.heap.size + 1) fs fs []) := by
    refine ⟨List.Sublist.refl _, hG, ⟨m0.of (hB.block _ (by omega)), fun f hf => (by cases hf), fun f hf => (by cases hf), fun f hf => (by cases hf)⟩, ?_, fun n => ?_, Nat.le_of_eq (Nat.zero_add _), b0.trans (hB.mono (by omega)), by omega, Nat.le_refl _, by omega, h1.map.lt⟩
    · rintro k (e | ⟨f, hf, _⟩)
      · omega
      · cases hf
    · show none = _
      rw [mp.kmap_get]
      cases kget fs n <;> rfl
  have hmm := @run_makeMap Tryd.prog
  have HX : Hid (FMs w b fs ∧ used (con fs) ≤ 1048576 ∧ (con fs).length ≤ 1000000) := ⟨h1, hu, hl⟩
  clear hB hG hz h1 hF hu hl b0 z0 m0
  go_enter Tryd.func34, Tryd.ntmps34
  go_wp2_with fail
  go_loopw [] (fun wr => ∃ fr f2 : List FV, Hid (Copy w wr b w.heap.size (w.heap.size + 1) fs fr f2))
    (fun wr => wr.rangeLeft b (w.heap.size + 1))
  case atStart => exact ⟨fs, [], C0.out⟩
  case round =>
    obtain ⟨fr, f2, HI⟩ := hrel
    rcases HI.out.go.next 0 with ⟨e1, hrun⟩ | ⟨n, v, w1, hm, hn, hrun, hG1, hT, hlt, hen⟩
    · have hfr : fr = [] := by cases fr with | nil => rfl | cons _ _ => cases e1
      subst hfr
      have HE : Hid (FNew w wr w.heap.size (con fs) ∧ Below w.heap.size w wr) := ⟨HI.out.done HX.out.1.sorted, HI.out.below⟩
      clear HI e1
      go_wp2_with fail
      go_ret
      exact ⟨_, rfl, HE.out⟩
    · obtain ⟨s, r, hm2, rfl⟩ := vals_mem hm
      have hrow := HX.out.1.own _ (HI.out.sub.subset hm2)
      have hcs : s.length ≤ used (con fs) := used_con_le HX.out.1.sorted (HI.out.sub.subset hm2)
      obtain ⟨a, c, e, _⟩ := hrow.form
      simp only at e
      subst e
      have b1 : Below (w.heap.size + 1) wr w1 := ⟨hT.os, hT.tape, hT.output, Nat.le_of_eq hT.size.symm, fun k hk => hT.block k (by omega)⟩
      obtain ⟨w2, hw2⟩ : ∃ w2, w1.alloc (.cells #[.slice (some a) s.length c] 77) = w2 := ⟨_, rfl⟩
      have b2 : Below w1.heap.size w1 w2 := hw2 ▸ below_box w1 _
      have hwl : w.heap.size ≤ w1.heap.size := by rw [hT.size]; exact HI.out.below.size
      have hro : RowB w2 (.slice (some a) s.length c) s := hrow.of fun q hq => by
        obtain ⟨g, e, hlt, _⟩ := hrow.at
        rw [hq] at e
        cases e
        rw [b2.block q (by omega), hT.block q (by omega)]
        exact HI.out.below.block q hlt
      have hC := cloneB_any _ s (by have := HX.out.2.1; omega) w2 hro
      have HS : Hid (∀ v' w3, RowB w3 v' s → Below w2.heap.size w2 w3 → (∃ q, v'.ownBlock = some q ∧ w2.heap.size ≤ q) → ∃ w4, (Instr.mapUpdate tf (.map (some w.heap.size)) (.string (S n)) (.agg #[v'])).run Tryd.prog w3 = .ok () w4 ∧
          Hid (Copy w w4 b w.heap.size (w.heap.size + 1) fs (kwithout fr n) (kput f2 (n, (s, v'))) ∧ w4.rangeLeft b (w.heap.size + 1) < wr.rangeLeft b (w.heap.size + 1))) := by
        intro v' w3 h1 h2 ⟨q, h3, h4⟩
        obtain ⟨w4, x1, x2, x3⟩ := HI.out.step hm2 hn HX.out.1.sorted hG1 hT (b2.trans (h2.mono b2.size)) h1 ⟨q, h3, Nat.le_trans b2.size h4⟩ (by
          have := HI.out.len
          have h5 := HX.out.2.2
          rw [mp.kmap_length] at h5
          unfold maxLen; omega)
        exact ⟨w4, x1, x2, by rw [x3]; exact hlt⟩
      clear HI hm hm2 hn hG1 hT hlt hrow hcs b1 b2 hwl hro
      generalize s.length = L at *
      have c0 : w2.cell? ⟨w1.heap.size, 0, none⟩ = some (.slice (some a) L c) := by rw [← hw2]; exact (Arr.new w1 _ _).cell rfl
      go_upto_region 5 with (fail)
      clear hw2 hrun hen
      go_wp2_with fail
      refine hC.mono ?_
      rintro e w3 ⟨v', rfl, r3, b3, q3⟩
      obtain ⟨w4, hup, HC4⟩ := HS.out v' w3 r3 b3 q3
      obtain ⟨a3, c3, rfl, _⟩ := r3.form
      generalize s.length = L3 at *
      clear hC HS r3 b3 q3 c0
      go_wp2_with (first | (refine wpList_update_at _ _ _ _ rfl rfl _ _ _ _ rfl rfl rfl hup ?_) | fail)
      go_frame
      go_roundw
      case rel => exact ⟨_, _, HC4.out.1⟩
      case measure => exact HC4.out.2
end Go.Proofs.YtpimdbnhpbjlkaaDoor.dk
/-! DkPB -/
namespace Go.Proofs.YtpimdbnhpbjlkaaDoor.dk
set_option linter.unusedVariables false
open Go.RowKit Go.Sort
open fl (S S_size S_append S_inj str_eq str_ne)
open rw (Arr But Row Own bnext below_box below_drew below_drewN addr_add Fr RowB)
open mp (Mp Turned kget kput kwithout kmap KSorted Ranging)

theorem own_of {α : Type} (s : rw.Sh α) {w w' : World} {B : Nat} {v : Value} {l : List α} (h : Own s w B v l) (hb : ∀ q, v.ownBlock = some q → w'.heap[q]? = w.heap[q]?) : Own s w' B v l := by
  obtain ⟨h1, h2 | ⟨g, cap, cur, h3, h4, h5, h6⟩⟩ := h
  · exact ⟨h1, .inl h2⟩
  · exact ⟨h1, .inr ⟨g, cap, cur, h3, h4, (hb g (by rw [h3]; rfl)).trans h5, h6⟩⟩
theorem own_ge {α : Type} (s : rw.Sh α) {w : World} {B : Nat} {v : Value} {l : List α} (h : Own s w B v l) {q : Nat} (hq : v.ownBlock = some q) : B ≤ q ∧ q < w.heap.size := by
  obtain ⟨h1, ⟨e, _⟩ | ⟨g, cap, cur, h3, h4, h5, h6⟩⟩ := h
  · rw [e] at hq; cases hq
  · rw [h3] at hq
    cases hq
    exact ⟨h4, (Array.getElem?_eq_some_iff.1 h5).1⟩
theorem own_base {α : Type} (s : rw.Sh α) {w : World} {B B' : Nat} {v : Value} {l : List α} (h : Own s w B v l) (hB : B' ≤ B) : Own s w B' v l := by
  obtain ⟨h1, h2 | ⟨g, cap, cur, h3, h4, h5, h6⟩⟩ := h
  · exact ⟨h1, .inl h2⟩
  · exact ⟨h1, .inr ⟨g, cap, cur, h3, by omega, h5, h6⟩⟩
def strSh : rw.Sh Bs where
  t := 9
  st := 22
  k := 1
  bytes := 16
  z := .string ⟨#[]⟩
  enc := fun s => [.string (S s)]
  hu := Tryd.underlying22
  hi := by kernel_rfl
  hz := by rfl
  hk := by decide
  hb := by decide
  len := fun _ => rfl
  one := fun x u hu => by
    simp only [List.mem_cons, List.not_mem_nil, or_false] at hu
    rcases hu with rfl; rfl
theorem cells_str (l : List Bs) : rw.cellsG strSh l = l.map encStr := by
  unfold rw.cellsG
  induction l with
  | nil => rfl
  | cons x r ih => rw [List.flatMap_cons, ih]; rfl
theorem perm_without {fs : List FV} (h : KSorted fs) {n : Bs} {x : Bs × Value} (hm : (n, x) ∈ fs) : (n :: (kwithout fs n).map (·.1)).Perm (fs.map (·.1)) := by
  induction fs with
  | nil => cases hm
  | cons y r ih =>
    obtain ⟨hy, hr⟩ := List.pairwise_cons.1 h
    by_cases e : y.1 = n
    · have hall : ∀ f ∈ r, f.1 ≠ n := fun f hf e2 => by
        have := hy f hf
        rw [e, e2] at this
        exact mp.klt_irr _ this
      have hw : kwithout r n = r := by
        unfold mp.kwithout
        rw [List.filter_eq_self]
        intro f hf
        simpa using hall f hf
      have h1 : kwithout (y :: r) n = r := by unfold mp.kwithout at hw ⊢; rw [List.filter_cons]; simpa [e] using hw
      rw [h1, List.map_cons, e]
    · have h1 : kwithout (y :: r) n = y :: kwithout r n := by unfold mp.kwithout; rw [List.filter_cons]; simp [e]
      rcases List.mem_cons.1 hm with e2 | hm
      · rw [← e2] at e; exact absurd rfl e
      · rw [h1, List.map_cons, List.map_cons]
        exact (List.Perm.swap _ _ _).trans ((ih hr hm).cons _)
theorem names_sorted {l : List File} (h : Sorted l) {ss : List Bs} (hp : ss.Perm (l.map (·.1))) : (ss.mergeSort fun x y => decide (x ≤ y)) = l.map (·.1) := by
  have e := mergeSort_of_perm hp
  show ss.mergeSort leB = _
  rw [e]
  refine List.mergeSort_of_pairwise ?_
  refine List.pairwise_map.2 (h.imp fun {a b} hab => ?_)
  simp only [decide_eq_true_eq]
  exact List.le_of_lt hab

set_option maxHeartbeats 1000000 in
set_option maxRecDepth 100000 in
theorem names_any (F : Nat → Prop) (p : Nat) (d : Dk) (hl : d.seen.length ≤ 1000000) (hu : ∀ f ∈ d.seen, f.1.length ≤ 80) (w : World) (h : PD w F p d) :
    Calls Tryd.prog 52 #[.pointer (some ⟨p, 0, none⟩)] w fun e w' => ∃ v, e = .returned v ∧ Own strSh w' w.heap.size v (d.seen.map (·.1)) ∧ Below w.heap.size w w' := by
  obtain ⟨bs, bl, Fs, Fl, pv, tts, fz, h1, _, hf, hF⟩ := h
  have c1 := h1.cell (j := 1) (v := .map (some bs)) rfl
  obtain ⟨fs, g1, g2, g3⟩ := h1.s
  obtain ⟨w0, hr, hG, hB, hz⟩ := g1.map.range und_f
  have HX : Hid (FMs w bs fs ∧ con fs = d.seen ∧ d.seen.length ≤ 1000000 ∧ (∀ f ∈ d.seen, f.1.length ≤ 80)) := ⟨g1, g2, hl, hu⟩
  have H0 : Hid (Ranging w0 bs w.heap.size (vals fs) (vals fs) ∧ Below w.heap.size w w0 ∧ w0.heap.size = w.heap.size + 1) := ⟨hG, hB, hz⟩
  clear hB hG hz g1 g2 g3 h1 hf hF hu hl
  go_enter Tryd.func52, Tryd.ntmps52
  go_wp2_with fail
  go_loopw [3] (fun v wr => ∃ (fr : List FV) (ss : List Bs), Hid (fr.Sublist fs ∧ Ranging wr bs w.heap.size (vals fs) (vals fr) ∧ Own strSh wr (w.heap.size + 1) v ss ∧ (ss ++ fr.map (·.1)).Perm (fs.map (·.1)) ∧ Below w.heap.size w wr ∧ w.heap.size + 1 ≤ wr.heap.size))
    (fun _ wr => wr.rangeLeft bs w.heap.size)
  case atStart => exact ⟨fs, [], List.Sublist.refl _, H0.out.1, rw.Own.nil strSh _ _, List.Perm.refl _, H0.out.2.1, by have := H0.out.2.2; omega⟩
  case round =>
    obtain ⟨fr, ss, HI⟩ := hrel
    rcases HI.out.2.1.next 0 with ⟨e1, hrun⟩ | ⟨n, v, w1, hm, hn, hrun, hG1, hT, hlt, hen⟩
    · have hfr : fr = [] := by cases fr with | nil => rfl | cons _ _ => cases e1
      subst hfr
      have hperm : ss.Perm (d.seen.map (·.1)) := by
        have h1 := HI.out.2.2.2.1
        rw [List.map_nil, List.append_nil] at h1
        rw [← HX.out.2.1]
        unfold con
        rw [List.map_map]
        exact h1
      have hso : Sorted d.seen := by rw [← HX.out.2.1]; exact (mp.kmap_sorted _).2 HX.out.1.sorted
      have hms := names_sorted hso hperm
      have hlen := hperm.length_eq
      rw [List.length_map] at hlen
      have how := HI.out.2.2.1
      have hB := HI.out.2.2.2.2.1
      rcases how.2 with ⟨hnil, h0⟩ | ⟨g, cap, cur, hv, hge, hb, hn1, hn2, hn3, htk⟩
      · have : ss = [] := List.length_eq_zero_iff.1 h0
        subst this
        have hno : d.seen.map (·.1) = [] := List.length_eq_zero_iff.1 (by rw [List.length_map]; simpa using hlen.symm)
        have hst := Tryd.slices_Sort_string_none none 0 wr
        have HE : Hid (Own strSh wr w.heap.size (.slice none 0 0) (d.seen.map (·.1)) ∧ Below w.heap.size w wr) := ⟨by rw [hno]; exact rw.Own.nil strSh _ _, hB⟩
        subst hnil
        clear HI e1 hperm hms hlen how hB hno h0
        go_wp2_with fail
        refine hst.mono ?_
        rintro e w2 ⟨rfl, rfl⟩
        clear hst
        go_wp2_with fail
        go_ret
        exact ⟨_, rfl, HE.out⟩
      · rw [cells_str] at htk
        have hst := Tryd.slices_Sort_string g 0 cap ss wr (holds_of_block hb (by simpa [strSh] using htk)) (Array.getElem?_eq_some_iff.1 hb).1 (by have := HX.out.2.2.1; omega)
        have HE : Hid (∀ n os, Own strSh (grow (putRow encStr (Sort.ahead wr n) g 0 (ss.mergeSort fun x y => decide (x ≤ y)).toArray) os) w.heap.size (.slice (some ⟨g, 0, none⟩) ss.length cap) (d.seen.map (·.1)) ∧ Below w.heap.size w (grow (putRow encStr (Sort.ahead wr n) g 0 (ss.mergeSort fun x y => decide (x ≤ y)).toArray) os)) := by
          intro n os
          have h1 := ownsRow_sorted (n := n) (os := os) (base := w.heap.size) (ss := ss) (ts := ss.mergeSort fun x y => decide (x ≤ y)) (by simp) (by omega) hb hn1 hn2 (by simpa [strSh] using hn3)
          have h2 : wr.grownBy (grow (putRow encStr (Sort.ahead wr n) g 0 (ss.mergeSort fun x y => decide (x ≤ y)).toArray) os) (some g) := grownBy_sorted _
          refine ⟨?_, hB.trans ⟨h2.os, h2.tape, h2.output, h2.size, fun k hk => h2.block k (Nat.lt_of_lt_of_le hk hB.size) fun e => by cases e; omega⟩⟩
          show World.ownsRow _ _ _ _ _ _ _
          rw [cells_str, List.length_map, ← hlen]
          rw [hms] at h1 ⊢
          exact h1
        subst hv
        clear HI e1 hperm hms hlen how hB hge hb hn1 hn2 hn3 htk hso
        generalize (ss.mergeSort fun x y => decide (x ≤ y)) = ms at *
        go_wp2_with fail
        refine hst.mono ?_
        rintro e w2 ⟨rfl, n, os, rfl⟩
        have HE2 := Lib.hid (HE.out n os)
        clear hst HE
        generalize grow (putRow encStr (Sort.ahead wr n) g 0 ms.toArray) os = w2 at *
        go_wp2_with fail
        go_ret
        exact ⟨_, rfl, HE2.out⟩
    · obtain ⟨s, r, hm2, rfl⟩ := vals_mem hm
      have hsf := HI.out.1
      have hso : KSorted fr := List.Pairwise.sublist hsf HX.out.1.sorted
      have hn80 : n.length ≤ 80 := HX.out.2.2.2 (n, s) (by rw [← HX.out.2.1]; exact List.mem_map.2 ⟨_, hsf.subset hm2, rfl⟩)
      have hC := clone_any n w1 (by omega)
      obtain ⟨a, m, c, hv⟩ : ∃ a m c, u3 = .slice a m c := by obtain ⟨a, c, e⟩ := HI.out.2.2.1.form; exact ⟨a, _, c, e⟩
      have hlen : ss.length < 34359738368 := by
        have h1 := HI.out.2.2.2.1.length_eq
        rw [List.length_append, List.length_map, List.length_map] at h1
        have h2 := HX.out.2.2.1
        rw [← HX.out.2.1, mp.kmap_length] at h2
        omega
      have b1 : Below w.heap.size wr w1 := ⟨hT.os, hT.tape, hT.output, Nat.le_of_eq hT.size.symm, fun k hk => hT.block k (by omega)⟩
      have HA : Hid (∀ w2, Below w1.heap.size w1 w2 → ∃ v' w3, rw.App strSh u3 (.slice (some ⟨w2.heap.size, 0, none⟩) 1 1) (w2.alloc (.cells #[.string (S n)] 9)) v' w3 ∧
          Hid ((∃ a m c, v' = .slice a m c) ∧ (kwithout fr n).Sublist fs ∧ Ranging w3 bs w.heap.size (vals fs) (vals (kwithout fr n)) ∧ Own strSh w3 (w.heap.size + 1) v' (ss ++ [n]) ∧ (ss ++ [n] ++ (kwithout fr n).map (·.1)).Perm (fs.map (·.1)) ∧ Below w.heap.size w w3 ∧ w.heap.size + 1 ≤ w3.heap.size ∧ w3.rangeLeft bs w.heap.size < wr.rangeLeft bs w.heap.size)) := by
        intro w2 k
        have hsz : w.heap.size + 1 ≤ wr.heap.size := HI.out.2.2.2.2.2
        have o1 : Own strSh w2 (w.heap.size + 1) u3 ss := own_of strSh HI.out.2.2.1 fun q hq => by
          have := own_ge strSh HI.out.2.2.1 hq
          rw [k.block q (by rw [hT.size]; exact this.2), hT.block q (by omega)]
        have hs2 : w.heap.size + 1 ≤ w2.heap.size := Nat.le_trans hsz (Nat.le_trans (Nat.le_of_eq hT.size.symm) k.size)
        obtain ⟨v', w3, x1, x2, x3⟩ := rw.append_one strSh (w.heap.size + 1) u3 ss n hlen w2 o1 hs2
        refine ⟨v', w3, x1, by obtain ⟨a, c, e⟩ := x2.form; exact ⟨a, _, c, e⟩, List.Sublist.trans List.filter_sublist hsf, ?_, x2, ?_, ?_, Nat.le_trans hs2 x3.size, ?_⟩
        · rw [← vals_without]
          refine (hG1.of (k.block _ hG1.mp.lt) (k.block _ hG1.lt)).of (x3.block _ ?_) (x3.block _ (by omega))
          have := HX.out.1.map.lt
          omega
        · rw [List.append_assoc]
          refine List.Perm.trans (List.Perm.append_left ss ?_) HI.out.2.2.2.1
          exact perm_without hso hm2
        · exact ((HI.out.2.2.2.2.1.trans b1).trans (k.mono (by rw [hT.size]; omega))).trans (x3.mono (by omega))
        · have e1 := x3.block bs (by have := HX.out.1.map.lt; omega)
          have e2 := x3.block w.heap.size (by omega)
          rw [mp.left_of e1 e2, mp.left_of (k.block _ hG1.mp.lt) (k.block _ hG1.lt)]
          exact hlt
      rw [hv] at HA ⊢
      clear HI hm hm2 hn hG1 hT hlt hsf hso hn80 hlen b1 hv
      go_wp2_with fail
      refine hC.mono ?_
      rintro e w2 ⟨rfl, b2⟩
      obtain ⟨v', w3, hap, H3⟩ := HA.out w2 b2
      obtain ⟨a3, m3, c3, rfl⟩ := H3.out.1
      unfold rw.App at hap
      clear hC HA b2
      go_wp2_with (first | (refine rw.wpList_append_at _ _ _ rfl rfl _ _ _ _ rfl rfl hap ?_) | fail)
      go_roundw
      case rel => exact ⟨_, _, H3.out.2.1, H3.out.2.2.1, H3.out.2.2.2.1, H3.out.2.2.2.2.1, H3.out.2.2.2.2.2.1, H3.out.2.2.2.2.2.2.1⟩
      case measure => exact H3.out.2.2.2.2.2.2.2
end Go.Proofs.YtpimdbnhpbjlkaaDoor.dk
/-! DkPC -/
namespace Go.Proofs.YtpimdbnhpbjlkaaDoor.dk
set_option linter.unusedVariables false
open Go.RowKit
open fl (S S_size S_append S_inj str_eq str_ne)
open rw (Arr But Row Own bnext below_box below_drew below_drewN addr_add Fr RowB)
open mp (Mp Turned kget kput kwithout kmap KSorted Ranging)

/-- What is made anew. -/
def PNew (w w' : World) (p : Nat) (d : Dk) : Prop := ∃ F', PD w' F' p d ∧ ∀ k, F' k → w.heap.size ≤ k
theorem FM.made (w : World) : FM (w.alloc (.map #[] 0)) (fun k => k = w.heap.size) w.heap.size [] :=
  ⟨[], ⟨Mp.made w, fun f hf => (by cases hf), fun f hf => (by cases hf), fun f hf => (by cases hf)⟩, rfl, fun k => ⟨fun e => .inl e, fun h => by
    rcases h with e | ⟨f, hf, _⟩
    · exact e
    · cases hf⟩⟩
/-- What New answers. -/
def NewOut (n : Int) (w : World) (e : Ending) (w' : World) : Prop :=
  ((n < 0 ∨ 1048576 < n) ∧ e = .returned (.tuple #[.pointer none, .int .i64 1]) ∧ w' = w) ∨
  (∃ cap : Nat, n = cap ∧ cap ≤ 1048576 ∧ ∃ p, e = .returned (.tuple #[.pointer (some ⟨p, 0, none⟩), .int .i64 0]) ∧ PNew w w' p (fresh cap) ∧ Below w.heap.size w w')
set_option maxHeartbeats 1000000 in
set_option maxRecDepth 100000 in
theorem pnew_any (n : Int) (w : World) :
    Calls Tryd.prog 9 #[.int .i64 n] w fun e w' => NewOut n w e w' := by
  by_cases h : n < 0 ∨ 1048576 < n
  · rcases h with h | h
    · go_enter Tryd.func9, Tryd.ntmps9
      go_wp2_with fail
      go_ret2
      exact .inl ⟨.inl h, rfl, rfl⟩
    · have h0 : ¬ n < 0 := by omega
      have hg : n > 1048576 := h
      go_enter Tryd.func9, Tryd.ntmps9
      go_wp2_with fail
      go_ret2
      exact .inl ⟨.inr h, rfl, rfl⟩
  · obtain ⟨cap, rfl⟩ : ∃ cap : Nat, n = cap := ⟨n.toNat, by omega⟩
    have h0 : ¬ (cap : Int) < 0 := by omega
    have hg : ¬ (cap : Int) > 1048576 := by omega
    have hmm := @run_makeMap Tryd.prog
    have HP : Hid (∃ W, (((w.alloc (.map #[] 0)).alloc (.map #[] 0)).alloc (.cells #[.int .i64 (cap : Nat), .map (some w.heap.size), .int .i64 0, .map (some (w.heap.size + 1)), .slice none 0 0, .int .i64 0, .int .i64 (-1)] 54)) = W ∧ PNew w W (w.heap.size + 2) (fresh cap) ∧ Below w.heap.size w W) := by
      have b1 := below_box w (.map #[] 0)
      have z1 : (w.alloc (.map #[] 0)).heap.size = w.heap.size + 1 := rw.size_1 _ _
      have b2 := below_box (w.alloc (.map #[] 0)) (.map #[] 0)
      have z2 : ((w.alloc (.map #[] 0)).alloc (.map #[] 0)).heap.size = w.heap.size + 2 := by rw [rw.size_1, z1]
      have b3 := below_box ((w.alloc (.map #[] 0)).alloc (.map #[] 0)) (.cells #[.int .i64 (cap : Nat), .map (some w.heap.size), .int .i64 0, .map (some (w.heap.size + 1)), .slice none 0 0, .int .i64 0, .int .i64 (-1)] 54)
      have m1 := ((FM.made w).below b2).below b3
      have m2 := FM.made (w.alloc (.map #[] 0))
      rw [z1] at m2
      have m2 := m2.below b3
      have A := Arr.new ((w.alloc (.map #[] 0)).alloc (.map #[] 0)) 54 #[.int .i64 (cap : Nat), .map (some w.heap.size), .int .i64 0, .map (some (w.heap.size + 1)), .slice none 0 0, .int .i64 0, .int .i64 (-1)]
      rw [z2] at A
      refine ⟨_, rfl, ⟨_, PD.of_pc (d := fresh cap) (fz := -1) (ts := []) (bs := w.heap.size) (bl := w.heap.size + 1) (pv := .slice none 0 0) ⟨A, m1, m2, rw.Own.nil turnSh _ _, fun x hx => (by cases hx), fun k h1 h2 => by omega⟩ rfl rfl (.inr ⟨rfl, by decide, by decide⟩), fun k hk => ?_⟩, (b1.trans (b2.mono (by omega))).trans (b3.mono (by omega))⟩
      rcases hk with hk | hk | hk | hk
      · omega
      · omega
      · omega
      · cases hk
    obtain ⟨W, hW, hP⟩ := HP.out
    have HP2 := Lib.hid hP
    clear hP HP
    go_enter Tryd.func9, Tryd.ntmps9
    go_wp2_with fail
    go_ret2
    exact .inr ⟨cap, rfl, by omega, _, rfl, HP2.out⟩

/-- Another map is what is seen. -/
theorem Pc.seen' {w : World} {p : Nat} {cs : Array Value} {bs bl b2 : Nat} {Fs Fl F2 : Nat → Prop} {seen lasts seen2 : List File} {pv : Value} {ts : List TC} (h : Pc w p cs bs bl Fs Fl seen lasts pv ts) (h2 : FM w F2 b2 seen2) (hd : ∀ k, F2 k → ¬ Fl k) : Pc w p cs b2 bl F2 Fl seen2 lasts pv ts :=
  ⟨h.a, h2, h.l, h.o, h.does, hd⟩
set_option maxHeartbeats 2000000 in
set_option maxRecDepth 100000 in
theorem pcrash_any (F : Nat → Prop) (p : Nat) (d : Dk) (k : Int) (hd : Right d) (hl : d.lasts.length ≤ 100000) (hp : d.pend.length ≤ 100000) (w : World) (h : PD w F p d) :
    Calls Tryd.prog 16 #[.pointer (some ⟨p, 0, none⟩), .int .i64 k] w fun e w' => e = .returned (.int .i64 ((crash d k).1 : Nat)) ∧ Step w F p (crash d k).2 w' := by
  have c5 : w.cell? ⟨p, 5, none⟩ = some (.int .i64 (count d.pend : Nat)) := by
    obtain ⟨bs, bl, Fs, Fl, pv, ts, fz, h1, _⟩ := h
    exact h1.cell rfl
  unfold crash
  by_cases hk : k < 0 ∨ (count d.pend : Int) < k
  · rw [if_pos hk]
    have HS : Hid (Step w F p d w) := Step.same h (Below.refl _ _)
    generalize count d.pend = cp at *
    clear h hd hl hp
    rcases hk with hk | hk
    · go_enter Tryd.func16, Tryd.ntmps16
      go_wp2_with fail
      go_ret
      exact ⟨rfl, HS.out⟩
    · have h0 : ¬ k < 0 := by omega
      have hg : k > (cp : Int) := hk
      go_enter Tryd.func16, Tryd.ntmps16
      go_wp2_with fail
      go_ret
      exact ⟨rfl, HS.out⟩
  rw [if_neg hk]
  obtain ⟨K, rfl⟩ : ∃ K : Nat, k = K := ⟨k.toNat, by omega⟩
  rw [Int.toNat_natCast]
  have hK : K ≤ count d.pend := by omega
  have hS := settle_any F p d K hd hl hp hK w h
  have hroom := again_room d.lasts d.pend K hd.so hd.room
  have hcap := hd.cap
  have hlen := again_length d.lasts d.pend K
  obtain ⟨L, hL⟩ : ∃ L, again d.lasts d.pend K = L := ⟨_, rfl⟩
  rw [hL] at hS hroom hlen ⊢
  have HL : Hid (used L ≤ 1048576 ∧ L.length ≤ 1000000) := ⟨by omega, by omega⟩
  have h0 : ¬ (K : Int) < 0 := by omega
  have hg : ¬ (K : Int) > (count d.pend : Int) := by omega
  have HP := Lib.hid h.own
  clear h hd hl hp hk hroom hcap hlen hL hK
  generalize count d.pend = cp at *
  go_enter Tryd.func16, Tryd.ntmps16
  go_wp2_with fail
  refine hS.mono ?_
  rintro e w1 ⟨rfl, F1, ⟨bs, bl, Fs, Fl, pv, ts, fz, p1, p2, p3, pF⟩, f1, n1⟩
  have c3 := p1.cell (j := 3) (v := .map (some bl)) rfl
  have hT := ftwin_any Fl bl L HL.out.1 HL.out.2 w1 p1.l
  have H1 : Hid (Pc w1 p (dkCells { d with lasts := L, pend := [] } bs bl pv fz) bs bl Fs Fl d.seen L pv ts ∧ ts.map (·.2) = [] ∧ (∀ k, F1 k ↔ fo p Fs Fl pv k) ∧ Fr F w w1 ∧ Nu w F F1) := ⟨p1, p2, pF, f1, n1⟩
  clear hS p1 p2 p3 pF f1 n1 c5
  go_wp2_with fail
  refine hT.mono ?_
  rintro e w2 ⟨b2, rfl, ⟨F2, m2, x2⟩, k2⟩
  have P2 := (H1.out.1.below k2).seen' m2 (fun k hk hl => by have := x2 k hk; have := H1.out.1.l.lt hl; omega)
  have c1 : w2.cell? ⟨p, 1, none⟩ = some (.map (some bs)) := P2.cell rfl
  have f1 := P2.a.frozen 1
  have P3 := P2.set 1 (.map (some b2))
  have q1 : Hid (But p w2 (w2.setCell ⟨p, 1, none⟩ (.map (some b2)))) := (But.refl p w2).set 1 _
  obtain ⟨W3, hW3⟩ : ∃ W3, w2.setCell ⟨p, 1, none⟩ (.map (some b2)) = W3 := ⟨_, rfl⟩
  rw [hW3] at P3 q1
  have c1' : W3.cell? ⟨p, 1, none⟩ = some (.map (some b2)) := P3.cell rfl
  have hU := sum_any F2 b2 L HL.out.1 W3 P3.s
  have H3 : Hid (Pc W3 p ((dkCells { d with lasts := L, pend := [] } bs bl pv fz).setIfInBounds 1 (.map (some b2))) b2 bl F2 Fl L L pv ts ∧ Fr F w W3 ∧ ∀ k, fo p F2 Fl pv k → F k ∨ w.heap.size ≤ k) := by
    have hpF := HP.out
    refine ⟨P3, (H1.out.2.2.2.1.then_below k2).trans (G := fun i => i = p) (Fr.but q1.out rfl) fun i _ e => e ▸ hpF, fun k hk => ?_⟩
    rcases hk with hk | hk | hk | hk
    · exact .inl (hk ▸ hpF)
    · exact .inr (Nat.le_trans H1.out.2.2.2.1.size (x2 k hk))
    · exact H1.out.2.2.2.2 k ((H1.out.2.2.1 k).2 (.inr (.inr (.inl hk))))
    · exact H1.out.2.2.2.2 k ((H1.out.2.2.1 k).2 (.inr (.inr (.inr hk))))
  clear hT m2 x2 k2 P2 P3 q1
  go_upto_region 5 with (fail)
  clear hW3 c1 f1
  go_wp2_with fail
  refine hU.mono ?_
  rintro e w4 ⟨rfl, b4⟩
  have P4 := H3.out.1.below b4
  have c2 : w4.cell? ⟨p, 2, none⟩ = some (.int .i64 (used d.seen : Nat)) := P4.cell rfl
  have f2 := P4.a.frozen 2
  have P5 := P4.set 2 (.int .i64 (used L : Nat))
  have c6 : (w4.setCell ⟨p, 2, none⟩ (.int .i64 (used L : Nat))).cell? ⟨p, 6, none⟩ = some (.int .i64 fz) := P5.cell rfl
  have f6 := P5.a.frozen 6
  have P6 := P5.set 6 (.int .i64 (-1))
  have HS : Hid (Step w F p { d with seen := L, lasts := L, pend := [], fused := false } ((w4.setCell ⟨p, 2, none⟩ (.int .i64 (used L : Nat))).setCell ⟨p, 6, none⟩ (.int .i64 (-1)))) := by
    have k1 := (But.refl p w4).set 2 (.int .i64 (used L : Nat))
    have k2 := (But.refl p (w4.setCell ⟨p, 2, none⟩ (.int .i64 (used L : Nat)))).set 6 (.int .i64 (-1))
    have hpF := HP.out
    refine ⟨_, PD.of_pc (d := { d with seen := L, lasts := L, pend := [], fused := false }) (fz := -1) (bs := b2) (bl := bl) P6 rfl H1.out.2.1 (.inr ⟨rfl, by decide, by decide⟩), ?_, H3.out.2.2⟩
    exact ((H3.out.2.1.then_below b4).trans (G := fun i => i = p) (Fr.but k1 rfl) fun i _ e => e ▸ hpF).trans (G := fun i => i = p) (Fr.but k2 rfl) fun i _ e => e ▸ hpF
  generalize used d.seen = ud at *
  generalize used L = uL at *
  clear hU b4 P4 P5 P6 H1 H3 c1' c3
  go_wp2_with fail
  go_ret
  exact ⟨rfl, HS.out⟩
end Go.Proofs.YtpimdbnhpbjlkaaDoor.dk
/-! DkPD -/
namespace Go.Proofs.YtpimdbnhpbjlkaaDoor.dk
set_option linter.unusedVariables false
open Go.RowKit
open fl (S S_size S_append S_inj str_eq str_ne)
open rw (Arr But Row Own bnext below_box below_drew below_drewN addr_add Fr RowB)
open mp (Mp Turned kget kput kwithout kmap KSorted Ranging)

end Go.Proofs.YtpimdbnhpbjlkaaDoor.dk
/-! DkL1 -/
namespace Go.Proofs.YtpimdbnhpbjlkaaDoor.dk
set_option linter.unusedVariables false
open Go.RowKit
open fl (S S_size S_append S_inj str_eq str_ne)
open rw (Arr But Row Own bnext below_box below_drew below_drewN addr_add Fr RowB)
open mp (Mp Turned kget kput kwithout kmap KSorted Ranging)

/-- Block p is a disk that was made since w0. -/
def Live (w0 w : World) (p : Nat) (d : Dk) : Prop := ∃ F, PD w F p d ∧ (∀ k, F k → w0.heap.size ≤ k) ∧ Below w0.heap.size w0 w
theorem Live.step {w0 w w' : World} {F : Nat → Prop} {p : Nat} {d' : Dk} (hF : ∀ k, F k → w0.heap.size ≤ k) (hB : Below w0.heap.size w0 w) (s : Step w F p d' w') : Live w0 w' p d' := by
  obtain ⟨F', h1, h2, h3⟩ := s
  refine ⟨F', h1, fun k hk => ?_, hB.trans (h2.below hB.size hF)⟩
  rcases h3 k hk with h | h
  · exact hF k h
  · exact Nat.le_trans hB.size h
theorem Live.below {w0 w w' : World} {p : Nat} {d : Dk} (h : Live w0 w p d) (k : Below w.heap.size w w') : Live w0 w' p d := by
  obtain ⟨F, h1, h2, h3⟩ := h
  exact ⟨F, h1.below k, h2, h3.trans (k.mono h3.size)⟩
theorem Live.since {w0 w : World} {p : Nat} {d : Dk} (h : Live w0 w p d) : Below w0.heap.size w0 w := by obtain ⟨F, h1, h2, h3⟩ := h; exact h3
theorem Live.new {w0 w w' : World} {p : Nat} {d : Dk} (hB : Below w0.heap.size w0 w) (h : PNew w w' p d) (k : Below w.heap.size w w') : Live w0 w' p d := by
  obtain ⟨F, h1, h2⟩ := h
  exact ⟨F, h1, fun i hi => Nat.le_trans hB.size (h2 i hi), hB.trans (k.mono hB.size)⟩
theorem lput_any {w0 : World} (p : Nat) (d : Dk) (n s : Bs) (hd : Room d) (hs : s.length ≤ 281474976710656) (w : World) (h : Live w0 w p d) :
    Calls Tryd.prog 19 #[.pointer (some ⟨p, 0, none⟩), .string (S n), .string (S s)] w fun e w' => e = .returned (.int .i64 ((turn d ⟨2, n, s⟩).1 : Nat)) ∧ Live w0 w' p (turn d ⟨2, n, s⟩).2 := by
  obtain ⟨F, h1, h2, h3⟩ := h
  exact (pput_any F p d n s hd hs w h1).mono fun e w' ⟨a, b⟩ => ⟨a, Live.step h2 h3 b⟩
theorem ldrop_any {w0 : World} (p : Nat) (d : Dk) (n : Bs) (hd : Room d) (w : World) (h : Live w0 w p d) :
    Calls Tryd.prog 32 #[.pointer (some ⟨p, 0, none⟩), .string (S n)] w fun e w' => e = .returned (.int .i64 ((turn d ⟨3, n, []⟩).1 : Nat)) ∧ Live w0 w' p (turn d ⟨3, n, []⟩).2 := by
  obtain ⟨F, h1, h2, h3⟩ := h
  exact (pdrop_any F p d n hd w h1).mono fun e w' ⟨a, b⟩ => ⟨a, Live.step h2 h3 b⟩
/-- .. with the bounds that Sync, Crash, Twin, Names ask. -/
structure Rm (d : Dk) : Prop where
  r : Right d
  s : d.seen.length ≤ 1000
  l : d.lasts.length ≤ 1000
  p : d.pend.length ≤ 1000
theorem Rm.room {d : Dk} (h : Rm d) : Room d := ⟨h.r, Nat.le_trans h.s (by decide), Nat.le_trans h.p (by decide)⟩
theorem lsync_any {w0 : World} (p : Nat) (d : Dk) (hd : Rm d) (w : World) (h : Live w0 w p d) :
    Calls Tryd.prog 26 #[.pointer (some ⟨p, 0, none⟩)] w fun e w' => e = .returned (.int .i64 ((sync d).1 : Nat)) ∧ Live w0 w' p (sync d).2 := by
  obtain ⟨F, h1, h2, h3⟩ := h
  exact (psync_any F p d hd.r (Nat.le_trans hd.l (by decide)) (Nat.le_trans hd.p (by decide)) w h1).mono fun e w' ⟨a, b⟩ => ⟨a, Live.step h2 h3 b⟩
theorem lcrash_any {w0 : World} (p : Nat) (d : Dk) (k : Int) (hd : Rm d) (w : World) (h : Live w0 w p d) :
    Calls Tryd.prog 16 #[.pointer (some ⟨p, 0, none⟩), .int .i64 k] w fun e w' => e = .returned (.int .i64 ((crash d k).1 : Nat)) ∧ Live w0 w' p (crash d k).2 := by
  obtain ⟨F, h1, h2, h3⟩ := h
  exact (pcrash_any F p d k hd.r (Nat.le_trans hd.l (by decide)) (Nat.le_trans hd.p (by decide)) w h1).mono fun e w' ⟨a, b⟩ => ⟨a, Live.step h2 h3 b⟩
theorem lread_any {w0 : World} (p : Nat) (d : Dk) (n : Bs) (hn : n.length ≤ maxLen) (w : World) (h : Live w0 w p d) :
    Calls Tryd.prog 23 #[.pointer (some ⟨p, 0, none⟩), .string (S n)] w fun e w' => e = .returned (.tuple #[.string (S (read d n).1), .int .i64 ((read d n).2 : Nat)]) ∧ Below w.heap.size w w' := by
  obtain ⟨F, h1, h2, h3⟩ := h
  exact read_any F p d n hn w h1
theorem lpending_any {w0 : World} (p : Nat) (d : Dk) (w : World) (h : Live w0 w p d) :
    Calls Tryd.prog 17 #[.pointer (some ⟨p, 0, none⟩)] w fun e w' => e = .returned (.int .i64 (count d.pend : Nat)) ∧ w' = w := by
  obtain ⟨F, h1, h2, h3⟩ := h
  exact pending_any F p d w h1
theorem lnames_any {w0 : World} (p : Nat) (d : Dk) (hd : Rm d) (w : World) (h : Live w0 w p d) :
    Calls Tryd.prog 52 #[.pointer (some ⟨p, 0, none⟩)] w fun e w' => ∃ v, e = .returned v ∧ Own strSh w' w.heap.size v (d.seen.map (·.1)) ∧ Below w.heap.size w w' := by
  obtain ⟨F, h1, h2, h3⟩ := h
  exact names_any F p d (Nat.le_trans hd.s (by decide)) (fun f hf => (hd.r.named f hf).2) w h1

/-! ### alive -/
def d0 : Dk := fresh 9
def d1 : Dk := ⟨9, [([97], [120, 121, 122])], [], [⟨1, [97], [120, 121, 122]⟩], false, 0⟩
def d2 : Dk := ⟨9, [([97], [120, 121, 122])], [([97], [120, 121, 122])], [], false, 0⟩
def d3 : Dk := ⟨9, [([97], [120, 121, 122, 117, 118])], [([97], [120, 121, 122])], [⟨1, [97], [117, 118]⟩], false, 0⟩
def d4 : Dk := ⟨9, [([97], [120, 121, 122, 117, 118]), ([98], [49])], [([97], [120, 121, 122])], [⟨1, [97], [117, 118]⟩, ⟨2, [98], [49]⟩], false, 0⟩
def d5 : Dk := ⟨9, [([97], [120, 121, 122, 117])], [([97], [120, 121, 122, 117])], [], false, 0⟩
theorem e1 : turn d0 ⟨1, [97], [120, 121, 122]⟩ = (0, d1) := by rfl
theorem e2 : sync d1 = (0, d2) := by rfl
theorem e3 : turn d2 ⟨1, [97], [117, 118]⟩ = (0, d3) := by rfl
theorem e4 : turn d3 ⟨2, [98], [49]⟩ = (0, d4) := by rfl
theorem e5 : crash d4 1 = (0, d5) := by rfl
theorem e6 : read d5 [97] = ([120, 121, 122, 117], 0) := by rfl
theorem r0 : Rm d0 := ⟨fresh_right (by decide), by decide, by decide, by decide⟩
theorem r1 : Rm d1 := ⟨by have := turn_right r0.r ⟨1, [97], [120, 121, 122]⟩; rwa [e1] at this, by decide, by decide, by decide⟩
theorem r2 : Rm d2 := ⟨by have := sync_right r1.r; rwa [e2] at this, by decide, by decide, by decide⟩
theorem r3 : Rm d3 := ⟨by have := turn_right r2.r ⟨1, [97], [117, 118]⟩; rwa [e3] at this, by decide, by decide, by decide⟩
theorem r4 : Rm d4 := ⟨by have := turn_right r3.r ⟨2, [98], [49]⟩; rwa [e4] at this, by decide, by decide, by decide⟩
theorem r5 : Rm d5 := ⟨by have := crash_right r4.r 1; rwa [e5] at this, by decide, by decide, by decide⟩
end Go.Proofs.YtpimdbnhpbjlkaaDoor.dk
/-! DkInv -/
namespace Go.Proofs.YtpimdbnhpbjlkaaDoor.dk
set_option linter.unusedVariables false

/-! ### How large a disk is behind so many calls -/
theorem full_length (l : List File) (p : List Call) : (full l p).length ≤ l.length + p.length := by
  induction p generalizing l with
  | nil => exact Nat.le_refl _
  | cons c r ih =>
    have h1 := ih (done l c (steps c))
    have h2 := done_le l c (steps c)
    show (full (done l c (steps c)) r).length ≤ _
    rw [List.length_cons]
    omega
theorem Rm.of {d : Dk} (h : Right d) (hs : d.lasts.length + d.pend.length ≤ 1000) : Rm d :=
  ⟨h, by rw [h.seen]; have := full_length d.lasts d.pend; omega, by omega, by omega⟩
theorem turn_size (d : Dk) (c : Call) : (turn d c).2.lasts.length + (turn d c).2.pend.length ≤ d.lasts.length + d.pend.length + 1 := by
  obtain ⟨e1, _, _, p, e4, e5⟩ := turn_kept d c
  rw [e1, e4, List.length_append]
  rcases e5 with rfl | rfl
  · simp
  · rw [List.length_singleton]; omega
/-- What holds behind j acts. -/
structure Inv (j : Nat) (d : Dk) : Prop where
  r : Right d
  n : d.lasts.length + d.pend.length ≤ j
  s : ∀ c ∈ d.pend, c.s.length ≤ 140737488355328
  f : d.fused = true → 0 ≤ d.left ∧ d.left ≤ 9223372036854775807
theorem Inv.mono {j j' : Nat} {d : Dk} (h : Inv j d) (k : j ≤ j') : Inv j' d := ⟨h.r, Nat.le_trans h.n k, h.s, h.f⟩
theorem inv_fresh {cap : Nat} (h : cap ≤ 1048576) : Inv 0 (fresh cap) := ⟨fresh_right h, Nat.le_refl _, fun c hc => (by cases hc), fun hf => (by cases hf)⟩
theorem off_left {d : Dk} (ho : off d = false) (hf : d.fused = true) : 1 ≤ d.left := by
  unfold off at ho
  rw [hf, Bool.true_and, decide_eq_false_iff_not] at ho
  omega
theorem spend_f {d : Dk} (ho : off d = false) (h : d.fused = true → 0 ≤ d.left ∧ d.left ≤ 9223372036854775807) : (spend d).fused = true → 0 ≤ (spend d).left ∧ (spend d).left ≤ 9223372036854775807 := by
  intro hf
  rw [(spend_parts d).2.2.2.2] at hf
  have h1 := h hf
  have h2 := off_left ho hf
  unfold spend
  rw [if_pos hf]
  exact ⟨by show 0 ≤ d.left - 1; omega, by show d.left - 1 ≤ _; omega⟩
theorem turn_off' {d : Dk} {c : Call} (h : (turn d c).2 ≠ d) : off d = false := by
  unfold turn at h
  by_cases h1 : c.name.length < 1 ∨ 80 < c.name.length
  · rw [if_pos h1] at h; exact absurd rfl h
  · rw [if_neg h1] at h
    by_cases h2 : off d = true
    · rw [if_pos h2] at h; exact absurd rfl h
    · simpa using h2
theorem inv_turn {j : Nat} {d : Dk} (h : Inv j d) (c : Call) (hs : c.s.length ≤ 140737488355328) : Inv (j + 1) (turn d c).2 := by
  by_cases he : (turn d c).2 = d
  · rw [he]; exact h.mono (Nat.le_succ j)
  have ho := turn_off' he
  refine ⟨turn_right h.r c, by have := turn_size d c; have := h.n; omega, fun x hx => ?_, ?_⟩
  · obtain ⟨_, _, _, p, e4, e5⟩ := turn_kept d c
    rw [e4] at hx
    rcases List.mem_append.1 hx with hx | hx
    · exact h.s x hx
    · rcases e5 with rfl | rfl
      · cases hx
      · rw [List.mem_singleton.1 hx]; exact hs
  · rcases turn_cases d c with e | ⟨_, hg, hu, e⟩
    · exact absurd e he
    · rw [e]
      exact spend_f (d := { d with seen := done d.seen c (steps c), pend := d.pend ++ [c] }) ho h.f
theorem inv_sync {j : Nat} {d : Dk} (h : Inv j d) : Inv (j + 1) (sync d).2 := by
  have hr := sync_right h.r
  unfold sync at hr ⊢
  split
  · exact h.mono (Nat.le_succ j)
  · next ho =>
    have ho : off d = false := by simpa using ho
    rw [if_neg (by rw [ho]; decide)] at hr
    obtain ⟨e1, e2, e3, e4, e5⟩ := spend_parts { d with lasts := d.seen, pend := [] }
    refine ⟨hr, ?_, fun c hc => ?_, spend_f (d := { d with lasts := d.seen, pend := [] }) ho h.f⟩
    · show (spend { d with lasts := d.seen, pend := [] }).lasts.length + (spend { d with lasts := d.seen, pend := [] }).pend.length ≤ j + 1
      rw [e3, e4]
      show d.seen.length + ([] : List Call).length ≤ j + 1
      have h1 := full_length d.lasts d.pend
      rw [← h.r.seen] at h1
      have := h.n
      simp only [List.length_nil]
      omega
    · have hc' : c ∈ (spend { d with lasts := d.seen, pend := [] }).pend := hc
      rw [e4] at hc'
      cases hc'
theorem inv_crash {j : Nat} {d : Dk} (h : Inv j d) (k : Int) : Inv (j + 1) (crash d k).2 := by
  have hr := crash_right h.r k
  unfold crash at hr ⊢
  split
  · exact h.mono (Nat.le_succ j)
  · next hk =>
    rw [if_neg hk] at hr
    refine ⟨hr, ?_, fun c hc => (by cases hc), fun hf => (by cases hf)⟩
    show (again d.lasts d.pend k.toNat).length + ([] : List Call).length ≤ j + 1
    have := again_length d.lasts d.pend k.toNat
    have := h.n
    simp only [List.length_nil]
    omega
theorem inv_fuse {j : Nat} {d : Dk} (h : Inv j d) (n : Int) (hn : n ≤ 9223372036854775807) : Inv j (fuse d n) :=
  ⟨fuse_right h.r n, h.n, h.s, fun hf => ⟨of_decide_eq_true (show decide (0 ≤ n) = true from hf), hn⟩⟩
theorem Inv.rm {j : Nat} {d : Dk} (h : Inv j d) (hj : j ≤ 1000) : Rm d := Rm.of h.r (Nat.le_trans h.n hj)
end Go.Proofs.YtpimdbnhpbjlkaaDoor.dk
/-! DigPad -/
namespace Go.Proofs.YtpimdbnhpbjlkaaDoor.dg

/-- How many zpad stand behind the byte 128. -/
def zpad (n : Nat) : Nat := (119 - n % 64) % 64
theorem zpad_lt (n : Nat) : zpad n < 64 := Nat.mod_lt _ (by decide)
theorem zpad_end (n : Nat) : (n + 1 + zpad n) % 64 = 56 := by unfold zpad; omega
theorem zpad_not {n k : Nat} (h : k < zpad n) : (n + 1 + k) % 64 ≠ 56 := by unfold zpad at h; omega
theorem zpad_is {n k : Nat} (hk : k ≤ zpad n) (h : (n + 1 + k) % 64 = 56) : k = zpad n := by
  rcases Nat.lt_or_ge k (zpad n) with h1 | h1
  · exact absurd h (zpad_not h1)
  · omega
/-- The text, the byte 128 and k zpad. -/
def padz (l : List UInt8) (k : Nat) : List UInt8 := l ++ 128 :: List.replicate k 0
theorem padz_zero (l : List UInt8) : padz l 0 = l ++ [128] := rfl
theorem padz_succ (l : List UInt8) (k : Nat) : padz l (k + 1) = padz l k ++ [0] := by
  unfold padz
  rw [List.replicate_succ', ← List.cons_append, List.append_assoc]
theorem padz_length (l : List UInt8) (k : Nat) : (padz l k).length = l.length + 1 + k := by simp [padz]; omega
/-- The i-th of eight bytes of a number, the heaviest first. -/
def be (x i : Nat) : UInt8 := UInt8.ofNat (x / 2 ^ (56 - 8 * i))
def bes (x : Nat) : Nat → List UInt8
  | 0 => []
  | i + 1 => bes x i ++ [be x i]
theorem bes_length (x : Nat) : ∀ i, (bes x i).length = i
  | 0 => rfl
  | i + 1 => by show (bes x i ++ [be x i]).length = _; rw [List.length_append, bes_length x i]; rfl
/-- The padded text. -/
def pad (l : List UInt8) : List UInt8 := padz l (zpad l.length) ++ bes (8 * l.length) 8
theorem pad_length (l : List UInt8) : (pad l).length = l.length + 1 + zpad l.length + 8 := by
  unfold pad
  rw [List.length_append, padz_length, bes_length]
theorem pad_mod (l : List UInt8) : (pad l).length % 64 = 0 := by
  have h := zpad_end l.length
  rw [pad_length]
  omega
/-- The j-th block of 64 bytes. -/
def blk (m : List UInt8) (j : Nat) : List UInt8 := (m.drop (64 * j)).take 64
theorem blk_length {m : List UInt8} {j : Nat} (h : 64 * j + 64 ≤ m.length) : (blk m j).length = 64 := by
  unfold blk
  rw [List.length_take, List.length_drop]
  omega
theorem blk_append {m r : List UInt8} {j : Nat} (h : 64 * j + 64 ≤ m.length) : blk (m ++ r) j = blk m j := by
  unfold blk
  rw [List.drop_append_of_le_length (by omega), List.take_append_of_le_length (by rw [List.length_drop]; omega)]
theorem blk_get {m : List UInt8} {j i : Nat} (h : 64 * j + 64 ≤ m.length) (hi : i < (blk m j).length) : (blk m j)[i] = m[64 * j + i]'(by rw [blk_length h] at hi; omega) := by
  simp [blk]
/-- The state behind j blocks. -/
def feed (s : St) (m : List UInt8) : Nat → St
  | 0 => s
  | j + 1 => press (feed s m j) (blk m j)
theorem feed_ok {s : St} (h : s.ok) (m : List UInt8) : ∀ j, (feed s m j).ok
  | 0 => h
  | _ + 1 => press_ok _ _
theorem feed_append (s : St) (m r : List UInt8) : ∀ j, 64 * j ≤ m.length → feed s (m ++ r) j = feed s m j
  | 0, _ => rfl
  | j + 1, h => by
    show press (feed s (m ++ r) j) (blk (m ++ r) j) = press (feed s m j) (blk m j)
    rw [feed_append s m r j (by omega), blk_append (by omega)]
theorem blk_drop (m : List UInt8) (i j : Nat) : blk (m.drop (64 * i)) j = blk m (i + j) := by
  unfold blk
  rw [List.drop_drop]
  congr 2
  omega
theorem feed_more (s : St) (m : List UInt8) (i : Nat) : ∀ j, feed s m (i + j) = feed (feed s m i) (m.drop (64 * i)) j
  | 0 => rfl
  | j + 1 => by
    show press (feed s m (i + j)) (blk m (i + j)) = press (feed (feed s m i) (m.drop (64 * i)) j) (blk (m.drop (64 * i)) j)
    rw [feed_more s m i j, blk_drop]
/-- The four bytes of a word, the heaviest first. -/
def wbytes (x : Nat) : List UInt8 := [UInt8.ofNat (x / 16777216), UInt8.ofNat (x / 65536), UInt8.ofNat (x / 256), UInt8.ofNat x]
def St.list (s : St) : List Nat := [s.a, s.b, s.c, s.d, s.e, s.f, s.g, s.h]
def outs (s : St) (k : Nat) : List UInt8 := (s.list.take k).flatMap wbytes
theorem outs_zero (s : St) : outs s 0 = [] := rfl
theorem outs_succ (s : St) {k : Nat} (h : k < 8) : outs s (k + 1) = outs s k ++ wbytes (s.list[k]'h) := by
  unfold outs
  rw [List.take_succ_eq_append_getElem (show k < s.list.length from h), List.flatMap_append]
  simp [List.flatMap]; rfl
theorem outs_length (s : St) {k : Nat} (h : k ≤ 8) : (outs s k).length = 4 * k := by
  induction k with
  | zero => rfl
  | succ k ih => rw [outs_succ s (by omega), List.length_append, ih (by omega)]; simp [wbytes]; omega
/-- The digest. -/
def sum (l : List UInt8) : List UInt8 := outs (feed start (pad l) ((pad l).length / 64)) 8
theorem sum_length (l : List UInt8) : (sum l).length = 32 := outs_length _ (Nat.le_refl 8)
end Go.Proofs.YtpimdbnhpbjlkaaDoor.dg
/-! DigHex -/
namespace Go.Proofs.YtpimdbnhpbjlkaaDoor.dg
open Go.RowKit

def digits : List UInt8 := [48, 49, 50, 51, 52, 53, 54, 55, 56, 57, 97, 98, 99, 100, 101, 102]
def digit (n : Nat) : UInt8 := digits.getD n 0
def hex1 (b : UInt8) : List UInt8 := [digit (b.toNat / 16), digit (b.toNat % 16)]
def hex (l : List UInt8) : List UInt8 := l.flatMap hex1
theorem hex_length (l : List UInt8) : (hex l).length = 2 * l.length := by
  induction l with
  | nil => rfl
  | cons b l ih =>
    show (hex1 b ++ hex l).length = _
    rw [List.length_append, ih, List.length_cons]
    show 2 + 2 * l.length = _
    omega
theorem hex_take (l : List UInt8) (k : Nat) (h : k < l.length) : hex (l.take (k + 1)) = hex (l.take k) ++ hex1 l[k] := by
  unfold hex
  rw [List.take_succ_eq_append_getElem h, List.flatMap_append]
  simp

def isByte : Option Value → Bool
  | some (.int .u8 _) => true
  | _ => false
def byteOf : Option Value → UInt8
  | some (.int .u8 x) => UInt8.ofNat x.toNat
  | _ => 0
theorem isByte_u8 (x : Int) : isByte (some (.int .u8 x)) = true := rfl
theorem byteOf_u8 (x : Int) : byteOf (some (.int .u8 x)) = UInt8.ofNat x.toNat := rfl
theorem isByte_some {c : Option Value} (h : isByte c = true) : ∃ x, c = some (.int .u8 x) := by
  cases c with
  | none => cases h
  | some v =>
    cases v with
    | int k x => cases k <;> first | exact ⟨_, rfl⟩ | cases h
    | _ => cases h
/-- 'string(two bytes)', for the walk to take. -/
theorem conv2 (W : World) (b : Nat) (h0 : isByte (W.cell? ⟨b, 0, none⟩) = true) (h1 : isByte (W.cell? ⟨b, 1, none⟩) = true) :
    (convert 75 9 (.slice (some ⟨b, 0, none⟩) 2 2)).run Tryd.prog W = .ok (.string (S [byteOf (W.cell? ⟨b, 0, none⟩), byteOf (W.cell? ⟨b, 1, none⟩)])) W := by
  obtain ⟨x0, e0⟩ := isByte_some h0
  obtain ⟨x1, e1⟩ := isByte_some h1
  have hr := run_convert_bytes_arg (P := Tryd.prog) W 75 5 Tryd.underlying75 Tryd.underlying5 b 0 2 2 [x0, x1] rfl (fun i hi => by
    match i, hi with
    | 0, _ => simpa using e0
    | 1, _ => simpa using e1) 9 Tryd.underlying9
  rw [hr, e0, e1]
  rfl
/-- 'string(one byte)', for the walk to take. -/
theorem conv1 (W : World) (b : Nat) (h0 : isByte (W.cell? ⟨b, 0, none⟩) = true) :
    (convert 75 9 (.slice (some ⟨b, 0, none⟩) 1 1)).run Tryd.prog W = .ok (.string (S [byteOf (W.cell? ⟨b, 0, none⟩)])) W := by
  obtain ⟨x0, e0⟩ := isByte_some h0
  have hr := run_convert_bytes_arg (P := Tryd.prog) W 75 5 Tryd.underlying75 Tryd.underlying5 b 0 1 1 [x0] rfl (fun i hi => by
    match i, hi with
    | 0, _ => simpa using e0) 9 Tryd.underlying9
  rw [hr, e0]
  rfl

theorem const_digit (p : Nat) (h : p < 16) : ((⟨#[48, 49, 50, 51, 52, 53, 54, 55, 56, 57, 97, 98, 99, 100, 101, 102]⟩ : ByteArray)[p]'h).toNat = (digit p).toNat := by
  have : ∀ i : Fin 16, ((⟨#[48, 49, 50, 51, 52, 53, 54, 55, 56, 57, 97, 98, 99, 100, 101, 102]⟩ : ByteArray)[i.1]'i.2).toNat = (digit i.1).toNat := by decide
  exact this ⟨p, h⟩

end Go.Proofs.YtpimdbnhpbjlkaaDoor.dg
/-! DigBytes -/
namespace Go.Proofs.YtpimdbnhpbjlkaaDoor.dg
open Go.RowKit

theorem infoU8 : (Tryd.prog.info? 5).map (fun i => (i.zero, i.size, i.bytes)) = some (some (.int .u8 0), 1, 1) := by kernel_rfl

set_option maxRecDepth 100000 in
theorem clone_any (s : ByteArray) (w : World) (hlim : s.size ≤ 281474976710656) :
    Calls Tryd.prog 40 #[.string s] w fun e w' => e = .returned (.string s) ∧ Below w.heap.size w w' := by
  go_enter Tryd.func40, Tryd.ntmps40
  go_wp2_with fail
  refine (Tryd.stringslite_Clone s w hlim).mono ?_
  rintro e w1 ⟨rfl, hb⟩
  go_wp2
  go_ret
  exact ⟨rfl, hb⟩

set_option maxRecDepth 100000 in
/-- A row of bytes that the call owns, not empty, is turned into its string. -/
theorem conv_own (w : World) (B : Nat) (v : Value) (l : List UInt8) (hl : l ≠ []) (hown : w.ownsRow B 5 1 v l.length (Lib.byteCells l)) :
    (convert 75 9 v).run Tryd.prog w = .ok (.string (S l)) w := by
  obtain ⟨_, hcase⟩ := id hown
  rcases hcase with ⟨_, h0⟩ | ⟨g, cap, cur, rfl, hg, hh, hn, hcap, hsz, htake⟩
  · exact absurd (List.length_eq_zero_iff.1 h0) hl
  · have h := run_convert_bytes_arg (P := Tryd.prog) w 75 5 Tryd.underlying75 Tryd.underlying5 g 0 l.length cap (l.map fun b => (b.toNat : Int)) (by simp) (fun i hi => by
      rw [Nat.zero_add, hown.cellAt i (by omega)]
      simp [Lib.byteCells, List.getElem?_eq_getElem hi]) 9 Tryd.underlying9
    rw [h]
    congr 2
    apply ByteArray.ext
    apply Array.toList_inj.1
    rw [strOfNums_data, List.map_map, S_data]
    conv => rhs; rw [← List.map_id l]
    apply List.map_congr_left
    intro x _
    simp

theorem cells_word {x : Nat} (hx : x < 4294967296) : Lib.byteCells (wbytes x) = [.int .u8 ((x : Int) / 16777216), .int .u8 ((x : Int) / 65536 % 256), .int .u8 ((x : Int) / 256 % 256), .int .u8 ((x : Int) % 256)] := by
  have h : x / 16777216 % 256 = x / 16777216 := by omega
  simp [Lib.byteCells, wbytes, UInt8.toNat_ofNat', h]

set_option maxHeartbeats 4000000 in
set_option maxRecDepth 100000 in
theorem word4_any (B x : Nat) (hx : x < 4294967296) (sv : Value) (l : List UInt8) (w : World) (hown : w.ownsRow B 5 1 sv l.length (Lib.byteCells l)) (hBw : B ≤ w.heap.size) (hlim : l.length + 4 ≤ 140737488355328) :
    Calls Tryd.prog 51 #[sv, .int .u32 x] w fun e w' => ∃ v', e = .returned v' ∧ w'.ownsRow B 5 1 v' (l ++ wbytes x).length (Lib.byteCells (l ++ wbytes x)) ∧ Below B w w' := by
  obtain ⟨i0, hi, hz0, hz1, hz2⟩ := info_parts infoU8
  go_enter Tryd.func51, Tryd.ntmps51
  go_wp2_with (at_builtin; refine wpList_append_own _ rfl _ _ 75 rfl B 5 i0 (.int .u8 0) 1 1 Tryd.underlying75 hi hz0 hz1 hz2 rfl (by decide) _ _ _ rfl (hown.alloc _) ⟨w.heap.size, 0, none⟩ 4 4 (Lib.byteCells (wbytes x)) rfl (by rw [cells_word hx]; rfl) ?c1 ?c2 ?c3 ?c4 ?c5 ?_)
  case c1 =>
    intro j u hj
    rw [cells_word hx] at hj
    match j, hj with
    | 0, hj => simp at hj; subst hj; simp [Addr.add]
    | 1, hj => simp at hj; subst hj; simp [Addr.add]
    | 2, hj => simp at hj; subst hj; simp [Addr.add]
    | 3, hj => simp at hj; subst hj; simp [Addr.add]
  case c2 =>
    intro u hu
    rw [cells_word hx] at hu
    simp at hu
    rcases hu with rfl | rfl | rfl | rfl <;> rfl
  case c3 => unfold maxLen; omega
  case c4 => omega
  case c5 => simp; omega
  intro v' w1 hown' hgrow _
  have hb : Below B w w1 := ((Below.refl _ w).alloc hBw _).grown hgrow (by simp; omega) (fun k hk => (hown.lt k hk).1)
  go_wp2
  go_ret
  refine ⟨v', rfl, ?_, hb⟩
  rw [List.length_append, Lib.byteCells_append]
  exact hown'

def lenV : Value → Nat | .slice _ n _ => n | _ => 0
theorem u8_eq {a b : Nat} (h : a % 256 = b % 256) : UInt8.ofNat a = UInt8.ofNat b := by
  apply UInt8.toNat_inj.1
  rw [UInt8.toNat_ofNat', UInt8.toNat_ofNat']
  exact h
theorem be_words {x : Nat} : wbytes (x / 4294967296) ++ wbytes (x % 4294967296) = bes x 8 := by
  show [_, _, _, _, _, _, _, _] = [be x 0, be x 1, be x 2, be x 3, be x 4, be x 5, be x 6, be x 7]
  have h0 : UInt8.ofNat (x / 4294967296 / 16777216) = be x 0 := u8_eq (by show _ = x / 2 ^ 56 % 256; omega)
  have h1 : UInt8.ofNat (x / 4294967296 / 65536) = be x 1 := u8_eq (by show _ = x / 2 ^ 48 % 256; omega)
  have h2 : UInt8.ofNat (x / 4294967296 / 256) = be x 2 := u8_eq (by show _ = x / 2 ^ 40 % 256; omega)
  have h3 : UInt8.ofNat (x / 4294967296) = be x 3 := u8_eq (by show _ = x / 2 ^ 32 % 256; omega)
  have h4 : UInt8.ofNat (x % 4294967296 / 16777216) = be x 4 := u8_eq (by show _ = x / 2 ^ 24 % 256; omega)
  have h5 : UInt8.ofNat (x % 4294967296 / 65536) = be x 5 := u8_eq (by show _ = x / 2 ^ 16 % 256; omega)
  have h6 : UInt8.ofNat (x % 4294967296 / 256) = be x 6 := u8_eq (by show _ = x / 2 ^ 8 % 256; omega)
  have h7 : UInt8.ofNat (x % 4294967296) = be x 7 := u8_eq (by show _ = x / 2 ^ 0 % 256; omega)
  rw [h0, h1, h2, h3, h4, h5, h6, h7]
/-- What stands behind n bytes. -/
def tailBytes (n : Nat) : List UInt8 := 128 :: List.replicate (zpad n) 0 ++ bes (8 * n) 8
theorem pad_tail (l : List UInt8) : pad l = l ++ tailBytes l.length := by
  unfold pad padz tailBytes
  rw [List.append_assoc]
theorem tail_length (n : Nat) : (tailBytes n).length = 9 + zpad n := by
  unfold tailBytes
  rw [List.length_append, bes_length, List.length_cons, List.length_replicate]
  omega

set_option maxHeartbeats 4000000 in
set_option maxRecDepth 100000 in
theorem ending_any (n : Nat) (hn : n ≤ 281474976710656) (w : World) :
    Calls Tryd.prog 50 #[.int .i64 n] w fun e w' => e = .returned (.string (S (tailBytes n))) ∧ Below w.heap.size w w' := by
  obtain ⟨i0, hi, hz0, hz1, hz2⟩ := info_parts infoU8
  go_enter Tryd.func50, Tryd.ntmps50
  go_wp2_with fail
  have hzl := zpad_lt n
  have hown0 : (w.alloc (.cells #[.int .u8 128] 5)).ownsRow w.heap.size 5 1 (.slice (some ⟨w.heap.size, 0, none⟩) 1 1) (128 :: List.replicate 0 0 : List UInt8).length (Lib.byteCells (128 :: List.replicate 0 0)) :=
    ⟨rfl, .inr ⟨w.heap.size, 1, _, rfl, Nat.le_refl _, heap_alloc_new w _, Nat.le_refl _, by decide, rfl, rfl⟩⟩
  have hb0 : Below w.heap.size w (w.alloc (.cells #[.int .u8 128] 5)) := (Below.refl _ w).alloc (Nat.le_refl _) _
  generalize w.alloc (.cells #[.int .u8 128] 5) = w0 at *
  have HOB := Lib.hid (And.intro hown0 hb0)
  clear hown0 hb0
  go_loopw [3] (fun v wr => ∃ k a c, k ≤ zpad n ∧ v = .slice a (1 + k) c ∧ Hid (wr.ownsRow w.heap.size 5 1 v (128 :: List.replicate k 0 : List UInt8).length (Lib.byteCells (128 :: List.replicate k 0)) ∧ Below w.heap.size w wr))
    (fun v _ => 64 - lenV v)
  case atStart => exact ⟨0, _, _, Nat.zero_le _, rfl, HOB⟩
  case round =>
    clear HOB
    obtain ⟨k, a, c, hk, rfl, HK⟩ := hrel
    by_cases hkz : k < zpad n
    · have hne := zpad_not hkz
      have hne' : (((n : Int) + (1 + (k : Int)) + 8) % 64 != 0) = true := by simp; omega
      have HO := Lib.hid HK.out.1
      have hB := HK.out.2
      have hBs := hB.size
      have hk64 : k < 64 := by omega
      clear HK hne
      go_wp2_with (at_builtin; refine wpList_append_own _ rfl _ _ 75 rfl w.heap.size 5 i0 (.int .u8 0) 1 1 Tryd.underlying75 hi hz0 hz1 hz2 rfl (by decide) _ _ _ rfl (HO.out.alloc _) ⟨wr.heap.size, 0, none⟩ 1 1 [.int .u8 0] rfl rfl ?c1 ?c2 ?c3 ?c4 ?c5 ?_)
      case c1 =>
        intro j u hj
        match j, hj with
        | 0, hj => simp at hj; subst hj; simp [Addr.add]
      case c2 => intro u hu; simp at hu; subst hu; rfl
      case c3 => unfold maxLen; simp; omega
      case c4 => simp; omega
      case c5 => simp; omega
      intro v' w1 hown' hgrow hnil
      have hb1 : Below w.heap.size w w1 := (hB.alloc hBs _).grown hgrow (by simp; omega) (fun k hk => (HO.out.lt k hk).1)
      have hown2 : w1.ownsRow w.heap.size 5 1 v' (128 :: List.replicate (k + 1) 0 : List UInt8).length (Lib.byteCells (128 :: List.replicate (k + 1) 0)) := by
        rw [List.replicate_succ', ← List.cons_append, List.length_append, Lib.byteCells_append]
        simp only [List.length_cons, List.length_replicate, List.length_nil]
        exact hown'
      have hsh : ∃ a2 c2, v' = .slice a2 (1 + (k + 1)) c2 := by
        obtain ⟨_, h | ⟨g, cap, cur, h, _⟩⟩ := hown2
        · exact absurd h.2 (by simp)
        · have e : (128 :: List.replicate (k + 1) 0 : List UInt8).length = 1 + (k + 1) := by simp only [List.length_cons, List.length_replicate]; omega
          rw [e] at h
          exact ⟨_, _, h⟩
      obtain ⟨a2, c2, rfl⟩ := hsh
      have HOB := Lib.hid (And.intro hown2 hb1)
      clear hown' hown2 hgrow hnil HO
      go_wp2
      go_roundw
      case rel => exact ⟨k + 1, _, _, hkz, rfl, HOB⟩
      case measure => simp [lenV]; omega
    · obtain rfl : k = zpad n := by omega
      have hze := zpad_end n
      have hne' : (((n : Int) + (1 + (zpad n : Int)) + 8) % 64 != 0) = false := by simp; omega
      have HO := Lib.hid HK.out.1
      have hB := HK.out.2
      have hBs := hB.size
      clear HK hze
      have hx : 8 * n < 18446744073709551616 := by omega
      obtain ⟨x, hxd⟩ : ∃ x, x = 8 * n := ⟨_, rfl⟩
      have hxm : (n : Int) * 8 = (x : Int) := by omega
      rw [← hxd] at hx
      have HX := Lib.hid hxd
      clear hxd
      have hx1 : x / 4294967296 < 4294967296 := by omega
      have hx2 : x % 4294967296 < 4294967296 := by omega
      have hlen : (128 :: List.replicate (zpad n) 0 : List UInt8).length ≤ 64 := by simp; omega
      have HL := Lib.hid hlen
      clear hlen
      go_wp2_with fail
      rw [show ((x : Int) / 4294967296) = ((x / 4294967296 : Nat) : Int) by omega]
      refine (word4_any w.heap.size (x / 4294967296) hx1 _ _ wr HO.out hBs (by have := HL.out; omega)).mono ?_
      rintro e w1 ⟨v1, rfl, hown1, hb1⟩
      have HB1 := hB.trans hb1
      have hs1 := HB1.size
      have hl1 : (128 :: List.replicate (zpad n) 0 ++ wbytes (x / 4294967296) : List UInt8).length ≤ 68 := by
        rw [List.length_append, show (wbytes (x / 4294967296)).length = 4 from rfl]
        have := HL.out
        omega
      have HL1 := Lib.hid hl1
      have HO1 := Lib.hid hown1
      clear hl1 hown1 hb1 HO
      go_wp2_with fail
      rw [show ((x : Int) % 4294967296) = ((x % 4294967296 : Nat) : Int) by omega]
      refine (word4_any w.heap.size (x % 4294967296) hx2 _ _ w1 HO1.out hs1 (by have := HL1.out; omega)).mono ?_
      rintro e w2 ⟨v2, rfl, hown2, hb2⟩
      have HB2 := HB1.trans hb2
      have hfin : (128 :: List.replicate (zpad n) 0 ++ wbytes (x / 4294967296) ++ wbytes (x % 4294967296) : List UInt8) = tailBytes n := by
        unfold tailBytes
        rw [List.append_assoc, be_words, HX.out]
      rw [hfin] at hown2
      have hcv := conv_own w2 _ v2 _ (fun h => by have := tail_length n; rw [h] at this; simp at this; omega) hown2
      clear hown2
      go_wp2
      go_ret
      exact ⟨rfl, HB2⟩
end Go.Proofs.YtpimdbnhpbjlkaaDoor.dg
/-! DigHash -/
namespace Go.Proofs.YtpimdbnhpbjlkaaDoor.dg
open Go.RowKit

/-- A digest in the making: the state, the rest, the size. -/
def hcells (s : St) (r : List UInt8) (n : Nat) : Array Value := #[.int .u32 s.a, .int .u32 s.b, .int .u32 s.c, .int .u32 s.d, .int .u32 s.e, .int .u32 s.f, .int .u32 s.g, .int .u32 s.h, .string (S r), .int .i64 n]
/-- In block b stands a digest in the making, to which l was written. -/
def HashAt (w : World) (b : Nat) (l : List UInt8) : Prop := Arr w b 81 (hcells (feed start l (l.length / 64)) (l.drop (64 * (l.length / 64))) l.length)

set_option maxRecDepth 100000 in
theorem new_any (w : World) :
    Calls Tryd.prog 27 #[] w fun e w' => ∃ b, e = .returned (.pointer (some ⟨b, 0, none⟩)) ∧ w.heap.size ≤ b ∧ HashAt w' b [] ∧ Below w.heap.size w w' := by
  go_enter Tryd.func27, Tryd.ntmps27
  go_wp2_with fail
  go_ret
  exact ⟨_, rfl, Nat.le_refl _, Arr.new w _ _, (Below.refl _ w).alloc (Nat.le_refl _) _⟩

theorem hcells_one (s : St) (r : List UInt8) (n : Nat) : (hcells s r n).all (·.oneCell') = true := by simp [hcells, Value.oneCell']

set_option maxRecDepth 100000 in
theorem twin_any (b : Nat) (s : St) (r : List UInt8) (n : Nat) (w : World) (aH : Arr w b 81 (hcells s r n)) :
    Calls Tryd.prog 49 #[.pointer (some ⟨b, 0, none⟩)] w fun e w' => ∃ g, e = .returned (.pointer (some ⟨g, 0, none⟩)) ∧ w.heap.size ≤ g ∧ Arr w' g 81 (hcells s r n) ∧ Below w.heap.size w w' := by
  have x0 := aH.cell (j := 0) (v := .int .u32 s.a) rfl
  have x1 := aH.cell (j := 1) (v := .int .u32 s.b) rfl
  have x2 := aH.cell (j := 2) (v := .int .u32 s.c) rfl
  have x3 := aH.cell (j := 3) (v := .int .u32 s.d) rfl
  have x4 := aH.cell (j := 4) (v := .int .u32 s.e) rfl
  have x5 := aH.cell (j := 5) (v := .int .u32 s.f) rfl
  have x6 := aH.cell (j := 6) (v := .int .u32 s.g) rfl
  have x7 := aH.cell (j := 7) (v := .int .u32 s.h) rfl
  have x8 := aH.cell (j := 8) (v := .string (S r)) rfl
  have x9 := aH.cell (j := 9) (v := .int .i64 n) rfl
  go_enter Tryd.func49, Tryd.ntmps49
  go_wp2_with (refine wpList_store_row rfl 81 (.tmp 3) (.tmp 8) rfl w.heap.size (hcells s r n) rfl rfl 81 _ (heap_alloc_new w _) (by kernel_rfl) (by kernel_rfl) (hcells_one _ _ _) ?_; rw [World.setRow_alloc_new])
  go_ret
  exact ⟨_, rfl, Nat.le_refl _, Arr.new w _ _, (Below.refl _ w).alloc (Nat.le_refl _) _⟩
end Go.Proofs.YtpimdbnhpbjlkaaDoor.dg
/-! DigWrite -/
namespace Go.Proofs.YtpimdbnhpbjlkaaDoor.dg
open Go.RowKit

theorem hcells_state (s s' : St) (r : List UInt8) (n : Nat) : (((((((((hcells s r n).setIfInBounds 0 (.int .u32 (s'.a : Nat))).setIfInBounds 1 (.int .u32 (s'.b : Nat))).setIfInBounds 2 (.int .u32 (s'.c : Nat))).setIfInBounds 3 (.int .u32 (s'.d : Nat))).setIfInBounds 4 (.int .u32 (s'.e : Nat))).setIfInBounds 5 (.int .u32 (s'.f : Nat))).setIfInBounds 6 (.int .u32 (s'.g : Nat))).setIfInBounds 7 (.int .u32 (s'.h : Nat))) = hcells s' r n := by simp [hcells]
theorem hcells_rest (s : St) (r r' : List UInt8) (n : Nat) : (hcells s r n).setIfInBounds 8 (.string (S r')) = hcells s r' n := by simp [hcells]
theorem hcells_size (s : St) (r : List UInt8) (n n' : Nat) : (hcells s r n).setIfInBounds 9 (.int .i64 (n' : Nat)) = hcells s r n' := by simp [hcells]
theorem Arr.state {w : World} {b : Nat} {s : St} {r : List UInt8} {n : Nat} (h : Arr w b 81 (hcells s r n)) (s' : St) :
    Arr ((((((((w.setCell ⟨b, 0, none⟩ (.int .u32 (s'.a : Nat))).setCell ⟨b, 1, none⟩ (.int .u32 (s'.b : Nat))).setCell ⟨b, 2, none⟩ (.int .u32 (s'.c : Nat))).setCell ⟨b, 3, none⟩ (.int .u32 (s'.d : Nat))).setCell ⟨b, 4, none⟩ (.int .u32 (s'.e : Nat))).setCell ⟨b, 5, none⟩ (.int .u32 (s'.f : Nat))).setCell ⟨b, 6, none⟩ (.int .u32 (s'.g : Nat))).setCell ⟨b, 7, none⟩ (.int .u32 (s'.h : Nat))) b 81 (hcells s' r n) := by
  have := (((((((h.set 0 (.int .u32 (s'.a : Nat))).set 1 (.int .u32 (s'.b : Nat))).set 2 (.int .u32 (s'.c : Nat))).set 3 (.int .u32 (s'.d : Nat))).set 4 (.int .u32 (s'.e : Nat))).set 5 (.int .u32 (s'.f : Nat))).set 6 (.int .u32 (s'.g : Nat))).set 7 (.int .u32 (s'.h : Nat))
  rw [hcells_state] at this
  exact this
theorem Touch.state {b : Nat} {a w : World} (h : Touch b a w) (s' : St) : Touch b a ((((((((w.setCell ⟨b, 0, none⟩ (.int .u32 (s'.a : Nat))).setCell ⟨b, 1, none⟩ (.int .u32 (s'.b : Nat))).setCell ⟨b, 2, none⟩ (.int .u32 (s'.c : Nat))).setCell ⟨b, 3, none⟩ (.int .u32 (s'.d : Nat))).setCell ⟨b, 4, none⟩ (.int .u32 (s'.e : Nat))).setCell ⟨b, 5, none⟩ (.int .u32 (s'.f : Nat))).setCell ⟨b, 6, none⟩ (.int .u32 (s'.g : Nat))).setCell ⟨b, 7, none⟩ (.int .u32 (s'.h : Nat))) :=
  (((((((h.setCell 0 _).setCell 1 _).setCell 2 _).setCell 3 _).setCell 4 _).setCell 5 _).setCell 6 _).setCell 7 _
theorem Keys.touch {b : Nat} {w w' : World} (h : Keys w) (t : Touch b w w') (hb : 0 < b) : Keys w' := fun i hi => (t.cell (p := ⟨0, i, none⟩) h.pos (by simp; omega)).trans (h i hi)
theorem S_blk (l : List UInt8) (i : Nat) : (S l).extract (64 * i) (64 * i + 64) = S (blk l i) := by
  apply ByteArray.ext
  apply Array.toList_inj.1
  rw [Lib.extract_data, S_data, S_data]
  unfold blk
  congr 1
  omega

set_option maxHeartbeats 4000000 in
set_option maxRecDepth 100000 in
theorem write_any (b : Nat) (st : St) (hst : st.ok) (r : List UInt8) (n : Nat) (l : List UInt8) (w : World) (hK : Keys w) (hb0 : 0 < b) (aH : Arr w b 81 (hcells st r n)) (hn : n + l.length ≤ 281474976710656) (hl : r.length + l.length ≤ 281474976710656) :
    Calls Tryd.prog 28 #[.pointer (some ⟨b, 0, none⟩), .string (S l)] w fun e w' => e = .returned (.tuple #[]) ∧ Arr w' b 81 (hcells (feed st (r ++ l) ((r ++ l).length / 64)) ((r ++ l).drop (64 * ((r ++ l).length / 64))) (n + l.length)) ∧ Touch b w w' := by
  have hzr := S_size r
  have hzl := S_size l
  have hcat := S_append r l
  have hlt := aH.lt
  have hlen : (r ++ l).length = r.length + l.length := List.length_append
  have x8 := aH.cell (j := 8) (v := .string (S r)) rfl
  go_enter Tryd.func28, Tryd.ntmps28
  go_upto_region 2 with (fail)
  have hz := S_size (r ++ l)
  rw [hlen] at hz
  obtain ⟨t, ht⟩ : ∃ t, t = r ++ l := ⟨_, rfl⟩
  rw [← ht] at hz hlen ⊢
  clear hcat x8 hzr
  obtain ⟨q, hq⟩ : ∃ q, q = t.length / 64 := ⟨_, rfl⟩
  rw [← hlen] at hz
  have hq1 : ((t.length : Nat) : Int) / 64 = (q : Nat) := by omega
  have hq2 : 64 * q ≤ t.length := by omega
  have htl : t.length ≤ 281474976710656 := by omega
  have HQ := Lib.hid hq
  have HT := Lib.hid ht
  have HL := Lib.hid hlen
  clear hq ht hlen
  go_wp2_with fail
  go_loopw [19] (fun iv wr => ∃ i : Nat, iv = .int .i64 i ∧ i ≤ q ∧ Hid (Arr wr b 81 (hcells (feed st t i) r n)) ∧ Touch b w wr)
    (fun iv _ => q - (intOf iv).toNat)
  case atStart => exact ⟨0, rfl, Nat.zero_le _, aH, Touch.refl _ _⟩
  case round =>
    clear aH
    obtain ⟨i, rfl, hi, HA, hT⟩ := hrel
    by_cases hlt2 : i < q
    · have hi64 : 64 * i + 64 ≤ t.length := by omega
      have hok := feed_ok hst t i
      have hbl := blk_length hi64
      have hmix := fun W (hW : Keys W) => mix_any (feed st t i) hok (blk t i) hbl W hW
      obtain ⟨s', hs'⟩ : ∃ s', s' = feed st t (i + 1) := ⟨_, rfl⟩
      have hs2 : press (feed st t i) (blk t i) = s' := hs'.symm
      rw [hs2] at hmix
      have hsl := fun W => run_slice_string (P := Tryd.prog) W 9 (S t) .i64 .i64 ((i : Int) * 64) (((i : Int) + 1) * 64) Tryd.underlying9 (by omega) (by omega) (by rw [hz]; omega)
      have e1 : ((i : Int) * 64).toNat = 64 * i := by omega
      have e2 : (((i : Int) + 1) * 64).toNat = 64 * i + 64 := by omega
      simp only [e1, e2, S_blk] at hsl
      have aH := HA.out
      have hlt' := aH.lt
      have hKr : Keys wr.drew := (hK.touch hT hb0).drew
      have HS' := Lib.hid hs'
      clear hs' hs2 e1 e2 HA
      generalize feed st t i = s at *
      generalize blk t i = m at *
      have c0 : wr.drew.cell? _ = _ := aH.cell (j := 0) (v := (.int .u32 (s.a : Nat))) rfl
      have f0 := aH.frozen 0
      have c1 : wr.drew.cell? _ = _ := aH.cell (j := 1) (v := (.int .u32 (s.b : Nat))) rfl
      have f1 := aH.frozen 1
      have c2 : wr.drew.cell? _ = _ := aH.cell (j := 2) (v := (.int .u32 (s.c : Nat))) rfl
      have f2 := aH.frozen 2
      have c3 : wr.drew.cell? _ = _ := aH.cell (j := 3) (v := (.int .u32 (s.d : Nat))) rfl
      have f3 := aH.frozen 3
      have c4 : wr.drew.cell? _ = _ := aH.cell (j := 4) (v := (.int .u32 (s.e : Nat))) rfl
      have f4 := aH.frozen 4
      have c5 : wr.drew.cell? _ = _ := aH.cell (j := 5) (v := (.int .u32 (s.f : Nat))) rfl
      have f5 := aH.frozen 5
      have c6 : wr.drew.cell? _ = _ := aH.cell (j := 6) (v := (.int .u32 (s.g : Nat))) rfl
      have f6 := aH.frozen 6
      have c7 : wr.drew.cell? _ = _ := aH.cell (j := 7) (v := (.int .u32 (s.h : Nat))) rfl
      have f7 := aH.frozen 7
      have hii : (i : Int) < (q : Int) := by omega
      have hlt := hlt'
      have w1 : IntKind.i64.wrap ((i : Int) * 64) = (i : Int) * 64 := IntWalk.i64_in _ (by omega)
      have w2 : IntKind.i64.wrap ((i : Int) + 1) = (i : Int) + 1 := IntWalk.i64_in _ (by omega)
      have w3 : IntKind.i64.wrap (((i : Int) + 1) * 64) = ((i : Int) + 1) * 64 := IntWalk.i64_in _ (by omega)
      unfold stCells at hmix
      go_upto_region 6 with (fail)
      go_region_with ((go_at_call 48; refine (hmix _ hKr).mono ?_; rintro e w4 ⟨rfl, hb4⟩; have d0 : w4.cell? ⟨b, 0, none⟩ = some (.int .u32 (s.a : Nat)) := (by rw [hb4.cell (by simpa using hlt)]; simpa using c0); have d1 : w4.cell? ⟨b, 1, none⟩ = some (.int .u32 (s.b : Nat)) := (by rw [hb4.cell (by simpa using hlt)]; simpa using c1); have d2 : w4.cell? ⟨b, 2, none⟩ = some (.int .u32 (s.c : Nat)) := (by rw [hb4.cell (by simpa using hlt)]; simpa using c2); have d3 : w4.cell? ⟨b, 3, none⟩ = some (.int .u32 (s.d : Nat)) := (by rw [hb4.cell (by simpa using hlt)]; simpa using c3); have d4 : w4.cell? ⟨b, 4, none⟩ = some (.int .u32 (s.e : Nat)) := (by rw [hb4.cell (by simpa using hlt)]; simpa using c4); have d5 : w4.cell? ⟨b, 5, none⟩ = some (.int .u32 (s.f : Nat)) := (by rw [hb4.cell (by simpa using hlt)]; simpa using c5); have d6 : w4.cell? ⟨b, 6, none⟩ = some (.int .u32 (s.g : Nat)) := (by rw [hb4.cell (by simpa using hlt)]; simpa using c6); have d7 : w4.cell? ⟨b, 7, none⟩ = some (.int .u32 (s.h : Nat)) := (by rw [hb4.cell (by simpa using hlt)]; simpa using c7); have e0 : w4.frozen? ⟨b, 0, none⟩ = false := (by rw [hb4.frozen (by simpa using hlt)]; simpa using f0); have e1 : w4.frozen? ⟨b, 1, none⟩ = false := (by rw [hb4.frozen (by simpa using hlt)]; simpa using f1); have e2 : w4.frozen? ⟨b, 2, none⟩ = false := (by rw [hb4.frozen (by simpa using hlt)]; simpa using f2); have e3 : w4.frozen? ⟨b, 3, none⟩ = false := (by rw [hb4.frozen (by simpa using hlt)]; simpa using f3); have e4 : w4.frozen? ⟨b, 4, none⟩ = false := (by rw [hb4.frozen (by simpa using hlt)]; simpa using f4); have e5 : w4.frozen? ⟨b, 5, none⟩ = false := (by rw [hb4.frozen (by simpa using hlt)]; simpa using f5); have e6 : w4.frozen? ⟨b, 6, none⟩ = false := (by rw [hb4.frozen (by simpa using hlt)]; simpa using f6); have e7 : w4.frozen? ⟨b, 7, none⟩ = false := (by rw [hb4.frozen (by simpa using hlt)]; simpa using f7)))
      all_goals go_wp2_with fail
      all_goals have aH4 : Arr w4 b 81 (hcells s r n) := (hb4.block b (by simpa using hlt)).trans aH
      all_goals have hT4 : Touch b w w4 := hT.drew.trans (Touch.of_below hb4)
      all_goals have HA5 := Lib.hid (Arr.state aH4 s')
      all_goals have hT5 := Touch.state hT4 s'
      all_goals rw [HS'.out] at HA5
      all_goals go_roundw
      case rel => exact ⟨i + 1, by go_num, by omega, by rw [HS'.out]; exact HA5, hT5⟩
      case measure => simp [intOf]; omega
    · obtain rfl : i = q := by omega
      have aH := HA.out
      have hsl := fun W => run_slice_string_l (P := Tryd.prog) (w := W) (t := 9) (s := S t) Tryd.underlying9 .i64 ((i : Int) * 64) (by omega) (by rw [hz]; omega)
      have e1 : ((i : Int) * 64).toNat = 64 * i := by omega
      simp only [e1, S_drop] at hsl
      have f8 := aH.frozen 8
      have hlt' := aH.lt
      clear HA e1
      have hdl : (S (t.drop (64 * i))).size ≤ 281474976710656 := by rw [S_size, List.length_drop]; omega
      go_upto_region 8 with (fail)
      go_wp2_with (fail)
      refine (clone_any _ wr hdl).mono ?_
      rintro e w4 ⟨rfl, hb4⟩
      have aH4 : Arr w4 b 81 (hcells (feed st t i) r n) := (hb4.block b hlt').trans aH
      have hT4 : Touch b w w4 := hT.trans (Touch.of_below hb4)
      have c8 := aH4.cell (j := 8) (v := .string (S r)) rfl
      have f8' := aH4.frozen 8
      have c9 := aH4.cell (j := 9) (v := .int .i64 (n : Nat)) rfl
      have f9 := aH4.frozen 9
      have aH5 := aH4.set 8 (.string (S (t.drop (64 * i))))
      rw [hcells_rest] at aH5
      have aH6 := aH5.set 9 (.int .i64 ((n + l.length : Nat) : Int))
      rw [hcells_size] at aH6
      have hT6 := (hT4.setCell 8 (.string (S (t.drop (64 * i))))).setCell 9 (.int .i64 ((n + l.length : Nat) : Int))
      have HA6 := Lib.hid (And.intro aH6 hT6)
      clear hT aH f8 hb4 hT4 aH4 aH5 aH6 hT6
      go_wp2_with fail
      refine bodyPost_end (results_none rfl _ _ _) rfl ⟨rfl, ?_⟩
      have hfin := HA6.out
      rw [← HT.out, ← HQ.out, ← Int.natCast_add]
      exact hfin
end Go.Proofs.YtpimdbnhpbjlkaaDoor.dg
/-! DigDone -/
namespace Go.Proofs.YtpimdbnhpbjlkaaDoor.dg
open Go.RowKit

theorem join_state (l s : List UInt8) : feed (feed start l (l.length / 64)) (l.drop (64 * (l.length / 64)) ++ s) ((l.drop (64 * (l.length / 64)) ++ s).length / 64) = feed start (l ++ s) ((l ++ s).length / 64) := by
  have h1 : 64 * (l.length / 64) ≤ l.length := by omega
  have h2 : l.drop (64 * (l.length / 64)) ++ s = (l ++ s).drop (64 * (l.length / 64)) := (List.drop_append_of_le_length h1).symm
  have h3 : (l ++ s).length / 64 = l.length / 64 + ((l ++ s).drop (64 * (l.length / 64))).length / 64 := by
    rw [List.length_drop, List.length_append]
    omega
  rw [h3, feed_more, feed_append start l s _ h1, h2]
theorem join_rest (l s : List UInt8) : (l.drop (64 * (l.length / 64)) ++ s).drop (64 * ((l.drop (64 * (l.length / 64)) ++ s).length / 64)) = (l ++ s).drop (64 * ((l ++ s).length / 64)) := by
  have h1 : 64 * (l.length / 64) ≤ l.length := by omega
  have h2 : l.drop (64 * (l.length / 64)) ++ s = (l ++ s).drop (64 * (l.length / 64)) := (List.drop_append_of_le_length h1).symm
  rw [h2, List.drop_drop]
  congr 1
  rw [List.length_drop, List.length_append]
  omega

theorem write_at (b : Nat) (l s : List UInt8) (w : World) (hK : Keys w) (hb0 : 0 < b) (h : HashAt w b l) (hn : l.length + s.length ≤ 281474976710656) :
    Calls Tryd.prog 28 #[.pointer (some ⟨b, 0, none⟩), .string (S s)] w fun e w' => e = .returned (.tuple #[]) ∧ HashAt w' b (l ++ s) ∧ Touch b w w' := by
  refine (write_any b _ (feed_ok start_ok l _) _ _ s w hK hb0 h hn (by rw [List.length_drop]; omega)).mono ?_
  rintro e w' ⟨rfl, hA, hT⟩
  refine ⟨rfl, ?_, hT⟩
  unfold HashAt
  rw [← join_state, ← join_rest, show (l ++ s).length = l.length + s.length from List.length_append]
  exact hA

theorem sum_pad (l : List UInt8) : sum l = outs (feed start (l ++ tailBytes l.length) ((l ++ tailBytes l.length).length / 64)) 8 := by
  unfold sum
  rw [pad_tail]

set_option maxHeartbeats 4000000 in
set_option maxRecDepth 100000 in
theorem sum_at (b : Nat) (l : List UInt8) (w : World) (hK : Keys w) (h : HashAt w b l) (hn : l.length ≤ 281474976710000) :
    Calls Tryd.prog 29 #[.pointer (some ⟨b, 0, none⟩)] w fun e w' => e = .returned (.string (S (sum l))) ∧ Below w.heap.size w w' := by
  have hpos := hK.pos
  have hblt := Arr.lt h
  have htl := tail_length l.length
  have hzp := zpad_lt l.length
  go_enter Tryd.func29, Tryd.ntmps29
  go_wp2_with fail
  refine (twin_any b _ _ _ w h).mono ?_
  rintro e w1 ⟨g, rfl, hg, hA1, hb1⟩
  have h1 : HashAt w1 b l := (hb1.block b hblt).trans h
  have x9 := Arr.cell h1 (j := 9) (v := .int .i64 (l.length : Nat)) rfl
  have hK1 := hK.below hb1 hpos
  have H1 := Lib.hid h1
  have HA1 := Lib.hid hA1
  clear h1 hA1
  go_wp2_with fail
  refine (ending_any l.length (by omega) w1).mono ?_
  rintro e w2 ⟨rfl, hb2⟩
  have h2 : HashAt w2 g l := (hb2.block g (Arr.lt HA1.out)).trans HA1.out
  have hK2 := hK1.below hb2 hK1.pos
  have hb02 : Below w.heap.size w w2 := hb1.trans (hb2.mono hb1.size)
  clear x9
  go_wp2_with fail
  refine (write_at g l (tailBytes l.length) w2 hK2 (by omega) h2 (by omega)).mono ?_
  rintro e w3 ⟨rfl, h3, hT3⟩
  have hb03 : Below w.heap.size w w3 := hb02.trans (hT3.below hg hb02.size)
  have hsum := sum_pad l
  unfold HashAt at h3
  have hzok := feed_ok start_ok (l ++ tailBytes l.length) ((l ++ tailBytes l.length).length / 64)
  generalize feed start (l ++ tailBytes l.length) ((l ++ tailBytes l.length).length / 64) = z at *
  obtain ⟨la, lb, lc, ld, le, lf, lg, lh⟩ := hzok
  have x0 := Arr.cell h3 (j := 0) (v := .int .u32 (z.a : Nat)) rfl
  have x1 := Arr.cell h3 (j := 1) (v := .int .u32 (z.b : Nat)) rfl
  have x2 := Arr.cell h3 (j := 2) (v := .int .u32 (z.c : Nat)) rfl
  have x3 := Arr.cell h3 (j := 3) (v := .int .u32 (z.d : Nat)) rfl
  have x4 := Arr.cell h3 (j := 4) (v := .int .u32 (z.e : Nat)) rfl
  have x5 := Arr.cell h3 (j := 5) (v := .int .u32 (z.f : Nat)) rfl
  have x6 := Arr.cell h3 (j := 6) (v := .int .u32 (z.g : Nat)) rfl
  have x7 := Arr.cell h3 (j := 7) (v := .int .u32 (z.h : Nat)) rfl
  have HS := Lib.hid hsum
  have HTL := Lib.hid htl
  clear h3 h2 hT3 hb2 hb1 HA1 hsum htl H1 hK1 hK2 hb02 h hblt
  obtain ⟨B, hB0⟩ : ∃ B, B = w3.heap.size := ⟨_, rfl⟩
  have hBw : w.heap.size ≤ B := by rw [hB0]; exact hb03.size
  have hB3 : B ≤ w3.heap.size := by omega
  clear hB0
  go_wp2_with fail
  go_loopw [4, 22] (fun v i wr => ∃ k : Nat, i = .int .i64 k ∧ k ≤ 8 ∧ Hid (wr.ownsRow B 5 1 v (outs z k).length (Lib.byteCells (outs z k))) ∧ Below B w3 wr)
    (fun _ i _ => 8 - (intOf i).toNat)
  case atStart => exact ⟨0, rfl, by omega, Lib.hid (World.ownsRow_nil _ _ _ _), Below.refl _ _⟩
  case round =>
    clear x0 x1 x2 x3 x4 x5 x6 x7
    obtain ⟨k, rfl, hk, HO, hB⟩ := hrel
    have hBs : B ≤ wr.heap.size := Nat.le_trans hB3 hB.size
    by_cases hlt : k < 8
    · have h8 : k = 0 ∨ k = 1 ∨ k = 2 ∨ k = 3 ∨ k = 4 ∨ k = 5 ∨ k = 6 ∨ k = 7 := by omega
      obtain rfl | rfl | rfl | rfl | rfl | rfl | rfl | rfl := h8
      · have e3 : ∀ w : World, (Instr.index 79 (.agg #[.int .u32 (z.a : Nat), .int .u32 (z.b : Nat), .int .u32 (z.c : Nat), .int .u32 (z.d : Nat), .int .u32 (z.e : Nat), .int .u32 (z.f : Nat), .int .u32 (z.g : Nat), .int .u32 (z.h : Nat)]) (.int .i64 0)).run Tryd.prog w = .ok (.int .u32 (z.a : Nat)) w := fun _ => by kernel_rfl
        go_wp2_with fail
        refine (word4_any B z.a la _ _ wr HO.out hBs (by rw [outs_length z (by omega)]; omega)).mono ?_
        rintro e w5 ⟨v5, rfl, hown5, hb5⟩
        have hown6 : w5.ownsRow B 5 1 v5 (outs z 1).length (Lib.byteCells (outs z 1)) := hown5
        have HO6 := Lib.hid hown6
        clear hown5 hown6 HO
        go_wp2_with fail
        go_roundw
        case rel => exact ⟨1, rfl, by omega, HO6, hB.trans hb5⟩
        case measure => simp [intOf]
      · have e3 : ∀ w : World, (Instr.index 79 (.agg #[.int .u32 (z.a : Nat), .int .u32 (z.b : Nat), .int .u32 (z.c : Nat), .int .u32 (z.d : Nat), .int .u32 (z.e : Nat), .int .u32 (z.f : Nat), .int .u32 (z.g : Nat), .int .u32 (z.h : Nat)]) (.int .i64 1)).run Tryd.prog w = .ok (.int .u32 (z.b : Nat)) w := fun _ => by kernel_rfl
        go_wp2_with fail
        refine (word4_any B z.b lb _ _ wr HO.out hBs (by rw [outs_length z (by omega)]; omega)).mono ?_
        rintro e w5 ⟨v5, rfl, hown5, hb5⟩
        have hown6 : w5.ownsRow B 5 1 v5 (outs z 2).length (Lib.byteCells (outs z 2)) := hown5
        have HO6 := Lib.hid hown6
        clear hown5 hown6 HO
        go_wp2_with fail
        go_roundw
        case rel => exact ⟨2, rfl, by omega, HO6, hB.trans hb5⟩
        case measure => simp [intOf]
      · have e3 : ∀ w : World, (Instr.index 79 (.agg #[.int .u32 (z.a : Nat), .int .u32 (z.b : Nat), .int .u32 (z.c : Nat), .int .u32 (z.d : Nat), .int .u32 (z.e : Nat), .int .u32 (z.f : Nat), .int .u32 (z.g : Nat), .int .u32 (z.h : Nat)]) (.int .i64 2)).run Tryd.prog w = .ok (.int .u32 (z.c : Nat)) w := fun _ => by kernel_rfl
        go_wp2_with fail
        refine (word4_any B z.c lc _ _ wr HO.out hBs (by rw [outs_length z (by omega)]; omega)).mono ?_
        rintro e w5 ⟨v5, rfl, hown5, hb5⟩
        have hown6 : w5.ownsRow B 5 1 v5 (outs z 3).length (Lib.byteCells (outs z 3)) := hown5
        have HO6 := Lib.hid hown6
        clear hown5 hown6 HO
        go_wp2_with fail
        go_roundw
        case rel => exact ⟨3, rfl, by omega, HO6, hB.trans hb5⟩
        case measure => simp [intOf]
      · have e3 : ∀ w : World, (Instr.index 79 (.agg #[.int .u32 (z.a : Nat), .int .u32 (z.b : Nat), .int .u32 (z.c : Nat), .int .u32 (z.d : Nat), .int .u32 (z.e : Nat), .int .u32 (z.f : Nat), .int .u32 (z.g : Nat), .int .u32 (z.h : Nat)]) (.int .i64 3)).run Tryd.prog w = .ok (.int .u32 (z.d : Nat)) w := fun _ => by kernel_rfl
        go_wp2_with fail
        refine (word4_any B z.d ld _ _ wr HO.out hBs (by rw [outs_length z (by omega)]; omega)).mono ?_
        rintro e w5 ⟨v5, rfl, hown5, hb5⟩
        have hown6 : w5.ownsRow B 5 1 v5 (outs z 4).length (Lib.byteCells (outs z 4)) := hown5
        have HO6 := Lib.hid hown6
        clear hown5 hown6 HO
        go_wp2_with fail
        go_roundw
        case rel => exact ⟨4, rfl, by omega, HO6, hB.trans hb5⟩
        case measure => simp [intOf]
      · have e3 : ∀ w : World, (Instr.index 79 (.agg #[.int .u32 (z.a : Nat), .int .u32 (z.b : Nat), .int .u32 (z.c : Nat), .int .u32 (z.d : Nat), .int .u32 (z.e : Nat), .int .u32 (z.f : Nat), .int .u32 (z.g : Nat), .int .u32 (z.h : Nat)]) (.int .i64 4)).run Tryd.prog w = .ok (.int .u32 (z.e : Nat)) w := fun _ => by kernel_rfl
        go_wp2_with fail
        refine (word4_any B z.e le _ _ wr HO.out hBs (by rw [outs_length z (by omega)]; omega)).mono ?_
        rintro e w5 ⟨v5, rfl, hown5, hb5⟩
        have hown6 : w5.ownsRow B 5 1 v5 (outs z 5).length (Lib.byteCells (outs z 5)) := hown5
        have HO6 := Lib.hid hown6
        clear hown5 hown6 HO
        go_wp2_with fail
        go_roundw
        case rel => exact ⟨5, rfl, by omega, HO6, hB.trans hb5⟩
        case measure => simp [intOf]
      · have e3 : ∀ w : World, (Instr.index 79 (.agg #[.int .u32 (z.a : Nat), .int .u32 (z.b : Nat), .int .u32 (z.c : Nat), .int .u32 (z.d : Nat), .int .u32 (z.e : Nat), .int .u32 (z.f : Nat), .int .u32 (z.g : Nat), .int .u32 (z.h : Nat)]) (.int .i64 5)).run Tryd.prog w = .ok (.int .u32 (z.f : Nat)) w := fun _ => by kernel_rfl
        go_wp2_with fail
        refine (word4_any B z.f lf _ _ wr HO.out hBs (by rw [outs_length z (by omega)]; omega)).mono ?_
        rintro e w5 ⟨v5, rfl, hown5, hb5⟩
        have hown6 : w5.ownsRow B 5 1 v5 (outs z 6).length (Lib.byteCells (outs z 6)) := hown5
        have HO6 := Lib.hid hown6
        clear hown5 hown6 HO
        go_wp2_with fail
        go_roundw
        case rel => exact ⟨6, rfl, by omega, HO6, hB.trans hb5⟩
        case measure => simp [intOf]
      · have e3 : ∀ w : World, (Instr.index 79 (.agg #[.int .u32 (z.a : Nat), .int .u32 (z.b : Nat), .int .u32 (z.c : Nat), .int .u32 (z.d : Nat), .int .u32 (z.e : Nat), .int .u32 (z.f : Nat), .int .u32 (z.g : Nat), .int .u32 (z.h : Nat)]) (.int .i64 6)).run Tryd.prog w = .ok (.int .u32 (z.g : Nat)) w := fun _ => by kernel_rfl
        go_wp2_with fail
        refine (word4_any B z.g lg _ _ wr HO.out hBs (by rw [outs_length z (by omega)]; omega)).mono ?_
        rintro e w5 ⟨v5, rfl, hown5, hb5⟩
        have hown6 : w5.ownsRow B 5 1 v5 (outs z 7).length (Lib.byteCells (outs z 7)) := hown5
        have HO6 := Lib.hid hown6
        clear hown5 hown6 HO
        go_wp2_with fail
        go_roundw
        case rel => exact ⟨7, rfl, by omega, HO6, hB.trans hb5⟩
        case measure => simp [intOf]
      · have e3 : ∀ w : World, (Instr.index 79 (.agg #[.int .u32 (z.a : Nat), .int .u32 (z.b : Nat), .int .u32 (z.c : Nat), .int .u32 (z.d : Nat), .int .u32 (z.e : Nat), .int .u32 (z.f : Nat), .int .u32 (z.g : Nat), .int .u32 (z.h : Nat)]) (.int .i64 7)).run Tryd.prog w = .ok (.int .u32 (z.h : Nat)) w := fun _ => by kernel_rfl
        go_wp2_with fail
        refine (word4_any B z.h lh _ _ wr HO.out hBs (by rw [outs_length z (by omega)]; omega)).mono ?_
        rintro e w5 ⟨v5, rfl, hown5, hb5⟩
        have hown6 : w5.ownsRow B 5 1 v5 (outs z 8).length (Lib.byteCells (outs z 8)) := hown5
        have HO6 := Lib.hid hown6
        clear hown5 hown6 HO
        go_wp2_with fail
        go_roundw
        case rel => exact ⟨8, rfl, by omega, HO6, hB.trans hb5⟩
        case measure => simp [intOf]
    · obtain rfl : k = 8 := by omega
      have hcv := conv_own wr _ _ _ (fun h => by have := outs_length z (Nat.le_refl 8); rw [h] at this; simp at this) HO.out
      rw [← HS.out] at hcv
      have hfin := hb03.trans (hB.mono hBw)
      clear HO
      go_wp2_with fail
      go_ret
      exact ⟨rfl, hfin⟩

set_option maxRecDepth 100000 in
theorem sum_any (l : List UInt8) (w : World) (hK : Keys w) (hn : l.length ≤ 281474976710000) :
    Calls Tryd.prog 12 #[.string (S l)] w fun e w' => e = .returned (.string (S (sum l))) ∧ Below w.heap.size w w' := by
  have hpos := hK.pos
  go_enter Tryd.func12, Tryd.ntmps12
  go_wp2_with fail
  refine (new_any w).mono ?_
  rintro e w1 ⟨b, rfl, hg, h1, hb1⟩
  have hK1 := hK.below hb1 hpos
  have H1 := Lib.hid h1
  clear h1
  go_wp2_with fail
  refine (write_at b [] l w1 hK1 (by omega) H1.out (by simp; omega)).mono ?_
  rintro e w2 ⟨rfl, h2, hT2⟩
  have hK2 := hK1.touch hT2 (by omega)
  have hb02 : Below w.heap.size w w2 := hb1.trans (hT2.below hg hb1.size)
  rw [List.nil_append] at h2
  have H2 := Lib.hid h2
  clear h2 hT2
  go_wp2_with fail
  refine (sum_at b l w2 hK2 H2.out hn).mono ?_
  rintro e w3 ⟨rfl, hb3⟩
  go_wp2_with fail
  go_ret
  exact ⟨rfl, hb02.trans (hb3.mono hb02.size)⟩
end Go.Proofs.YtpimdbnhpbjlkaaDoor.dg
/-! DigUnhex -/
namespace Go.Proofs.YtpimdbnhpbjlkaaDoor.dg
open Go.RowKit

/-- The bytes below n that have these two digits. -/
def hits (n : Nat) (a b : UInt8) : List UInt8 := ((List.range n).filter fun c => decide (hex1 c.toUInt8 = [a, b])).map Nat.toUInt8
theorem hits_succ (n : Nat) (a b : UInt8) : hits (n + 1) a b = hits n a b ++ if hex1 n.toUInt8 = [a, b] then [n.toUInt8] else [] := by
  unfold hits
  rw [List.range_succ, List.filter_append, List.map_append]
  congr 1
  by_cases h : hex1 n.toUInt8 = [a, b]
  · rw [if_pos h, List.filter_cons_of_pos (by simpa using h)]; rfl
  · rw [if_neg h, List.filter_cons_of_neg (by simpa using h)]; rfl
/-- Pair by pair. -/
def un : List UInt8 → List UInt8
  | a :: b :: r => hits 256 a b ++ un r
  | _ => []
theorem un_append : ∀ (j : Nat) (p r : List UInt8), p.length = 2 * j → un (p ++ r) = un p ++ un r
  | 0, p, r, h => by
    obtain rfl : p = [] := List.length_eq_zero_iff.1 (by omega)
    rfl
  | j + 1, p, r, h => by
    match p, h with
    | a :: b :: p, h =>
      have := un_append j p r (by simpa using (by simp at h; omega : p.length = 2 * j))
      show hits 256 a b ++ un (p ++ r) = (hits 256 a b ++ un p) ++ un r
      rw [this, List.append_assoc]
    | [a], h => simp at h; omega
    | [], h => simp at h
theorem un_take (l : List UInt8) (j : Nat) (h : 2 * j + 1 < l.length) : un (l.take (2 * (j + 1))) = un (l.take (2 * j)) ++ hits 256 (l[2 * j]) (l[2 * j + 1]) := by
  have e : l.take (2 * (j + 1)) = l.take (2 * j) ++ [l[2 * j], l[2 * j + 1]] := by
    rw [show 2 * (j + 1) = 2 * j + 1 + 1 by omega, List.take_succ_eq_append_getElem h, List.take_succ_eq_append_getElem (by omega), List.append_assoc]
    rfl
  rw [e, un_append j _ _ (by rw [List.length_take]; omega)]
  congr 1
  show hits 256 _ _ ++ [] = _
  rw [List.append_nil]
theorem un_rest {l : List UInt8} (h : l.length ≤ 1) : un l = [] := by
  match l, h with
  | [], _ => rfl
  | [a], _ => rfl
theorem un_all (l : List UInt8) (j : Nat) (h1 : 2 * j ≤ l.length) (h2 : l.length ≤ 2 * j + 1) : un (l.take (2 * j)) = un l := by
  have h := un_append j (l.take (2 * j)) (l.drop (2 * j)) (by rw [List.length_take]; omega)
  rw [List.take_append_drop, un_rest (l := l.drop (2 * j)) (by rw [List.length_drop]; omega), List.append_nil] at h
  exact h.symm
theorem S_pair (l : List UInt8) (i : Nat) (h : i + 1 < l.length) : (S l).extract i (i + 2) = S [l[i], l[i + 1]] := by
  apply ByteArray.ext
  apply Array.toList_inj.1
  rw [Lib.extract_data, S_data, S_data]
  have e : (l.drop i).take 2 = [l[i], l[i + 1]] := by
    rw [List.drop_eq_getElem_cons (by omega), List.drop_eq_getElem_cons h]
    rfl
  rw [← e]
  congr 1
  omega
theorem hits_length (n : Nat) (a b : UInt8) : (hits n a b).length ≤ n := by
  unfold hits
  rw [List.length_map]
  exact Nat.le_trans (List.length_filter_le _ _) (by simp)
theorem un_length : ∀ (l : List UInt8), (un l).length ≤ 256 * l.length
  | a :: b :: r => by
    show (hits 256 a b ++ un r).length ≤ _
    have h1 := hits_length 256 a b
    have h2 := un_length r
    rw [List.length_append, List.length_cons, List.length_cons]
    omega
  | [] => by simp [un]
  | [a] => by simp [un]

end Go.Proofs.YtpimdbnhpbjlkaaDoor.dg
/-! DigUn -/
namespace Go.Proofs.YtpimdbnhpbjlkaaDoor.dg

def place (a : UInt8) : Nat := (Lib.indexByte digits a).toNat
def dg (a : UInt8) : Bool := decide (0 ≤ Lib.indexByte digits a)
theorem dg_facts (a : UInt8) : (dg a = true → place a < 16 ∧ digit (place a) = a ∧ Lib.indexByte digits a = (place a : Nat)) ∧ (dg a = false → Lib.indexByte digits a = -1) := by
  have h : ∀ i : Fin 256, (dg (UInt8.ofNat i.1) = true → place (UInt8.ofNat i.1) < 16 ∧ digit (place (UInt8.ofNat i.1)) = UInt8.ofNat i.1 ∧ Lib.indexByte digits (UInt8.ofNat i.1) = (place (UInt8.ofNat i.1) : Nat)) ∧ (dg (UInt8.ofNat i.1) = false → Lib.indexByte digits (UInt8.ofNat i.1) = -1) := by decide +kernel
  have := h ⟨a.toNat, UInt8.toNat_lt a⟩
  simpa using this
theorem digit_dg {p : Nat} (hp : p < 16) : dg (digit p) = true ∧ place (digit p) = p := by
  have h : ∀ i : Fin 16, dg (digit i.1) = true ∧ place (digit i.1) = i.1 := by decide +kernel
  exact h ⟨p, hp⟩
theorem digit_inj {p q : Nat} (hp : p < 16) (hq : q < 16) (h : digit p = digit q) : p = q := by
  rw [← (digit_dg hp).2, h, (digit_dg hq).2]

/-- The byte of two digits. -/
def two8 (a b : UInt8) : UInt8 := UInt8.ofNat (16 * place a + place b)
/-- All are digits, in pairs. -/
def good : List UInt8 → Bool
  | a :: b :: r => dg a && dg b && good r
  | [] => true
  | [_] => false
def vals : List UInt8 → List UInt8
  | a :: b :: r => two8 a b :: vals r
  | _ => []

theorem range_filter (m : Nat) : ∀ n, (List.range n).filter (fun c => decide (c = m)) = if m < n then [m] else []
  | 0 => rfl
  | n + 1 => by
    rw [List.range_succ, List.filter_append, range_filter m n]
    by_cases h : n = m
    · subst h
      simp
    · have : (List.filter (fun c => decide (c = m)) [n]) = [] := by simp [h]
      rw [this, List.append_nil]
      by_cases h2 : m < n
      · rw [if_pos h2, if_pos (by omega)]
      · rw [if_neg h2, if_neg (by omega)]
theorem hex1_toNat {c : Nat} (hc : c < 256) : hex1 c.toUInt8 = [digit (c / 16), digit (c % 16)] := by
  have : c.toUInt8.toNat = c := by simp; omega
  unfold hex1
  rw [this]
theorem hits_good {a b : UInt8} (ha : dg a = true) (hb : dg b = true) : hits 256 a b = [two8 a b] := by
  obtain ⟨pa, da, _⟩ := (dg_facts a).1 ha
  obtain ⟨pb, db, _⟩ := (dg_facts b).1 hb
  have e : (List.range 256).filter (fun c => decide (hex1 c.toUInt8 = [a, b])) = (List.range 256).filter (fun c => decide (c = 16 * place a + place b)) := by
    apply List.filter_congr
    intro c hc
    have hc' : c < 256 := List.mem_range.1 hc
    rw [hex1_toNat hc']
    have : ([digit (c / 16), digit (c % 16)] = [a, b]) ↔ c = 16 * place a + place b := by
      constructor
      · intro h
        simp only [List.cons.injEq, and_true] at h
        have h1 := digit_inj (p := c / 16) (q := place a) (by omega) pa (by rw [h.1, da])
        have h2 := digit_inj (p := c % 16) (q := place b) (by omega) pb (by rw [h.2, db])
        omega
      · intro h
        have h1 : c / 16 = place a := by omega
        have h2 : c % 16 = place b := by omega
        rw [h1, h2, da, db]
    simp only [this]
  unfold hits
  rw [e, range_filter, if_pos (by omega)]
  rfl
theorem hits_bad {a b : UInt8} (h : ¬(dg a = true ∧ dg b = true)) : hits 256 a b = [] := by
  unfold hits
  rw [List.map_eq_nil_iff, List.filter_eq_nil_iff]
  intro c hc
  have hc' : c < 256 := List.mem_range.1 hc
  rw [hex1_toNat hc', decide_eq_true_iff]
  intro he
  simp only [List.cons.injEq, and_true] at he
  exact h ⟨by rw [← he.1]; exact (digit_dg (by omega)).1, by rw [← he.2]; exact (digit_dg (by omega)).1⟩
theorem vals_length : ∀ {l : List UInt8}, good l = true → 2 * (vals l).length = l.length
  | a :: b :: r, h => by
    simp only [good, Bool.and_eq_true] at h
    have := vals_length h.2
    simp only [vals, List.length_cons]
    omega
  | [], _ => rfl
  | [_], h => by simp [good] at h
theorem un_good : ∀ {l : List UInt8}, good l = true → un l = vals l
  | a :: b :: r, h => by
    simp only [good, Bool.and_eq_true] at h
    show hits 256 a b ++ un r = _
    rw [hits_good h.1.1 h.1.2, un_good h.2]
    rfl
  | [], _ => rfl
  | [_], h => by simp [good] at h
theorem hits_le (a b : UInt8) : (hits 256 a b).length ≤ 1 := by
  by_cases h : dg a = true ∧ dg b = true
  · rw [hits_good h.1 h.2]; exact Nat.le_refl _
  · rw [hits_bad h]; exact Nat.zero_le _
theorem un_le : ∀ l : List UInt8, 2 * (un l).length ≤ l.length
  | a :: b :: r => by
    show 2 * (hits 256 a b ++ un r).length ≤ _
    have h1 := hits_le a b
    have h2 := un_le r
    rw [List.length_append, List.length_cons, List.length_cons]
    omega
  | [] => by simp [un]
  | [_] => by simp [un]
theorem un_bad : ∀ {l : List UInt8}, good l = false → 2 * (un l).length < l.length
  | a :: b :: r, h => by
    show 2 * (hits 256 a b ++ un r).length < _
    have h1 := hits_le a b
    have h2 := un_le r
    rw [List.length_append, List.length_cons, List.length_cons]
    by_cases hab : dg a = true ∧ dg b = true
    · have hr : good r = false := by
        cases hg : good r with
        | false => rfl
        | true => simp [good, hab.1, hab.2, hg] at h
      have := un_bad hr
      omega
    · rw [hits_bad hab]
      simp
      omega
  | [], h => by simp [good] at h
  | [_], _ => by simp [un]
/-- What digits are read as. -/
def unhex (l : List UInt8) : List UInt8 := if good l = true then vals l else []
theorem ref_unhex (l : List UInt8) : (if 2 * (un l).length = l.length then un l else []) = unhex l ∧ decide (2 * (un l).length = l.length) = good l := by
  unfold unhex
  cases h : good l with
  | true =>
    have h1 := vals_length h
    have h2 := un_good h
    rw [h2]
    simp [h1]
  | false =>
    have := un_bad h
    have h3 : ¬ 2 * (un l).length = l.length := by omega
    simp [h3]
theorem good_hex : ∀ l : List UInt8, good (hex l) = true ∧ vals (hex l) = l
  | [] => ⟨rfl, rfl⟩
  | c :: l => by
    have ih := good_hex l
    have hlt := UInt8.toNat_lt c
    have e : hex (c :: l) = digit (c.toNat / 16) :: digit (c.toNat % 16) :: hex l := rfl
    have d1 := digit_dg (p := c.toNat / 16) (by omega)
    have d2 := digit_dg (p := c.toNat % 16) (by omega)
    rw [e]
    constructor
    · simp [good, d1.1, d2.1, ih.1]
    · simp only [vals, two8, d1.2, d2.2, ih.2]
      congr 1
      rw [show 16 * (c.toNat / 16) + c.toNat % 16 = c.toNat by omega]
      simp
theorem hex_vals : ∀ {l : List UInt8}, good l = true → hex (vals l) = l
  | a :: b :: r, h => by
    simp only [good, Bool.and_eq_true] at h
    obtain ⟨pa, da, _⟩ := (dg_facts a).1 h.1.1
    obtain ⟨pb, db, _⟩ := (dg_facts b).1 h.1.2
    have ih := hex_vals h.2
    show hex1 (two8 a b) ++ hex (vals r) = _
    have e : hex1 (two8 a b) = [a, b] := by
      have := hex1_toNat (c := 16 * place a + place b) (by omega)
      rw [show (16 * place a + place b) / 16 = place a by omega, show (16 * place a + place b) % 16 = place b by omega, da, db] at this
      exact this
    rw [e, ih]
    rfl
  | [], _ => rfl
  | [_], h => by simp [good] at h

theorem vals_take (l : List UInt8) (j : Nat) (h : 2 * j + 1 < l.length) : vals (l.take (2 * (j + 1))) = vals (l.take (2 * j)) ++ [two8 (l[2 * j]) (l[2 * j + 1])] := by
  have app : ∀ (j : Nat) (p r : List UInt8), p.length = 2 * j → vals (p ++ r) = vals p ++ vals r := by
    intro j
    induction j with
    | zero => intro p r hp; obtain rfl : p = [] := List.length_eq_zero_iff.1 (by omega); rfl
    | succ j ih =>
      intro p r hp
      match p, hp with
      | a :: b :: p, hp =>
        show two8 a b :: vals (p ++ r) = _
        rw [ih p r (by simp at hp; omega)]
        rfl
      | [a], hp => simp at hp; omega
      | [], hp => simp at hp
  have e : l.take (2 * (j + 1)) = l.take (2 * j) ++ [l[2 * j], l[2 * j + 1]] := by
    rw [show 2 * (j + 1) = 2 * j + 1 + 1 by omega, List.take_succ_eq_append_getElem h, List.take_succ_eq_append_getElem (by omega), List.append_assoc]
    rfl
  rw [e, app j _ _ (by rw [List.length_take]; omega)]
  rfl
theorem vals_take_length (l : List UInt8) (j : Nat) (h : 2 * j ≤ l.length) : (vals (l.take (2 * j))).length = j := by
  induction j with
  | zero => simp [vals]
  | succ j ih => rw [vals_take l j (by omega), List.length_append, ih (by omega)]; rfl
/-- Digits alone ahead of pair j, and all at the end: a list that is read. -/
theorem good_iff : ∀ l : List UInt8, good l = true ↔ l.length % 2 = 0 ∧ ∀ i (h : i < l.length), dg l[i] = true
  | a :: b :: r => by
    have ih := good_iff r
    simp only [good, Bool.and_eq_true, ih]
    constructor
    · rintro ⟨⟨ha, hb⟩, he, hr⟩
      refine ⟨by simp; omega, fun i h => ?_⟩
      match i, h with
      | 0, _ => exact ha
      | 1, _ => exact hb
      | i + 2, h => exact hr i (by simp at h; omega)
    · rintro ⟨he, hr⟩
      refine ⟨⟨hr 0 (by simp), hr 1 (by simp)⟩, by simp at he; omega, fun i h => ?_⟩
      exact hr (i + 2) (by simp; omega)
  | [] => by simp [good]
  | [a] => by simp [good]
theorem not_good {l : List UInt8} {i : Nat} (h : i < l.length) (hd : dg l[i] = false) : good l = false := by
  cases hg : good l with
  | false => rfl
  | true => have := ((good_iff l).1 hg).2 i h; rw [hd] at this; cases this
theorem odd_bad {l : List UInt8} (h : l.length % 2 = 1) : good l = false := by
  cases hg : good l with
  | false => rfl
  | true => have := ((good_iff l).1 hg).1; omega
end Go.Proofs.YtpimdbnhpbjlkaaDoor.dg
/-! DigHexP -/
namespace Go.Proofs.YtpimdbnhpbjlkaaDoor.dg
open Go.RowKit

theorem and15 (n : Nat) (h : n < 256) : bits .and .u8 (n : Int) 15 = ((n % 16 : Nat) : Int) := by
  have : ∀ i : Fin 256, bits .and .u8 (i.1 : Int) 15 = ((i.1 % 16 : Nat) : Int) := by decide +kernel
  exact this ⟨n, h⟩
theorem conv_nil (w : World) : (convert 75 9 (.slice none 0 0)).run Tryd.prog w = .ok (.string (S [])) w := by kernel_rfl

set_option maxHeartbeats 4000000 in
set_option maxRecDepth 100000 in
theorem hex_any (l : List UInt8) (hl : l.length ≤ 70368744177000) (w : World) :
    Calls Tryd.prog 20 #[.string (S l)] w fun e w' => e = .returned (.string (S (hex l))) ∧ Below w.heap.size w w' := by
  obtain ⟨i0, hi, hz0, hz1, hz2⟩ := info_parts infoU8
  have hz := S_size l
  obtain ⟨B, hB0⟩ : ∃ B, B = w.heap.size := ⟨_, rfl⟩
  have hBw : B ≤ w.heap.size := by omega
  go_enter Tryd.func20, Tryd.ntmps20
  go_wp2
  go_loopw [3, 7] (fun v i wr => ∃ k : Nat, i = .int .i64 k ∧ k ≤ l.length ∧ (k = 0 → v = .slice none 0 0) ∧ Hid (wr.ownsRow B 5 1 v (hex (l.take k)).length (Lib.byteCells (hex (l.take k)))) ∧ Below B w wr)
    (fun _ i _ => l.length - (intOf i).toNat)
  case atStart => exact ⟨0, rfl, Nat.zero_le _, fun _ => rfl, Lib.hid (World.ownsRow_nil _ _ _ _), Below.refl _ _⟩
  case round =>
    obtain ⟨k, rfl, hk, hv0, HO, hB⟩ := hrel
    have hBs : B ≤ wr.heap.size := Nat.le_trans hBw hB.size
    by_cases hlt : k < l.length
    · clear hv0
      have hlt' : k < (S l).size := by rw [S_size]; exact hlt
      have hht := hex_take l k hlt
      have hhl := hex_length (l.take k)
      rw [List.length_take] at hhl
      obtain ⟨x, hx2⟩ : ∃ x : Nat, (l[k]'hlt).toNat = x := ⟨_, rfl⟩
      have hx : ((S l)[k]'hlt').toNat = x := by rw [S_get l k hlt hlt']; exact hx2
      have hxl : x < 256 := hx2 ▸ UInt8.toNat_lt _
      obtain ⟨p, hp⟩ : ∃ p : Nat, x / 16 = p := ⟨_, rfl⟩
      obtain ⟨q, hq⟩ : ∃ q : Nat, x % 16 = q := ⟨_, rfl⟩
      have hpi : (x : Int) / 16 = (p : Int) := by omega
      have hqi : bits .and .u8 (x : Int) 15 = (q : Int) := by rw [and15 x hxl, hq]
      have hp16 : p < 16 := by omega
      have hq16 : q < 16 := by omega
      have dp := const_digit p hp16
      have dq := const_digit q hq16
      have hht2 : hex (l.take (k + 1)) = hex (l.take k) ++ [digit p, digit q] := by rw [hht]; unfold hex1; rw [hx2, hp, hq]
      clear hp hq
      have hpI : (p : Int) < 16 := by omega
      have hqI : (q : Int) < 16 := by omega
      have hki : (k : Int) < (l.length : Int) := by omega
      have HT := Lib.hid hht2
      have HHL := Lib.hid hhl
      clear hht hht2 hx2 hhl
      generalize hex (l.take k) = o at *
      have hOd : Hid (wr.drew.ownsRow B 5 1 u3 o.length (Lib.byteCells o)) := HO
      go_upto_region 5 with (fail)
      have hn2 : ∀ W : World, ∀ (j : Nat) (u : Value), ([.int .u8 ((digit p).toNat : Nat), .int .u8 ((digit q).toNat : Nat)] : List Value)[j]? = some u → (W.alloc (.cells #[.int .u8 ((digit p).toNat : Nat), .int .u8 ((digit q).toNat : Nat)] 5)).cell? ((⟨W.heap.size, 0, none⟩ : Addr).add j) = some u := by
        intro W j u hj
        match j, hj with
        | 0, hj => simp at hj; subst hj; simp [Addr.add]
        | 1, hj => simp at hj; subst hj; simp [Addr.add]
      have HN2 := Lib.hid hn2
      clear hn2
      have hone : ∀ u ∈ ([.int .u8 ((digit p).toNat : Nat), .int .u8 ((digit q).toNat : Nat)] : List Value), u.oneCell' = true := by intro u hu; simp at hu; rcases hu with rfl | rfl <;> rfl
      have HONE := Lib.hid hone
      clear hone
      have hol : o.length ≤ 2 * k := by have := HHL.out; omega
      have HOL := Lib.hid hol
      clear hol
      go_region_law (refine step_append_lies _ rfl (.tmp 10) (.tmp 21) 75 rfl B 5 i0 (.int .u8 0) 1 1 Tryd.underlying75 hi hz0 hz1 hz2 rfl (by decide) u3 o.length (Lib.byteCells o) (by simp [Act.eval]) (hOd.out.alloc _) ⟨wr.drew.heap.size, 0, none⟩ 2 2 [.int .u8 ((digit p).toNat : Nat), .int .u8 ((digit q).toNat : Nat)] (by simp [Act.eval]) rfl (HN2.out _) HONE.out (by decide) (by have := HOL.out; unfold maxLen; omega) (by have := HOL.out; omega) (by simp; omega) _ rfl ?_; intro g cap w' hown' hgrow _ hgl)
      all_goals have hb1 : Below B w w' := (hB.drew.alloc (by simpa using hBs) _).grown hgrow (by simp; omega) (fun j hj => (hOd.out.lt j hj).1)
      all_goals have hown2 : w'.ownsRow B 5 1 (Value.slice (some ⟨g, 0, none⟩) (o.length + 2) cap) (o ++ [digit p, digit q]).length (Lib.byteCells (o ++ [digit p, digit q])) := (by rw [List.length_append, Lib.byteCells_append]; exact hown')
      all_goals rw [← HT.out] at hown2
      all_goals have HO2 := Lib.hid hown2
      all_goals clear hown2 hown' hOd HO
      all_goals go_wp2_with fail
      all_goals (go_roundw; (case rel => exact ⟨k + 1, by go_num, by omega, fun h => absurd h (by omega), HO2, hb1⟩); (case measure => simp [intOf]; omega))
    · obtain rfl : k = l.length := by omega
      rw [List.take_length] at HO
      by_cases hnil : l = []
      · subst hnil
        obtain rfl := hv0 rfl
        rw [hB0] at hB
        clear HO
        have hcv := conv_nil wr
        go_wp2_with fail
        go_ret
        exact ⟨rfl, hB⟩
      · have hcv := conv_own wr _ _ _ (fun h => hnil (List.length_eq_zero_iff.1 (by have := hex_length l; rw [h, List.length_nil] at this; omega))) HO.out
        rw [hB0] at hB
        clear HO
        go_wp2_with fail
        go_ret
        exact ⟨rfl, hB⟩
end Go.Proofs.YtpimdbnhpbjlkaaDoor.dg
/-! DigUnP -/
namespace Go.Proofs.YtpimdbnhpbjlkaaDoor.dg
open Go.RowKit

theorem ib_any (a : UInt8) (w : World) :
    Calls Tryd.prog 68 #[.string ⟨#[48, 49, 50, 51, 52, 53, 54, 55, 56, 57, 97, 98, 99, 100, 101, 102]⟩, .int .u8 (a.toNat : Nat)] w fun e w' => e = .returned (.int .i64 (Lib.indexByte digits a)) ∧ w' = w := by
  have h := Tryd.strings_IndexByte ⟨#[48, 49, 50, 51, 52, 53, 54, 55, 56, 57, 97, 98, 99, 100, 101, 102]⟩ (a.toNat : Nat) w
  have e : ((a.toNat : Nat) : Int).toNat.toUInt8 = a := by simp
  rw [e] at h
  exact h
theorem or16 {p q : Nat} (hp : p < 16) (hq : q < 16) : bits .or .i64 ((p : Int) * 16) (q : Int) = ((16 * p + q : Nat) : Int) := by
  have : ∀ i j : Fin 16, bits .or .i64 ((i.1 : Int) * 16) (j.1 : Int) = ((16 * i.1 + j.1 : Nat) : Int) := by decide +kernel
  exact this ⟨p, hp⟩ ⟨q, hq⟩

set_option maxHeartbeats 4000000 in
set_option maxRecDepth 100000 in
theorem unhex_any (l : List UInt8) (hl : l.length ≤ 140737488355328) (w : World) :
    Calls Tryd.prog 62 #[.string (S l)] w fun e w' => e = .returned (.tuple #[.string (S (unhex l)), .bool (good l)]) ∧ Below w.heap.size w w' := by
  obtain ⟨i0, hi, hz0, hz1, hz2⟩ := info_parts infoU8
  have hz := S_size l
  obtain ⟨B, hB0⟩ : ∃ B, B = w.heap.size := ⟨_, rfl⟩
  have hBw : B ≤ w.heap.size := by omega
  have HB0 := Lib.hid hB0
  clear hB0
  go_enter Tryd.func62, Tryd.ntmps62
  by_cases hodd : l.length % 2 = 1
  · have hne : (((l.length : Int) % 2) != 0) = true := by simp; omega
    have hu : unhex l = [] := by unfold unhex; rw [odd_bad hodd]; rfl
    have hg : good l = false := odd_bad hodd
    have HU := Lib.hid (And.intro hu hg)
    clear hu hg hodd
    go_wp2
    refine bodyPost_ret (results_tmp2 rfl _ _ _) rfl ⟨?_, Below.refl _ _⟩
    rw [HU.out.1, HU.out.2]
    rfl
  · obtain ⟨q, hq⟩ : ∃ q, l.length = 2 * q := ⟨l.length / 2, by omega⟩
    have hne : (((l.length : Int) % 2) != 0) = false := by simp; omega
    have hdiv : (l.length : Int) / 2 = (q : Int) := by omega
    have HQ := Lib.hid hq
    clear hodd
    have hql : q ≤ 140737488355328 := by omega
    clear hq
    go_wp2
    go_loopw [4, 15] (fun v i wr => ∃ j : Nat, i = .int .i64 j ∧ j ≤ q ∧ (j = 0 → v = .slice none 0 0) ∧ Hid (∀ i (h : i < l.length), i < 2 * j → dg l[i] = true) ∧ Hid (wr.ownsRow B 5 1 v (vals (l.take (2 * j))).length (Lib.byteCells (vals (l.take (2 * j))))) ∧ Below B w wr)
      (fun _ i _ => q - (intOf i).toNat)
    case atStart => exact ⟨0, rfl, Nat.zero_le _, fun _ => rfl, Lib.hid (fun i _ h => absurd h (by omega)), Lib.hid (World.ownsRow_nil _ _ _ _), Below.refl _ _⟩
    case round =>
      obtain ⟨j, rfl, hj, hv0, HD, HO, hB⟩ := hrel
      have hBs : B ≤ wr.heap.size := Nat.le_trans hBw hB.size
      by_cases hlt : j < q
      · clear hv0
        have h0 : 2 * j < l.length := by have := HQ.out; omega
        have h1 : 2 * j + 1 < l.length := by have := HQ.out; omega
        have h0' : 2 * j < (S l).size := by rw [S_size]; exact h0
        have h1' : 2 * j + 1 < (S l).size := by rw [S_size]; exact h1
        obtain ⟨a, ha⟩ : ∃ a, l[2 * j]'h0 = a := ⟨_, rfl⟩
        obtain ⟨b, hb⟩ : ∃ b, l[2 * j + 1]'h1 = b := ⟨_, rfl⟩
        have hvt := vals_take l j h1
        rw [ha, hb] at hvt
        have hvl := vals_take_length l j (by omega)
        have hx0 : ((S l)[2 * j]'h0').toNat = a.toNat := by rw [S_get l _ h0 h0', ha]
        have hx1 : ((S l)[2 * j + 1]'h1').toNat = b.toNat := by rw [S_get l _ h1 h1', hb]
        have hng0 : dg a = false → good l = false := fun h => not_good h0 (by rw [ha]; exact h)
        have hng1 : dg b = false → good l = false := fun h => not_good h1 (by rw [hb]; exact h)
        have hI0 : (0 : Int) ≤ 2 * (j : Int) := by omega
        have hI1 : 2 * (j : Int) < (l.length : Int) := by omega
        have hI2 : 2 * (j : Int) + 1 < (l.length : Int) := by omega
        have t0 : (2 * (j : Int)).toNat = 2 * j := by omega
        have t1 : (2 * (j : Int) + 1).toNat = 2 * j + 1 := by omega
        have hji : (j : Int) < (q : Int) := by omega
        have hca := ib_any a
        have hcb := ib_any b
        have HDD : Hid (dg a = true → dg b = true → ∀ i (h : i < l.length), i < 2 * (j + 1) → dg l[i] = true) := fun da db i h hij => by
          by_cases h2 : i < 2 * j
          · exact HD.out i h h2
          · rcases (by omega : i = 2 * j ∨ i = 2 * j + 1) with rfl | rfl
            · rw [ha]; exact da
            · rw [hb]; exact db
        have HVT := Lib.hid hvt
        have HVL := Lib.hid hvl
        clear hvt hvl ha hb HD
        have hBw0 : Below w.heap.size w wr := by rw [← HB0.out]; exact hB
        have bad : good l = false → unhex l = [] ∧ good l = false := fun h => ⟨by unfold unhex; rw [h]; rfl, h⟩
        cases hda : dg a with
        | false =>
          rw [(dg_facts a).2 hda] at hca
          have HNG := Lib.hid (bad (hng0 hda))
          have HCB := Lib.hid hcb
          clear HDD hng0 hng1 bad hda HO hcb
          generalize Lib.indexByte digits b = lo at *
          go_wp2_with fail
          refine (hca _).mono ?_
          rintro e w' ⟨rfl, rfl⟩
          go_wp2_with fail
          refine (HCB.out _).mono ?_
          rintro e w'' ⟨rfl, rfl⟩
          go_wp2_with fail
          refine bodyPost_ret (results_tmp2 rfl _ _ _) rfl ⟨?_, hBw0⟩
          rw [HNG.out.1, HNG.out.2]
          rfl
        | true =>
          obtain ⟨pa, _, ea⟩ := (dg_facts a).1 hda
          rw [ea] at hca
          cases hdb : dg b with
          | false =>
            rw [(dg_facts b).2 hdb] at hcb
            have HNG := Lib.hid (bad (hng1 hdb))
            have HCB := Lib.hid hcb
            clear HDD hng0 hng1 bad hda hdb HO hcb ea
            generalize place a = pl at *
            go_wp2_with fail
            refine (hca _).mono ?_
            rintro e w' ⟨rfl, rfl⟩
            go_wp2_with fail
            refine (HCB.out _).mono ?_
            rintro e w'' ⟨rfl, rfl⟩
            go_wp2_with fail
            refine bodyPost_ret (results_tmp2 rfl _ _ _) rfl ⟨?_, hBw0⟩
            rw [HNG.out.1, HNG.out.2]
            rfl
          | true =>
            obtain ⟨pb, _, eb⟩ := (dg_facts b).1 hdb
            rw [eb] at hcb
            have HDD2 := Lib.hid (HDD.out hda hdb)
            have ht8 : ((two8 a b).toNat : Nat) = 16 * place a + place b := by unfold two8; rw [UInt8.toNat_ofNat']; omega
            have hor := or16 pa pb
            have HCB := Lib.hid hcb
            clear HDD hng0 hng1 bad hda hdb hcb ea eb
            obtain ⟨c, hc⟩ : ∃ c, c = two8 a b := ⟨_, rfl⟩
            rw [← hc] at ht8
            have HC := Lib.hid hc
            have HT8 := Lib.hid ht8
            clear hc ht8
            generalize place a = pl at *
            generalize place b = ql at *
            have hsum : 16 * pl + ql < 256 := by omega
            go_wp2_with fail
            refine (hca _).mono ?_
            rintro e w' ⟨rfl, rfl⟩
            go_wp2_with fail
            refine (HCB.out _).mono ?_
            rintro e w'' ⟨rfl, rfl⟩
            have hpl0 : decide ((pl : Int) < 0) = false := by simp
            have hql0 : decide ((ql : Int) < 0) = false := by simp
            have hp00 : (0 : Int) ≤ (pl : Int) ∧ (0 : Int) ≤ (ql : Int) := by omega
            go_wp2_with (at_builtin; refine wpList_append_own _ rfl _ _ 75 rfl B 5 i0 (.int .u8 0) 1 1 Tryd.underlying75 hi hz0 hz1 hz2 rfl (by decide) _ _ _ rfl (HO.out.alloc _) ⟨w''.heap.size, 0, none⟩ 1 1 [.int .u8 (16 * (pl : Int) + (ql : Int))] rfl rfl ?c1 ?c2 ?c3 ?c4 ?c5 ?_)
            case c1 =>
              intro j u hj
              match j, hj with
              | 0, hj => simp at hj; subst hj; simp [Addr.add]
            case c2 => intro u hu; simp at hu; subst hu; rfl
            case c3 => have := HVL.out; unfold maxLen; omega
            case c4 => have := HVL.out; omega
            case c5 => simp; omega
            intro v' w1 hown' hgrow hnil
            have hb1 : Below B w w1 := (hB.alloc hBs _).grown hgrow (by simp; omega) (fun k hk => (HO.out.lt k hk).1)
            have hown2 : w1.ownsRow B 5 1 v' (vals (l.take (2 * (j + 1)))).length (Lib.byteCells (vals (l.take (2 * (j + 1))))) := by
              rw [HVT.out, ← HC.out, List.length_append, Lib.byteCells_append]
              have e : (16 * (pl : Int) + (ql : Int)) = ((c.toNat : Nat) : Int) := by have := HT8.out; omega
              rw [e] at hown'
              exact hown'
            have HO2 := Lib.hid hown2
            clear hown2 hown' hgrow HO
            go_wp2_with fail
            go_roundw
            case rel => exact ⟨j + 1, by go_num, by omega, fun h => absurd h (by omega), HDD2, HO2, hb1⟩
            case measure => simp [intOf]; omega
      · obtain rfl : j = q := by omega
        have htk : l.take (2 * j) = l := List.take_of_length_le (by have := HQ.out; omega)
        have hg : good l = true := (good_iff l).2 ⟨by have := HQ.out; omega, fun i h => HD.out i h (by have := HQ.out; omega)⟩
        have hu : unhex l = vals l := by unfold unhex; rw [hg]; rfl
        have HU := Lib.hid (And.intro hu hg)
        rw [htk] at HO
        have hvl := vals_length hg
        rw [HB0.out] at hB
        clear hu hg HD htk
        by_cases hnil : j = 0
        · subst hnil
          obtain rfl := hv0 rfl
          have hvn : vals l = [] := List.length_eq_zero_iff.1 (by have := HQ.out; omega)
          have HVN := Lib.hid hvn
          have hcv := conv_nil wr
          clear HO hvl hvn
          go_wp2_with fail
          refine bodyPost_ret (results_tmp2 rfl _ _ _) rfl ⟨?_, hB⟩
          rw [HU.out.1, HU.out.2, HVN.out]
          rfl
        · have hcv := conv_own wr _ _ _ (fun h => hnil (by have := HQ.out; rw [h, List.length_nil] at hvl; omega)) HO.out
          clear HO hv0 hvl
          go_wp2_with fail
          refine bodyPost_ret (results_tmp2 rfl _ _ _) rfl ⟨?_, hB⟩
          rw [HU.out.1, HU.out.2]
          rfl
end Go.Proofs.YtpimdbnhpbjlkaaDoor.dg
/-! VtSpec -/
namespace Go.Proofs.YtpimdbnhpbjlkaaDoor.vt
set_option linter.unusedVariables false
open dk (Bs File Dk Call turn sync read fuse crash Right Sorted Named count used get put without done again full off steps spend)

def vname (h : Bs) : Bs := 98 :: dg.hex h
theorem vname_inj {a b : Bs} (h : vname a = vname b) : a = b := by
  have h2 : dg.hex a = dg.hex b := List.tail_eq_of_cons_eq h
  rw [← (dg.good_hex a).2, h2, (dg.good_hex b).2]
theorem vname_len {h : Bs} (hl : h.length = 32) : (vname h).length = 65 := by
  show (dg.hex h).length + 1 = 65
  rw [dg.hex_length, hl]
theorem vname_named {h : Bs} (hl : h.length = 32) : Named (vname h) := by
  have := vname_len hl
  exact ⟨by omega, by omega⟩
def fileDig (n : Bs) : Option Bs :=
  match n with
  | [] => none
  | c :: r => if c = 98 ∧ r.length = 64 ∧ dg.good r = true then some (dg.vals r) else none
theorem fileDig_name {h : Bs} (hl : h.length = 32) : fileDig (vname h) = some h := by
  show (if (98 : UInt8) = 98 ∧ (dg.hex h).length = 64 ∧ dg.good (dg.hex h) = true then some (dg.vals (dg.hex h)) else none) = _
  rw [if_pos ⟨rfl, by rw [dg.hex_length, hl], (dg.good_hex h).1⟩, (dg.good_hex h).2]
theorem fileDig_some {n h : Bs} (e : fileDig n = some h) : n = vname h ∧ h.length = 32 := by
  cases n with
  | nil => cases e
  | cons c r =>
    unfold fileDig at e
    simp only at e
    split at e
    · next hc =>
      injection e with e
      subst e
      obtain ⟨h1, h2, h3⟩ := hc
      subst h1
      refine ⟨by unfold vname; rw [dg.hex_vals h3], ?_⟩
      have := dg.vals_length h3
      omega
    · cases e

/-! ### The calls -/
def putV (d : Dk) (s : Bs) : Bs × Nat × Dk :=
  if 4096 < s.length then ([], 2, d)
  else if (read d (vname (dg.sum s))).2 = 0 ∧ (read d (vname (dg.sum s))).1 = s then (dg.sum s, 0, d)
  else if (turn d ⟨2, vname (dg.sum s), s⟩).1 ≠ 0 then ([], (turn d ⟨2, vname (dg.sum s), s⟩).1, (turn d ⟨2, vname (dg.sum s), s⟩).2)
  else if (sync (turn d ⟨2, vname (dg.sum s), s⟩).2).1 ≠ 0 then ([], (sync (turn d ⟨2, vname (dg.sum s), s⟩).2).1, (sync (turn d ⟨2, vname (dg.sum s), s⟩).2).2)
  else (dg.sum s, 0, (sync (turn d ⟨2, vname (dg.sum s), s⟩).2).2)
def getV (d : Dk) (h : Bs) : Bs × Nat :=
  if h.length ≠ 32 then ([], 1)
  else if (read d (vname h)).2 ≠ 0 then ([], (read d (vname h)).2)
  else if dg.sum (read d (vname h)).1 ≠ h then ([], 5)
  else ((read d (vname h)).1, 0)
def allV (l : List File) : List Bs := l.filterMap fun f => fileDig f.1
/-- The digests gone over: how many were dropped, the error, the disk. -/
def keepL (ks : List Bs) : List Bs → Nat → Dk → Nat × Nat × Dk
  | [], n, d => (n, 0, d)
  | h :: r, n, d => if h ∈ ks then keepL ks r n d
    else if (turn d ⟨3, vname h, []⟩).1 ≠ 0 then (n, (turn d ⟨3, vname h, []⟩).1, (turn d ⟨3, vname h, []⟩).2)
    else keepL ks r (n + 1) (turn d ⟨3, vname h, []⟩).2
def keepV (d : Dk) (ks : List Bs) : Nat × Nat × Dk :=
  if (keepL ks (allV d.seen) 0 d).2.1 = 0 ∧ 0 < (keepL ks (allV d.seen) 0 d).1 then
    ((keepL ks (allV d.seen) 0 d).1, (sync (keepL ks (allV d.seen) 0 d).2.2).1, (sync (keepL ks (allV d.seen) 0 d).2.2).2)
  else keepL ks (allV d.seen) 0 d
theorem allV_mem {l : List File} {h : Bs} : h ∈ allV l ↔ h.length = 32 ∧ ∃ s, (vname h, s) ∈ l := by
  unfold allV
  rw [List.mem_filterMap]
  constructor
  · rintro ⟨f, hf, e⟩
    obtain ⟨h1, h2⟩ := fileDig_some e
    exact ⟨h2, f.2, h1 ▸ hf⟩
  · rintro ⟨hl, s, hs⟩
    exact ⟨_, hs, fileDig_name hl⟩
theorem getV_true (d : Dk) (h : Bs) : ((getV d h).2 = 0 → dg.sum (getV d h).1 = h) ∧ ((getV d h).2 ≠ 0 → (getV d h).1 = []) := by
  unfold getV
  by_cases h1 : h.length ≠ 32
  · rw [if_pos h1]; exact ⟨fun e => absurd e (by decide), fun _ => rfl⟩
  · rw [if_neg h1]
    by_cases h2 : (read d (vname h)).2 ≠ 0
    · rw [if_pos h2]; exact ⟨fun e => absurd e h2, fun _ => rfl⟩
    · rw [if_neg h2]
      by_cases h3 : dg.sum (read d (vname h)).1 ≠ h
      · rw [if_pos h3]; exact ⟨fun e => absurd e (by decide), fun _ => rfl⟩
      · rw [if_neg h3]; exact ⟨fun _ => Decidable.not_not.1 h3, fun e => absurd rfl e⟩

/-! ### A disk whose power doesn't go -/
theorem turn_put {d : Dk} (ho : off d = false) {n s : Bs} (hn : Named n) (hr : used (put d.seen (n, s)) ≤ d.cap) : turn d ⟨2, n, s⟩ = (0, spend { d with seen := put d.seen (n, s), pend := d.pend ++ [⟨2, n, s⟩] }) := by
  obtain ⟨h1, h2⟩ := hn
  unfold turn
  have ha : dk.after d.seen ⟨2, n, s⟩ = put d.seen (n, s) := by unfold dk.after; rw [if_pos rfl]
  rw [if_neg (by show ¬ (n.length < 1 ∨ 80 < n.length); omega), if_neg (by rw [ho]; decide), if_neg (fun h => absurd h.1 (show ¬ ((2 : Nat) = 3) by decide)), if_neg (fun h => absurd h.1 (show ¬ ((2 : Nat) = 1) by decide)), ha, if_neg (by omega)]
theorem turn_drop {d : Dk} (hd : Right d) (ho : off d = false) {n s : Bs} (hn : Named n) (hg : get d.seen n = some s) : turn d ⟨3, n, []⟩ = (0, spend { d with seen := without d.seen n, pend := d.pend ++ [⟨3, n, []⟩] }) := by
  obtain ⟨h1, h2⟩ := hn
  have ha : dk.after d.seen ⟨3, n, []⟩ = without d.seen n := by
    unfold dk.after done steps
    simp
  have hu : used (without d.seen n) ≤ d.cap := Nat.le_trans (dk.used_without_le hd.sorted n) hd.used
  unfold turn
  rw [if_neg (by show ¬ (n.length < 1 ∨ 80 < n.length); omega), if_neg (by rw [ho]; decide), if_neg (fun h => by have h2 := h.2; rw [show get d.seen (⟨3, n, []⟩ : dk.Call).name = get d.seen n from rfl, hg] at h2; cases h2), if_neg (fun h => absurd h.1 (show ¬ ((3 : Nat) = 1) by decide)), ha, if_neg (by omega)]
theorem rd_some {d : Dk} (ho : off d = false) {n s : Bs} (hg : get d.seen n = some s) : read d n = (s, 0) := by
  unfold dk.read
  rw [if_neg (by rw [ho]; decide), hg]
theorem rd_none {d : Dk} (ho : off d = false) {n : Bs} (hg : get d.seen n = none) : read d n = ([], 6) := by
  unfold dk.read
  rw [if_neg (by rw [ho]; decide), hg]
theorem getV_some {d : Dk} (ho : off d = false) {s : Bs} (hg : get d.seen (vname (dg.sum s)) = some s) : getV d (dg.sum s) = (s, 0) := by
  unfold getV
  rw [rd_some ho hg, if_neg (by rw [dg.sum_length]; decide), if_neg (by simp), if_neg (by simp)]
end Go.Proofs.YtpimdbnhpbjlkaaDoor.vt
