/-
  The program's disk as it lies; its small methods.
-/
import Derived.Test.YtpimdbnhpbjlkaaGreatDoorDkP2
import Derived.Test.YtpimdbnhpbjlkaaGreatDoorDkRef4
namespace Go.Proofs.YtpimdbnhpbjlkaaGreatDoor.dk
set_option linter.unusedVariables false
open Go.RowKit
open fl (S S_size S_append S_inj str_eq str_ne)
open rw (Arr But Row Own bnext below_box below_drew below_drewN addr_add Fr RowB)
open mp (Mp Turned kget kput kwithout kmap KSorted)

/-- A pending call as it lies: the closure's function, what it holds, and the call that it is. -/
abbrev TC := (Nat × Array Value) × Call
def fnv (x : TC) : Value := .func (.func x.1.1) #[] x.1.2
def turnSh : rw.Sh TC where
  t := 96
  st := 55
  k := 2
  bytes := 16
  z := .agg #[.int .i64 0, .nilFunc]
  enc := fun x => [.int .i64 (steps x.2 : Nat), fnv x]
  hu := Tryz.underlying55
  hi := by kernel_rfl
  hz := by rfl
  hk := by decide
  hb := by decide
  len := fun _ => rfl
  one := fun x u hu => by
    simp only [List.mem_cons, List.not_mem_nil, or_false] at hu
    rcases hu with rfl | rfl <;> rfl
abbrev OwnT (w : World) (v : Value) (l : List TC) : Prop := rw.Own turnSh w 0 v l
theorem ownT_typed {w : World} {v : Value} {l : List TC} (h : OwnT w v l) {q : Nat} (hq : v.ownBlock = some q) : ∃ cs, w.heap[q]? = some (.cells cs 96 (0, 0)) := by
  obtain ⟨_, ⟨e, _⟩ | ⟨g, cap, cur, e, _, h5, _⟩⟩ := h
  · rw [e] at hq; cases hq
  · rw [e] at hq
    cases hq
    exact ⟨cur, h5⟩
theorem ownT_of {w w' : World} {v : Value} {l : List TC} (h : OwnT w v l) (hb : ∀ q, v.ownBlock = some q → w'.heap[q]? = w.heap[q]?) : OwnT w' v l := by
  obtain ⟨h1, h2 | ⟨g, cap, cur, h3, h4, h5, h6⟩⟩ := h
  · exact ⟨h1, .inl h2⟩
  · exact ⟨h1, .inr ⟨g, cap, cur, h3, h4, (hb g (by rw [h3]; rfl)).trans h5, h6⟩⟩

def fo (p : Nat) (Fs Fl : Nat → Prop) (pv : Value) (k : Nat) : Prop := k = p ∨ Fs k ∨ Fl k ∨ pv.ownBlock = some k
/-- The pieces of a disk. -/
structure Pc (w : World) (p : Nat) (cs : Array Value) (bs bl : Nat) (Fs Fl : Nat → Prop) (seen lasts : List File) (pv : Value) (ts : List TC) : Prop where
  a : Arr w p 57 cs
  s : FM w Fs bs seen
  l : FM w Fl bl lasts
  o : OwnT w pv ts
  does : ∀ x ∈ ts, Does w (fnv x) x.2
  dis : ∀ k, Fs k → ¬ Fl k
section
variable {w w' : World} {p : Nat} {cs : Array Value} {bs bl : Nat} {Fs Fl : Nat → Prop} {seen lasts : List File} {pv : Value} {ts : List TC}
/-- Of what block is each of a disk's. -/
theorem Pc.typed (h : Pc w p cs bs bl Fs Fl seen lasts pv ts) {k : Nat} (hk : fo p Fs Fl pv k) : (∃ es c, w.heap[k]? = some (.map es c)) ∨ ∃ cs t fr, w.heap[k]? = some (.cells cs t fr) ∧ (t = 57 ∨ t = 96 ∨ t = 5) := by
  rcases hk with rfl | hk | hk | hk
  · exact .inr ⟨_, _, _, h.a, .inl rfl⟩
  · rcases h.s.typed k hk with h1 | ⟨c, fr, h1⟩
    · exact .inl h1
    · exact .inr ⟨_, _, _, h1, .inr (.inr rfl)⟩
  · rcases h.l.typed k hk with h1 | ⟨c, fr, h1⟩
    · exact .inl h1
    · exact .inr ⟨_, _, _, h1, .inr (.inr rfl)⟩
  · obtain ⟨c, h1⟩ := ownT_typed h.o hk
    exact .inr ⟨_, _, _, h1, .inr (.inl rfl)⟩
theorem Pc.lt (h : Pc w p cs bs bl Fs Fl seen lasts pv ts) {k : Nat} (hk : fo p Fs Fl pv k) : k < w.heap.size := by
  rcases h.typed hk with ⟨es, c, hh⟩ | ⟨cs, t, fr, hh, _⟩ <;> exact (Array.getElem?_eq_some_iff.1 hh).1
theorem Pc.off (h : Pc w p cs bs bl Fs Fl seen lasts pv ts) {k : Nat} (hk : fo p Fs Fl pv k) {x : Array Value} {t : TypeId} {fr : Nat × Nat} (hx : w.heap[k]? = some (.cells x t fr)) : t = 57 ∨ t = 96 ∨ t = 5 := by
  rcases h.typed hk with ⟨es, c, hh⟩ | ⟨cs, t, fr, hh, ht⟩
  · rw [hx] at hh; cases hh
  · rw [hx] at hh; cases hh; exact ht
theorem Pc.nobox (h : Pc w p cs bs bl Fs Fl seen lasts pv ts) : NoBox w (fo p Fs Fl pv) := by
  intro k hk s hs
  have := h.off hk hs
  simp at this
theorem Pc.p_s (h : Pc w p cs bs bl Fs Fl seen lasts pv ts) : ¬ Fs p := by
  intro hk
  have ha := h.a
  unfold Arr at ha
  rcases h.s.typed p hk with ⟨es, c, e⟩ | ⟨x, fr, e⟩
  · rw [ha] at e; cases e
  · rw [ha] at e; cases e
theorem Pc.p_l (h : Pc w p cs bs bl Fs Fl seen lasts pv ts) : ¬ Fl p := by
  intro hk
  have ha := h.a
  unfold Arr at ha
  rcases h.l.typed p hk with ⟨es, c, e⟩ | ⟨x, fr, e⟩
  · rw [ha] at e; cases e
  · rw [ha] at e; cases e
theorem Pc.p_o (h : Pc w p cs bs bl Fs Fl seen lasts pv ts) : pv.ownBlock ≠ some p := by
  intro hk
  have ha := h.a
  unfold Arr at ha
  obtain ⟨c, e⟩ := ownT_typed h.o hk
  rw [ha] at e; cases e
theorem Pc.o_s (h : Pc w p cs bs bl Fs Fl seen lasts pv ts) {k : Nat} (hk : pv.ownBlock = some k) : ¬ Fs k := by
  intro h2
  obtain ⟨c, e⟩ := ownT_typed h.o hk
  rcases h.s.typed k h2 with ⟨es, c, e2⟩ | ⟨x, fr, e2⟩
  · rw [e] at e2; cases e2
  · rw [e] at e2; cases e2
theorem Pc.o_l (h : Pc w p cs bs bl Fs Fl seen lasts pv ts) {k : Nat} (hk : pv.ownBlock = some k) : ¬ Fl k := by
  intro h2
  obtain ⟨c, e⟩ := ownT_typed h.o hk
  rcases h.l.typed k h2 with ⟨es, c, e2⟩ | ⟨x, fr, e2⟩
  · rw [e] at e2; cases e2
  · rw [e] at e2; cases e2
/-- Other blocks turn. -/
theorem Pc.fr (h : Pc w p cs bs bl Fs Fl seen lasts pv ts) {G : Nat → Prop} (k : Fr G w w') (hG : ∀ i, fo p Fs Fl pv i → ¬ G i) (hn : NoBox w G) : Pc w' p cs bs bl Fs Fl seen lasts pv ts :=
  ⟨k.arr h.a (hG p (.inl rfl)), h.s.fr k fun i hi => hG i (.inr (.inl hi)), h.l.fr k fun i hi => hG i (.inr (.inr (.inl hi))),
    ownT_of h.o fun q hq => k.block q (h.lt (.inr (.inr (.inr hq)))) (hG q (.inr (.inr (.inr hq)))), fun x hx => (h.does x hx).fr k hn, h.dis⟩
theorem Pc.below (h : Pc w p cs bs bl Fs Fl seen lasts pv ts) (k : Below w.heap.size w w') : Pc w' p cs bs bl Fs Fl seen lasts pv ts :=
  h.fr (Fr.of_below (F := fun _ => False) k) (fun _ _ hh => hh) (fun _ hh => hh.elim)
theorem Pc.cell (h : Pc w p cs bs bl Fs Fl seen lasts pv ts) {j : Nat} {v : Value} (hv : cs[j]? = some v) : w.cell? ⟨p, j, none⟩ = some v := h.a.cell hv
/-- A store into the disk itself. -/
theorem Pc.set (h : Pc w p cs bs bl Fs Fl seen lasts pv ts) (j : Nat) (u : Value) : Pc (w.setCell ⟨p, j, none⟩ u) p (cs.setIfInBounds j u) bs bl Fs Fl seen lasts pv ts := by
  have hB : But p w (w.setCell ⟨p, j, none⟩ u) := (But.refl p w).set j u
  have hF : Fr (fun k => k = p) w (w.setCell ⟨p, j, none⟩ u) := Fr.but hB rfl
  have hnb : NoBox w (fun k => k = p) := fun k hk s hs => h.nobox k (.inl hk) s hs
  exact ⟨h.a.set j u, h.s.fr hF fun i hi e => h.p_s (e ▸ hi), h.l.fr hF fun i hi e => h.p_l (e ▸ hi), ownT_of h.o fun q hq => hB.block q (h.lt (.inr (.inr (.inr hq)))) (fun e => h.p_o (e ▸ hq)), fun x hx => (h.does x hx).fr hF hnb, h.dis⟩
theorem Pc.set_fr (h : Pc w p cs bs bl Fs Fl seen lasts pv ts) (j : Nat) (u : Value) : Fr (fo p Fs Fl pv) w (w.setCell ⟨p, j, none⟩ u) := Fr.but ((But.refl p w).set j u) (.inl rfl)
/-- What is seen has turned. -/
theorem Pc.turn (h : Pc w p cs bs bl Fs Fl seen lasts pv ts) {Fs' : Nat → Prop} {seen' : List File} (hs : FM w' Fs' bs seen') (k : Fr Fs w w') (hn : Nu w Fs Fs') : Pc w' p cs bs bl Fs' Fl seen' lasts pv ts := by
  have hnb : NoBox w Fs := fun k hk s hs => h.nobox k (.inr (.inl hk)) s hs
  exact ⟨k.arr h.a h.p_s, hs, h.l.fr k fun i hi e => h.dis i e hi, ownT_of h.o fun q hq => k.block q (h.lt (.inr (.inr (.inr hq)))) (h.o_s hq), fun x hx => (h.does x hx).fr k hnb, fun i hi hl => by
    rcases hn i hi with h1 | h1
    · exact h.dis i h1 hl
    · have := h.l.lt hl; omega⟩
/-- What lasts has turned. -/
theorem Pc.turnL (h : Pc w p cs bs bl Fs Fl seen lasts pv ts) {Fl' : Nat → Prop} {lasts' : List File} (hs : FM w' Fl' bl lasts') (k : Fr Fl w w') (hn : Nu w Fl Fl') : Pc w' p cs bs bl Fs Fl' seen lasts' pv ts := by
  have hnb : NoBox w Fl := fun k hk s hs => h.nobox k (.inr (.inr (.inl hk))) s hs
  exact ⟨k.arr h.a h.p_l, h.s.fr k fun i hi e => h.dis i hi e, hs, ownT_of h.o fun q hq => k.block q (h.lt (.inr (.inr (.inr hq)))) (h.o_l hq), fun x hx => (h.does x hx).fr k hnb, fun i hi hl => by
    rcases hn i hl with h1 | h1
    · exact h.dis i hi h1
    · have := h.s.lt hi; omega⟩
/-- One more is pending. -/
theorem Pc.push (h : Pc w p cs bs bl Fs Fl seen lasts pv ts) {pv' : Value} {x : TC} (ho : OwnT w' pv' (ts ++ [x])) (hg : w.grownBy w' pv.ownBlock) (hx : Does w (fnv x) x.2) : Pc w' p cs bs bl Fs Fl seen lasts pv' (ts ++ [x]) := by
  have k : Fr (fun i => pv.ownBlock = some i) w w' := Fr.grown hg fun q hq => hq
  have hnb : NoBox w (fun i => pv.ownBlock = some i) := fun i hi s hs => h.nobox i (.inr (.inr (.inr hi))) s hs
  exact ⟨k.arr h.a h.p_o, h.s.fr k fun i hi e => h.o_s e hi, h.l.fr k fun i hi e => h.o_l e hi, ho, fun y hy => by
    rcases List.mem_append.1 hy with hy | hy
    · exact (h.does y hy).fr k hnb
    · rw [List.mem_singleton.1 hy]; exact hx.fr k hnb, h.dis⟩
end

def FuseOk (d : Dk) (fz : Int) : Prop := (d.fused = true ∧ fz = d.left ∧ 0 ≤ d.left ∧ d.left ≤ 9223372036854775807) ∨ (d.fused = false ∧ fz < 0 ∧ -9223372036854775808 ≤ fz)
theorem FuseOk.off {d : Dk} {fz : Int} (h : FuseOk d fz) : off d = (fz == 0) := by
  unfold dk.off
  rcases h with ⟨h1, h2, h3, _⟩ | ⟨h1, h2, _⟩
  · rw [h1, h2, Bool.true_and, Bool.eq_iff_iff, decide_eq_true_eq, beq_iff_eq]; omega
  · rw [h1, Bool.false_and]
    symm
    rw [beq_eq_false_iff_ne]
    omega
def dkCells (d : Dk) (bs bl : Nat) (pv : Value) (fz : Int) : Array Value :=
  #[.int .i64 (d.cap : Nat), .map (some bs), .int .i64 (used d.seen : Nat), .map (some bl), pv, .int .i64 (count d.pend : Nat), .int .i64 fz]
/-- Block p is the program's disk; F: all that it takes. -/
def PD (w : World) (F : Nat → Prop) (p : Nat) (d : Dk) : Prop :=
  ∃ bs bl Fs Fl pv ts fz, Pc w p (dkCells d bs bl pv fz) bs bl Fs Fl d.seen d.lasts pv ts ∧ ts.map (·.2) = d.pend ∧ FuseOk d fz ∧ ∀ k, F k ↔ fo p Fs Fl pv k
theorem PD.of_pc {w : World} {p : Nat} {d : Dk} {cs : Array Value} {bs bl : Nat} {Fs Fl : Nat → Prop} {pv : Value} {ts : List TC} {fz : Int} (h : Pc w p cs bs bl Fs Fl d.seen d.lasts pv ts) (hc : cs = dkCells d bs bl pv fz) (ht : ts.map (·.2) = d.pend) (hf : FuseOk d fz) : PD w (fo p Fs Fl pv) p d :=
  ⟨bs, bl, Fs, Fl, pv, ts, fz, hc ▸ h, ht, hf, fun _ => Iff.rfl⟩
theorem PD.lt {w : World} {F : Nat → Prop} {p : Nat} {d : Dk} (h : PD w F p d) {k : Nat} (hk : F k) : k < w.heap.size := by
  obtain ⟨bs, bl, Fs, Fl, pv, ts, fz, h1, _, _, hF⟩ := h
  exact h1.lt ((hF k).1 hk)
theorem PD.own {w : World} {F : Nat → Prop} {p : Nat} {d : Dk} (h : PD w F p d) : F p := by
  obtain ⟨bs, bl, Fs, Fl, pv, ts, fz, h1, _, _, hF⟩ := h
  exact (hF p).2 (.inl rfl)
theorem PD.off {w : World} {F : Nat → Prop} {p : Nat} {d : Dk} (h : PD w F p d) {k : Nat} (hk : F k) {x : Array Value} {t : TypeId} {fr : Nat × Nat} (hx : w.heap[k]? = some (.cells x t fr)) : t = 57 ∨ t = 96 ∨ t = 5 := by
  obtain ⟨bs, bl, Fs, Fl, pv, ts, fz, h1, _, _, hF⟩ := h
  exact h1.off ((hF k).1 hk) hx
theorem PD.nobox {w : World} {F : Nat → Prop} {p : Nat} {d : Dk} (h : PD w F p d) : NoBox w F := by
  intro k hk s hs
  have := h.off hk hs
  simp at this
theorem PD.fr {w w' : World} {F G : Nat → Prop} {p : Nat} {d : Dk} (h : PD w F p d) (k : Fr G w w') (hG : ∀ i, F i → ¬ G i) (hn : NoBox w G) : PD w' F p d := by
  obtain ⟨bs, bl, Fs, Fl, pv, ts, fz, h1, h2, h3, hF⟩ := h
  exact ⟨bs, bl, Fs, Fl, pv, ts, fz, h1.fr k (fun i hi => hG i ((hF i).2 hi)) hn, h2, h3, hF⟩
theorem PD.below {w w' : World} {F : Nat → Prop} {p : Nat} {d : Dk} (h : PD w F p d) (k : Below w.heap.size w w') : PD w' F p d := by
  obtain ⟨bs, bl, Fs, Fl, pv, ts, fz, h1, h2, h3, hF⟩ := h
  exact ⟨bs, bl, Fs, Fl, pv, ts, fz, h1.below k, h2, h3, hF⟩
/-- What a call makes of a disk. -/
def Step (w : World) (F : Nat → Prop) (p : Nat) (d : Dk) (w' : World) : Prop := ∃ F', PD w' F' p d ∧ Fr F w w' ∧ Nu w F F'

/-! ### Small methods -/
set_option maxRecDepth 100000 in
theorem off_any (F : Nat → Prop) (p : Nat) (d : Dk) (w : World) (h : PD w F p d) :
    Calls Tryz.prog 14 #[.pointer (some ⟨p, 0, none⟩)] w fun e w' => e = .returned (.bool (off d)) ∧ w' = w := by
  obtain ⟨bs, bl, Fs, Fl, pv, ts, fz, h1, _, hf, hF⟩ := h
  have c6 := h1.cell (j := 6) (v := .int .i64 fz) rfl
  rw [hf.off]
  clear h1 hf hF
  go_enter Tryz.func14, Tryz.ntmps14
  go_wp2
  go_ret
  exact ⟨rfl, rfl⟩
set_option maxRecDepth 100000 in
theorem room_any (F : Nat → Prop) (p : Nat) (d : Dk) (w : World) (h : PD w F p d) (hc : d.cap ≤ 1048576) (hu : used d.seen ≤ 1048576) :
    Calls Tryz.prog 55 #[.pointer (some ⟨p, 0, none⟩)] w fun e w' => e = .returned (.int .i64 ((d.cap : Int) - (used d.seen : Int))) ∧ ∃ n, w' = w.drewN n := by
  obtain ⟨bs, bl, Fs, Fl, pv, ts, fz, h1, _, hf, hF⟩ := h
  have c0 := h1.cell (j := 0) (v := .int .i64 (d.cap : Nat)) rfl
  have c2 := h1.cell (j := 2) (v := .int .i64 (used d.seen : Nat)) rfl
  have hw : IntKind.i64.wrap ((d.cap : Int) - (used d.seen : Int)) = (d.cap : Int) - (used d.seen : Int) := IntWalk.i64_in _ (by omega)
  generalize used d.seen = u at *
  generalize d.cap = c at *
  clear h1 hf hF hc hu
  go_enter Tryz.func55, Tryz.ntmps55
  go_wp2
  go_quiet (fail)
  go_wp2
  go_ret
  exact ⟨rfl, _, rfl⟩
set_option maxRecDepth 100000 in
theorem pending_any (F : Nat → Prop) (p : Nat) (d : Dk) (w : World) (h : PD w F p d) :
    Calls Tryz.prog 12 #[.pointer (some ⟨p, 0, none⟩)] w fun e w' => e = .returned (.int .i64 (count d.pend : Nat)) ∧ w' = w := by
  obtain ⟨bs, bl, Fs, Fl, pv, ts, fz, h1, _, hf, hF⟩ := h
  have c2 := h1.cell (j := 5) (v := .int .i64 (count d.pend : Nat)) rfl
  generalize count d.pend = u at *
  clear h1 hf hF
  go_enter Tryz.func12, Tryz.ntmps12
  go_wp2
  go_ret
  exact ⟨rfl, rfl⟩
set_option maxRecDepth 100000 in
theorem fuse_any (F : Nat → Prop) (p : Nat) (d : Dk) (n : Int) (hn : -9223372036854775808 ≤ n ∧ n ≤ 9223372036854775807) (w : World) (h : PD w F p d) :
    Calls Tryz.prog 33 #[.pointer (some ⟨p, 0, none⟩), .int .i64 n] w fun e w' => e = .returned (.tuple #[]) ∧ Step w F p (fuse d n) w' := by
  obtain ⟨bs, bl, Fs, Fl, pv, ts, fz, h1, h2, hf, hF⟩ := h
  have c6 := h1.cell (j := 6) (v := .int .i64 fz) rfl
  have f6 := h1.a.frozen 6
  have HS : Hid (Step w F p (fuse d n) (w.setCell ⟨p, 6, none⟩ (.int .i64 n))) := by
    refine ⟨_, PD.of_pc (d := fuse d n) (fz := n) (h1.set 6 (.int .i64 n)) rfl h2 ?_, (h1.set_fr 6 _).mono fun k _ hk => (hF k).2 hk, fun k hk => .inl ((hF k).2 hk)⟩
    by_cases h0 : 0 ≤ n
    · exact .inl ⟨by simp [fuse, h0], rfl, h0, hn.2⟩
    · exact .inr ⟨by simp [fuse, h0], by omega, hn.1⟩
  clear h1 hf hF h2 hn
  go_enter Tryz.func33, Tryz.ntmps33
  go_wp2
  exact bodyPost_end (results_none rfl _ _ _) rfl ⟨rfl, HS.out⟩
/-- A call was done. -/
theorem spend_fuse {d : Dk} {fz : Int} (h : FuseOk d fz) (ho : off d = false) : FuseOk (spend d) (if 0 < fz then fz - 1 else fz) := by
  rw [h.off, beq_eq_false_iff_ne] at ho
  unfold spend
  rcases h with ⟨h1, h2, h3, h4⟩ | ⟨h1, h2, h3⟩
  · rw [if_pos h1, if_pos (by omega)]
    exact .inl ⟨h1, by show fz - 1 = d.left - 1; omega, by show 0 ≤ d.left - 1; omega, by show d.left - 1 ≤ _; omega⟩
  · rw [if_neg (by rw [h1]; decide), if_neg (by omega)]
    exact .inr ⟨h1, h2, h3⟩
set_option maxRecDepth 100000 in
theorem burn_any (F : Nat → Prop) (p : Nat) (d : Dk) (ho : off d = false) (w : World) (h : PD w F p d) :
    Calls Tryz.prog 72 #[.pointer (some ⟨p, 0, none⟩)] w fun e w' => e = .returned (.tuple #[]) ∧ Step w F p (spend d) w' := by
  obtain ⟨bs, bl, Fs, Fl, pv, ts, fz, h1, h2, hf, hF⟩ := h
  have c6 := h1.cell (j := 6) (v := .int .i64 fz) rfl
  have f6 := h1.a.frozen 6
  have hsp := spend_fuse hf ho
  obtain ⟨e1, e2, e3, e4, e5⟩ := spend_parts d
  have hcells : ∀ x, dkCells (spend d) bs bl pv x = dkCells d bs bl pv x := by intro x; unfold dkCells; rw [e1, e2, e4]
  by_cases h0 : 0 < fz
  · rw [if_pos h0] at hsp
    have HS : Hid (Step w F p (spend d) (w.setCell ⟨p, 6, none⟩ (.int .i64 (fz - 1)))) := by
      refine ⟨fo p Fs Fl pv, PD.of_pc (d := spend d) (fz := fz - 1) (bs := bs) (bl := bl) (pv := pv) (ts := ts) (cs := (dkCells d bs bl pv fz).setIfInBounds 6 (.int .i64 (fz - 1))) ?_ (by rw [hcells]; rfl) (by rw [e4]; exact h2) hsp, (h1.set_fr 6 _).mono fun k _ hk => (hF k).2 hk, fun k hk => .inl ((hF k).2 hk)⟩
      rw [e2, e3]
      exact h1.set 6 (.int .i64 (fz - 1))
    have hw : IntKind.i64.wrap (fz - 1) = fz - 1 := IntWalk.i64_in _ (by rcases hf with ⟨_, a, b, c⟩ | ⟨_, a, b⟩ <;> omega)
    clear h1 hf hF h2 hsp hcells e1 e2 e3 e4 e5
    go_enter Tryz.func72, Tryz.ntmps72
    go_wp2
    exact bodyPost_end (results_none rfl _ _ _) rfl ⟨rfl, HS.out⟩
  · rw [if_neg h0] at hsp
    have HS : Hid (Step w F p (spend d) w) := by
      refine ⟨F, ⟨bs, bl, Fs, Fl, pv, ts, fz, ?_, by rw [e4]; exact h2, hsp, hF⟩, Fr.refl _ _, Nu.refl _ _⟩
      rw [hcells, e2, e3]
      exact h1
    clear h1 hf hF h2 hsp hcells e1 e2 e3 e4 e5
    go_enter Tryz.func72, Tryz.ntmps72
    go_wp2
    exact bodyPost_end (results_none rfl _ _ _) rfl ⟨rfl, HS.out⟩
end Go.Proofs.YtpimdbnhpbjlkaaGreatDoor.dk
