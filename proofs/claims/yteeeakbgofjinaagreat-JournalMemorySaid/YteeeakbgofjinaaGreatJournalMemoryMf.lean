/-
  What the law's walk stands on, part 6 of 6: the texts JrSm, JrLv, JrSt, JrAl, JrAc, JrRn, JrSe, JrGr, JrJm0, JrJm1, JrRows, JrJm2, one behind the other.
-/
import Derived.Test.YteeeakbgofjinaaGreatRows
import Derived.ProofKit
import Derived.OpenShut
import Derived.Deep.Slices
import Derived.Deep.SlicePairs
import Derived.Test.YteeeakbgofjinaaGreatJournalMemoryMe
/-! JrSm -/
namespace Go.Proofs.YteeeakbgofjinaaGreat.jr
set_option linter.unusedVariables false
open Go.RowKit
open fl (S S_size S_append S_inj)
open rw (Arr But below_box bnext below_drew below_drewN Fr)
open dk (PD Step Nu Inv)

def stV (h : Hd) (b t : Nat) (cv ev : Value) (i : Bs) : Array Value := #[.int .u64 (h.term : Nat), .int .i64 (h.vote : Nat), .int .u64 (h.life : Nat), .int .u64 (b : Nat), .int .u64 (t : Nat), cv, ev, .string (S i)]
/-- Two states in their boxes. -/
structure Sb (w W : World) (x y : Nat) (h1 h2 : Hd) (b1 t1 b2 t2 : Nat) (cu eu cv ev : Value) (i1 i2 : Bs) (c1 c2 : List Int) (l1 l2 : List EnIn) : Prop where
  x : Arr W x 47 (stV h1 b1 t1 cu eu i1)
  y : Arr W y 47 (stV h2 b2 t2 cv ev i2)
  c1 : rw.Sl noSh W cu c1
  c2 : rw.Sl noSh W cv c2
  l1 : rw.Sl enSh W eu l1
  l2 : rw.Sl enSh W ev l2
  b : Below w.heap.size w W
theorem Sb.below {w W W' : World} {x y : Nat} {h1 h2 : Hd} {b1 t1 b2 t2 : Nat} {cu eu cv ev : Value} {i1 i2 : Bs} {c1 c2 : List Int} {l1 l2 : List EnIn} (h : Sb w W x y h1 h2 b1 t1 b2 t2 cu eu cv ev i1 i2 c1 c2 l1 l2) (k : Below W.heap.size W W') : Sb w W' x y h1 h2 b1 t1 b2 t2 cu eu cv ev i1 i2 c1 c2 l1 l2 :=
  ⟨h.x.below k, h.y.below k, h.c1.later _ k, h.c2.later _ k, h.l1.later _ k, h.l2.later _ k, h.b.trans (k.mono h.b.size)⟩
set_option maxHeartbeats 8000000 in
set_option maxRecDepth 100000 in
theorem refsame_any (h1 h2 : Hd) (b1 t1 b2 t2 : Nat) (cu eu cv ev : Value) (i1 i2 : Bs) (c1 c2 : List Int) (l1 l2 : List EnIn) (hc : c1.length ≤ 1000000000) (hl : l1.length ≤ 1000000000) (w : World) (g1 : rw.Sl noSh w cu c1) (g2 : rw.Sl noSh w cv c2) (g3 : rw.Sl enSh w eu l1) (g4 : rw.Sl enSh w ev l2) :
    Calls Tryz.prog 13 #[.agg (stV h1 b1 t1 cu eu i1), .agg (stV h2 b2 t2 cv ev i2)] w fun e w' => e = .returned (.bool (decide (h1 = h2 ∧ (b1 = b2 ∧ t1 = t2 ∧ c1 = c2 ∧ l1 = l2) ∧ i1 = i2))) ∧ Below w.heap.size w w' := by
  unfold stV
  obtain ⟨a1, k1, rfl⟩ := sl_form g1
  obtain ⟨a2, k2, rfl⟩ := sl_form g2
  obtain ⟨a3, k3, rfl⟩ := sl_form g3
  obtain ⟨a4, k4, rfl⟩ := sl_form g4
  obtain ⟨n1, hn1⟩ : ∃ n, c1.length = n := ⟨_, rfl⟩
  obtain ⟨n2, hn2⟩ : ∃ n, c2.length = n := ⟨_, rfl⟩
  obtain ⟨n3, hn3⟩ : ∃ n, l1.length = n := ⟨_, rfl⟩
  obtain ⟨n4, hn4⟩ : ∃ n, l2.length = n := ⟨_, rfl⟩
  rw [hn1] at g1
  rw [hn2] at g2
  rw [hn3] at g3
  rw [hn4] at g4
  rw [hn1, hn2, hn3, hn4]
  obtain ⟨r, hr⟩ : ∃ r, decide (h1 = h2 ∧ (b1 = b2 ∧ t1 = t2 ∧ c1 = c2 ∧ l1 = l2) ∧ i1 = i2) = r := ⟨_, rfl⟩
  rw [hr]
  have HR := Lib.hid hr
  have HI := Lib.hid fun W (p1 : rw.Sl noSh W (.slice a1 n1 k1) c1) (p2 : rw.Sl noSh W (.slice a2 n2 k2) c2) (p3 : rw.Sl enSh W (.slice a3 n3 k3) l1) (p4 : rw.Sl enSh W (.slice a4 n4 k4) l2) => sameLogs_any b1 t1 b2 t2 _ _ _ _ c1 c2 l1 l2 hc hl W p1 p2 p3 p4
  have H0 : Hid (Sb w ((w.alloc (.cells #[.int .u64 (h1.term : Nat), .int .i64 (h1.vote : Nat), .int .u64 (h1.life : Nat), .int .u64 (b1 : Nat), .int .u64 (t1 : Nat), .slice a1 n1 k1, .slice a3 n3 k3, .string (S i1)] 47)).alloc (.cells #[.int .u64 (h2.term : Nat), .int .i64 (h2.vote : Nat), .int .u64 (h2.life : Nat), .int .u64 (b2 : Nat), .int .u64 (t2 : Nat), .slice a2 n2 k2, .slice a4 n4 k4, .string (S i2)] 47)) w.heap.size (w.heap.size + 1) h1 h2 b1 t1 b2 t2 (.slice a1 n1 k1) (.slice a3 n3 k3) (.slice a2 n2 k2) (.slice a4 n4 k4) i1 i2 c1 c2 l1 l2) := by
    have j1 := below_box w (.cells #[.int .u64 (h1.term : Nat), .int .i64 (h1.vote : Nat), .int .u64 (h1.life : Nat), .int .u64 (b1 : Nat), .int .u64 (t1 : Nat), .slice a1 n1 k1, .slice a3 n3 k3, .string (S i1)] 47)
    have x1 := Arr.new w 47 #[.int .u64 (h1.term : Nat), .int .i64 (h1.vote : Nat), .int .u64 (h1.life : Nat), .int .u64 (b1 : Nat), .int .u64 (t1 : Nat), .slice a1 n1 k1, .slice a3 n3 k3, .string (S i1)]
    have hs : (w.alloc (.cells #[.int .u64 (h1.term : Nat), .int .i64 (h1.vote : Nat), .int .u64 (h1.life : Nat), .int .u64 (b1 : Nat), .int .u64 (t1 : Nat), .slice a1 n1 k1, .slice a3 n3 k3, .string (S i1)] 47)).heap.size = w.heap.size + 1 := by simp
    have q1 := g1.later _ j1
    have q2 := g2.later _ j1
    have q3 := g3.later _ j1
    have q4 := g4.later _ j1
    generalize w.alloc (.cells #[.int .u64 (h1.term : Nat), .int .i64 (h1.vote : Nat), .int .u64 (h1.life : Nat), .int .u64 (b1 : Nat), .int .u64 (t1 : Nat), .slice a1 n1 k1, .slice a3 n3 k3, .string (S i1)] 47) = W at *
    have j2 := below_box W (.cells #[.int .u64 (h2.term : Nat), .int .i64 (h2.vote : Nat), .int .u64 (h2.life : Nat), .int .u64 (b2 : Nat), .int .u64 (t2 : Nat), .slice a2 n2 k2, .slice a4 n4 k4, .string (S i2)] 47)
    have x2 := Arr.new W 47 #[.int .u64 (h2.term : Nat), .int .i64 (h2.vote : Nat), .int .u64 (h2.life : Nat), .int .u64 (b2 : Nat), .int .u64 (t2 : Nat), .slice a2 n2 k2, .slice a4 n4 k4, .string (S i2)]
    rw [hs] at x2
    exact ⟨x1.below j2, x2, q1.later _ j2, q2.later _ j2, q3.later _ j2, q4.later _ j2, j1.trans (j2.mono j1.size)⟩
  clear g1 g2 g3 g4 hr hn1 hn2 hn3 hn4 hc hl
  have heq := fun W => eq_hard h1.term h1.life h2.term h2.life h1.vote h2.vote W
  go_enter Tryz.func13, Tryz.ntmps13
  go_upto_region 1 with (fail)
  generalize (w.alloc (.cells #[.int .u64 (h1.term : Nat), .int .i64 (h1.vote : Nat), .int .u64 (h1.life : Nat), .int .u64 (b1 : Nat), .int .u64 (t1 : Nat), .slice a1 n1 k1, .slice a3 n3 k3, .string (S i1)] 47)).alloc (.cells #[.int .u64 (h2.term : Nat), .int .i64 (h2.vote : Nat), .int .u64 (h2.life : Nat), .int .u64 (b2 : Nat), .int .u64 (t2 : Nat), .slice a2 n2 k2, .slice a4 n4 k4, .string (S i2)] 47) = W0 at *
  obtain ⟨x0, x1, x2, x3, x4, x5, x6, x7⟩ : W0.cell? ⟨w.heap.size, 0, none⟩ = some (.int .u64 (h1.term : Nat)) ∧ W0.cell? ⟨w.heap.size, 1, none⟩ = some (.int .i64 (h1.vote : Nat)) ∧ W0.cell? ⟨w.heap.size, 2, none⟩ = some (.int .u64 (h1.life : Nat)) ∧ W0.cell? ⟨w.heap.size, 3, none⟩ = some (.int .u64 (b1 : Nat)) ∧ W0.cell? ⟨w.heap.size, 4, none⟩ = some (.int .u64 (t1 : Nat)) ∧ W0.cell? ⟨w.heap.size, 5, none⟩ = some (.slice a1 n1 k1) ∧ W0.cell? ⟨w.heap.size, 6, none⟩ = some (.slice a3 n3 k3) ∧ W0.cell? ⟨w.heap.size, 7, none⟩ = some (.string (S i1)) := ⟨H0.out.x.cell rfl, H0.out.x.cell rfl, H0.out.x.cell rfl, H0.out.x.cell rfl, H0.out.x.cell rfl, H0.out.x.cell rfl, H0.out.x.cell rfl, H0.out.x.cell rfl⟩
  obtain ⟨y0, y1, y2, y3, y4, y5, y6, y7⟩ : W0.cell? ⟨w.heap.size + 1, 0, none⟩ = some (.int .u64 (h2.term : Nat)) ∧ W0.cell? ⟨w.heap.size + 1, 1, none⟩ = some (.int .i64 (h2.vote : Nat)) ∧ W0.cell? ⟨w.heap.size + 1, 2, none⟩ = some (.int .u64 (h2.life : Nat)) ∧ W0.cell? ⟨w.heap.size + 1, 3, none⟩ = some (.int .u64 (b2 : Nat)) ∧ W0.cell? ⟨w.heap.size + 1, 4, none⟩ = some (.int .u64 (t2 : Nat)) ∧ W0.cell? ⟨w.heap.size + 1, 5, none⟩ = some (.slice a2 n2 k2) ∧ W0.cell? ⟨w.heap.size + 1, 6, none⟩ = some (.slice a4 n4 k4) ∧ W0.cell? ⟨w.heap.size + 1, 7, none⟩ = some (.string (S i2)) := ⟨H0.out.y.cell rfl, H0.out.y.cell rfl, H0.out.y.cell rfl, H0.out.y.cell rfl, H0.out.y.cell rfl, H0.out.y.cell rfl, H0.out.y.cell rfl, H0.out.y.cell rfl⟩
  by_cases e1 : h1 = h2
  · have e1' : (⟨h1.term, h1.vote, h1.life⟩ : Hd) = ⟨h2.term, h2.vote, h2.life⟩ := e1
    simp only [decide_eq_true e1'] at heq
    have hI := HI.out W0 H0.out.c1 H0.out.c2 H0.out.l1 H0.out.l2
    by_cases e2 : b1 = b2 ∧ t1 = t2 ∧ c1 = c2 ∧ l1 = l2
    · rw [decide_eq_true e2] at hI
      obtain ⟨q, hq⟩ : ∃ q, ((S i1).toList == (S i2).toList) = q := ⟨_, rfl⟩
      have HT : Hid (q = r) := Lib.hid (by rw [← HR.out, ← hq, S_toList_eq, Bool.eq_iff_iff, decide_eq_true_eq, decide_eq_true_eq]; exact ⟨fun h => ⟨e1, e2, h⟩, fun h => h.2.2⟩)
      clear HR e1 e2 e1'
      go_wp2_with fail
      refine hI.mono ?_
      clear hI x0 x1 x2 x3 x4 x5 x6 x7 y0 y1 y2 y3 y4 y5 y6 y7
      rintro e w2 ⟨rfl, b2'⟩
      have H2 := Lib.hid (H0.out.below b2')
      have x7 : w2.cell? ⟨w.heap.size, 7, none⟩ = some (.string (S i1)) := H2.out.x.cell rfl
      have y7 : w2.cell? ⟨w.heap.size + 1, 7, none⟩ = some (.string (S i2)) := H2.out.y.cell rfl
      have B2 := Lib.hid H2.out.b
      clear b2' H0 H2
      go_wp2_with fail
      go_ret
      rw [← HT.out]
      exact ⟨rfl, B2.out⟩
    · rw [decide_eq_false e2] at hI
      have HT : Hid (false = r) := Lib.hid (by rw [← HR.out]; symm; exact decide_eq_false fun h => e2 h.2.1)
      clear HR e1 e2 e1'
      go_wp2_with fail
      refine hI.mono ?_
      clear hI x0 x1 x2 x3 x4 x5 x6 x7 y0 y1 y2 y3 y4 y5 y6 y7
      rintro e w2 ⟨rfl, b2'⟩
      have B2 := Lib.hid (H0.out.below b2').b
      clear b2' H0
      go_wp2_with fail
      go_ret
      rw [← HT.out]
      exact ⟨rfl, B2.out⟩
  · have e1' : ¬ (⟨h1.term, h1.vote, h1.life⟩ : Hd) = ⟨h2.term, h2.vote, h2.life⟩ := e1
    simp only [decide_eq_false e1'] at heq
    have HT : Hid (false = r) := Lib.hid (by rw [← HR.out]; symm; exact decide_eq_false fun h => e1 h.1)
    clear HR e1 e1'
    go_wp2_with fail
    go_ret
    rw [← HT.out]
    exact ⟨rfl, H0.out.b⟩
end Go.Proofs.YteeeakbgofjinaaGreat.jr
/-! JrLv -/
namespace Go.Proofs.YteeeakbgofjinaaGreat.jr
set_option linter.unusedVariables false
open Go.RowKit
open fl (S S_size S_append S_inj)
open rw (Arr But below_box bnext below_drew below_drewN Fr)
open dk (PD Step Nu Inv Live)

/-- Block jb is a journal, on the disk p, that was made since w0. -/
def JLive (w0 w : World) (jb p : Nat) (d : dk.Dk) (s : St) : Prop :=
  ∃ F cv ev, Jn w F jb p d s cv ev ∧ (∀ k, F k → w0.heap.size ≤ k) ∧ w0.heap.size ≤ jb ∧ (∀ q, cv.ownBlock = some q → w0.heap.size ≤ q) ∧ (∀ q, ev.ownBlock = some q → w0.heap.size ≤ q) ∧ Below w0.heap.size w0 w
section
variable {w0 w w' W W' : World} {jb p : Nat} {d d' : dk.Dk} {s s' : St}
theorem JLive.since (h : JLive w0 w jb p d s) : Below w0.heap.size w0 w := by obtain ⟨F, cv, ev, _, _, _, _, _, h⟩ := h; exact h
theorem JLive.below (h : JLive w0 w jb p d s) (k : Below w.heap.size w w') : JLive w0 w' jb p d s := by
  obtain ⟨F, cv, ev, h1, h2, h3, h4, h5, h6⟩ := h
  exact ⟨F, cv, ev, h1.below k, h2, h3, h4, h5, h6.trans (k.mono h6.size)⟩
theorem JLive.disk (h : JLive w0 w jb p d s) : Live w0 w p d := by
  obtain ⟨F, cv, ev, h1, h2, h3, h4, h5, h6⟩ := h
  exact ⟨F, h1.d, h2, h6⟩
/-- A call of the journal. -/
theorem JLive.call {P : Program} {f : Nat} {args : Array Value} {E : Ending} (h : JLive w0 w jb p d s) (C : ∀ F cv ev, Jn w F jb p d s cv ev → Calls P f args w fun e w' => e = E ∧ JStep w F jb p cv ev d' s' w') : Calls P f args w fun e w' => e = E ∧ JLive w0 w' jb p d' s' := by
  obtain ⟨F, cv, ev, h1, h2, h3, h4, h5, h6⟩ := h
  refine (C F cv ev h1).mono ?_
  rintro e w' ⟨he, F2, c2, e2, g1, g2, g3, g4, g5⟩
  refine ⟨he, F2, c2, e2, g1, fun k hk => ?_, h3, fun q hq => ?_, fun q hq => ?_, h6.trans (g2.below h6.size ?_)⟩
  · rcases g3 k hk with h | h
    · exact h2 k h
    · exact Nat.le_trans h6.size h
  · rcases g4 with h | h
    · exact h4 q (h ▸ hq)
    · exact Nat.le_trans h6.size (h q hq)
  · rcases g5 with h | h
    · exact h5 q (h ▸ hq)
    · exact Nat.le_trans h6.size (h q hq)
  · rintro k (h | h | h)
    · exact h2 k h
    · exact h ▸ h3
    · exact h5 k h
/-- Whatever is known of a journal and kept by its calls; its blocks are such as O says. -/
structure Keeps (jb p : Nat) (O : Nat → Prop) (J : World → dk.Dk → St → Prop) : Prop where
  below : ∀ {W W' : World} {d : dk.Dk} {s : St}, J W d s → Below W.heap.size W W' → J W' d s
  call : ∀ {W : World} {d d' : dk.Dk} {s s' : St} {P : Program} {f : Nat} {args : Array Value} {E : Ending}, J W d s → (∀ F cv ev, Jn W F jb p d s cv ev → (∀ k, F k → O k) → Calls P f args W fun e w' => e = E ∧ JStep W F jb p cv ev d' s' w') → Calls P f args W fun e w' => e = E ∧ J w' d' s'
theorem JLive.keeps (w0 : World) (jb p : Nat) : Keeps jb p (fun k => w0.heap.size ≤ k) (fun W d s => JLive w0 W jb p d s) := by
  refine ⟨fun h k => h.below k, ?_⟩
  intro W d d' s s' P f args E h C
  obtain ⟨F, cv, ev, h1, h2, h3, h4, h5, h6⟩ := h
  have h : JLive w0 W jb p d s := ⟨F, cv, ev, h1, h2, h3, h4, h5, h6⟩
  refine (C F cv ev h1 h2).mono ?_
  rintro e w' ⟨he, F2, c2, e2, g1, g2, g3, g4, g5⟩
  refine ⟨he, F2, c2, e2, g1, fun k hk => ?_, h3, fun q hq => ?_, fun q hq => ?_, h6.trans (g2.below h6.size ?_)⟩
  · rcases g3 k hk with h | h
    · exact h2 k h
    · exact Nat.le_trans h6.size h
  · rcases g4 with h | h
    · exact h4 q (h ▸ hq)
    · exact Nat.le_trans h6.size (h q hq)
  · rcases g5 with h | h
    · exact h5 q (h ▸ hq)
    · exact Nat.le_trans h6.size (h q hq)
  · rintro k (h | h | h)
    · exact h2 k h
    · exact h ▸ h3
    · exact h5 k h
theorem JStep.below {F : Nat → Prop} {cv ev : Value} (h : JStep w F jb p cv ev d s W) (k : Below W.heap.size W W') : JStep w F jb p cv ev d s W' := by
  obtain ⟨F1, c1, e1, h1, h2, h3, h4, h5⟩ := h
  exact ⟨F1, c1, e1, h1.below k, h2.then_below k, h3, h4, h5⟩
theorem JStep.keeps (w : World) (F : Nat → Prop) (jb p : Nat) (cv ev : Value) : Keeps jb p (fun k => F k ∨ w.heap.size ≤ k) (fun W d s => JStep w F jb p cv ev d s W) := by
  refine ⟨fun h k => h.below k, ?_⟩
  intro W d d' s s' P f args E h C
  obtain ⟨F1, c1, e1, h1, h2, h3, h4, h5⟩ := h
  refine (C F1 c1 e1 h1 h3).mono ?_
  rintro e w' ⟨he, F2, c2, e2, g1, g2, g3, g4, g5⟩
  refine ⟨he, F2, c2, e2, g1, h2.trans g2 fun i hi hk => ?_, h3.trans g3 h2.size, Or.trans h2.size h4 g4, Or.trans h2.size h5 g5⟩
  rcases hk with hk | hk | hk
  · rcases h3 i hk with h | h
    · exact .inl h
    · omega
  · exact .inr (.inl hk)
  · rcases h5 with h | h
    · exact .inr (.inr (h ▸ hk))
    · have := h i hk; omega
/-- A call that tells. -/
theorem JLive.tell {P : Program} {f : Nat} {args : Array Value} {R : Ending → World → Prop} (h : JLive w0 w jb p d s) (C : ∀ F cv ev, Jn w F jb p d s cv ev → Calls P f args w R) : Calls P f args w R := by
  obtain ⟨F, cv, ev, h1, _⟩ := h
  exact C F cv ev h1
theorem lopen_any (p j : Nat) (d : dk.Dk) (hd : Inv j d) (hj : j ≤ 980) (w : World) (h : Live w0 w p d) :
    Calls Tryz.prog 10 #[.pointer (some ⟨p, 0, none⟩)] w fun e w' => match (openJ d).2.1 with
      | none => e = .returned (.tuple #[.pointer none, .int .i64 ((openJ d).1 : Nat)]) ∧ Live w0 w' p (openJ d).2.2
      | some s => ∃ jb, e = .returned (.tuple #[.pointer (some ⟨jb, 0, none⟩), .int .i64 0]) ∧ JLive w0 w' jb p (openJ d).2.2 s := by
  obtain ⟨F, h1, h2, h3⟩ := h
  refine (open_any F p j d hd hj w h1).mono ?_
  unfold OpenOut
  cases (openJ d).2.1 with
  | none =>
    rintro e w' ⟨g1, g2⟩
    exact ⟨g2, Live.step h2 h3 g1⟩
  | some s =>
    rintro e w' ⟨g1, cv, ev, jb, g2, g3, g4, g5, g6⟩
    obtain ⟨F', k1, k2, k3⟩ := g1
    exact ⟨jb, g2, F', cv, ev, ⟨k1, g4, own_lower g5 (Nat.zero_le _), own_lower g6 (Nat.zero_le _)⟩, fun k hk => (k3 k hk).elim (h2 k) (Nat.le_trans h3.size), Nat.le_trans h3.size g3, fun q hq => Nat.le_trans h3.size (g5.lt q hq).1, fun q hq => Nat.le_trans h3.size (g6.lt q hq).1, h3.trans (k2.below h3.size h2)⟩
end
/-- What a state tells, in rows of its own. -/
def StOut (w : World) (h : Hd) (b t : Nat) (c : List Int) (l : List EnIn) (i : Bs) (e : Ending) (w' : World) : Prop :=
  ∃ cv ev, e = .returned (.agg (stV h b t cv ev i)) ∧ rw.Own noSh w' w.heap.size cv c ∧ rw.Own enSh w' w.heap.size ev l ∧ Below w.heap.size w w'
theorem results_sv {w : World} {fn : Func} {tmps : Array Value} {sb : Nat} {h : Hd} {b t : Nat} {cv ev : Value} {i : Bs} (hr : fn.results = #[.cell 2 47]) (h2 : tmps[2]? = some (.pointer (some ⟨sb, 0, none⟩)))
    (hC : Arr w sb 47 (stV h b t cv ev i)) : (results fn tmps).run Tryz.prog w = .ok (.agg (stV h b t cv ev i)) w := by
  have z0 := hC.cell (j := 0) rfl
  have z1 := hC.cell (j := 1) rfl
  have z2 := hC.cell (j := 2) rfl
  have z3 := hC.cell (j := 3) rfl
  have z4 := hC.cell (j := 4) rfl
  have z5 := hC.cell (j := 5) rfl
  have z6 := hC.cell (j := 6) rfl
  have z7 := hC.cell (j := 7) rfl
  simp [results, hr, h2, go_sem, z0, z1, z2, z3, z4, z5, z6, z7, stV]
def layV (W : World) (sb : Nat) (h : Hd) (b t : Nat) (cv ev : Value) (i : Bs) : World := (((((((W.setCell ⟨sb, 0, none⟩ (.int .u64 (h.term : Nat))).setCell ⟨sb, 1, none⟩ (.int .i64 (h.vote : Nat))).setCell ⟨sb, 2, none⟩ (.int .u64 (h.life : Nat))).setCell ⟨sb, 3, none⟩ (.int .u64 (b : Nat))).setCell ⟨sb, 4, none⟩ (.int .u64 (t : Nat))).setCell ⟨sb, 5, none⟩ cv).setCell ⟨sb, 6, none⟩ ev).setCell ⟨sb, 7, none⟩ (.string (S i))
theorem layV_but (W : World) (sb : Nat) (h : Hd) (b t : Nat) (cv ev : Value) (i : Bs) : But sb W (layV W sb h b t cv ev i) := ((((((((But.refl sb W).set 0 _).set 1 _).set 2 _).set 3 _).set 4 _).set 5 _).set 6 _).set 7 _
theorem layV_arr {W : World} {sb : Nat} {T : TypeId} {h0 h : Hd} {b0 t0 b t : Nat} {c0 e0 cv ev : Value} {i0 i : Bs} (hA : Arr W sb T (stV h0 b0 t0 c0 e0 i0)) : Arr (layV W sb h b t cv ev i) sb T (stV h b t cv ev i) := by
  have e : ((((((((stV h0 b0 t0 c0 e0 i0).setIfInBounds 0 (.int .u64 (h.term : Nat))).setIfInBounds 1 (.int .i64 (h.vote : Nat))).setIfInBounds 2 (.int .u64 (h.life : Nat))).setIfInBounds 3 (.int .u64 (b : Nat))).setIfInBounds 4 (.int .u64 (t : Nat))).setIfInBounds 5 cv).setIfInBounds 6 ev).setIfInBounds 7 (.string (S i)) = stV h b t cv ev i := by simp [stV]
  rw [← e]
  unfold layV
  exact (((((((hA.set 0 _).set 1 _).set 2 _).set 3 _).set 4 _).set 5 _).set 6 _).set 7 _
end Go.Proofs.YteeeakbgofjinaaGreat.jr
/-! JrSt -/
namespace Go.Proofs.YteeeakbgofjinaaGreat.jr
set_option linter.unusedVariables false
open Go.RowKit
open fl (S S_size S_append S_inj)
open rw (Arr But below_box bnext below_drew below_drewN Fr)
open dk (PD Step Nu Inv Live)

set_option maxHeartbeats 4000000 in
set_option maxRecDepth 100000 in
theorem state_of (P : Value) (h : Hd) (b t : Nat) (c : List Int) (l : List EnIn) (i : Bs) (w : World)
    (HH : ∀ W, Below w.heap.size w W → Calls Tryz.prog 31 #[P] W fun e w' => e = .returned (.agg #[.int .u64 (h.term : Nat), .int .i64 (h.vote : Nat), .int .u64 (h.life : Nat)]) ∧ Below W.heap.size W w')
    (HL : ∀ W, Below w.heap.size w W → Calls Tryz.prog 28 #[P] W (LogOut W b t c l))
    (HM : ∀ W, Below w.heap.size w W → Calls Tryz.prog 33 #[P] W fun e w' => e = .returned (.string (S i)) ∧ Below W.heap.size W w') :
    Calls Tryz.prog 14 #[P] w (StOut w h b t c l i) := by
  have hb := below_box w (.cells #[.int .u64 0, .int .i64 0, .int .u64 0, .int .u64 0, .int .u64 0, .slice none 0 0, .slice none 0 0, .string ⟨#[]⟩] 47)
  have ha : Arr (w.alloc (.cells #[.int .u64 0, .int .i64 0, .int .u64 0, .int .u64 0, .int .u64 0, .slice none 0 0, .slice none 0 0, .string ⟨#[]⟩] 47)) w.heap.size 47 (stV zero.h 0 0 (.slice none 0 0) (.slice none 0 0) []) := Arr.new w _ _
  have hH := HH _ hb
  have HL' := Lib.hid HL
  have HM' := Lib.hid HM
  have H0 : Hid (Below w.heap.size w (w.alloc (.cells #[.int .u64 0, .int .i64 0, .int .u64 0, .int .u64 0, .int .u64 0, .slice none 0 0, .slice none 0 0, .string ⟨#[]⟩] 47)) ∧ Arr (w.alloc (.cells #[.int .u64 0, .int .i64 0, .int .u64 0, .int .u64 0, .int .u64 0, .slice none 0 0, .slice none 0 0, .string ⟨#[]⟩] 47)) w.heap.size 47 (stV zero.h 0 0 (.slice none 0 0) (.slice none 0 0) [])) := ⟨hb, ha⟩
  clear hb ha HH HL HM
  go_enter Tryz.func14, Tryz.ntmps14
  go_wp2_with fail
  refine hH.mono ?_
  clear hH
  rintro e w2 ⟨rfl, b2⟩
  have H2 := Lib.hid (And.intro (H0.out.1.trans (b2.mono H0.out.1.size)) (H0.out.2.below b2))
  have hL := HL'.out w2 H2.out.1
  clear b2 H0 HL'
  go_wp2_with fail
  refine hL.mono ?_
  clear hL
  rintro e w3 ⟨cv, ev, rfl, o1, o2, b3⟩
  have H3 := Lib.hid (And.intro (H2.out.1.trans (b3.mono H2.out.1.size)) (H2.out.2.below b3))
  have O3 := Lib.hid (And.intro (own_lower o1 H2.out.1.size) (own_lower o2 H2.out.1.size))
  obtain ⟨ca, cc, rfl⟩ : ∃ a k, cv = .slice a c.length k := o1.form
  obtain ⟨ea, ec, rfl⟩ : ∃ a k, ev = .slice a l.length k := o2.form
  have hM := HM'.out w3 H3.out.1
  clear b3 H2 HM' o1 o2
  unfold lgC
  go_wp2_with fail
  refine hM.mono ?_
  clear hM
  rintro e w4 ⟨rfl, b4⟩
  have H4 := Lib.hid (And.intro (H3.out.1.trans (b4.mono H3.out.1.size)) (H3.out.2.below b4))
  have O4 := Lib.hid (And.intro (O3.out.1.below _ b4) (O3.out.2.below _ b4))
  clear b4 H3 O3
  obtain ⟨x0, x1, x2, x3, x4, x5, x6, x7⟩ : w4.cell? ⟨w.heap.size, 0, none⟩ = some (.int .u64 0) ∧ w4.cell? ⟨w.heap.size, 1, none⟩ = some (.int .i64 0) ∧ w4.cell? ⟨w.heap.size, 2, none⟩ = some (.int .u64 0) ∧ w4.cell? ⟨w.heap.size, 3, none⟩ = some (.int .u64 0) ∧ w4.cell? ⟨w.heap.size, 4, none⟩ = some (.int .u64 0) ∧ w4.cell? ⟨w.heap.size, 5, none⟩ = some (.slice none 0 0) ∧ w4.cell? ⟨w.heap.size, 6, none⟩ = some (.slice none 0 0) ∧ w4.cell? ⟨w.heap.size, 7, none⟩ = some (.string ⟨#[]⟩) := ⟨H4.out.2.cell rfl, H4.out.2.cell rfl, H4.out.2.cell rfl, H4.out.2.cell rfl, H4.out.2.cell rfl, H4.out.2.cell rfl, H4.out.2.cell rfl, H4.out.2.cell rfl⟩
  obtain ⟨y0, y1, y2, y3, y4, y5, y6, y7⟩ : w4.frozen? ⟨w.heap.size, 0, none⟩ = false ∧ w4.frozen? ⟨w.heap.size, 1, none⟩ = false ∧ w4.frozen? ⟨w.heap.size, 2, none⟩ = false ∧ w4.frozen? ⟨w.heap.size, 3, none⟩ = false ∧ w4.frozen? ⟨w.heap.size, 4, none⟩ = false ∧ w4.frozen? ⟨w.heap.size, 5, none⟩ = false ∧ w4.frozen? ⟨w.heap.size, 6, none⟩ = false ∧ w4.frozen? ⟨w.heap.size, 7, none⟩ = false := ⟨H4.out.2.frozen 0, H4.out.2.frozen 1, H4.out.2.frozen 2, H4.out.2.frozen 3, H4.out.2.frozen 4, H4.out.2.frozen 5, H4.out.2.frozen 6, H4.out.2.frozen 7⟩
  have HE : Hid (Arr (layV w4 w.heap.size h b t (.slice ca c.length cc) (.slice ea l.length ec) i) w.heap.size 47 (stV h b t (.slice ca c.length cc) (.slice ea l.length ec) i) ∧ StOut w h b t c l i (.returned (.agg (stV h b t (.slice ca c.length cc) (.slice ea l.length ec) i))) (layV w4 w.heap.size h b t (.slice ca c.length cc) (.slice ea l.length ec) i)) := by
    have k := layV_but w4 w.heap.size h b t (.slice ca c.length cc) (.slice ea l.length ec) i
    exact ⟨layV_arr H4.out.2, _, _, rfl, own_but O4.out.1 H4.out.2 (by decide) k, own_but O4.out.2 H4.out.2 (by decide) k, H4.out.1.trans (k.below H4.out.1.size (Nat.le_refl _))⟩
  clear H4 O4
  go_wp2_with fail
  exact bodyPost_ret (results_sv rfl rfl HE.out.1) rfl HE.out.2
theorem rise_len : ∀ (l : List Nat) (a : Nat), (∀ x ∈ l, a < x ∧ x ≤ 5) → l.Pairwise (· < ·) → l.length + a ≤ 5 + (if l = [] then a else 0)
  | [], a, _, _ => by simp
  | x :: r, a, h, hp => by
    have hx := h x List.mem_cons_self
    have := rise_len r x (fun y hy => ⟨(List.pairwise_cons.1 hp).1 y hy, (h y (List.mem_cons_of_mem _ hy)).2⟩) (List.pairwise_cons.1 hp).2
    rw [if_neg (by simp)]
    rw [List.length_cons]
    split at this
    · next hr => subst hr; simp at *; omega
    · omega
theorem members_few {l : List Nat} (h : Members l) : l.length ≤ 5 := by
  have := rise_len l 0 (fun x hx => ⟨(h.1 x hx).1, (h.1 x hx).2⟩) h.2
  split at this <;> omega
theorem state_any {w0 : World} (jb p : Nat) (d : dk.Dk) (s : St) (ho : Ok s) (hsl : s.l.length ≤ 1000000000) (w : World) (h : JLive w0 w jb p d s) :
    Calls Tryz.prog 14 #[.pointer (some ⟨jb, 0, none⟩)] w (StOut w s.h s.base s.bterm (ints s.conf) (ens s.l) s.image) := by
  have hcl : s.conf.length ≤ 1000000000 := by
    have := members_few ho.conf
    omega
  have hi := ho.image
  exact state_of _ _ _ _ _ _ _ w (fun W k => (h.below k).tell fun F cv ev hj => hard_get F jb p d s cv ev W hj) (fun W k => (h.below k).tell fun F cv ev hj => log_get F jb p d s cv ev ho hsl hcl W hj) (fun W k => (h.below k).tell fun F cv ev hj => image_get F jb p d s cv ev (by omega) W hj)
theorem state_nil (w : World) : Calls Tryz.prog 14 #[.pointer none] w (StOut w zero.h 0 0 [] [] []) :=
  state_of _ _ _ _ _ _ _ w (fun W _ => hard_nil W) (fun W _ => log_nil W) (fun W _ => image_nil W)
set_option maxRecDepth 100000 in
theorem two_any (w : World) : Calls Tryz.prog 29 #[] w fun e w' => ∃ v, e = .returned v ∧ rw.Own enSh w' w.heap.size v two ∧ Below w.heap.size w w' := by
  go_enter Tryz.func29, Tryz.ntmps29
  go_wp2_with fail
  go_ret
  exact ⟨_, rfl, rw.Own.lit enSh w two (by decide) (by decide), below_box _ _⟩
set_option maxRecDepth 100000 in
theorem few_any (n : Nat) (w : World) : Calls Tryz.prog 34 #[.int .i64 (n : Nat)] w fun e w' => e = .returned (.int .i64 (min n 1048576 : Nat)) ∧ Below w.heap.size w w' := by
  go_enter Tryz.func34, Tryz.ntmps34
  go_wp2_with fail
  go_ret
  exact ⟨congrArg (fun z => Ending.returned (Value.int .i64 z)) (by show min (n : Int) 1048576 = _; omega), Below.refl _ _⟩
end Go.Proofs.YteeeakbgofjinaaGreat.jr
/-! JrAl -/
namespace Go.Proofs.YteeeakbgofjinaaGreat.jr
set_option linter.unusedVariables false
open Go.RowKit
open fl (S S_size S_append S_inj)
open rw (Arr But below_box bnext below_drew below_drewN Fr)
open dk (PD Step Nu Inv Live)

theorem neq_hard (t1 l1 t2 l2 v1 v2 : Nat) (w : World) : (binOp .neq 41 (.agg #[.int .u64 (t1 : Nat), .int .i64 (v1 : Nat), .int .u64 (l1 : Nat)]) (.agg #[.int .u64 (t2 : Nat), .int .i64 (v2 : Nat), .int .u64 (l2 : Nat)])).run Tryz.prog w = .ok (.bool (!decide ((⟨t1, v1, l1⟩ : Hd) = ⟨t2, v2, l2⟩))) w := by
  have h := eq_hard t1 l1 t2 l2 v1 v2 w
  rw [run_eql_struct] at h
  rw [run_neq_struct]
  revert h
  generalize (Op.equalIn 10000 41 (.agg #[.int .u64 (t1 : Nat), .int .i64 (v1 : Nat), .int .u64 (l1 : Nat)]) (.agg #[.int .u64 (t2 : Nat), .int .i64 (v2 : Nat), .int .u64 (l2 : Nat)])).run Tryz.prog w = r
  cases r with
  | ok x w' => intro h; injection h with h1 h2; injection h1 with h1; subst h1 h2; rfl
  | halt x w' => intro h; cases h
theorem inv_0 : Inv 0 (dk.fresh 1000) := dk.inv_fresh (by decide)
theorem inv_1 : Inv 4 (dsk 1000 (F K1)) := by
  have := openJ_inv inv_0
  rwa [open_fresh (by decide)] at this
theorem append_inv {j : Nat} {d : dk.Dk} (hd : Inv j d) (s : St) (f : Nat) (l : List EnIn) (hf : f + l.length < 18446744073709551616) (hm : ∀ e ∈ l, e.term < 18446744073709551616) (hl : l.length ≤ 1000000) : Inv (j + 2) (append s d f l).2.2 := by
  unfold append
  split
  · exact hd.mono (by omega)
  · next hc =>
    have hM : ∀ e ∈ l, MayIn e := Decidable.not_not.1 fun h => hc (.inr (.inr h))
    have hlen : (entRecs f (l.map toEn)).length ≤ 140737488355328 := by
      have := entRecs_len (l := l.map toEn) (i := f) (by rw [List.length_map]; exact hf) (fun e he => by
        obtain ⟨x, hx, rfl⟩ := List.mem_map.1 he
        exact ⟨mayIn_en (hM x hx), hm x hx⟩)
      rw [List.length_map] at this
      omega
    split
    · exact hd.mono (by omega)
    · split
      · exact jput_inv hd _ _ hlen
      · exact jput_inv hd _ _ hlen
theorem save_inv {j : Nat} {d : dk.Dk} (hd : Inv j d) (s : St) (ho : Ok s) (t : Nat) (v : Int) (ht : t < 18446744073709551616) : Inv (j + 2) (save s d t v).2.2 := by
  unfold save
  split
  · exact hd.mono (by omega)
  · next hc =>
    have hlen : (hardRec ⟨t, v.toNat, s.h.life⟩).length ≤ 140737488355328 := by
      have := hardRec_len (h := ⟨t, v.toNat, s.h.life⟩) ht (by show v.toNat ≤ 5; omega) ho.life
      omega
    split
    · exact hd.mono (by omega)
    · split
      · exact jput_inv hd _ _ hlen
      · exact jput_inv hd _ _ hlen
theorem ok_1 : Ok s1 := openJ_ok (d := dk.fresh 1000) (by rw [open_fresh (by decide)])
theorem two_term : ∀ e ∈ two, e.term < 18446744073709551616 := by decide
theorem inv_2 : Inv 6 (dsk 1000 (F K2)) := by
  have := append_inv inv_1 s1 1 two (by decide) two_term (by decide)
  rwa [a2] at this
theorem ok_2 : Ok s2 := by
  have := append_ok ok_1 (dsk 1000 (F K1)) 1 two_term
  rwa [a2] at this
theorem inv_3 : Inv 8 (dsk 1000 (F K3)) := by
  have := save_inv inv_2 s2 ok_2 3 2 (by decide)
  rwa [a4] at this
theorem ok_4 : Ok s4 := openJ_ok (d := dsk 1000 (F K3)) (by rw [a5])
set_option maxHeartbeats 8000000 in
set_option maxRecDepth 100000 in
theorem alive_any (w : World) : Calls Tryz.prog 6 #[] w fun e w' => e = .returned (.bool true) ∧ Below w.heap.size w w' := by
  have hN := dk.pnew_any 1000 w
  have hq1 : ∀ W, (binOp .neq 41 (.agg #[.int .u64 0, .int .i64 0, .int .u64 1]) (.agg #[.int .u64 0, .int .i64 0, .int .u64 1])).run Tryz.prog W = .ok (.bool false) W := fun W => neq_hard 0 1 0 1 0 0 W
  have hq2 : ∀ W, (binOp .eql 41 (.agg #[.int .u64 3, .int .i64 2, .int .u64 2]) (.agg #[.int .u64 3, .int .i64 2, .int .u64 2])).run Tryz.prog W = .ok (.bool true) W := fun W => eq_hard 3 2 3 2 2 2 W
  go_enter Tryz.func6, Tryz.ntmps6
  go_wp2_with fail
  refine hN.mono ?_
  clear hN
  rintro e w1 (⟨h, -, -⟩ | ⟨cap, hc, -, p, rfl, hp, hb⟩)
  · exfalso
    omega
  obtain rfl : cap = 1000 := by omega
  have L1 : Hid (Live w w1 p (dk.fresh 1000)) := Live.new (Below.refl _ _) hp hb
  clear hp hb hc
  have hO := lopen_any p 0 (dk.fresh 1000) inv_0 (by decide) w1 L1.out
  rw [open_fresh (by decide)] at hO
  clear L1
  go_wp2_with fail
  refine hO.mono ?_
  clear hO
  rintro e w2 ⟨jb, rfl, j2⟩
  have J2 := Lib.hid j2
  clear j2
  have hH := J2.out.tell fun F cv ev hj => hard_get F jb p _ s1 cv ev w2 hj
  change Calls Tryz.prog 31 #[.pointer (some ⟨jb, 0, none⟩)] w2 (fun e w' => e = .returned (.agg #[.int .u64 0, .int .i64 0, .int .u64 1]) ∧ Below w2.heap.size w2 w') at hH
  go_wp2_with fail
  refine hH.mono ?_
  clear hH
  rintro e w3 ⟨rfl, b3⟩
  have J3 := Lib.hid (J2.out.below b3)
  have hT := two_any w3
  clear b3 J2
  go_wp2_with fail
  refine hT.mono ?_
  clear hT
  rintro e w4 ⟨v4, rfl, o4, b4⟩
  obtain ⟨g4, k4, rfl⟩ := own_some o4 (by decide)
  have J4 := Lib.hid (J3.out.below b4)
  have hA : Calls Tryz.prog 25 #[.pointer (some ⟨jb, 0, none⟩), .int .u64 1, .slice (some ⟨g4, 0, none⟩) 2 k4] w4 fun e w' => e = .returned (.int .i64 0) ∧ JLive w w' jb p (dsk 1000 (F K2)) s2 := J4.out.call fun F0 cv ev hj => by
    have := append_any F0 jb p 4 _ s1 cv ev 1 _ two inv_1 (by decide) ok_1 (by decide) (by decide) (by decide) two_term w4 hj o4.sl (own_apt hj.d away_enSh o4)
    rw [a2] at this
    exact this
  clear o4 b4 J3
  change Hid (JLive w w4 jb p (dsk 1000 (F K1)) s1) at J4
  go_wp2_with fail
  refine hA.mono ?_
  clear hA
  rintro e w5 ⟨rfl, j5⟩
  have J5 := Lib.hid j5
  have hT := two_any w5
  clear j5 J4
  go_wp2_with fail
  refine hT.mono ?_
  clear hT
  rintro e w6 ⟨v6, rfl, o6, b6⟩
  obtain ⟨g6, k6, rfl⟩ := own_some o6 (by decide)
  have J6 := Lib.hid (J5.out.below b6)
  have hA : Calls Tryz.prog 25 #[.pointer (some ⟨jb, 0, none⟩), .int .u64 4, .slice (some ⟨g6, 0, none⟩) 2 k6] w6 fun e w' => e = .returned (.int .i64 1) ∧ JLive w w' jb p (dsk 1000 (F K2)) s2 := J6.out.call fun F0 cv ev hj => by
    have := append_any F0 jb p 6 _ s2 cv ev 4 _ two inv_2 (by decide) ok_2 (by decide) (by decide) (by decide) two_term w6 hj o6.sl (own_apt hj.d away_enSh o6)
    rw [a3] at this
    exact this
  clear o6 b6 J5
  go_wp2_with fail
  refine hA.mono ?_
  clear hA
  rintro e w7 ⟨rfl, j7⟩
  have J7 := Lib.hid j7
  have hS : Calls Tryz.prog 24 #[.pointer (some ⟨jb, 0, none⟩), .agg #[.int .u64 3, .int .i64 2, .int .u64 0]] w7 fun e w' => e = .returned (.int .i64 0) ∧ JLive w w' jb p (dsk 1000 (F K3)) s3 := J7.out.call fun F0 cv ev hj => by
    have := save_any F0 jb p 6 _ s2 cv ev 3 0 2 inv_2 (by decide) ok_2 (by decide) w7 hj
    rw [a4] at this
    exact this
  clear j7 J6
  go_wp2_with fail
  refine hS.mono ?_
  clear hS
  rintro e w8 ⟨rfl, j8⟩
  have J8 := Lib.hid j8
  have hO := lopen_any (w0 := w) p 8 (dsk 1000 (F K3)) inv_3 (by decide) w8 J8.out.disk
  rw [a5] at hO
  clear j8 J7
  go_wp2_with fail
  refine hO.mono ?_
  clear hO
  rintro e w9 ⟨kb, rfl, j9⟩
  have J9 := Lib.hid j9
  clear j9 J8
  have hH := J9.out.tell fun F0 cv ev hj => hard_get F0 kb p _ s4 cv ev w9 hj
  change Calls Tryz.prog 31 #[.pointer (some ⟨kb, 0, none⟩)] w9 (fun e w' => e = .returned (.agg #[.int .u64 3, .int .i64 2, .int .u64 2]) ∧ Below w9.heap.size w9 w') at hH
  go_wp2_with fail
  refine hH.mono ?_
  clear hH
  rintro e w10 ⟨rfl, b10⟩
  have J10 := Lib.hid (J9.out.below b10)
  have hL := J10.out.tell fun F0 cv ev hj => log_get F0 kb p _ s4 cv ev ok_4 (by decide) (by decide) w10 hj
  clear b10 J9
  go_wp2_with fail
  refine hL.mono ?_
  clear hL
  rintro e w11 ⟨c11, e11, rfl, o11, q11, b11⟩
  have J11 := Lib.hid (J10.out.below b11)
  have hT := two_any w11
  obtain ⟨ca, cc, rfl⟩ : ∃ a k, c11 = .slice a 0 k := o11.form
  obtain ⟨ea, ec, rfl⟩ : ∃ a k, e11 = .slice a 2 k := q11.form
  have Q11 := Lib.hid q11
  have hfl : ∀ W, (Instr.field 45 (.agg #[.int .u64 (s4.base : Nat), .int .u64 (s4.bterm : Nat), .slice ca 0 cc, .slice ea 2 ec]) 3).run Tryz.prog W = .ok (.slice ea 2 ec) W := fun W => by kernel_rfl
  unfold lgC
  clear b11 J10 o11 q11
  go_wp2_with fail
  refine hT.mono ?_
  clear hT
  rintro e w12 ⟨v12, rfl, o12, b12⟩
  have J12 := Lib.hid (J11.out.below b12)
  have hE := sameEntries_any (.slice ea 2 ec) v12 (ens s4.l) two (by decide) w12 (Q11.out.sl.later _ b12) o12.sl
  rw [show decide (ens s4.l = two) = true from rfl] at hE
  clear b12 J11 o12 Q11
  go_wp2_with fail
  refine hE.mono ?_
  clear hE
  rintro e w13 ⟨rfl, b13⟩
  have J13 := Lib.hid (J12.out.below b13)
  have hI := J13.out.tell fun F0 cv ev hj => image_get F0 kb p _ s4 cv ev (by decide) w13 hj
  change Calls Tryz.prog 33 #[.pointer (some ⟨kb, 0, none⟩)] w13 (fun e w' => e = .returned (.string ⟨#[]⟩) ∧ Below w13.heap.size w13 w') at hI
  clear b13 J12
  go_wp2_with fail
  refine hI.mono ?_
  clear hI
  rintro e w14 ⟨rfl, b14⟩
  have B14 := Lib.hid (J13.out.below b14).since
  clear b14 J13
  go_wp2_with fail
  go_ret
  exact ⟨rfl, B14.out⟩
end Go.Proofs.YteeeakbgofjinaaGreat.jr
/-! JrAc -/
namespace Go.Proofs.YteeeakbgofjinaaGreat.jr
set_option linter.unusedVariables false
open Go.RowKit
open fl (S S_size S_append S_inj)
open rw (Arr But below_box bnext below_drew below_drewN Fr)
open dk (PD Step Nu Inv Live)

/-- A call that came in. -/
structure AIn where
  kind : Int
  n : Int
  from_ : Nat
  term : Nat
  vote : Int
  life : Nat
  base : Nat
  bterm : Nat
  conf : List Int
  l : List EnIn
  image : Bs
/-- A script as it came in. -/
def Acts (O : Nat → Prop) (W : World) (v : Value) (al : List AIn) : Prop :=
  ∃ a c, v = .slice a al.length c ∧ ∀ j (h : j < al.length), ∃ b off cv ev, a = some ⟨b, off, none⟩ ∧ b < W.heap.size ∧ (W.cell? ⟨b, off + j * 11, none⟩ = some (.int .i64 (al[j]'h).kind) ∧ W.cell? ⟨b, off + j * 11 + 1, none⟩ = some (.int .i64 (al[j]'h).n) ∧ W.cell? ⟨b, off + j * 11 + 2, none⟩ = some (.int .u64 ((al[j]'h).from_ : Nat)) ∧ W.cell? ⟨b, off + j * 11 + 3, none⟩ = some (.int .u64 ((al[j]'h).term : Nat)) ∧ W.cell? ⟨b, off + j * 11 + 4, none⟩ = some (.int .i64 (al[j]'h).vote) ∧ W.cell? ⟨b, off + j * 11 + 5, none⟩ = some (.int .u64 ((al[j]'h).life : Nat)) ∧ W.cell? ⟨b, off + j * 11 + 6, none⟩ = some (.int .u64 ((al[j]'h).base : Nat)) ∧ W.cell? ⟨b, off + j * 11 + 7, none⟩ = some (.int .u64 ((al[j]'h).bterm : Nat)) ∧ W.cell? ⟨b, off + j * 11 + 8, none⟩ = some (cv) ∧ W.cell? ⟨b, off + j * 11 + 9, none⟩ = some (ev) ∧ W.cell? ⟨b, off + j * 11 + 10, none⟩ = some (.string (S (al[j]'h).image))) ∧ rw.Sl noSh W cv (al[j]'h).conf ∧ rw.Sl enSh W ev (al[j]'h).l ∧ rw.Apt O cv (al[j]'h).conf ∧ rw.Apt O ev (al[j]'h).l
theorem Acts.later {O : Nat → Prop} {W W' : World} {v : Value} {al : List AIn} (h : Acts O W v al) (k : Below W.heap.size W W') : Acts O W' v al := by
  obtain ⟨a, c, h1, h2⟩ := h
  refine ⟨a, c, h1, fun j hj => ?_⟩
  obtain ⟨b, off, cv, ev, e, hb, ⟨c0, c1, c2, c3, c4, c5, c6, c7, c8, c9, c10⟩, s1, s2, s3, s4⟩ := h2 j hj
  exact ⟨b, off, cv, ev, e, Nat.lt_of_lt_of_le hb k.size, ⟨keep1 c0 k, keep1 c1 k, keep1 c2 k, keep1 c3 k, keep1 c4 k, keep1 c5 k, keep1 c6 k, keep1 c7 k, keep1 c8 k, keep1 c9 k, keep1 c10 k⟩, s1.later _ k, s2.later _ k, s3, s4⟩
/-- What may come in. -/
structure AOk (a : AIn) : Prop where
  f : a.from_ < 18446744073709551616
  t : a.term < 18446744073709551616
  bt : a.bterm < 18446744073709551616
  c : a.conf.length ≤ 1000
  l : a.l.length ≤ 1000
  e : ∀ e ∈ a.l, e.term < 18446744073709551616
  i : a.image.length ≤ 281474976710656
def logOf (a : AIn) : LogIn := ⟨a.base, a.bterm, a.conf, a.l⟩
/-- A call on a journal: what it answers, what it makes. -/
def doA (x : St × dk.Dk) (a : AIn) : Nat × St × dk.Dk :=
  if a.kind = 1 then save x.1 x.2 a.term a.vote else if a.kind = 2 then append x.1 x.2 a.from_ a.l else if a.kind = 3 then rebase x.1 x.2 (logOf a) a.image else (0, x.1, x.2)
def plays (x : St × dk.Dk) (al : List AIn) : St × dk.Dk := al.foldl (fun y a => (doA y a).2) x
theorem plays_snoc (x : St × dk.Dk) (al : List AIn) (a : AIn) : plays x (al ++ [a]) = (doA (plays x al) a).2 := by
  unfold plays
  rw [List.foldl_append]
  rfl
/-- What holds behind k calls. -/
structure POk (j m : Nat) (x : St × dk.Dk) : Prop where
  o : Ok x.1
  i : Inv j x.2
  l : x.1.l.length ≤ m
theorem append_len (s : St) (d : dk.Dk) (f : Nat) (l : List EnIn) : (append s d f l).2.1.l.length ≤ s.l.length + l.length := by
  unfold append
  split
  · exact Nat.le_add_right _ _
  · split
    · exact Nat.le_add_right _ _
    · split
      · exact Nat.le_add_right _ _
      · show (s.l.take (f - s.base - 1) ++ l.map toEn).length ≤ _
        rw [List.length_append, List.length_take, List.length_map]
        omega
theorem rebase_len (s : St) (d : dk.Dk) (g : LogIn) (im : Bs) : (rebase s d g im).2.1.l.length ≤ s.l.length + g.l.length := by
  unfold rebase
  split
  · exact Nat.le_add_right _ _
  · split
    · exact Nat.le_add_right _ _
    · show (g.l.map toEn).length ≤ _
      rw [List.length_map]
      omega
theorem save_len (s : St) (d : dk.Dk) (t : Nat) (v : Int) : (save s d t v).2.1.l = s.l := by
  unfold save
  split
  · rfl
  · split
    · rfl
    · split <;> rfl
theorem rebase_inv {j : Nat} {d : dk.Dk} (hd : Inv j d) (s : St) (ho : Ok s) (g : LogIn) (im : Bs) (hb : g.bterm < 18446744073709551616) (hl : ∀ e ∈ g.l, e.term < 18446744073709551616) (hn : g.l.length ≤ 1000000) : Inv (j + 2) (rebase s d g im).2.2 := by
  unfold rebase
  split
  · exact hd.mono (by omega)
  · next hc =>
    have hok : Ok (rebased s g im) := rebased_ok ho (Decidable.not_not.1 fun h => hc (.inl h)) (by omega) (by omega) (Decidable.not_not.1 fun h => hc (.inr (.inr (.inr h)))) hb hl
    have hlen := fileOf_len hok (by show (g.l.map toEn).length ≤ _; rw [List.length_map]; exact hn)
    have hll : (rebased s g im).l.length = g.l.length := by show (g.l.map toEn).length = _; rw [List.length_map]
    split
    · exact jput_inv hd _ _ (by omega)
    · exact jput_inv hd _ _ (by omega)
theorem append_inv' {j : Nat} {d : dk.Dk} (hd : Inv j d) (s : St) (ho : Ok s) (hsl : s.l.length ≤ 1000000) (f : Nat) (l : List EnIn) (hm : ∀ e ∈ l, e.term < 18446744073709551616) (hl : l.length ≤ 1000000) : Inv (j + 2) (append s d f l).2.2 := by
  by_cases h : f ≤ s.base ∨ s.last + 1 < f
  · rw [append_refused h]
    exact hd.mono (by omega)
  · have hb := ho.base
    have e : s.last = s.base + s.l.length := rfl
    exact append_inv hd s f l (by omega) hm hl
theorem POk.next {j m : Nat} (hmm : m ≤ 1000000) {x : St × dk.Dk} (h : POk j m x) {a : AIn} (ha : AOk a) : POk (j + 2) (m + 1000) (doA x a).2 := by
  obtain ⟨ho, hi, hl⟩ := h
  have hal := ha.l
  unfold doA
  split
  · exact ⟨save_ok ho _ ha.t _, save_inv hi _ ho _ _ ha.t, by rw [save_len]; omega⟩
  · split
    · exact ⟨append_ok ho _ _ ha.e, append_inv' hi _ ho (by omega) _ _ ha.e (by omega), by have := append_len x.1 x.2 a.from_ a.l; omega⟩
    · split
      · exact ⟨rebase_ok ho _ ha.bt ha.e, rebase_inv hi _ ho _ _ ha.bt ha.e (by show a.l.length ≤ _; omega), by have := rebase_len x.1 x.2 (logOf a) a.image; have e : (logOf a).l = a.l := rfl; rw [e] at this; omega⟩
      · exact ⟨ho, hi.mono (by omega), by show x.1.l.length ≤ _; omega⟩
end Go.Proofs.YteeeakbgofjinaaGreat.jr
/-! JrRn -/
namespace Go.Proofs.YteeeakbgofjinaaGreat.jr
set_option linter.unusedVariables false
open Go.RowKit
open fl (S S_size S_append S_inj)
open rw (Arr But below_box bnext below_drew below_drewN Fr)
open dk (PD Step Nu Inv Live)

section
variable {w : World} {jb p j m : Nat} {x : St × dk.Dk} {a : AIn} {O : Nat → Prop} {J : World → dk.Dk → St → Prop}
theorem apt_of {α : Type} {F : Nat → Prop} {v : Value} {l : List α} (h : rw.Apt O v l) (k : ∀ i, F i → O i) : rw.Apt F v l := fun hl q hq hF => h hl q hq (k q hF)
theorem lsave_any (K : Keeps jb p O J) (h : J w x.2 x.1) (hp : POk j m x) (hj : j ≤ 980) (ha : AOk a) :
    Calls Tryz.prog 24 #[.pointer (some ⟨jb, 0, none⟩), .agg #[.int .u64 (a.term : Nat), .int .i64 a.vote, .int .u64 (a.life : Nat)]] w fun e w' => e = .returned (.int .i64 ((save x.1 x.2 a.term a.vote).1 : Nat)) ∧ J w' (save x.1 x.2 a.term a.vote).2.2 (save x.1 x.2 a.term a.vote).2.1 :=
  K.call h fun F cv ev hh _ => save_any F jb p j x.2 x.1 cv ev a.term a.life a.vote hp.i hj hp.o ha.t w hh
theorem lappend_any (K : Keeps jb p O J) (h : J w x.2 x.1) (hp : POk j m x) (hj : j ≤ 980) (hm : m ≤ 1000000) (ha : AOk a) (v : Value) (hv : rw.Sl enSh w v a.l) (hap : rw.Apt O v a.l) :
    Calls Tryz.prog 25 #[.pointer (some ⟨jb, 0, none⟩), .int .u64 (a.from_ : Nat), v] w fun e w' => e = .returned (.int .i64 ((append x.1 x.2 a.from_ a.l).1 : Nat)) ∧ J w' (append x.1 x.2 a.from_ a.l).2.2 (append x.1 x.2 a.from_ a.l).2.1 :=
  K.call h fun F cv ev hh hO => append_any F jb p j x.2 x.1 cv ev a.from_ v a.l hp.i hj hp.o (Nat.le_trans hp.l hm) ha.f (Nat.le_trans ha.l (by decide)) ha.e w hh hv (apt_of hap hO)
theorem lrebase_any (K : Keeps jb p O J) (h : J w x.2 x.1) (hp : POk j m x) (hj : j ≤ 980) (ha : AOk a) (cu eu : Value) (hc : rw.Sl noSh w cu a.conf) (hl : rw.Sl enSh w eu a.l) (hac : rw.Apt O cu a.conf) (hal : rw.Apt O eu a.l) :
    Calls Tryz.prog 26 #[.pointer (some ⟨jb, 0, none⟩), .agg #[.int .u64 (a.base : Nat), .int .u64 (a.bterm : Nat), cu, eu], .string (S a.image)] w fun e w' => e = .returned (.int .i64 ((rebase x.1 x.2 (logOf a) a.image).1 : Nat)) ∧ J w' (rebase x.1 x.2 (logOf a) a.image).2.2 (rebase x.1 x.2 (logOf a) a.image).2.1 :=
  K.call h fun F cv ev hh hO => rebase_any F jb p j x.2 x.1 cv ev (logOf a) a.image cu eu hp.i hj hp.o (Nat.le_trans ha.c (by decide)) (Nat.le_trans ha.l (by decide)) ha.e ha.bt ha.i w hh hc hl (apt_of hac hO) (apt_of hal hO)
end
set_option maxHeartbeats 8000000 in
set_option maxRecDepth 100000 in
theorem run_any {O : Nat → Prop} {J : World → dk.Dk → St → Prop} (jb p j m : Nat) (K : Keeps jb p O J) (x : St × dk.Dk) (v : Value) (al : List AIn) (hp : POk j m x) (hj : j + 2 * al.length ≤ 980) (hm : m + 1000 * al.length ≤ 1000000) (ha : ∀ a ∈ al, AOk a) (w : World) (h : J w x.2 x.1) (hA : ∀ W d s, J W d s → Acts O W v al) :
    Calls Tryz.prog 27 #[.pointer (some ⟨jb, 0, none⟩), v] w fun e w' => e = .returned (.tuple #[]) ∧ J w' (plays x al).2 (plays x al).1 := by
  obtain ⟨va, vc, rfl, -⟩ := hA w _ _ h
  have HA : Hid (∀ W d s, J W d s → Acts O W (.slice va al.length vc) al) := hA
  have HO := Lib.hid ha
  have H0 := Lib.hid (And.intro h hp)
  clear h hp hA ha
  go_enter Tryz.func27, Tryz.ntmps27
  go_wp2_with fail
  go_loopw [4] (fun i wr => ∃ k : Nat, i = .int .i64 (k : Nat) ∧ k ≤ al.length ∧ Hid (J wr (plays x (al.take k)).2 (plays x (al.take k)).1 ∧ POk (j + 2 * k) (m + 1000 * k) (plays x (al.take k))))
    (fun i _ => al.length - (intOf i).toNat)
  case atStart => exact ⟨0, rfl, Nat.zero_le _, H0.out.1, H0.out.2⟩
  case round =>
    obtain ⟨k, rfl, hk, HI⟩ := hrel
    by_cases hlt : k < al.length
    · have hki : (k : Int) < (al.length : Int) := by omega
      have hs : al.take (k + 1) = al.take k ++ [al[k]'hlt] := List.take_succ_eq_append_getElem hlt
      have hao := HO.out _ (List.getElem_mem hlt)
      obtain ⟨a, c, e, hcell⟩ := HA.out wr _ _ HI.out.1
      obtain ⟨b, off, cv, ev, e2, hb, ⟨c0, c1, c2, c3, c4, c5, c6, c7, c8, c9, c10⟩, s1, s2, s3, s4⟩ := hcell k hlt
      injection e with e3 e4 e5
      subst e3 e5 e2
      obtain ⟨y, hy⟩ : ∃ y, plays x (al.take k) = y := ⟨_, rfl⟩
      obtain ⟨ac, hac⟩ : ∃ ac, al[k]'hlt = ac := ⟨_, rfl⟩
      rw [hac] at c0 c1 c2 c3 c4 c5 c6 c7 c10 s1 s2 s3 s4 hs hao
      rw [hy] at HI
      have HN : Hid (∀ W, J W (doA y ac).2.2 (doA y ac).2.1 → J W (plays x (al.take (k + 1))).2 (plays x (al.take (k + 1))).1 ∧ POk (j + 2 * (k + 1)) (m + 1000 * (k + 1)) (plays x (al.take (k + 1)))) := fun W hW => by
        rw [hs, plays_snoc, hy]
        exact ⟨hW, HI.out.2.next (by omega) hao⟩
      obtain ⟨ua, un, uc, rfl⟩ : ∃ a n c, cv = .slice a n c := by
        obtain ⟨a, c, e⟩ := sl_form s1
        exact ⟨a, _, c, e⟩
      obtain ⟨ta, tn, tc, rfl⟩ : ∃ a n c, ev = .slice a n c := by
        obtain ⟨a, c, e⟩ := sl_form s2
        exact ⟨a, _, c, e⟩
      have hS := lsave_any K HI.out.1 HI.out.2 (by omega) hao
      have bd := below_drew (Below.refl wr.heap.size wr)
      have hAp := lappend_any K (K.below HI.out.1 bd) HI.out.2 (by omega) (by omega) hao _ (s2.later _ bd) s4
      have hRb := lrebase_any K (K.below HI.out.1 bd) HI.out.2 (by omega) hao _ _ (s1.later _ bd) (s2.later _ bd) s3 s4
      have HD : Hid (doA y ac = if ac.kind = 1 then save y.1 y.2 ac.term ac.vote else if ac.kind = 2 then append y.1 y.2 ac.from_ ac.l else if ac.kind = 3 then rebase y.1 y.2 (logOf ac) ac.image else (0, y.1, y.2)) := rfl
      generalize doA y ac = dn at *
      generalize save y.1 y.2 ac.term ac.vote = sn at *
      generalize append y.1 y.2 ac.from_ ac.l = an at *
      generalize rebase y.1 y.2 (logOf ac) ac.image = rn at *
      have HL := Lib.hid HI.out.1
      clear HI hs hao hac hy hb s1 s2 s3 s4 bd hcell e4
      generalize ac.kind = kd at *
      generalize ac.image = im at *
      by_cases h1 : kd = 1
      · subst h1
        have HD2 : Hid (dn = sn) := Lib.hid (by rw [HD.out, if_pos rfl])
        clear hAp hRb HD HL
        go_wp2_with fail
        refine hS.mono ?_
        clear hS
        rintro e w5 ⟨rfl, j5⟩
        have HE := Lib.hid (HN.out w5 (by rw [HD2.out]; exact j5))
        clear j5 HN HD2 c0 c1 c2 c3 c4 c5 c6 c7 c8 c9 c10
        go_wp2_with fail
        exact ⟨⟨k + 1, by rw [Int.natCast_add]; rfl, by omega, HE⟩, by simp only [intOf]; omega⟩
      · by_cases h2 : kd = 2
        · subst h2
          have HD2 : Hid (dn = an) := Lib.hid (by rw [HD.out, if_neg (by decide), if_pos rfl])
          clear hS hRb HD HL h1
          go_upto_region 7 with (fail)
          go_region_law (first | (go_simp; go_at_call 25; refine hAp.mono ?_; rintro e w5 ⟨rfl, j5⟩; have J5 := Lib.hid j5; clear j5 hAp) | fail)
          all_goals (
            have HE := Lib.hid (HN.out w5 (by rw [HD2.out]; exact J5.out))
            clear J5 HN HD2 c0 c1 c2 c3 c4 c5 c6 c7 c8 c9 c10
            go_wp2_with fail
            exact ⟨⟨k + 1, by rw [Int.natCast_add]; rfl, by omega, HE⟩, by simp only [intOf]; omega⟩)
        · by_cases h3 : kd = 3
          · subst h3
            have HD2 : Hid (dn = rn) := Lib.hid (by rw [HD.out, if_neg (by decide), if_neg (by decide), if_pos rfl])
            clear hS hAp HD HL h1 h2
            go_upto_region 9 with (fail)
            go_region_law (first | (go_simp; go_at_call 26; refine hRb.mono ?_; rintro e w5 ⟨rfl, j5⟩; have J5 := Lib.hid j5; clear j5 hRb) | fail)
            all_goals (
              have HE := Lib.hid (HN.out w5 (by rw [HD2.out]; exact J5.out))
              clear J5 HN HD2 c0 c1 c2 c3 c4 c5 c6 c7 c8 c9 c10
              go_wp2_with fail
              exact ⟨⟨k + 1, by rw [Int.natCast_add]; rfl, by omega, HE⟩, by simp only [intOf]; omega⟩)
          · have HE := Lib.hid (HN.out wr (by rw [HD.out, if_neg h1, if_neg h2, if_neg h3]; exact HL.out))
            clear hS hAp hRb HD HL HN
            go_wp2_with fail
            exact ⟨⟨k + 1, by rw [Int.natCast_add]; rfl, by omega, HE⟩, by simp only [intOf]; omega⟩
    · obtain rfl : k = al.length := by omega
      have hki : ¬ (al.length : Int) < (al.length : Int) := by omega
      have HE : Hid (J wr (plays x al).2 (plays x al).1) := by
        have h := HI.out.1
        rw [List.take_length] at h
        exact h
      clear HI
      go_wp2_with fail
      exact bodyPost_end (results_none rfl _ _ _) rfl ⟨rfl, HE.out⟩
end Go.Proofs.YteeeakbgofjinaaGreat.jr
/-! JrSe -/
namespace Go.Proofs.YteeeakbgofjinaaGreat.jr
set_option linter.unusedVariables false
open Go.RowKit
open fl (S S_size S_append S_inj)
open rw (Arr But below_box bnext below_drew below_drewN Fr)
open dk (PD Step Nu Inv Live)

set_option maxHeartbeats 8000000 in
set_option maxRecDepth 100000 in
theorem same_true (h : Hd) (bb tt : Nat) (cu eu cv ev : Value) (i : Bs) (c : List Int) (l : List EnIn) (hc : c.length ≤ 1000000000) (hl : l.length ≤ 1000000000) (w : World) (g1 : rw.Sl noSh w cu c) (g2 : rw.Sl noSh w cv c) (g3 : rw.Sl enSh w eu l) (g4 : rw.Sl enSh w ev l) :
    Calls Tryz.prog 30 #[.agg (stV h bb tt cu eu i), .agg (stV h bb tt cv ev i)] w fun e w' => e = .returned (.bool true) ∧ Below w.heap.size w w' := by
  unfold stV
  obtain ⟨a1, k1, rfl⟩ := sl_form g1
  obtain ⟨a2, k2, rfl⟩ := sl_form g2
  obtain ⟨a3, k3, rfl⟩ := sl_form g3
  obtain ⟨a4, k4, rfl⟩ := sl_form g4
  have HSm := Lib.hid fun W (p1 : rw.Sl noSh W (.slice a1 c.length k1) c) (p2 : rw.Sl noSh W (.slice a2 c.length k2) c) (p3 : rw.Sl enSh W (.slice a3 l.length k3) l) (p4 : rw.Sl enSh W (.slice a4 l.length k4) l) => refsame_any h h bb tt bb tt _ _ _ _ i i c c l l hc hl W p1 p2 p3 p4
  obtain ⟨n1, hn1⟩ : ∃ n, c.length = n := ⟨_, rfl⟩
  obtain ⟨n3, hn3⟩ : ∃ n, l.length = n := ⟨_, rfl⟩
  have HN : Hid (l.length = n3) := hn3
  have hnb : n3 ≤ 1000000000 := hn3 ▸ hl
  rw [hn1] at g1 g2 HSm ⊢
  rw [hn3] at g3 g4 HSm ⊢
  have H0 : Hid (Sb w ((w.alloc (.cells #[.int .u64 (h.term : Nat), .int .i64 (h.vote : Nat), .int .u64 (h.life : Nat), .int .u64 (bb : Nat), .int .u64 (tt : Nat), .slice a1 n1 k1, .slice a3 n3 k3, .string (S i)] 47)).alloc (.cells #[.int .u64 (h.term : Nat), .int .i64 (h.vote : Nat), .int .u64 (h.life : Nat), .int .u64 (bb : Nat), .int .u64 (tt : Nat), .slice a2 n1 k2, .slice a4 n3 k4, .string (S i)] 47)) w.heap.size (w.heap.size + 1) h h bb tt bb tt (.slice a1 n1 k1) (.slice a3 n3 k3) (.slice a2 n1 k2) (.slice a4 n3 k4) i i c c l l) := by
    have j1 := below_box w (.cells #[.int .u64 (h.term : Nat), .int .i64 (h.vote : Nat), .int .u64 (h.life : Nat), .int .u64 (bb : Nat), .int .u64 (tt : Nat), .slice a1 n1 k1, .slice a3 n3 k3, .string (S i)] 47)
    have x1 := Arr.new w 47 #[.int .u64 (h.term : Nat), .int .i64 (h.vote : Nat), .int .u64 (h.life : Nat), .int .u64 (bb : Nat), .int .u64 (tt : Nat), .slice a1 n1 k1, .slice a3 n3 k3, .string (S i)]
    have hs : (w.alloc (.cells #[.int .u64 (h.term : Nat), .int .i64 (h.vote : Nat), .int .u64 (h.life : Nat), .int .u64 (bb : Nat), .int .u64 (tt : Nat), .slice a1 n1 k1, .slice a3 n3 k3, .string (S i)] 47)).heap.size = w.heap.size + 1 := by simp
    have q1 := g1.later _ j1
    have q2 := g2.later _ j1
    have q3 := g3.later _ j1
    have q4 := g4.later _ j1
    generalize w.alloc (.cells #[.int .u64 (h.term : Nat), .int .i64 (h.vote : Nat), .int .u64 (h.life : Nat), .int .u64 (bb : Nat), .int .u64 (tt : Nat), .slice a1 n1 k1, .slice a3 n3 k3, .string (S i)] 47) = W at *
    have j2 := below_box W (.cells #[.int .u64 (h.term : Nat), .int .i64 (h.vote : Nat), .int .u64 (h.life : Nat), .int .u64 (bb : Nat), .int .u64 (tt : Nat), .slice a2 n1 k2, .slice a4 n3 k4, .string (S i)] 47)
    have x2 := Arr.new W 47 #[.int .u64 (h.term : Nat), .int .i64 (h.vote : Nat), .int .u64 (h.life : Nat), .int .u64 (bb : Nat), .int .u64 (tt : Nat), .slice a2 n1 k2, .slice a4 n3 k4, .string (S i)]
    rw [hs] at x2
    exact ⟨x1.below j2, x2, q1.later _ j2, q2.later _ j2, q3.later _ j2, q4.later _ j2, j1.trans (j2.mono j1.size)⟩
  clear g1 g2 g3 g4 hn1 hn3 hc hl
  go_enter Tryz.func30, Tryz.ntmps30
  go_upto_region 1 with (fail)
  generalize (w.alloc (.cells #[.int .u64 (h.term : Nat), .int .i64 (h.vote : Nat), .int .u64 (h.life : Nat), .int .u64 (bb : Nat), .int .u64 (tt : Nat), .slice a1 n1 k1, .slice a3 n3 k3, .string (S i)] 47)).alloc (.cells #[.int .u64 (h.term : Nat), .int .i64 (h.vote : Nat), .int .u64 (h.life : Nat), .int .u64 (bb : Nat), .int .u64 (tt : Nat), .slice a2 n1 k2, .slice a4 n3 k4, .string (S i)] 47) = W0 at *
  obtain ⟨x0, x1, x2, x3, x4, x5, x6, x7⟩ : W0.cell? ⟨w.heap.size, 0, none⟩ = some (.int .u64 (h.term : Nat)) ∧ W0.cell? ⟨w.heap.size, 1, none⟩ = some (.int .i64 (h.vote : Nat)) ∧ W0.cell? ⟨w.heap.size, 2, none⟩ = some (.int .u64 (h.life : Nat)) ∧ W0.cell? ⟨w.heap.size, 3, none⟩ = some (.int .u64 (bb : Nat)) ∧ W0.cell? ⟨w.heap.size, 4, none⟩ = some (.int .u64 (tt : Nat)) ∧ W0.cell? ⟨w.heap.size, 5, none⟩ = some (.slice a1 n1 k1) ∧ W0.cell? ⟨w.heap.size, 6, none⟩ = some (.slice a3 n3 k3) ∧ W0.cell? ⟨w.heap.size, 7, none⟩ = some (.string (S i)) := ⟨H0.out.x.cell rfl, H0.out.x.cell rfl, H0.out.x.cell rfl, H0.out.x.cell rfl, H0.out.x.cell rfl, H0.out.x.cell rfl, H0.out.x.cell rfl, H0.out.x.cell rfl⟩
  obtain ⟨y0, y1, y2, y3, y4, y5, y6, y7⟩ : W0.cell? ⟨w.heap.size + 1, 0, none⟩ = some (.int .u64 (h.term : Nat)) ∧ W0.cell? ⟨w.heap.size + 1, 1, none⟩ = some (.int .i64 (h.vote : Nat)) ∧ W0.cell? ⟨w.heap.size + 1, 2, none⟩ = some (.int .u64 (h.life : Nat)) ∧ W0.cell? ⟨w.heap.size + 1, 3, none⟩ = some (.int .u64 (bb : Nat)) ∧ W0.cell? ⟨w.heap.size + 1, 4, none⟩ = some (.int .u64 (tt : Nat)) ∧ W0.cell? ⟨w.heap.size + 1, 5, none⟩ = some (.slice a2 n1 k2) ∧ W0.cell? ⟨w.heap.size + 1, 6, none⟩ = some (.slice a4 n3 k4) ∧ W0.cell? ⟨w.heap.size + 1, 7, none⟩ = some (.string (S i)) := ⟨H0.out.y.cell rfl, H0.out.y.cell rfl, H0.out.y.cell rfl, H0.out.y.cell rfl, H0.out.y.cell rfl, H0.out.y.cell rfl, H0.out.y.cell rfl, H0.out.y.cell rfl⟩
  go_wp2_with fail
  go_loopw [5] (fun v wr => ∃ k : Nat, v = .int .i64 (k : Nat) ∧ k ≤ n3 ∧ wr = W0)
    (fun v _ => n3 - (intOf v).toNat)
  case atStart => exact ⟨0, rfl, Nat.zero_le _, rfl⟩
  case round =>
    obtain ⟨k, rfl, hk, rfl⟩ := hrel
    by_cases hlt : k < n3
    · have hki : (k : Int) < (n3 : Int) := by omega
      have hkl : k < l.length := by rw [HN.out]; exact hlt
      obtain ⟨p1, o1, d1, e1, -, c10, -, -⟩ := slE_at H0.out.l1 hkl
      obtain ⟨p2, o2, d2, e2, -, c20, -, -⟩ := slE_at H0.out.l2 hkl
      injection e1 with e11 e12 e13
      injection e2 with e21 e22 e23
      subst e11 e13 e21 e23
      clear e12 e22 HSm x0 x1 x2 x3 x4 x5 x7 y0 y1 y2 y3 y4 y5 y7
      obtain ⟨z, hz⟩ : ∃ z, (l[k]'hkl).term = z := ⟨_, rfl⟩
      rw [hz] at c10 c20
      clear hz hkl H0
      by_cases hq : z < 98
      · have h1 : ¬ (98 : Int) ≤ (z : Int) := by omega
        have h2 : ¬ (z : Int) ≥ 98 := by omega
        go_wp2_with fail
        exact ⟨⟨k + 1, by rw [Int.natCast_add]; rfl, by omega, trivial⟩, by simp only [intOf]; omega⟩
      · have h1 : ¬ (z : Int) < 98 := by omega
        have h2 : (z : Int) ≥ 98 := by omega
        go_wp2_with fail
        exact ⟨⟨k + 1, by rw [Int.natCast_add]; rfl, by omega, trivial⟩, by simp only [intOf]; omega⟩
    · obtain rfl : k = n3 := by omega
      have hki : ¬ (k : Int) < (k : Int) := by omega
      have hS := HSm.out wr H0.out.c1 H0.out.c2 H0.out.l1 H0.out.l2
      replace hS : Calls Tryz.prog 13 _ wr fun e w' => e = .returned (.bool true) ∧ Below wr.heap.size wr w' := hS.mono fun e w' hh => ⟨hh.1.trans (by simp), hh.2⟩
      unfold stV at hS
      go_wp2_with fail
      refine hS.mono ?_
      clear hS
      rintro e w2 ⟨rfl, b2⟩
      have B2 := Lib.hid (H0.out.below b2).b
      clear b2
      go_wp2_with fail
      go_ret
      exact ⟨rfl, B2.out⟩
end Go.Proofs.YteeeakbgofjinaaGreat.jr
/-! JrGr -/
namespace Go.Proofs.YteeeakbgofjinaaGreat.jr
set_option linter.unusedVariables false
open Go.RowKit
open fl (S S_size S_append S_inj)
open rw (Arr But below_box bnext below_drew below_drewN Fr)
open dk (PD Step Nu Inv Live)

/-- What is not too much. -/
def GOut (al : List AIn) (e : Ending) : Prop := ∃ r, e = .returned (.bool r) ∧ (r = true ∨ (al.length ≤ 60 ∧ ∀ a ∈ al, a.l.length ≤ 1000 ∧ a.conf.length ≤ 1000))
def Modest (al : List AIn) : Prop := al.length ≤ 60 ∧ ∀ a ∈ al, a.l.length ≤ 1000 ∧ a.conf.length ≤ 1000
set_option maxHeartbeats 8000000 in
set_option maxRecDepth 100000 in
theorem great_any (v : Value) (al : List AIn) (w : World) {O : Nat → Prop} (hA : Acts O w v al) :
    Calls Tryz.prog 7 #[v] w fun e w' => GOut al e ∧ Below w.heap.size w w' := by
  obtain ⟨va, vc, rfl, -⟩ := id hA
  have HA := Lib.hid hA
  clear hA
  by_cases h60 : al.length ≤ 60
  · have hi60 : ¬ (al.length : Int) > 60 := by omega
    go_enter Tryz.func7, Tryz.ntmps7
    go_wp2_with fail
    go_loopw [3, 4] (fun n i wr => ∃ k t : Nat, i = .int .i64 (k : Nat) ∧ n = .int .i64 (t : Nat) ∧ k ≤ al.length ∧ t ≤ k * 1049626576 ∧ Hid (Below w.heap.size w wr ∧ ∀ j (h : j < al.length), j < k → (al[j]'h).l.length ≤ 1000 ∧ (al[j]'h).conf.length ≤ 1000))
      (fun _ i _ => al.length - (intOf i).toNat)
    case atStart => exact ⟨0, 0, rfl, rfl, Nat.zero_le _, Nat.zero_le _, Below.refl _ _, fun j _ h => by omega⟩
    case round =>
      obtain ⟨k, t, rfl, rfl, hk, ht, HI⟩ := hrel
      by_cases hlt : k < al.length
      · have hki : (k : Int) < (al.length : Int) := by omega
        obtain ⟨a, c, e, hcell⟩ := HA.out.later HI.out.1
        obtain ⟨b, off, cv, ev, e2, hb, ⟨c0, c1, c2, c3, c4, c5, c6, c7, c8, c9, c10⟩, s1, s2, -, -⟩ := hcell k hlt
        injection e with e3 e4 e5
        subst e3 e5 e2
        have HS1 := Lib.hid s2
        obtain ⟨ua, uc, rfl⟩ := sl_form s1
        obtain ⟨ta, tc, rfl⟩ := sl_form s2
        have HK : Hid (∀ j (h : j < al.length), j < k → (al[j]'h).l.length ≤ 1000 ∧ (al[j]'h).conf.length ≤ 1000) := HI.out.2
        have HB := Lib.hid HI.out.1
        obtain ⟨ac, hac⟩ : ∃ ac, al[k]'hlt = ac := ⟨_, rfl⟩
        rw [hac] at c8 c9 c10 HS1
        have HAC : Hid (al[k]'hlt = ac) := hac
        obtain ⟨im, him⟩ : ∃ im, ac.image = im := ⟨_, rfl⟩
        rw [him] at c10
        obtain ⟨nc, hnc⟩ : ∃ n, ac.conf.length = n := ⟨_, rfl⟩
        obtain ⟨nl, hnl⟩ : ∃ n, ac.l.length = n := ⟨_, rfl⟩
        rw [hnc] at c8
        rw [hnl] at c9 HS1
        have HNN : Hid (ac.conf.length = nc ∧ ac.l.length = nl) := ⟨hnc, hnl⟩
        have hisz := S_size im
        clear HI s1 s2 hcell e4 hac him hnc hnl c0 c1 c2 c3 c4 c5 c6 c7 hb
        by_cases g1 : nl ≤ 1000
        · have g1i : ¬ (nl : Int) > 1000 := by omega
          by_cases g2 : nc ≤ 1000
          · have g2i : ¬ (nc : Int) > 1000 := by omega
            have HK2 : Hid (∀ j (h : j < al.length), j < k + 1 → (al[j]'h).l.length ≤ 1000 ∧ (al[j]'h).conf.length ≤ 1000) := fun j h hj => by
              by_cases hjk : j < k
              · exact HK.out j h hjk
              · obtain rfl : j = k := by omega
                rw [HAC.out, HNN.out.1, HNN.out.2]
                exact ⟨g1, g2⟩
            clear HK
            go_upto_region 9 with (fail)
            have hF := few_any im.length wr.drew
            obtain ⟨fw, hfw⟩ : ∃ f, min im.length 1048576 = f := ⟨_, rfl⟩
            have hfw2 : fw ≤ 1048576 := by omega
            rw [hfw] at hF
            obtain ⟨z1, hz1⟩ : ∃ z : Nat, t + fw = z := ⟨_, rfl⟩
            obtain ⟨z2, hz2⟩ : ∃ z : Nat, z1 + nl = z := ⟨_, rfl⟩
            obtain ⟨z3, hz3⟩ : ∃ z : Nat, z2 + nc = z := ⟨_, rfl⟩
            have q1 : IntKind.i64.wrap ((t : Int) + (fw : Int)) = (z1 : Int) := by rw [IntWalk.i64_in _ (by omega)]; omega
            have q2 : IntKind.i64.wrap ((z1 : Int) + (nl : Int)) = (z2 : Int) := by rw [IntWalk.i64_in _ (by omega)]; omega
            have q3 : IntKind.i64.wrap ((z2 : Int) + (nc : Int)) = (z3 : Int) := by rw [IntWalk.i64_in _ (by omega)]; omega
            have hz : z3 ≤ k * 1049626576 + 1050576 := by omega
            have HB2 := Lib.hid (below_drew HB.out)
            clear hz1 hz2 hz3 hfw
            have k0 : wr.drew.cell? ⟨b, off + k * 11 + 8, none⟩ = some (.slice ua nc uc) ∧ wr.drew.cell? ⟨b, off + k * 11 + 9, none⟩ = some (.slice ta nl tc) ∧ wr.drew.cell? ⟨b, off + k * 11 + 10, none⟩ = some (.string (S im)) := ⟨c8, c9, c10⟩
            have HKx : Hid (∀ W, Below wr.drew.heap.size wr.drew W → W.cell? ⟨b, off + k * 11 + 8, none⟩ = some (.slice ua nc uc) ∧ W.cell? ⟨b, off + k * 11 + 9, none⟩ = some (.slice ta nl tc) ∧ W.cell? ⟨b, off + k * 11 + 10, none⟩ = some (.string (S im))) := fun W kk => ⟨keep1 k0.1 kk, keep1 k0.2.1 kk, keep1 k0.2.2 kk⟩
            go_region_held3 (fun W => W.cell? ⟨b, off + k * 11 + 8, none⟩ = some (.slice ua nc uc) ∧ W.cell? ⟨b, off + k * 11 + 9, none⟩ = some (.slice ta nl tc) ∧ W.cell? ⟨b, off + k * 11 + 10, none⟩ = some (.string (S im)))
              (first | (with_reducible exact k0) | (with_reducible exact kx))
              (first | (go_at_call 34; with_reducible refine hF.mono ?_; rintro e w5 ⟨rfl, b5⟩; have B5 := Lib.hid (HB2.out.trans (b5.mono HB2.out.size)); have kx := HKx.out w5 b5; clear hF b5))
            all_goals (
              clear kx k0 HKx q1 q2 q3 HB2 c8 c9 c10
              have hzz : z3 ≤ k * 1049626576 + 1050576 := hz
              go_wp2_with fail
              go_loopw [3, 5] (fun n i wr2 => ∃ kk t2 : Nat, i = .int .i64 (kk : Nat) ∧ n = .int .i64 (t2 : Nat) ∧ kk ≤ nl ∧ t2 ≤ z3 + kk * 1048576 ∧ Hid (Below w.heap.size w wr2))
                (fun _ i _ => nl - (intOf i).toNat)
              case atStart => exact ⟨0, z3, rfl, rfl, Nat.zero_le _, by omega, B5.out⟩
              case round =>
                obtain ⟨kk, t2, rfl, rfl, hkk, ht2, HI2⟩ := hrel
                obtain ⟨a9, v9, e9, hcell⟩ := HA.out.later HI2.out
                obtain ⟨b9, off9, cv9, ev9, e29, hb9, ⟨-, -, -, -, -, -, -, -, -, d9, -⟩, -, s29, -, -⟩ := hcell k hlt
                injection e9 with e39 e49 e59
                subst e39 e59
                injection e29 with e6
                injection e6 with e7 e8
                subst e7 e8
                rw [HAC.out] at s29
                obtain ⟨ta9, tc9, rfl⟩ := sl_form s29
                rw [HNN.out.2] at d9
                have s30 : rw.Sl enSh wr (.slice ta9 nl tc9) ac.l := by have h := s29; rw [HNN.out.2] at h; exact h
                clear hcell e49 hb9 s29
                by_cases hq : kk < nl
                · have hqi : (kk : Int) < (nl : Int) := by omega
                  have hkl : kk < ac.l.length := by rw [HNN.out.2]; exact hq
                  obtain ⟨p1, o1, dd, e1, -, -, -, c12⟩ := slE_at s30 hkl
                  injection e1 with e11 e12 e13
                  subst e11 e13
                  obtain ⟨xd, hxd⟩ : ∃ xd, (ac.l[kk]'hkl).data = xd := ⟨_, rfl⟩
                  rw [hxd] at c12
                  have hF := few_any xd.length wr
                  have hxs := S_size xd
                  obtain ⟨f2, hf2⟩ : ∃ f, min xd.length 1048576 = f := ⟨_, rfl⟩
                  have hf22 : f2 ≤ 1048576 := by omega
                  rw [hf2] at hF
                  obtain ⟨z4, hz4⟩ : ∃ z : Nat, t2 + f2 = z := ⟨_, rfl⟩
                  have q4 : IntKind.i64.wrap ((t2 : Int) + (f2 : Int)) = (z4 : Int) := by rw [IntWalk.i64_in _ (by omega)]; omega
                  have hz5 : z4 ≤ z3 + (kk + 1) * 1048576 := by omega
                  clear s30 e12 hxd hkl hf2 hz4
                  go_wp2_with fail
                  refine hF.mono ?_
                  clear hF c12 d9
                  rintro e w6 ⟨rfl, b6⟩
                  have B6 := Lib.hid (HI2.out.trans (b6.mono HI2.out.size))
                  clear b6 HI2
                  go_wp2_with fail
                  exact ⟨⟨kk + 1, z4, by rw [Int.natCast_add]; rfl, rfl, by omega, hz5, B6⟩, by simp only [intOf]; omega⟩
                · obtain rfl : kk = nl := by omega
                  have hqi : ¬ (kk : Int) < (kk : Int) := by omega
                  have hbd : t2 ≤ (k + 1) * 1049626576 := by omega
                  have HX : Hid (Below w.heap.size w wr ∧ ∀ j (h : j < al.length), j < k + 1 → (al[j]'h).l.length ≤ 1000 ∧ (al[j]'h).conf.length ≤ 1000) := ⟨HI2.out, HK2.out⟩
                  clear s30 HI2 HK2
                  go_wp2_with fail
                  exact ⟨⟨k + 1, t2, by rw [Int.natCast_add]; rfl, rfl, by omega, hbd, HX⟩, by simp only [intOf]; omega⟩)
          · have g2i : (nc : Int) > 1000 := by omega
            have HG : Hid (∀ W, W = wr → GOut al (.returned (.bool true)) ∧ Below w.heap.size w W) := fun W e => ⟨⟨true, rfl, .inl rfl⟩, e ▸ HB.out⟩
            clear HK HAC HNN HS1
            go_wp2_with fail
            go_ret
            exact HG.out _ rfl
        · have g1i : (nl : Int) > 1000 := by omega
          have HG : Hid (∀ W, W = wr → GOut al (.returned (.bool true)) ∧ Below w.heap.size w W) := fun W e => ⟨⟨true, rfl, .inl rfl⟩, e ▸ HB.out⟩
          clear HK HAC HNN HS1
          go_wp2_with fail
          go_ret
          exact HG.out _ rfl
      · obtain rfl : k = al.length := by omega
        have hki : ¬ (al.length : Int) < (al.length : Int) := by omega
        have HM : Hid (Modest al ∧ Below w.heap.size w wr) := ⟨⟨h60, fun a ha => by
          obtain ⟨j, hj, rfl⟩ := List.mem_iff_getElem.1 ha
          exact HI.out.2 j hj hj⟩, HI.out.1⟩
        clear HI
        go_wp2_with fail
        go_ret
        exact ⟨⟨_, rfl, .inr HM.out.1⟩, HM.out.2⟩
  · have hi60 : (al.length : Int) > 60 := by omega
    go_enter Tryz.func7, Tryz.ntmps7
    go_wp2_with fail
    go_ret
    exact ⟨⟨true, rfl, .inl rfl⟩, Below.refl _ _⟩
end Go.Proofs.YteeeakbgofjinaaGreat.jr
/-! JrJm0 -/
namespace Go.Proofs.YteeeakbgofjinaaGreat.jr
set_option linter.unusedVariables false
open Go.RowKit
open fl (S S_size S_append S_inj)
open rw (Arr But below_box bnext below_drew below_drewN Fr)
open dk (PD Step Nu Inv Live)

/-! ### What is refused -/
theorem jput_off {d : dk.Dk} (h : dk.off d = true) (k : Nat) (s : Bs) : jput d k s = (8, d) := by
  have ht : dk.turn d ⟨k, log, s⟩ = (8, d) := by
    unfold dk.turn
    rw [if_neg (show ¬ (log.length < 1 ∨ 80 < log.length) by decide), if_pos h]
  unfold jput
  rw [ht]
  rfl
theorem off_fuse (d : dk.Dk) : dk.off (dk.fuse d 0) = true := by simp [dk.off, dk.fuse]
theorem append_power {s : St} {d : dk.Dk} (h : dk.off d = true) : append s d (s.base + s.l.length + 1) two = (8, s, d) := by
  have hn : ¬ (s.base + s.l.length + 1 ≤ s.base ∨ s.last + 1 < s.base + s.l.length + 1 ∨ ¬ ∀ e ∈ two, MayIn e) := by
    rintro (h | h | h)
    · omega
    · have e : s.last = s.base + s.l.length := rfl
      omega
    · exact h two_may
  unfold append
  rw [if_neg hn, if_neg (by decide), jput_off h]
  rfl
theorem append_zero (s : St) (d : dk.Dk) : append s d 0 two = (1, s, d) := append_refused (.inl (Nat.zero_le _))
theorem save_six (s : St) (d : dk.Dk) : save s d 0 6 = (1, s, d) := by
  unfold save
  rw [if_pos (.inr (by decide))]
theorem rebase_bad (s : St) (d : dk.Dk) : rebase s d ⟨0, 0, [2, 1], []⟩ [] = (1, s, d) := by
  unfold rebase
  rw [if_pos (.inl (by decide))]

/-! ### What stays where rows are written over -/
def Jb (F : Nat → Prop) (jb : Nat) (cv ev : Value) (k : Nat) : Prop := F k ∨ k = jb ∨ cv.ownBlock = some k ∨ ev.ownBlock = some k
section
variable {α : Type} {sh : rw.Sh α} {w W W' : World} {F : Nat → Prop} {jb p : Nat} {d : dk.Dk} {s : St} {cv ev : Value}
theorem own_fr {B : Nat} {v : Value} {l : List α} (h : rw.Own sh W B v l) {G : Nat → Prop} (k : Fr G W W') (hv : ∀ q, v.ownBlock = some q → ¬ G q) : rw.Own sh W' B v l :=
  own_of h fun i hi => k.block i (own_lt h hi) (hv i hi)
theorem Jn.lt (h : Jn W F jb p d s cv ev) {k : Nat} (hk : Jb F jb cv ev k) : k < W.heap.size := by
  rcases hk with hk | rfl | hk | hk
  · exact h.d.lt hk
  · exact h.a.lt
  · exact own_lt h.c hk
  · exact own_lt h.l hk
theorem Jn.frame {G : Nat → Prop} (h : Jn W F jb p d s cv ev) (k : Fr G W W') (hG : ∀ i, Jb F jb cv ev i → ¬ G i) (hn : dk.NoBox W G) : Jn W' F jb p d s cv ev :=
  ⟨h.d.fr k (fun i hi => hG i (.inl hi)) hn, k.arr h.a (hG _ (.inr (.inl rfl))), own_fr h.c k fun q hq => hG q (.inr (.inr (.inl hq))), own_fr h.l k fun q hq => hG q (.inr (.inr (.inr hq)))⟩
/-- The blocks behind a call: such as were its own, or new ones. -/
theorem JStep.blocks {w w' : World} {F : Nat → Prop} {cv ev : Value} {d' : dk.Dk} {s' : St} (h : JStep w F jb p cv ev d' s' w') :
    ∃ F' cv' ev', Jn w' F' jb p d' s' cv' ev' ∧ Fr (JG F jb ev) w w' ∧ ∀ k, Jb F' jb cv' ev' k → Jb F jb cv ev k ∨ w.heap.size ≤ k := by
  obtain ⟨F', cv', ev', h1, h2, h3, h4, h5⟩ := h
  refine ⟨F', cv', ev', h1, h2, fun k hk => ?_⟩
  rcases hk with hk | hk | hk | hk
  · exact (h3 k hk).imp .inl id
  · exact .inl (.inr (.inl hk))
  · rcases h4 with h | h
    · exact .inl (.inr (.inr (.inl (h ▸ hk))))
    · exact .inr (h k hk)
  · rcases h5 with h | h
    · exact .inl (.inr (.inr (.inr (h ▸ hk))))
    · exact .inr (h k hk)
theorem JG.toJb {F : Nat → Prop} {jb : Nat} {cv ev : Value} {k : Nat} (h : JG F jb ev k) : Jb F jb cv ev k := by
  rcases h with h | h | h
  · exact .inl h
  · exact .inr (.inl h)
  · exact .inr (.inr (.inr h))
/-- A row that is written over: n elements long, all else as it was. -/
def OvR (sh : rw.Sh α) (w W : World) (v : Value) (n : Nat) : Prop := Fr (fun k => v.ownBlock = some k) w W ∧ ∀ q, v.ownBlock = some q → ∃ cs, Arr W q sh.t cs ∧ n * sh.k ≤ cs.size
theorem OvR.start {B : Nat} {v : Value} {l : List α} (h : rw.Own sh W B v l) : OvR sh W W v l.length := by
  refine ⟨Fr.refl _ _, fun q hq => ?_⟩
  rcases h.2 with ⟨rfl, _⟩ | ⟨g, cap, cur, rfl, _, hh, hn, _, hsz, _⟩
  · cases hq
  · cases hq
    exact ⟨cur, hh, by rw [hsz]; exact Nat.mul_le_mul_right _ hn⟩
theorem OvR.cell {g n c : Nat} (h : OvR sh w W (.slice (some ⟨g, 0, none⟩) n c) n) {k : Nat} (hk : k < n) {j : Nat} (hj : j < sh.k) : ∃ u, W.cell? ⟨g, k * sh.k + j, none⟩ = some u := by
  obtain ⟨cs, h1, h2⟩ := h.2 g rfl
  have : (k + 1) * sh.k ≤ n * sh.k := Nat.mul_le_mul_right _ hk
  rw [Nat.add_mul] at this
  exact ⟨cs[k * sh.k + j]'(by omega), h1.cell (Array.getElem?_eq_getElem (by omega))⟩
theorem OvR.frozen {g n c : Nat} (h : OvR sh w W (.slice (some ⟨g, 0, none⟩) n c) n) (i : Nat) : W.frozen? ⟨g, i, none⟩ = false := by
  obtain ⟨cs, h1, h2⟩ := h.2 g rfl
  exact h1.frozen i
theorem OvR.set {g n c : Nat} (h : OvR sh w W (.slice (some ⟨g, 0, none⟩) n c) n) (i : Nat) (u : Value) : OvR sh w (W.setCell ⟨g, i, none⟩ u) (.slice (some ⟨g, 0, none⟩) n c) n := by
  refine ⟨h.1.trans (Fr.but ((But.refl g W).set i u) (F := fun k => (Value.slice (some ⟨g, 0, none⟩) n c).ownBlock = some k) rfl) fun _ _ hh => hh, fun q hq => ?_⟩
  obtain ⟨cs, h1, h2⟩ := h.2 q hq
  cases hq
  exact ⟨_, h1.set i u, by simpa using h2⟩
theorem OvR.nobox {B : Nat} {v : Value} {l : List α} (h : rw.Own sh W B v l) (ht : sh.t ≠ 9) : dk.NoBox W (fun k => v.ownBlock = some k) := by
  intro k hk st hst
  rcases h.2 with ⟨rfl, _⟩ | ⟨g, cap, cur, rfl, _, hh, _⟩
  · cases hk
  · cases hk
    change W.heap[g]? = some (.cells #[.string (S st)] 9 (0, 0)) at hst
    rw [hh] at hst
    injection hst with h1
    injection h1 with _ h2 _
    exact ht h2
end
end Go.Proofs.YteeeakbgofjinaaGreat.jr
/-! JrJm1 -/
namespace Go.Proofs.YteeeakbgofjinaaGreat.jr
set_option linter.unusedVariables false
open Go.RowKit
open fl (S S_size S_append S_inj)
open rw (Arr But below_box bnext below_drew below_drewN Fr)
open dk (PD Step Nu Inv Live)

/-- A call as it lies. -/
def actC (a : AIn) (cv ev : Value) : Array Value := #[.int .i64 a.kind, .int .i64 a.n, .int .u64 (a.from_ : Nat), .int .u64 (a.term : Nat), .int .i64 a.vote, .int .u64 (a.life : Nat), .int .u64 (a.base : Nat), .int .u64 (a.bterm : Nat), cv, ev, .string (S a.image)]
theorem Acts.one {O : Nat → Prop} {W : World} {q : Nat} {t : TypeId} {a : AIn} {cv ev : Value} (hA : Arr W q t (actC a cv ev)) (s1 : rw.Sl noSh W cv a.conf) (s2 : rw.Sl enSh W ev a.l) (o1 : rw.Apt O cv a.conf) (o2 : rw.Apt O ev a.l) : Acts O W (.slice (some ⟨q, 0, none⟩) 1 1) [a] := by
  refine ⟨_, _, rfl, fun j hj => ?_⟩
  obtain rfl : j = 0 := by simpa using hj
  exact ⟨q, 0, cv, ev, rfl, hA.lt, ⟨hA.cell rfl, hA.cell rfl, hA.cell rfl, hA.cell rfl, hA.cell rfl, hA.cell rfl, hA.cell rfl, hA.cell rfl, hA.cell rfl, hA.cell rfl, hA.cell rfl⟩, s1, s2, o1, o2⟩
theorem Acts.mono {O O' : Nat → Prop} {W : World} {v : Value} {al : List AIn} (h : Acts O W v al) (k : ∀ i, O' i → O i) : Acts O' W v al := by
  obtain ⟨a, c, h1, h2⟩ := h
  refine ⟨a, c, h1, fun j hj => ?_⟩
  obtain ⟨b, off, cv, ev, e, hb, c, s1, s2, s3, s4⟩ := h2 j hj
  exact ⟨b, off, cv, ev, e, hb, c, s1, s2, apt_of s3 k, apt_of s4 k⟩
/-- What lies in the law's hands at the start. -/
structure Mi (w W : World) (v cx ex : Value) (al : List AIn) (a : AIn) : Prop where
  s : Acts (fun k => w.heap.size ≤ k) W v al
  p : Arr W w.heap.size 52 (actC a cx ex)
  c : rw.Sl noSh W cx a.conf
  l : rw.Sl enSh W ex a.l
  ac : rw.Apt (fun k => w.heap.size ≤ k) cx a.conf
  al : rw.Apt (fun k => w.heap.size ≤ k) ex a.l
  b : Below w.heap.size w W
section
variable {w W W' : World} {v cx ex : Value} {al : List AIn} {a : AIn}
theorem Mi.below (h : Mi w W v cx ex al a) (k : Below W.heap.size W W') : Mi w W' v cx ex al a := ⟨h.s.later k, h.p.below k, h.c.later _ k, h.l.later _ k, h.ac, h.al, h.b.trans (k.mono h.b.size)⟩
theorem Mi.start (h1 : Acts (fun k => w.heap.size ≤ k) w v al) (h2 : rw.Sl noSh w cx a.conf) (h3 : rw.Sl enSh w ex a.l) : Mi w (w.alloc (.cells (actC a cx ex) 52)) v cx ex al a := by
  have k := below_box w (.cells (actC a cx ex) 52)
  exact ⟨h1.later k, Arr.new w _ _, h2.later _ k, h3.later _ k, fun hl q hq hF => by have := rw.Sl.lt noSh h2 hl hq; omega, fun hl q hq hF => by have := rw.Sl.lt enSh h3 hl hq; omega, k⟩
theorem Mi.cells (h : Mi w W v cx ex al a) : W.cell? ⟨w.heap.size, 0, none⟩ = some (.int .i64 a.kind) ∧ W.cell? ⟨w.heap.size, 1, none⟩ = some (.int .i64 a.n) ∧ W.cell? ⟨w.heap.size, 2, none⟩ = some (.int .u64 (a.from_ : Nat)) ∧ W.cell? ⟨w.heap.size, 3, none⟩ = some (.int .u64 (a.term : Nat)) ∧ W.cell? ⟨w.heap.size, 4, none⟩ = some (.int .i64 a.vote) ∧ W.cell? ⟨w.heap.size, 5, none⟩ = some (.int .u64 (a.life : Nat)) ∧
    W.cell? ⟨w.heap.size, 6, none⟩ = some (.int .u64 (a.base : Nat)) ∧ W.cell? ⟨w.heap.size, 7, none⟩ = some (.int .u64 (a.bterm : Nat)) ∧ W.cell? ⟨w.heap.size, 8, none⟩ = some cx ∧ W.cell? ⟨w.heap.size, 9, none⟩ = some ex ∧ W.cell? ⟨w.heap.size, 10, none⟩ = some (.string (S a.image)) :=
  ⟨h.p.cell rfl, h.p.cell rfl, h.p.cell rfl, h.p.cell rfl, h.p.cell rfl, h.p.cell rfl, h.p.cell rfl, h.p.cell rfl, h.p.cell rfl, h.p.cell rfl, h.p.cell rfl⟩
/-- The literal of one call. -/
theorem Mi.lit (h : Mi w W v cx ex al a) : Mi w (W.alloc (.cells (actC a cx ex) 52)) v cx ex al a ∧ Acts (fun k => w.heap.size ≤ k) (W.alloc (.cells (actC a cx ex) 52)) (.slice (some ⟨W.heap.size, 0, none⟩) 1 1) [a] := by
  have k := below_box W (.cells (actC a cx ex) 52)
  have h2 := h.below k
  exact ⟨h2, Acts.one (Arr.new W _ _) h2.c h2.l h2.ac h2.al⟩
end
/-- What was told, in its box; the journal beside it. -/
structure Was (w W : World) (F : Nat → Prop) (jb p sb : Nat) (d : dk.Dk) (s : St) (cv ev cw ew : Value) (B : Nat) : Prop where
  j : Jn W F jb p d s cv ev
  jbl : ∀ k, Jb F jb cv ev k → w.heap.size ≤ k ∧ k < B
  a : Arr W sb 47 (stV s.h s.base s.bterm cw ew s.image)
  sbl : B ≤ sb
  c : rw.Own noSh W B cw (ints s.conf)
  l : rw.Own enSh W B ew (ens s.l)
  b : Below w.heap.size w W
  hB : w.heap.size ≤ B
section
variable {w W W' : World} {F : Nat → Prop} {jb p sb B : Nat} {d d' : dk.Dk} {s s' : St} {cv ev cw ew : Value}
theorem Was.below (h : Was w W F jb p sb d s cv ev cw ew B) (k : Below W.heap.size W W') : Was w W' F jb p sb d s cv ev cw ew B :=
  ⟨h.j.below k, h.jbl, h.a.below k, h.sbl, h.c.below _ k, h.l.below _ k, h.b.trans (k.mono h.b.size), h.hB⟩
theorem Was.frame {G : Nat → Prop} (h : Was w W F jb p sb d s cv ev cw ew B) (k : Fr G W W') (hG : ∀ i, G i → w.heap.size ≤ i ∧ ¬ Jb F jb cv ev i ∧ i ≠ sb ∧ cw.ownBlock ≠ some i ∧ ew.ownBlock ≠ some i) (hn : dk.NoBox W G) : Was w W' F jb p sb d s cv ev cw ew B :=
  ⟨h.j.frame k (fun i hi hg => (hG i hg).2.1 hi) hn, h.jbl, k.arr h.a fun hg => (hG _ hg).2.2.1 rfl, h.sbl, own_fr h.c k fun q hq hg => (hG q hg).2.2.2.1 hq, own_fr h.l k fun q hq hg => (hG q hg).2.2.2.2 hq, h.b.trans (k.below h.b.size fun i hi => (hG i hi).1), h.hB⟩
theorem Was.after (h : Was w W F jb p sb d s cv ev cw ew B) (k : JStep W F jb p cv ev d' s' W') :
    Arr W' sb 47 (stV s.h s.base s.bterm cw ew s.image) ∧ rw.Sl noSh W' cw (ints s.conf) ∧ rw.Sl enSh W' ew (ens s.l) ∧ Below w.heap.size w W' := by
  obtain ⟨F', c', e', h1, h2, _⟩ := k
  have hj : ∀ i, JG F jb ev i → w.heap.size ≤ i ∧ i < B := fun i hi => h.jbl i (JG.toJb hi)
  exact ⟨h2.arr h.a fun hg => by have := (hj _ hg).2; have := h.sbl; omega, (own_fr h.c h2 fun q hq hg => by have := (hj q hg).2; have := (h.c.lt q hq).1; omega).sl, (own_fr h.l h2 fun q hq hg => by have := (hj q hg).2; have := (h.l.lt q hq).1; omega).sl, h.b.trans (h2.below h.b.size fun i hi => (hj i hi).1)⟩
end
/-! ### Scripts -/
theorem plays_ok : ∀ (al : List AIn) (j m : Nat) (x : St × dk.Dk), POk j m x → (∀ a ∈ al, AOk a) → m + 1000 * al.length ≤ 1000000 → POk (j + 2 * al.length) (m + 1000 * al.length) (plays x al)
  | [], j, m, x, h, _, _ => h
  | a :: r, j, m, x, h, ha, hm => by
    rw [List.length_cons] at hm ⊢
    have h1 := h.next (by omega) (ha a List.mem_cons_self)
    have h2 := plays_ok r (j + 2) (m + 1000) _ h1 (fun b hb => ha b (List.mem_cons_of_mem _ hb)) (by omega)
    have e1 : j + 2 * (r.length + 1) = j + 2 + 2 * r.length := by omega
    have e2 : m + 1000 * (r.length + 1) = m + 1000 + 1000 * r.length := by omega
    rw [e1, e2]
    exact h2
theorem inv_new : Inv 4 (dsk 1048576 (F K1)) := by
  have := openJ_inv (dk.inv_fresh (cap := 1048576) (by decide))
  rwa [open_fresh (by decide)] at this
theorem pok_1 : POk 4 0 (s1, dsk 1048576 (F K1)) := ⟨ok_1, inv_new, by decide⟩
/-- What holds of each call that came in. -/
structure AIs (a : AIn) : Prop where
  f : a.from_ < 18446744073709551616
  t : a.term < 18446744073709551616
  bt : a.bterm < 18446744073709551616
  e : ∀ e ∈ a.l, e.term < 18446744073709551616
  i : a.image.length ≤ 281474976710656
  n : a.n ≤ 9223372036854775807 ∧ -9223372036854775808 ≤ a.n
  b : a.base < 18446744073709551616
  v : a.vote ≤ 9223372036854775807 ∧ -9223372036854775808 ≤ a.vote
theorem aok_of {a : AIn} (h : AIs a) (hl : a.l.length ≤ 1000) (hc : a.conf.length ≤ 1000) : AOk a := ⟨h.f, h.t, h.bt, hc, hl, h.e, h.i⟩
/-- The call without its N. -/
def noN (a : AIn) : AIn := { a with n := 0 }
theorem JStep.refl {w : World} {F : Nat → Prop} {jb p : Nat} {d : dk.Dk} {s : St} {cv ev : Value} (h : Jn w F jb p d s cv ev) : JStep w F jb p cv ev d s w := h.same (Below.refl _ _)
theorem two_lit (w : World) : Calls Tryz.prog 29 #[] w fun e w' => ∃ g c, e = .returned (.slice (some ⟨g, 0, none⟩) 2 c) ∧ rw.Own enSh w' w.heap.size (.slice (some ⟨g, 0, none⟩) 2 c) two ∧ Below w.heap.size w w' := by
  refine (two_any w).mono ?_
  rintro e w' ⟨v, rfl, o, b⟩
  obtain ⟨g, c, rfl⟩ := own_some o (by decide)
  exact ⟨g, c, rfl, o, b⟩
theorem state_jn {F : Nat → Prop} {jb p : Nat} {d : dk.Dk} {s : St} {cv ev : Value} (ho : Ok s) (hsl : s.l.length ≤ 1000000000) (w : World) (h : Jn w F jb p d s cv ev) :
    Calls Tryz.prog 14 #[.pointer (some ⟨jb, 0, none⟩)] w (StOut w s.h s.base s.bterm (ints s.conf) (ens s.l) s.image) := by
  have hcl : s.conf.length ≤ 1000000000 := by
    have := members_few ho.conf
    omega
  have hi := ho.image
  exact state_of _ _ _ _ _ _ _ w (fun W k => hard_get F jb p d s cv ev W (h.below k)) (fun W k => log_get F jb p d s cv ev ho hsl hcl W (h.below k)) (fun W k => image_get F jb p d s cv ev (by omega) W (h.below k))
end Go.Proofs.YteeeakbgofjinaaGreat.jr
/-! JrRows -/
namespace Go.Proofs.YteeeakbgofjinaaGreat.jr
open Go.ChangeShapes Go.WideShapes Go.ChangeAt Go.RowKit
open fl (S S_of)
open rw (addr_add)

instance : Inhabited EnIn := ⟨⟨0, 0, []⟩⟩
instance : Inhabited AIn := ⟨⟨0, 0, 0, 0, 0, 0, 0, 0, [], [], []⟩⟩
/-! ### What holds of any shape -/
def Lite {H : Type} (d : DataW H) (t : TypeId) : Prop := ∀ n ∈ d.weights Tryz.prog t, n ≤ reachBytes
theorem weights_in {H : Type} {e : TypeId} {n : Nat} : ∀ {es : List (DataW H)} {d : DataW H}, d ∈ es → n ∈ d.weights Tryz.prog e → n ∈ DataW.weightsAll Tryz.prog e es
  | x :: r, d, h, hn => by
    rw [DataW.weightsAll, List.mem_append]
    rcases List.mem_cons.1 h with rfl | h
    · exact .inl hn
    · exact .inr (weights_in h hn)
theorem lite_slice {H : Type} {t e : TypeId} {es sp : List (DataW H)} (ht : Tryz.prog.underlying t = some (.slice e)) (h : Lite (.slice es sp) t) : (es.length + sp.length) * Tryz.prog.bytesOf e ≤ reachBytes ∧ ∀ d ∈ es, Lite d e := by
  unfold Lite at *
  simp only [DataW.weights, ht] at h
  exact ⟨h _ List.mem_cons_self, fun d hd n hn => h n (List.mem_cons_of_mem _ (List.mem_append.2 (.inl (weights_in hd hn))))⟩
theorem lite_len {H : Type} {t e : TypeId} {es sp : List (DataW H)} (ht : Tryz.prog.underlying t = some (.slice e)) (he : 1 ≤ Tryz.prog.bytesOf e) (h : Lite (.slice es sp) t) : es.length ≤ reachBytes := by
  have := (lite_slice ht h).1
  exact Nat.le_trans (Nat.le_trans (Nat.le_add_right _ _) (Nat.le_mul_of_pos_right _ he)) this
theorem lite_arg {H : Type} {ts : List TypeId} {ds : List (DataW H)} (h : (DataW.weightsEach Tryz.prog ts ds).all (· ≤ reachBytes) = true) {j : Nat} {t : TypeId} {d : DataW H} (ht : ts[j]? = some t) (hd : ds[j]? = some d) : Lite d t := fun n hn => by
  have := List.all_eq_true.1 h _ (DataW.weights_mem_each ht hd n hn)
  simpa using this
section
variable {H : Type} {enc : TypeId × Value → H} {W : World} {fuel : Nat} {cs : List Value} {x : DataW H × List MemPlace}
/-- A struct's field. -/
theorem field_of {t : TypeId} {fs : Array Field} (ht : Tryz.prog.underlying t = some (.struct fs)) (h : DataW.trod enc Tryz.prog W 0 (fun _ => true) true fuel t cs = some x) (hw : Lite x.1 t) (i : Nat) (t' : TypeId) (o : Nat) (hm : fs[i]?.map (fun f => (f.type, f.offset)) = some (t', o)) :
    ∃ n y, DataW.trod enc Tryz.prog W 0 (fun _ => true) true n t' ((cs.drop o).take (Tryz.prog.cellsOf t')) = some y ∧ Lite y.1 t' := by
  obtain ⟨xs, n, rfl, rfl, hl, hxl, hx⟩ := DataW.trod_struct ht h
  obtain ⟨f, hf, he⟩ := Option.map_eq_some_iff.1 hm
  cases he
  have hi : i < xs.length := by
    rw [hxl]
    obtain ⟨h1, _⟩ := Array.getElem?_eq_some_iff.1 hf
    exact h1
  have h1 := hx i f hf
  rw [List.getElem?_eq_getElem hi] at h1
  refine ⟨n, xs[i], h1, fun m hm => hw m ?_⟩
  simp only [DataW.weights, ht]
  refine DataW.weights_mem_each (j := i) (t := f.type) (d := xs[i].1) ?_ ?_ m hm
  · simp [hf]
  · simp [List.getElem?_eq_getElem hi]
theorem struct_len {t : TypeId} {fs : Array Field} (ht : Tryz.prog.underlying t = some (.struct fs)) (h : DataW.trod enc Tryz.prog W 0 (fun _ => true) true fuel t cs = some x) : cs.length = Tryz.prog.cellsOf t := by
  obtain ⟨xs, n, rfl, rfl, hl, hxl, hx⟩ := DataW.trod_struct ht h
  exact hl
theorem u64_of (h : DataW.trod enc Tryz.prog W 0 (fun _ => true) true fuel 39 cs = some x) : ∃ n : Nat, cs = [.int .u64 (n : Nat)] ∧ n < 18446744073709551616 := by
  obtain ⟨p, rfl, _, wp⟩ := DataW.trod_int Tryz.underlying39 h
  have bp : 0 ≤ p ∧ p ≤ 18446744073709551615 := by simpa [Lit.wf, IntKind.min, IntKind.max, IntKind.signed, IntKind.bits] using wp
  exact ⟨p.toNat, by rw [Int.toNat_of_nonneg bp.1], by omega⟩
theorem int_of (h : DataW.trod enc Tryz.prog W 0 (fun _ => true) true fuel 3 cs = some x) : ∃ n : Int, cs = [.int .i64 n] ∧ n ≤ 9223372036854775807 ∧ -9223372036854775808 ≤ n := by
  obtain ⟨p, rfl, _, wp⟩ := DataW.trod_int Tryz.underlying3 h
  have bp : -9223372036854775808 ≤ p ∧ p ≤ 9223372036854775807 := by simpa [Lit.wf, IntKind.min, IntKind.max, IntKind.signed, IntKind.bits] using wp
  exact ⟨p, rfl, bp.2, bp.1⟩
theorem str_of (h : DataW.trod enc Tryz.prog W 0 (fun _ => true) true fuel 9 cs = some x) (hw : Lite x.1 9) : ∃ l : List UInt8, cs = [.string (S l)] ∧ l.length ≤ reachBytes := by
  obtain ⟨s, rfl, d0, _⟩ := DataW.trod_string Tryz.underlying9 h
  refine ⟨s.data.toList, by rw [S_of], ?_⟩
  subst d0
  exact hw _ (by simp [DataW.weights])
/-- A slice of structs: what its reading gives. -/
theorem slice_of {α : Type} [Inhabited α] (s : rw.Sh α) (P : α → Prop) {t : TypeId} (ht : Tryz.prog.underlying t = some (.slice s.t)) (hk : Tryz.prog.cellsOf s.t = s.k)
    (hel : ∀ {n : Nat} {cs : List Value} {x : DataW H × List MemPlace}, DataW.trod enc Tryz.prog W 0 (fun _ => true) true n s.t cs = some x → Lite x.1 s.t → ∃ e, cs = s.enc e ∧ P e)
    (h : DataW.trod enc Tryz.prog W 0 (fun _ => true) true fuel t cs = some x) (hw : Lite x.1 t) : ∃ v l, cs = [v] ∧ rw.Sl s W v l ∧ ∀ e ∈ l, P e := by
  rcases Deep.open_slice ht h with ⟨hcs, hx⟩ | ⟨x, l', c', m, n, D, Pl, hcs, _, hl, hm, hmm, hx, hcell⟩
  · exact ⟨_, [], hcs, rw.Sl.nil s W, fun e he => by cases he⟩
  · simp only [if_true] at hmm
    subst hx
    rw [hk] at hcell
    have hls := lite_slice ht hw
    have liteI : ∀ i, i < l' → Lite (D i) s.t := fun i hi => hls.2 _ (List.mem_map.2 ⟨i, List.mem_range.2 hi, rfl⟩)
    have key : ∀ i, i < l' → ∃ k : α, (∀ j, j < s.k → W.cell? (x.add (i * s.k + j)) = (s.enc k)[j]?) ∧ P k := fun i hi => by
      obtain ⟨cs', h1, h2⟩ := hcell i (by omega)
      obtain ⟨k, rfl, hk⟩ := hel h2 (liteI i hi)
      obtain ⟨_, _, hc⟩ := World.cells?_some h1
      refine ⟨k, fun j hj => ?_, hk⟩
      have := hc j hj
      rw [Deep.add_add] at this
      exact this
    obtain ⟨f, hfr⟩ := Deep.choose_lt key
    refine ⟨_, (List.range l').map f, hcs, ⟨some x, c', by simp, by simpa using hl, ?_, fun e => by cases e⟩, ?_⟩
    · by_cases h0 : l' = 0
      · subst h0
        exact .inl (by simp)
      · obtain ⟨b, off, spot⟩ := x
        have hk0 := s.hk
        have h00 := (hfr 0 (by omega)).1 0 hk0
        have hen : 0 < (s.enc (f 0)).length := by rw [s.len]; exact hk0
        rw [List.getElem?_eq_getElem hen] at h00
        have hspot : spot = none := by simpa [Addr.add] using World.cell?_spot h00
        subst hspot
        refine .inr ⟨b, off, rfl, by have := World.block_lt_of_cell? W _ h00; rw [addr_add] at this; exact this, fun j hj i hi => ?_⟩
        have hj' : j < l' := by simpa using hj
        have h1 := (hfr j hj').1 i hi
        rw [addr_add] at h1
        simp only [List.getElem_map, List.getElem_range]
        rw [Nat.add_assoc]
        exact h1
    · intro k hk
      obtain ⟨i, hi, rfl⟩ := List.mem_map.1 hk
      rw [List.mem_range] at hi
      exact (hfr i hi).2
end
theorem reach47 : reachBytes ≤ 140737488355328 := by decide

section
variable {H : Type} {enc : TypeId × Value → H} {W : World} {fuel : Nat} {cs : List Value} {x : DataW H × List MemPlace}
set_option maxRecDepth 100000 in
theorem ent_of (h : DataW.trod enc Tryz.prog W 0 (fun _ => true) true fuel 70 cs = some x) (hw : Lite x.1 70) :
    ∃ e : EnIn, cs = enSh.enc e ∧ e.term < 18446744073709551616 := by
  have hu := Tryz.underlying70
  have hl : cs.length = 3 := (struct_len hu h).trans (by kernel_rfl)
  obtain ⟨c0, c1, c2, rfl⟩ : ∃ c0 c1 c2, cs = [c0, c1, c2] := by
    match cs, hl with
    | [a, b, c], _ => exact ⟨a, b, c, rfl⟩
  have eI : Tryz.prog.cellsOf 3 = 1 := by kernel_rfl
  have eU : Tryz.prog.cellsOf 39 = 1 := by kernel_rfl
  have eS : Tryz.prog.cellsOf 9 = 1 := by kernel_rfl
  obtain ⟨n0, y0, f0, _⟩ := field_of hu h hw 0 39 0 rfl
  obtain ⟨n1, y1, f1, _⟩ := field_of hu h hw 1 3 1 rfl
  obtain ⟨n2, y2, f2, g2⟩ := field_of hu h hw 2 9 2 rfl
  simp only [eI, eU, eS, List.drop_zero, List.drop_succ_cons, List.take_succ_cons, List.take_zero] at f0 f1 f2
  obtain ⟨z0, e0, b0⟩ := u64_of f0
  obtain ⟨z1, e1, _⟩ := int_of f1
  obtain ⟨s2, e2, _⟩ := str_of f2 g2
  simp only [List.cons.injEq, and_true] at e0 e1 e2
  subst e0 e1 e2
  exact ⟨⟨z0, z1, s2⟩, rfl, b0⟩
theorem no_of (h : DataW.trod enc Tryz.prog W 0 (fun _ => true) true fuel 3 cs = some x) (_ : Lite x.1 3) :
    ∃ e : Int, cs = noSh.enc e ∧ True := by
  obtain ⟨z, e, _⟩ := int_of h
  exact ⟨z, e, trivial⟩
/-- A call's cells. -/
def ActC (W : World) (cs : List Value) (a : AIn) : Prop :=
  ∃ cv ev, cs = [.int .i64 a.kind, .int .i64 a.n, .int .u64 (a.from_ : Nat), .int .u64 (a.term : Nat), .int .i64 a.vote, .int .u64 (a.life : Nat), .int .u64 (a.base : Nat), .int .u64 (a.bterm : Nat), cv, ev, .string (S a.image)] ∧ rw.Sl noSh W cv a.conf ∧ rw.Sl enSh W ev a.l
set_option maxRecDepth 100000 in
theorem act_of (h : DataW.trod enc Tryz.prog W 0 (fun _ => true) true fuel 52 cs = some x) (hw : Lite x.1 52) :
    ∃ a : AIn, ActC W cs a ∧ AIs a := by
  have hu := Tryz.underlying52
  have hl : cs.length = 11 := (struct_len hu h).trans (by kernel_rfl)
  obtain ⟨c0, c1, c2, c3, c4, c5, c6, c7, c8, c9, c10, rfl⟩ : ∃ c0 c1 c2 c3 c4 c5 c6 c7 c8 c9 c10, cs = [c0, c1, c2, c3, c4, c5, c6, c7, c8, c9, c10] := by
    match cs, hl with
    | [c0, c1, c2, c3, c4, c5, c6, c7, c8, c9, c10], _ => exact ⟨c0, c1, c2, c3, c4, c5, c6, c7, c8, c9, c10, rfl⟩
  have eI : Tryz.prog.cellsOf 3 = 1 := by kernel_rfl
  have eU : Tryz.prog.cellsOf 39 = 1 := by kernel_rfl
  have eS : Tryz.prog.cellsOf 9 = 1 := by kernel_rfl
  have eH : Tryz.prog.cellsOf 41 = 3 := by kernel_rfl
  have eL : Tryz.prog.cellsOf 45 = 4 := by kernel_rfl
  have eN : Tryz.prog.cellsOf 42 = 1 := by kernel_rfl
  have eE : Tryz.prog.cellsOf 43 = 1 := by kernel_rfl
  obtain ⟨_, y0, f0, _⟩ := field_of hu h hw 0 3 0 rfl
  obtain ⟨_, y1, f1, _⟩ := field_of hu h hw 1 3 1 rfl
  obtain ⟨_, y2, f2, _⟩ := field_of hu h hw 2 39 2 rfl
  obtain ⟨_, y3, f3, g3⟩ := field_of hu h hw 3 41 3 rfl
  obtain ⟨_, y4, f4, g4⟩ := field_of hu h hw 4 45 6 rfl
  obtain ⟨_, y5, f5, g5⟩ := field_of hu h hw 5 9 10 rfl
  simp only [eI, eU, eS, eH, eL, List.drop_zero, List.drop_succ_cons, List.take_succ_cons, List.take_zero] at f0 f1 f2 f3 f4 f5
  have hH := Tryz.underlying41
  have hL := Tryz.underlying45
  obtain ⟨_, z0, q0, _⟩ := field_of hH f3 g3 0 39 0 rfl
  obtain ⟨_, z1, q1, _⟩ := field_of hH f3 g3 1 3 1 rfl
  obtain ⟨_, z2, q2, _⟩ := field_of hH f3 g3 2 39 2 rfl
  obtain ⟨_, z3, q3, _⟩ := field_of hL f4 g4 0 39 0 rfl
  obtain ⟨_, z4, q4, _⟩ := field_of hL f4 g4 1 39 1 rfl
  obtain ⟨_, z5, q5, r5⟩ := field_of hL f4 g4 2 42 2 rfl
  obtain ⟨_, z6, q6, r6⟩ := field_of hL f4 g4 3 43 3 rfl
  simp only [eI, eU, eN, eE, List.drop_zero, List.drop_succ_cons, List.take_succ_cons, List.take_zero] at q0 q1 q2 q3 q4 q5 q6
  obtain ⟨k0, e0, _⟩ := int_of f0
  obtain ⟨k1, e1, u1, l1⟩ := int_of f1
  obtain ⟨k2, e2, b2⟩ := u64_of f2
  obtain ⟨k3, e3, b3⟩ := u64_of q0
  obtain ⟨k4, e4, u4, l4⟩ := int_of q1
  obtain ⟨k5, e5, b5⟩ := u64_of q2
  obtain ⟨k6, e6, b6⟩ := u64_of q3
  obtain ⟨k7, e7, b7⟩ := u64_of q4
  obtain ⟨cv, lc, e8, s8, _⟩ := slice_of noSh (fun _ => True) Tryz.underlying42 (by kernel_rfl) no_of q5 r5
  obtain ⟨ev, le, e9, s9, t9⟩ := slice_of enSh (fun e => e.term < 18446744073709551616) Tryz.underlying43 (by kernel_rfl) ent_of q6 r6
  obtain ⟨k10, e10, b10⟩ := str_of f5 g5
  simp only [List.cons.injEq, and_true] at e0 e1 e2 e3 e4 e5 e6 e7 e8 e9 e10
  subst e0 e1 e2 e3 e4 e5 e6 e7 e8 e9 e10
  exact ⟨⟨k0, k1, k2, k3, k4, k5, k6, k7, lc, le, k10⟩, ⟨_, _, rfl, s8, s9⟩, ⟨b2, b3, b7, t9, Nat.le_trans (Nat.le_trans b10 reach47) (by decide), ⟨u1, l1⟩, b6, ⟨u4, l4⟩⟩⟩
set_option maxRecDepth 100000 in
/-- What the reading of a script gives. -/
theorem acts_of {a : Option Addr} {len cap : Nat} {d : DataW H} {p : List MemPlace}
    (h : DataW.Trod enc Tryz.prog W 0 (fun _ => true) true 22 (.slice a len cap) d p) (hw : Lite d 22) :
    ∃ al : List AIn, Acts (fun k => W.heap.size ≤ k) W (.slice a len cap) al ∧ ∀ a ∈ al, AIs a := by
  obtain ⟨fuel, hf⟩ := h
  rcases Deep.open_slice Tryz.underlying22 hf with ⟨hcs, hx⟩ | ⟨x, l', c', m, n, D, Pl, hcs, _, hl, hm, hmm, hx, hcell⟩
  · simp [Value.cells] at hcs
    obtain ⟨rfl, rfl, rfl⟩ := hcs
    exact ⟨[], ⟨none, 0, rfl, fun j hj => by cases hj⟩, fun a ha => by cases ha⟩
  · simp [Value.cells] at hcs
    obtain ⟨rfl, rfl, rfl⟩ := hcs
    simp only [if_true] at hmm
    simp only [Prod.mk.injEq] at hx
    obtain ⟨rfl, _⟩ := hx
    have e4 : Tryz.prog.cellsOf 52 = 11 := by kernel_rfl
    rw [e4] at hcell
    have hls := lite_slice Tryz.underlying22 hw
    have liteI : ∀ i, i < len → Lite (D i) 52 := fun i hi => hls.2 _ (List.mem_map.2 ⟨i, List.mem_range.2 hi, rfl⟩)
    have key : ∀ i, i < len → ∃ k : AIn, (∃ cs, (∀ j, j < 11 → W.cell? (x.add (i * 11 + j)) = cs[j]?) ∧ ActC W cs k) ∧ AIs k := fun i hi => by
      obtain ⟨cs', h1, h2⟩ := hcell i (by omega)
      obtain ⟨k, hk, hi⟩ := act_of h2 (liteI i hi)
      obtain ⟨_, _, hc⟩ := World.cells?_some h1
      refine ⟨k, ⟨cs', fun j hj => ?_, hk⟩, hi⟩
      have := hc j hj
      rw [Deep.add_add] at this
      exact this
    obtain ⟨f, hfr⟩ := Deep.choose_lt key
    refine ⟨(List.range len).map f, ⟨some x, cap, by simp, fun j hj => ?_⟩, fun a ha => ?_⟩
    · have hj' : j < len := by simpa using hj
      obtain ⟨⟨cs, h1, cv, ev, rfl, s8, s9⟩, _⟩ := hfr j hj'
      obtain ⟨b, off, spot⟩ := x
      have h00 := h1 0 (by omega)
      obtain ⟨⟨cs0, h10, cv0, ev0, rfl, -⟩, -⟩ := hfr 0 (by omega)
      have hspot : spot = none := by simpa [Addr.add] using World.cell?_spot ((h10 0 (by omega)).trans rfl)
      subst hspot
      simp only [List.getElem_map, List.getElem_range]
      have g : ∀ i, i < 11 → W.cell? ⟨b, off + j * 11 + i, none⟩ = [.int .i64 (f j).kind, .int .i64 (f j).n, .int .u64 ((f j).from_ : Nat), .int .u64 ((f j).term : Nat), .int .i64 (f j).vote, .int .u64 ((f j).life : Nat), .int .u64 ((f j).base : Nat), .int .u64 ((f j).bterm : Nat), cv, ev, .string (S (f j).image)][i]? := fun i hi => by
        have := h1 i hi
        rw [addr_add] at this
        rw [Nat.add_assoc]
        exact this
      refine ⟨b, off, cv, ev, rfl, by have := World.block_lt_of_cell? W _ (h00.trans rfl); rw [addr_add] at this; exact this, ⟨g 0 (by omega), g 1 (by omega), g 2 (by omega), g 3 (by omega), g 4 (by omega), g 5 (by omega), g 6 (by omega), g 7 (by omega), g 8 (by omega), g 9 (by omega), g 10 (by omega)⟩, s8, s9, fun hl q hq => ?_, fun hl q hq => ?_⟩
      · have := rw.Sl.lt noSh s8 hl hq; omega
      · have := rw.Sl.lt enSh s9 hl hq; omega
    · obtain ⟨i, hi, rfl⟩ := List.mem_map.1 ha
      rw [List.mem_range] at hi
      exact (hfr i hi).2
set_option maxRecDepth 100000 in
theorem actv_of {v : Value} {base : Nat} {d : DataW H} {p : List MemPlace} (hv : Value.okWide Tryz.prog W .any base 52 v)
    (h : DataW.Trod enc Tryz.prog W 0 (fun _ => true) true 52 v d p) (hw : Lite d 52) :
    ∃ a cv ev, v = .agg (actC a cv ev) ∧ rw.Sl noSh W cv a.conf ∧ rw.Sl enSh W ev a.l ∧ AIs a := by
  obtain ⟨fuel, hf⟩ := h
  have hu := Tryz.underlying52
  obtain ⟨cs, rfl, hsz, _⟩ : ∃ cs, v = .agg cs ∧ cs.size = Tryz.prog.cellsOf 52 ∧ Row.okWide Tryz.prog W .any base 52 cs := by
    unfold Value.okWide at hv
    rw [hu] at hv
    exact hv
  change DataW.trod enc Tryz.prog W 0 (fun _ => true) true fuel 52 cs.toList = some (d, p) at hf
  obtain ⟨a, ⟨cv, ev, hcs, s8, s9⟩, hi⟩ := act_of hf hw
  refine ⟨a, cv, ev, ?_, s8, s9, hi⟩
  congr 1
  exact Array.toList_inj.1 hcs
end
end Go.Proofs.YteeeakbgofjinaaGreat.jr
/-! JrJm2 -/
namespace Go.Proofs.YteeeakbgofjinaaGreat.jr
set_option linter.unusedVariables false
open Go.RowKit
open fl (S S_size S_append S_inj)
open rw (Arr But below_box bnext below_drew below_drewN Fr)
open dk (PD Step Nu Inv Live)

theorem state_nil' (w : World) : Calls Tryz.prog 14 #[.pointer none] w fun e w' => ∃ a c a' c', e = .returned (.agg #[.int .u64 0, .int .i64 0, .int .u64 0, .int .u64 0, .int .u64 0, .slice a 0 c, .slice a' 0 c', .string ⟨#[]⟩]) ∧ Hid (rw.Sl noSh w' (.slice a 0 c) [] ∧ rw.Sl enSh w' (.slice a' 0 c') [] ∧ Below w.heap.size w w') := by
  refine (state_nil w).mono ?_
  rintro e w' ⟨cv, ev, rfl, h1, h2, h3⟩
  obtain ⟨a, c, rfl⟩ := h1.form
  obtain ⟨a', c', rfl⟩ := h2.form
  exact ⟨a, c, a', c', rfl, h1.sl, h2.sl, h3⟩
theorem same_zero (a a' : Option Addr) (c c' : Nat) (w : World) (h1 : rw.Sl noSh w (.slice a 0 c) []) (h2 : rw.Sl enSh w (.slice a' 0 c') []) :
    Calls Tryz.prog 13 #[.agg #[.int .u64 0, .int .i64 0, .int .u64 0, .int .u64 0, .int .u64 0, .slice a 0 c, .slice a' 0 c', .string ⟨#[]⟩], .agg #[.int .u64 0, .int .i64 0, .int .u64 0, .int .u64 0, .int .u64 0, .slice none 0 0, .slice none 0 0, .string ⟨#[]⟩]] w fun e w' => e = .returned (.bool true) ∧ Below w.heap.size w w' :=
  (refsame_any zero.h zero.h 0 0 0 0 (.slice a 0 c) (.slice a' 0 c') (.slice none 0 0) (.slice none 0 0) [] [] [] [] [] [] (by decide) (by decide) w h1 (rw.Sl.nil noSh w) h2 (rw.Sl.nil enSh w)).mono fun e w' ⟨h, b⟩ => ⟨h.trans (by simp), b⟩
set_option maxHeartbeats 16000000 in
set_option maxRecDepth 100000 in
theorem memory_any (v cx ex : Value) (al : List AIn) (a : AIn) (w : World) (hs : Acts (fun k => w.heap.size ≤ k) w v al) (hc : rw.Sl noSh w cx a.conf) (hl : rw.Sl enSh w ex a.l) (hal : ∀ a ∈ al, AIs a) (ha : AIs a) :
    Calls Tryz.prog 5 #[v, .agg (actC a cx ex)] w fun e w' => e = .returned (.bool true) ∧ Below w.heap.size w w' := by
  obtain ⟨va, vc, rfl, -⟩ := id hs
  obtain ⟨ca, cc, rfl⟩ := sl_form hc
  obtain ⟨ea, ec, rfl⟩ := sl_form hl
  have M0 := Lib.hid (Mi.start hs hc hl)
  have HI := Lib.hid (And.intro hal ha)
  have HAl := Lib.hid fun W => alive_any W
  have hAl := HAl.out (w.alloc (.cells (actC a (.slice ca a.conf.length cc) (.slice ea a.l.length ec)) 52))
  clear hs hc hl hal ha
  obtain ⟨an, han⟩ : ∃ n, al.length = n := ⟨_, rfl⟩
  obtain ⟨cn, hcn⟩ : ∃ n, a.conf.length = n := ⟨_, rfl⟩
  obtain ⟨en, hen⟩ : ∃ n, a.l.length = n := ⟨_, rfl⟩
  have HN : Hid (al.length = an ∧ a.conf.length = cn ∧ a.l.length = en) := ⟨han, hcn, hen⟩
  rw [han, hcn, hen] at M0
  rw [hcn, hen] at hAl
  rw [han, hcn, hen]
  clear han hcn hen
  unfold actC at hAl ⊢
  go_enter Tryz.func5, Tryz.ntmps5
  go_wp2_with fail
  refine hAl.mono ?_
  clear hAl
  rintro e w2 ⟨rfl, b2⟩
  have M2 := Lib.hid (M0.out.below b2)
  clear b2 M0
  have hG := great_any _ _ w2 M2.out.s
  go_wp2_with fail
  refine hG.mono ?_
  clear hG
  rintro e w3 ⟨⟨r, rfl, hr⟩, b3⟩
  have M3 := Lib.hid (M2.out.below b3)
  clear b3 M2
  cases r with
  | true =>
    have hA2 := HAl.out w3
    clear hr HAl
    go_wp2_with fail
    refine hA2.mono ?_
    clear hA2
    rintro e w4 ⟨rfl, b4⟩
    have HE := Lib.hid (M3.out.b.trans (b4.mono M3.out.b.size))
    clear b4 M3
    go_wp2_with fail
    go_ret
    exact ⟨rfl, HE.out⟩
  | false =>
  have HMo : Hid (Modest al) := hr.elim (fun h => by cases h) id
  clear hr
  obtain ⟨c0, c1, c2, c3, c4, c5, c6, c7, c8, c9, c10⟩ := M3.out.cells
  have M4 := Lib.hid M3.out.lit
  have hG := great_any _ _ _ M4.out.2
  unfold actC at hG M4
  clear M3
  go_wp2_with fail
  clear c0 c1 c2 c3 c4 c5 c6 c7 c8 c9 c10
  refine hG.mono ?_
  clear hG
  rintro e w4 ⟨⟨r, rfl, hr⟩, b4⟩
  have M5 := Lib.hid (M4.out.1.below b4)
  clear b4 M4
  cases r with
  | true =>
    have hA2 := HAl.out w4
    clear hr HAl
    go_wp2_with fail
    refine hA2.mono ?_
    clear hA2
    rintro e w5 ⟨rfl, b5⟩
    have HE := Lib.hid (M5.out.b.trans (b5.mono M5.out.b.size))
    clear b5 M5
    go_wp2_with fail
    go_ret
    exact ⟨rfl, HE.out⟩
  | false =>
  have HMa : Hid (Modest [a]) := hr.elim (fun h => by cases h) id
  clear hr HAl
  have hO := open_nil w4
  go_wp2_with fail
  refine hO.mono ?_
  clear hO
  rintro e w5 ⟨rfl, b5⟩
  have M6 := Lib.hid (M5.out.below b5)
  clear b5 M5
  have hS := state_nil' w5
  go_wp2_with fail
  refine hS.mono ?_
  clear hS
  rintro e w6 ⟨a1, k1, a2, k2, rfl, H6⟩
  have M7 := Lib.hid (M6.out.below H6.out.2.2)
  have hSm := same_zero a1 a2 k1 k2 w6 H6.out.1 H6.out.2.1
  clear M6 H6
  go_wp2_with fail
  refine hSm.mono ?_
  clear hSm
  rintro e w7 ⟨rfl, b7⟩
  have M8 := Lib.hid (M7.out.below b7)
  clear b7 M7
  obtain ⟨c0, c1, c2, c3, c4, c5, c6, c7, c8, c9, c10⟩ := M8.out.cells
  have hSv := save_nil (.int .u64 (a.term : Nat)) (.int .i64 a.vote) (.int .u64 (a.life : Nat)) w7
  go_wp2_with fail
  clear c0 c1 c2 c3 c4 c5 c6 c7 c8 c9 c10
  refine hSv.mono ?_
  clear hSv
  rintro e w8 ⟨rfl, b8⟩
  have M9 := Lib.hid (M8.out.below b8)
  clear b8 M8
  have hAp := append_nil (.int .u64 1) (.slice none 0 0) w8
  go_wp2_with fail
  refine hAp.mono ?_
  clear hAp
  rintro e w9 ⟨rfl, b9⟩
  have MA := Lib.hid (M9.out.below b9)
  clear b9 M9
  obtain ⟨c0, c1, c2, c3, c4, c5, c6, c7, c8, c9, c10⟩ := MA.out.cells
  have hRb : Calls Tryz.prog 26 #[.pointer none, .agg #[.int .u64 (a.base : Nat), .int .u64 (a.bterm : Nat), .slice ca cn cc, .slice ea en ec], .string ⟨#[]⟩] w9 _ := rebase_nil (.int .u64 (a.base : Nat)) (.int .u64 (a.bterm : Nat)) (.slice ca cn cc) (.slice ea en ec) [] w9
  go_wp2_with fail
  clear c0 c1 c2 c3 c4 c5 c6 c7 c8 c9 c10
  refine hRb.mono ?_
  clear hRb
  rintro e w10 ⟨rfl, b10⟩
  have MB := Lib.hid (MA.out.below b10)
  clear b10 MA
  have hNw := dk.pnew_any 1048576 w10
  go_wp2_with fail
  refine hNw.mono ?_
  clear hNw
  rintro e w11 (⟨h, -, -⟩ | ⟨cap, hcap, -, p, rfl, hp, hb⟩)
  · exfalso
    omega
  obtain rfl : cap = 1048576 := by omega
  have L1 : Hid (Live w10 w11 p (dk.fresh 1048576)) := Live.new (Below.refl _ _) hp hb
  clear hp hb hcap
  have hO := lopen_any (w0 := w10) p 0 (dk.fresh 1048576) (dk.inv_fresh (by decide)) (by decide) w11 L1.out
  rw [open_fresh (by decide)] at hO
  clear L1
  go_wp2_with fail
  refine hO.mono ?_
  clear hO
  rintro e w12 ⟨jb, rfl, j12⟩
  have HOk : Hid (∀ b ∈ al, AOk b) := fun b hb => aok_of (HI.out.1 b hb) (HMo.out.2 b hb).1 (HMo.out.2 b hb).2
  have hRun := run_any jb p 4 0 (JLive.keeps w10 jb p) (s1, dsk 1048576 (F K1)) (.slice va an vc) al pok_1 (by have := HMo.out.1; omega) (by have := HMo.out.1; omega) HOk.out w12 j12 (fun W d s h => (MB.out.below h.since).s.mono (fun i hi => Nat.le_trans MB.out.b.size hi))
  have HP := Lib.hid (plays_ok al 4 0 (s1, dsk 1048576 (F K1)) pok_1 HOk.out (by have := HMo.out.1; omega))
  clear j12 HOk
  generalize plays (s1, dsk 1048576 (F K1)) al = SD at *
  obtain ⟨S1, D1⟩ := SD
  go_wp2_with fail
  refine hRun.mono ?_
  clear hRun
  rintro e w13 ⟨rfl, j13⟩
  have MC := Lib.hid (MB.out.below j13.since)
  obtain ⟨F1, cv1, ev1, j13, hF1, hjb1, hcv1, hev1, -⟩ := j13
  have J13 : Hid (Jn w13 F1 jb p D1 S1 cv1 ev1 ∧ ∀ k, Jb F1 jb cv1 ev1 k → w.heap.size ≤ k ∧ k < w13.heap.size) := ⟨j13, fun k hk => ⟨Nat.le_trans MB.out.b.size (by
    rcases hk with hk | hk | hk | hk
    · exact hF1 k hk
    · exact hk ▸ hjb1
    · exact hcv1 k hk
    · exact hev1 k hk), j13.lt hk⟩⟩
  clear j13 hF1 hjb1 hcv1 hev1 MB
  -- own, conf
  obtain ⟨ov, w14, g1, o1, b14⟩ := rw.append_none enSh (.slice ea en ec) a.l (by have := HMa.out.2 a List.mem_cons_self; omega) w13 MC.out.l
  have HO14 : Hid (∀ q, ov.ownBlock = some q → q < w14.heap.size) := fun q hq => own_lt o1 hq
  have MC0 : Hid (w.heap.size ≤ w13.heap.size) := MC.out.b.size
  have MD := Lib.hid (MC.out.below b14)
  obtain ⟨qv, w15, g2, o2, b15⟩ := rw.append_none noSh (.slice ca cn cc) a.conf (by have := HMa.out.2 a List.mem_cons_self; omega) w14 MD.out.c
  have O2 := Lib.hid (And.intro (o1.below _ b15) o2)
  have ME := Lib.hid (MD.out.below b15)
  have J15 : Hid (Jn w15 F1 jb p D1 S1 cv1 ev1 ∧ Below w13.heap.size w13 w15) := ⟨(J13.out.1.below b14).below b15, b14.trans (b15.mono b14.size)⟩
  have HS14 : Hid (w13.heap.size ≤ w14.heap.size) := b14.size
  have HS45 : Hid (w14.heap.size ≤ w15.heap.size) := b15.size
  obtain ⟨-, -, -, -, -, -, -, -, -, d9, -⟩ := (MC.out.below (below_box w13 (.cells #[] 70))).cells
  obtain ⟨-, -, -, -, -, -, -, -, d8, -, -⟩ := (MD.out.below (below_box w14 (.cells #[] 3))).cells
  obtain ⟨c0, -, c2, c3, c4, c5, c6, c7, -, -, c10⟩ := ME.out.cells
  clear o1 b14 MC o2 b15 MD
  obtain ⟨oa, oc, rfl⟩ : ∃ a' k, ov = .slice a' a.l.length k := O2.out.1.form
  obtain ⟨qa, qc, rfl⟩ : ∃ a' k, qv = .slice a' a.conf.length k := O2.out.2.form
  rw [HN.out.2.2] at HO14 g1
  rw [HN.out.2.1] at g2
  rw [HN.out.2.2, HN.out.2.1] at O2
  have HR1 := Lib.hid g1
  have HR2 := Lib.hid g2
  clear g1 g2
  -- the literal of one call
  have kL := below_box w15 (.cells (actC (noN a) (.slice qa cn qc) (.slice oa en oc)) 52)
  have X16 : Hid (Jn (w15.alloc (.cells (actC (noN a) (.slice qa cn qc) (.slice oa en oc)) 52)) F1 jb p D1 S1 cv1 ev1 ∧ Arr (w15.alloc (.cells (actC (noN a) (.slice qa cn qc) (.slice oa en oc)) 52)) w15.heap.size 52 (actC (noN a) (.slice qa cn qc) (.slice oa en oc)) ∧
      rw.Own enSh (w15.alloc (.cells (actC (noN a) (.slice qa cn qc) (.slice oa en oc)) 52)) w13.heap.size (.slice oa en oc) a.l ∧ rw.Own noSh (w15.alloc (.cells (actC (noN a) (.slice qa cn qc) (.slice oa en oc)) 52)) w14.heap.size (.slice qa cn qc) a.conf ∧ Below w.heap.size w (w15.alloc (.cells (actC (noN a) (.slice qa cn qc) (.slice oa en oc)) 52)) ∧ w15.heap.size < (w15.alloc (.cells (actC (noN a) (.slice qa cn qc) (.slice oa en oc)) 52)).heap.size ∧ w13.heap.size ≤ w15.heap.size) :=
    ⟨J15.out.1.below kL, Arr.new _ _ _, O2.out.1.below _ kL, O2.out.2.below _ kL, ME.out.b.trans (kL.mono ME.out.b.size), by simp, J15.out.2.size⟩
  unfold actC noN at X16
  simp only at X16
  clear kL ME O2 J15
  obtain ⟨w16, hw16⟩ : ∃ W, w15.alloc (.cells #[.int .i64 a.kind, .int .i64 0, .int .u64 (a.from_ : Nat), .int .u64 (a.term : Nat), .int .i64 a.vote, .int .u64 (a.life : Nat), .int .u64 (a.base : Nat), .int .u64 (a.bterm : Nat), .slice qa cn qc, .slice oa en oc, .string (S a.image)] 52) = W := ⟨_, rfl⟩
  rw [hw16] at X16
  have hAo : AOk (noN a) := by
    have h := aok_of HI.out.2 (HMa.out.2 a List.mem_cons_self).1 (HMa.out.2 a List.mem_cons_self).2
    exact ⟨h.f, h.t, h.bt, h.c, h.l, h.e, h.i⟩
  have hAo2 : ∀ b ∈ [noN a], AOk b := fun b hb => by rw [List.mem_singleton.1 hb]; exact hAo
  have HB2 : Hid (4 + 2 * al.length ≤ 130 ∧ 0 + 1000 * al.length ≤ 60000) := by have := HMo.out.1; exact ⟨by omega, by omega⟩
  have hRun2 := run_any jb p (4 + 2 * al.length) (0 + 1000 * al.length) (JStep.keeps w16 F1 jb p cv1 ev1) (S1, D1) (.slice (some ⟨w15.heap.size, 0, none⟩) 1 1) [noN a] HP.out (by have := HB2.out.1; simp; omega) (by have := HB2.out.2; simp; omega) hAo2 w16 (JStep.refl X16.out.1) (fun W d s h => by
    obtain ⟨F', c', e', h1, h2, _⟩ := h
    have hJG : ∀ i, JG F1 jb ev1 i → i < w13.heap.size := fun i hi => (J13.out.2 i (JG.toJb hi)).2
    obtain ⟨-, x2, x3, x4, -, -, x7⟩ := X16.out
    have kA := h2.arr x2 (fun hg => by have := hJG _ hg; omega)
    have k1 := own_fr x3 h2 (fun q hq hg => by have := hJG q hg; have := (x3.lt q hq).1; omega)
    have k2 := own_fr x4 h2 (fun q hq hg => by have := hJG q hg; have := (x4.lt q hq).1; have := HS14.out; omega)
    refine Acts.one (a := noN a) kA k2.sl k1.sl (fun _ q hq hF => hF.elim (fun hf => ?_) fun hge => ?_) (fun _ q hq hF => hF.elim (fun hf => ?_) fun hge => ?_)
    · have := (J13.out.2 q (.inl hf)).2; have := (x4.lt q hq).1; have := HS14.out; omega
    · have := own_lt x4 hq; omega
    · have := (J13.out.2 q (.inl hf)).2; have := (x3.lt q hq).1; omega
    · have := own_lt x3 hq; omega)
  have HP2 := Lib.hid (plays_ok [noN a] _ _ (S1, D1) HP.out hAo2 (by have := HB2.out.2; simp; omega))
  generalize plays (S1, D1) [noN a] = SD2 at *
  obtain ⟨S2, D2⟩ := SD2
  have HS16 : Hid (w14.heap.size ≤ w16.heap.size) := Nat.le_trans HS45.out (Nat.le_of_lt X16.out.2.2.2.2.2.1)
  clear hAo hAo2 HP
  go_wp2_with (at_builtin; first | (refine rw.wpList_append_at _ _ _ rfl rfl _ _ _ _ rfl rfl HR1.out ?_; clear HR1 d9) | (refine rw.wpList_append_at _ _ _ rfl rfl _ _ _ _ rfl rfl HR2.out ?_; clear HR2 d8))
  clear c0 c2 c3 c4 c5 c6 c7 c10
  refine hRun2.mono ?_
  clear hRun2
  rintro e w17 ⟨rfl, j17⟩
  have J17 : Hid (∃ F2 cv2 ev2, Jn w17 F2 jb p D2 S2 cv2 ev2 ∧ (∀ k, Jb F2 jb cv2 ev2 k → w.heap.size ≤ k ∧ k < w17.heap.size ∧ (k < w13.heap.size ∨ w16.heap.size ≤ k)) ∧ rw.Own enSh w17 w13.heap.size (.slice oa en oc) a.l ∧ rw.Own noSh w17 w14.heap.size (.slice qa cn qc) a.conf ∧
      (∀ q, (Value.slice oa en oc).ownBlock = some q → q < w14.heap.size) ∧ (∀ q, (Value.slice qa cn qc).ownBlock = some q → q < w16.heap.size) ∧ Below w.heap.size w w17 ∧ w16.heap.size ≤ w17.heap.size ∧ w.heap.size ≤ w13.heap.size) := by
    obtain ⟨F2, cv2, ev2, j2, f2, nb⟩ := j17.blocks
    have hJG : ∀ i, JG F1 jb ev1 i → i < w13.heap.size := fun i hi => (J13.out.2 i (JG.toJb hi)).2
    obtain ⟨-, x2, x3, x4, x5, -, x7⟩ := X16.out
    have hsz : w.heap.size ≤ w13.heap.size := MC0.out
    refine ⟨F2, cv2, ev2, j2, fun k hk => ?_, own_fr x3 f2 (fun q hq hg => by have := hJG q hg; have := (x3.lt q hq).1; omega), own_fr x4 f2 (fun q hq hg => by have := hJG q hg; have := (x4.lt q hq).1; have := HS14.out; omega), HO14.out, fun q hq => own_lt x4 hq, x5.trans (f2.below x5.size fun i hi => (J13.out.2 i (JG.toJb hi)).1), f2.size, hsz⟩
    have hlt := j2.lt hk
    have hs16 : w.heap.size ≤ w16.heap.size := x5.size
    rcases nb k hk with h | h
    · have := J13.out.2 k h
      exact ⟨this.1, hlt, .inl this.2⟩
    · exact ⟨by omega, hlt, .inr h⟩
  clear j17 X16 HS45 J13 HB2
  obtain ⟨F2, cv2, ev2, J17⟩ := J17.out
  replace J17 := Lib.hid J17
  have hSt := state_jn HP2.out.o (by have h1 : S2.l.length ≤ 0 + 1000 * al.length + 1000 * 1 := HP2.out.l; have h2 : al.length ≤ 60 := HMo.out.1; show S2.l.length ≤ _; omega) w17 J17.out.1
  go_wp2_with fail
  refine hSt.mono ?_
  clear hSt
  rintro e w18 ⟨cw, ew, rfl, oc8, oe8, b18⟩
  obtain ⟨cwa, cwc, rfl⟩ : ∃ a' k, cw = .slice a' (ints S2.conf).length k := oc8.form
  obtain ⟨ewa, ewc, rfl⟩ : ∃ a' k, ew = .slice a' (ens S2.l).length k := oe8.form
  have hen : en ≤ 1000 := by have := (HMa.out.2 a List.mem_cons_self).1; have := HN.out.2.2; omega
  have hcn : cn ≤ 1000 := by have := (HMa.out.2 a List.mem_cons_self).2; have := HN.out.2.1; omega
  obtain ⟨n5, hn5⟩ : ∃ n, (ints S2.conf).length = n := ⟨_, rfl⟩
  obtain ⟨n6, hn6⟩ : ∃ n, (ens S2.l).length = n := ⟨_, rfl⟩
  have HN5 : Hid ((ints S2.conf).length = n5 ∧ (ens S2.l).length = n6) := ⟨hn5, hn6⟩
  rw [hn5] at oc8
  rw [hn6] at oe8
  rw [hn5, hn6]
  clear hn5 hn6
  have kz := below_box w18 (.cells (stV S2.h S2.base S2.bterm (.slice cwa n5 cwc) (.slice ewa n6 ewc) S2.image) 47)
  have W19 : Hid (Was w (w18.alloc (.cells (stV S2.h S2.base S2.bterm (.slice cwa n5 cwc) (.slice ewa n6 ewc) S2.image) 47)) F2 jb p w18.heap.size D2 S2 cv2 ev2 (.slice cwa n5 cwc) (.slice ewa n6 ewc) w17.heap.size ∧
      rw.Own enSh (w18.alloc (.cells (stV S2.h S2.base S2.bterm (.slice cwa n5 cwc) (.slice ewa n6 ewc) S2.image) 47)) w13.heap.size (.slice oa en oc) a.l ∧ rw.Own noSh (w18.alloc (.cells (stV S2.h S2.base S2.bterm (.slice cwa n5 cwc) (.slice ewa n6 ewc) S2.image) 47)) w14.heap.size (.slice qa cn qc) a.conf) := by
    obtain ⟨j1, j2, j3, j4, j5, j6, j7, j8, j9⟩ := J17.out
    have hs := j7.size
    exact ⟨⟨(j1.below b18).below kz, fun k hk => ⟨(j2 k hk).1, (j2 k hk).2.1⟩, Arr.new w18 _ _, b18.size, oc8.below _ kz, oe8.below _ kz, (j7.trans (b18.mono j7.size)).trans (kz.mono (Nat.le_trans j7.size b18.size)), hs⟩, (j3.below _ b18).below _ kz, (j4.below _ b18).below _ kz⟩
  have HG1 : Hid (∀ i, (Value.slice oa en oc).ownBlock = some i → w.heap.size ≤ i ∧ ¬ Jb F2 jb cv2 ev2 i ∧ i < w17.heap.size ∧ i < w14.heap.size) := fun i hi => by
    obtain ⟨j1, j2, j3, j4, j5, j6, j7, j8, j9⟩ := J17.out
    have h1 := (j3.lt i hi).1
    have h2 := j5 i hi
    have h3 := HS16.out
    exact ⟨by omega, fun hj => by have := (j2 i hj).2.2; omega, by omega, h2⟩
  have HG2 : Hid (∀ i, (Value.slice qa cn qc).ownBlock = some i → w.heap.size ≤ i ∧ ¬ Jb F2 jb cv2 ev2 i ∧ i < w17.heap.size ∧ w14.heap.size ≤ i) := fun i hi => by
    obtain ⟨j1, j2, j3, j4, j5, j6, j7, j8, j9⟩ := J17.out
    have h1 := (j4.lt i hi).1
    have h2 := j6 i hi
    have h4 := HS14.out
    exact ⟨by omega, fun hj => by have := (j2 i hj).2.2; omega, by omega, h1⟩
  clear kz b18 oc8 oe8 J17 HS14 HS16 HO14 MC0
  obtain ⟨sb, hsb⟩ : ∃ sb, w18.heap.size = sb := ⟨_, rfl⟩
  unfold stV at W19 ⊢
  go_upto_region 16 with (fail)
  rw [hsb] at W19
  generalize w18.alloc (.cells #[.int .u64 (S2.h.term : Nat), .int .i64 (S2.h.vote : Nat), .int .u64 (S2.h.life : Nat), .int .u64 (S2.base : Nat), .int .u64 (S2.bterm : Nat), .slice cwa n5 cwc, .slice ewa n6 ewc, .string (S S2.image)] 47) = w19 at *
  clear hsb hw16
  go_wp2_with fail
  -- own is written over
  go_loopw [15] (fun i wr => ∃ k : Nat, i = .int .i64 (k : Nat) ∧ k ≤ en ∧ Hid (OvR enSh w19 wr (.slice oa en oc) en))
    (fun i _ => en - (intOf i).toNat)
  case atStart =>
    refine ⟨0, rfl, Nat.zero_le _, ?_⟩
    have h := OvR.start W19.out.2.1
    rw [HN.out.2.2] at h
    exact h
  case round =>
  obtain ⟨k, rfl, hk, HI2⟩ := hrel
  by_cases hlt : k < en
  · have hki : (k : Int) < (en : Int) := by omega
    obtain ⟨g, rfl⟩ : ∃ g, oa = some ⟨g, 0, none⟩ := by
      obtain ⟨g, c, e⟩ := own_some W19.out.2.1 (fun e => by have := HN.out.2.2; rw [e] at this; simp at this; omega)
      injection e with e1
      exact ⟨g, e1⟩
    obtain ⟨u0, z0⟩ := HI2.out.cell hlt (j := 0) (by decide)
    obtain ⟨u1, z1⟩ := HI2.out.cell hlt (j := 1) (by decide)
    obtain ⟨u2, z2⟩ := HI2.out.cell hlt (j := 2) (by decide)
    have f0 := HI2.out.frozen (k * 3)
    have f1 := HI2.out.frozen (k * 3 + 1)
    have f2 := HI2.out.frozen (k * 3 + 2)
    change wr.cell? ⟨g, k * 3 + 0, none⟩ = some u0 at z0
    change wr.cell? ⟨g, k * 3 + 1, none⟩ = some u1 at z1
    change wr.cell? ⟨g, k * 3 + 2, none⟩ = some u2 at z2
    rw [Nat.add_zero] at z0
    have HE := Lib.hid (((HI2.out.set (k * 3) (.int .u64 99)).set (k * 3 + 1) (.int .i64 0)).set (k * 3 + 2) (.string ⟨#[]⟩))
    clear HI2
    go_wp2_with fail
    exact ⟨⟨k + 1, by rw [Int.natCast_add]; rfl, by omega, HE⟩, by simp only [intOf]; omega⟩
  obtain rfl : k = en := by omega
  have hki : ¬ (k : Int) < (k : Int) := by omega
  have W20 : Hid (Was w wr F2 jb p sb D2 S2 cv2 ev2 (.slice cwa n5 cwc) (.slice ewa n6 ewc) w17.heap.size ∧ rw.Own noSh wr w14.heap.size (.slice qa cn qc) a.conf) := by
    obtain ⟨h1, h2, h3⟩ := W19.out
    refine ⟨h1.frame HI2.out.1 (fun i hi => ?_) (OvR.nobox h2 (by decide)), own_fr h3 HI2.out.1 fun q hq hg => ?_⟩
    · obtain ⟨g1, g2, g3, g4⟩ := HG1.out i hi
      exact ⟨g1, g2, by have := h1.sbl; omega, fun e => by have := (h1.c.lt i e).1; omega, fun e => by have := (h1.l.lt i e).1; omega⟩
    · have := (HG1.out q hg).2.2.2
      have := (HG2.out q hq).2.2.2
      omega
  clear HI2 W19 HG1
  rename World => w20
  go_wp2_with fail
  -- conf is written over
  go_loopw [16] (fun i wr => ∃ k : Nat, i = .int .i64 (k : Nat) ∧ k ≤ cn ∧ Hid (OvR noSh w20 wr (.slice qa cn qc) cn))
    (fun i _ => cn - (intOf i).toNat)
  case atStart =>
    refine ⟨0, rfl, Nat.zero_le _, ?_⟩
    have h := OvR.start W20.out.2
    rw [HN.out.2.1] at h
    exact h
  case round =>
  obtain ⟨k, rfl, hk, HI2⟩ := hrel
  by_cases hlt : k < cn
  · have hki : (k : Int) < (cn : Int) := by omega
    obtain ⟨g, rfl⟩ : ∃ g, qa = some ⟨g, 0, none⟩ := by
      obtain ⟨g, c, e⟩ := own_some W20.out.2 (fun e => by have := HN.out.2.1; rw [e] at this; simp at this; omega)
      injection e with e1
      exact ⟨g, e1⟩
    obtain ⟨u0, z0⟩ := HI2.out.cell hlt (j := 0) (by decide)
    have f0 := HI2.out.frozen k
    change wr.cell? ⟨g, k * 1 + 0, none⟩ = some u0 at z0
    rw [Nat.mul_one, Nat.add_zero] at z0
    have HE := Lib.hid (HI2.out.set k (.int .i64 99))
    clear HI2
    go_wp2_with fail
    exact ⟨⟨k + 1, by rw [Int.natCast_add]; rfl, by omega, HE⟩, by simp only [intOf]; omega⟩
  obtain rfl : k = cn := by omega
  have hki : ¬ (k : Int) < (k : Int) := by omega
  have W21 : Hid (Was w wr F2 jb p sb D2 S2 cv2 ev2 (.slice cwa n5 cwc) (.slice ewa n6 ewc) w17.heap.size) := by
    obtain ⟨h1, h3⟩ := W20.out
    refine h1.frame HI2.out.1 (fun i hi => ?_) (OvR.nobox h3 (by decide))
    obtain ⟨g1, g2, g3, g4⟩ := HG2.out i hi
    exact ⟨g1, g2, by have := h1.sbl; omega, fun e => by have := (h1.c.lt i e).1; omega, fun e => by have := (h1.l.lt i e).1; omega⟩
  clear HI2 W20 HG2
  rename World => w21
  have h6 : n6 ≤ 70000 := by
    have h1 : S2.l.length ≤ 0 + 1000 * al.length + 1000 * 1 := HP2.out.l
    have h2 : al.length ≤ 60 := HMo.out.1
    have h3 := HN5.out.2
    rw [ens_length] at h3
    omega
  have h5 : n5 ≤ 1000 := by
    have h2 : S2.conf.length ≤ 5 := members_few HP2.out.o.conf
    have h3 := HN5.out.1
    rw [ints_length] at h3
    omega
  have hLg := log_get F2 jb p D2 S2 cv2 ev2 HP2.out.o (by have h3 := HN5.out.2; rw [ens_length] at h3; omega) (by have h3 := HN5.out.1; rw [ints_length] at h3; omega) w21 W21.out.j
  go_wp2_with fail
  refine hLg.mono ?_
  clear hLg
  rintro e w22 ⟨gv, hv, rfl, og, oh, b22⟩
  obtain ⟨ga, gc, rfl⟩ : ∃ a' k, gv = .slice a' (ints S2.conf).length k := og.form
  obtain ⟨ha, hc, rfl⟩ : ∃ a' k, hv = .slice a' (ens S2.l).length k := oh.form
  rw [HN5.out.1] at og ⊢
  rw [HN5.out.2] at oh ⊢
  have kz := below_box w22 (.cells (lgC S2.base S2.bterm (.slice ga n5 gc) (.slice ha n6 hc)) 45)
  have W23 : Hid (Was w (w22.alloc (.cells (lgC S2.base S2.bterm (.slice ga n5 gc) (.slice ha n6 hc)) 45)) F2 jb p sb D2 S2 cv2 ev2 (.slice cwa n5 cwc) (.slice ewa n6 ewc) w17.heap.size ∧
      Arr (w22.alloc (.cells (lgC S2.base S2.bterm (.slice ga n5 gc) (.slice ha n6 hc)) 45)) w22.heap.size 45 (lgC S2.base S2.bterm (.slice ga n5 gc) (.slice ha n6 hc)) ∧
      rw.Own noSh (w22.alloc (.cells (lgC S2.base S2.bterm (.slice ga n5 gc) (.slice ha n6 hc)) 45)) w21.heap.size (.slice ga n5 gc) (ints S2.conf) ∧ rw.Own enSh (w22.alloc (.cells (lgC S2.base S2.bterm (.slice ga n5 gc) (.slice ha n6 hc)) 45)) w21.heap.size (.slice ha n6 hc) (ens S2.l)) :=
    ⟨(W21.out.below b22).below kz, Arr.new w22 _ _, og.below _ kz, oh.below _ kz⟩
  have HG3 : Hid (∀ i, w21.heap.size ≤ i → w.heap.size ≤ i ∧ ¬ Jb F2 jb cv2 ev2 i ∧ i ≠ sb ∧ (Value.slice cwa n5 cwc).ownBlock ≠ some i ∧ (Value.slice ewa n6 ewc).ownBlock ≠ some i) := fun i hi => by
    have h1 := W21.out
    exact ⟨Nat.le_trans h1.b.size hi, fun hj => by have := h1.j.lt hj; omega, fun e => by have := h1.a.lt; omega, fun e => by have := own_lt h1.c e; omega, fun e => by have := own_lt h1.l e; omega⟩
  have HG4 : Hid ((∀ i, (Value.slice ga n5 gc).ownBlock = some i → w21.heap.size ≤ i ∧ i < w22.heap.size) ∧ (∀ i, (Value.slice ha n6 hc).ownBlock = some i → w21.heap.size ≤ i ∧ i < w22.heap.size)) :=
    ⟨fun i hi => ⟨(og.lt i hi).1, own_lt og hi⟩, fun i hi => ⟨(oh.lt i hi).1, own_lt oh hi⟩⟩
  clear kz b22 og oh W21
  obtain ⟨gb, hgb⟩ : ∃ gb, w22.heap.size = gb := ⟨_, rfl⟩
  unfold lgC at W23 ⊢
  go_upto_region 25 with (fail)
  rw [hgb] at W23 HG4
  generalize w22.alloc (.cells #[.int .u64 (S2.base : Nat), .int .u64 (S2.bterm : Nat), .slice ga n5 gc, .slice ha n6 hc] 45) = w23 at *
  clear hgb
  go_wp2_with fail
  -- what was told is written over
  go_loopw [18] (fun i wr => ∃ k : Nat, i = .int .i64 (k : Nat) ∧ k ≤ n6 ∧ Hid (OvR enSh w23 wr (.slice ha n6 hc) n6))
    (fun i _ => n6 - (intOf i).toNat)
  case atStart =>
    refine ⟨0, rfl, Nat.zero_le _, ?_⟩
    have h := OvR.start W23.out.2.2.2
    rw [HN5.out.2] at h
    exact h
  case round =>
  obtain ⟨k, rfl, hk, HI2⟩ := hrel
  have kb : wr.cell? ⟨gb, 3, none⟩ = some (.slice ha n6 hc) := (HI2.out.1.arr W23.out.2.1 (fun e => by have := HG4.out.2 gb e; omega)).cell rfl
  by_cases hlt : k < n6
  · have hki : (k : Int) < (n6 : Int) := by omega
    obtain ⟨g, rfl⟩ : ∃ g, ha = some ⟨g, 0, none⟩ := by
      obtain ⟨g, c, e⟩ := own_some W23.out.2.2.2 (fun e => by have := HN5.out.2; rw [e] at this; simp at this; omega)
      injection e with e1
      exact ⟨g, e1⟩
    obtain ⟨u0, z0⟩ := HI2.out.cell hlt (j := 0) (by decide)
    obtain ⟨u1, z1⟩ := HI2.out.cell hlt (j := 1) (by decide)
    obtain ⟨u2, z2⟩ := HI2.out.cell hlt (j := 2) (by decide)
    have f0 := HI2.out.frozen (k * 3)
    have f1 := HI2.out.frozen (k * 3 + 1)
    have f2 := HI2.out.frozen (k * 3 + 2)
    change wr.cell? ⟨g, k * 3 + 0, none⟩ = some u0 at z0
    change wr.cell? ⟨g, k * 3 + 1, none⟩ = some u1 at z1
    change wr.cell? ⟨g, k * 3 + 2, none⟩ = some u2 at z2
    rw [Nat.add_zero] at z0
    have HE := Lib.hid (((HI2.out.set (k * 3) (.int .u64 98)).set (k * 3 + 1) (.int .i64 0)).set (k * 3 + 2) (.string ⟨#[]⟩))
    clear HI2
    go_wp2_with fail
    exact ⟨⟨k + 1, by rw [Int.natCast_add]; rfl, by omega, HE⟩, by simp only [intOf]; omega⟩
  obtain rfl : k = n6 := by omega
  have hki : ¬ (k : Int) < (k : Int) := by omega
  have W24 : Hid (Was w wr F2 jb p sb D2 S2 cv2 ev2 (.slice cwa n5 cwc) (.slice ewa k ewc) w17.heap.size ∧ rw.Own noSh wr w21.heap.size (.slice ga n5 gc) (ints S2.conf) ∧ Arr wr gb 45 #[.int .u64 (S2.base : Nat), .int .u64 (S2.bterm : Nat), .slice ga n5 gc, .slice ha k hc]) := by
    obtain ⟨h1, h2, h3, h4⟩ := W23.out
    refine ⟨h1.frame HI2.out.1 (fun i hi => HG3.out i (HG4.out.2 i hi).1) (OvR.nobox h4 (by decide)), own_fr h3 HI2.out.1 fun q hq hg => ?_, HI2.out.1.arr h2 (fun e => by have := HG4.out.2 gb e; omega)⟩
    obtain ⟨c3, hc3⟩ := own_typed h3 hq
    exact own_ne h4 hc3 (by decide) hg
  clear HI2 W23 kb
  rename World => w24
  have kb : w24.cell? ⟨gb, 3, none⟩ = some (.slice ha k hc) := W24.out.2.2.cell rfl
  go_wp2_with fail
  clear kb
  go_loopw [19] (fun i wr => ∃ k : Nat, i = .int .i64 (k : Nat) ∧ k ≤ n5 ∧ Hid (OvR noSh w24 wr (.slice ga n5 gc) n5))
    (fun i _ => n5 - (intOf i).toNat)
  case atStart =>
    refine ⟨0, rfl, Nat.zero_le _, ?_⟩
    have h := OvR.start W24.out.2.1
    rw [HN5.out.1] at h
    exact h
  case round =>
  obtain ⟨m, rfl, hm, HI2⟩ := hrel
  have kb : wr.cell? ⟨gb, 2, none⟩ = some (.slice ga n5 gc) := (HI2.out.1.arr W24.out.2.2 (fun e => by have := HG4.out.1 gb e; omega)).cell rfl
  by_cases hlt : m < n5
  · have hki : (m : Int) < (n5 : Int) := by omega
    obtain ⟨g, rfl⟩ : ∃ g, ga = some ⟨g, 0, none⟩ := by
      obtain ⟨g, c, e⟩ := own_some W24.out.2.1 (fun e => by have := HN5.out.1; rw [e] at this; simp at this; omega)
      injection e with e1
      exact ⟨g, e1⟩
    obtain ⟨u0, z0⟩ := HI2.out.cell hlt (j := 0) (by decide)
    have f0 := HI2.out.frozen m
    change wr.cell? ⟨g, m * 1 + 0, none⟩ = some u0 at z0
    rw [Nat.mul_one, Nat.add_zero] at z0
    have HE := Lib.hid (HI2.out.set m (.int .i64 98))
    clear HI2
    go_wp2_with fail
    exact ⟨⟨m + 1, by rw [Int.natCast_add]; rfl, by omega, HE⟩, by simp only [intOf]; omega⟩
  obtain rfl : m = n5 := by omega
  have hki : ¬ (m : Int) < (m : Int) := by omega
  have W25 : Hid (Was w wr F2 jb p sb D2 S2 cv2 ev2 (.slice cwa m cwc) (.slice ewa k ewc) w17.heap.size) := by
    obtain ⟨h1, h2, h3⟩ := W24.out
    exact h1.frame HI2.out.1 (fun i hi => HG3.out i (HG4.out.1 i hi).1) (OvR.nobox h2 (by decide))
  clear HI2 W24 HG3 HG4
  rename World => w25
  -- the power goes
  have hFu := dk.fuse_any F2 p D2 0 (by decide) w25 W25.out.j.d
  go_wp2_with fail
  refine hFu.mono ?_
  clear hFu
  rintro e w26 ⟨rfl, s26⟩
  have J26 : Hid (JStep w25 F2 jb p cv2 ev2 (dk.fuse D2 0) S2 w26) := W25.out.j.step s26
  clear s26 kb
  have HOff := Lib.hid (off_fuse D2)
  have HInv : Hid (Inv 140 (dk.fuse D2 0)) := by
    have h1 := HP2.out.i
    have h2 : al.length ≤ 60 := HMo.out.1
    exact (dk.inv_fuse (d := D2) (h1.mono (by rw [List.length_singleton]; omega)) 0 (by decide))
  generalize dk.fuse D2 0 = D3 at *
  have HO2 : Hid (Ok S2) := HP2.out.o
  have HL2 : Hid (S2.l.length ≤ 1000000 ∧ S2.base ≤ 4611686018427387904 ∧ S2.l.length = k) := by
    have h1 : S2.l.length ≤ 0 + 1000 * al.length + 1000 * 1 := HP2.out.l
    have h2 : al.length ≤ 60 := HMo.out.1
    have h3 := HN5.out.2
    rw [ens_length] at h3
    exact ⟨by omega, HP2.out.o.base, h3⟩
  have HZ : Hid (∀ W, JStep w25 F2 jb p cv2 ev2 D3 S2 W → (W.cell? ⟨sb, 0, none⟩ = some (.int .u64 (S2.h.term : Nat)) ∧ W.cell? ⟨sb, 1, none⟩ = some (.int .i64 (S2.h.vote : Nat)) ∧ W.cell? ⟨sb, 2, none⟩ = some (.int .u64 (S2.h.life : Nat)) ∧ W.cell? ⟨sb, 3, none⟩ = some (.int .u64 (S2.base : Nat)) ∧ W.cell? ⟨sb, 4, none⟩ = some (.int .u64 (S2.bterm : Nat)) ∧
      W.cell? ⟨sb, 5, none⟩ = some (.slice cwa m cwc) ∧ W.cell? ⟨sb, 6, none⟩ = some (.slice ewa k ewc) ∧ W.cell? ⟨sb, 7, none⟩ = some (.string (S S2.image))) ∧ rw.Sl noSh W (.slice cwa m cwc) (ints S2.conf) ∧ rw.Sl enSh W (.slice ewa k ewc) (ens S2.l) ∧ Below w.heap.size w W) := fun W h => by
    obtain ⟨h1, h2, h3, h4⟩ := W25.out.after h
    exact ⟨⟨h1.cell rfl, h1.cell rfl, h1.cell rfl, h1.cell rfl, h1.cell rfl, h1.cell rfl, h1.cell rfl, h1.cell rfl⟩, h2, h3, h4⟩
  have HK := Lib.hid (JStep.keeps w25 F2 jb p cv2 ev2)
  obtain ⟨y, hy⟩ : ∃ y, S2.base + k = y := ⟨_, rfl⟩
  obtain ⟨z, hz⟩ : ∃ z, y + 1 = z := ⟨_, rfl⟩
  have q0 : IntKind.u64.wrap (k : Int) = (k : Int) := IntWalk.u64_in _ (by have := HL2.out; omega)
  have q1 : IntKind.u64.wrap ((S2.base : Int) + (k : Int)) = (y : Int) := by rw [IntWalk.u64_in _ (by have := HL2.out; omega)]; omega
  have q2 : IntKind.u64.wrap ((y : Int) + 1) = (z : Int) := by rw [IntWalk.u64_in _ (by have := HL2.out; omega)]; omega
  have HAp : Hid (∀ W B g c, JStep w25 F2 jb p cv2 ev2 D3 S2 W → rw.Own enSh W B (.slice (some ⟨g, 0, none⟩) 2 c) two → Calls Tryz.prog 25 #[.pointer (some ⟨jb, 0, none⟩), .int .u64 (z : Nat), .slice (some ⟨g, 0, none⟩) 2 c] W fun e w' => e = .returned (.int .i64 8) ∧ JStep w25 F2 jb p cv2 ev2 D3 S2 w') := fun W B g c hJ ho => by
    have h := HK.out.call hJ (fun F cv ev hh hO => append_any F jb p 140 D3 S2 cv ev z _ two HInv.out (by decide) HO2.out HL2.out.1 (by have := HL2.out; omega) (by decide) two_term W hh ho.sl (own_apt hh.d away_enSh ho))
    rw [show z = S2.base + S2.l.length + 1 by have := HL2.out; omega, append_power HOff.out] at h
    rw [show z = S2.base + S2.l.length + 1 by have := HL2.out; omega]
    exact h
  have HAz : Hid (∀ W B g c, JStep w25 F2 jb p cv2 ev2 D3 S2 W → rw.Own enSh W B (.slice (some ⟨g, 0, none⟩) 2 c) two → Calls Tryz.prog 25 #[.pointer (some ⟨jb, 0, none⟩), .int .u64 0, .slice (some ⟨g, 0, none⟩) 2 c] W fun e w' => e = .returned (.int .i64 1) ∧ JStep w25 F2 jb p cv2 ev2 D3 S2 w') := fun W B g c hJ ho => by
    have h := HK.out.call hJ (fun F cv ev hh hO => append_any F jb p 140 D3 S2 cv ev 0 _ two HInv.out (by decide) HO2.out HL2.out.1 (by decide) (by decide) two_term W hh ho.sl (own_apt hh.d away_enSh ho))
    rw [append_zero] at h
    exact h
  have HSv : Hid (∀ W, JStep w25 F2 jb p cv2 ev2 D3 S2 W → Calls Tryz.prog 24 #[.pointer (some ⟨jb, 0, none⟩), .agg #[.int .u64 0, .int .i64 6, .int .u64 0]] W fun e w' => e = .returned (.int .i64 1) ∧ JStep w25 F2 jb p cv2 ev2 D3 S2 w') := fun W hJ => by
    have h := HK.out.call hJ (fun F cv ev hh hO => save_any F jb p 140 D3 S2 cv ev 0 0 6 HInv.out (by decide) HO2.out (by decide) W hh)
    rw [save_six] at h
    exact h
  have HRb : Hid (∀ W, JStep w25 F2 jb p cv2 ev2 D3 S2 W → Calls Tryz.prog 26 #[.pointer (some ⟨jb, 0, none⟩), .agg #[.int .u64 0, .int .u64 0, .slice (some ⟨W.heap.size, 0, none⟩) 2 2, .slice none 0 0], .string ⟨#[]⟩] (W.alloc (.cells #[.int .i64 2, .int .i64 1] 3)) fun e w' => e = .returned (.int .i64 1) ∧ JStep w25 F2 jb p cv2 ev2 D3 S2 w') := fun W hJ => by
    have ho := rw.Own.lit noSh W [2, 1] (by decide) (by decide)
    have h := HK.out.call (HK.out.below hJ (below_box W (.cells #[.int .i64 2, .int .i64 1] 3))) (fun F cv ev hh hO => rebase_any F jb p 140 D3 S2 cv ev ⟨0, 0, [2, 1], []⟩ [] (.slice (some ⟨W.heap.size, 0, none⟩) 2 2) (.slice none 0 0) HInv.out (by decide) HO2.out (by decide) (by decide) (fun e he => by cases he) (by decide) (by decide) _ hh ho.sl (rw.Sl.nil enSh _) (own_apt hh.d away_noSh ho) (fun h => absurd rfl h))
    rw [rebase_bad] at h
    exact h
  have HSt : Hid (∀ W, JStep w25 F2 jb p cv2 ev2 D3 S2 W → Calls Tryz.prog 14 #[.pointer (some ⟨jb, 0, none⟩)] W fun e w' => ∃ a1 b1 a2 b2, e = .returned (.agg #[.int .u64 (S2.h.term : Nat), .int .i64 (S2.h.vote : Nat), .int .u64 (S2.h.life : Nat), .int .u64 (S2.base : Nat), .int .u64 (S2.bterm : Nat), .slice a1 m b1, .slice a2 k b2, .string (S S2.image)]) ∧ rw.Sl noSh w' (.slice a1 m b1) (ints S2.conf) ∧ rw.Sl enSh w' (.slice a2 k b2) (ens S2.l) ∧ JStep w25 F2 jb p cv2 ev2 D3 S2 w') := fun W hJ => by
    obtain ⟨F', c', e', h1, h2, h3⟩ := hJ
    refine (state_jn HO2.out (by have := HL2.out; omega) W h1).mono ?_
    rintro e w' ⟨cv, ev, rfl, o1, o2, b⟩
    obtain ⟨a1, b1, rfl⟩ : ∃ a' k, cv = .slice a' (ints S2.conf).length k := o1.form
    obtain ⟨a2, b2, rfl⟩ : ∃ a' k, ev = .slice a' (ens S2.l).length k := o2.form
    rw [HN5.out.1] at o1 ⊢
    rw [HN5.out.2] at o2 ⊢
    exact ⟨a1, b1, a2, b2, rfl, o1.sl, o2.sl, HK.out.below ⟨F', c', e', h1, h2, h3⟩ b⟩
  have HSm : Hid (∀ W a1 b1 a2 b2, JStep w25 F2 jb p cv2 ev2 D3 S2 W → rw.Sl noSh W (.slice a1 m b1) (ints S2.conf) → rw.Sl enSh W (.slice a2 k b2) (ens S2.l) → Calls Tryz.prog 30 #[.agg #[.int .u64 (S2.h.term : Nat), .int .i64 (S2.h.vote : Nat), .int .u64 (S2.h.life : Nat), .int .u64 (S2.base : Nat), .int .u64 (S2.bterm : Nat), .slice cwa m cwc, .slice ewa k ewc, .string (S S2.image)], .agg #[.int .u64 (S2.h.term : Nat), .int .i64 (S2.h.vote : Nat), .int .u64 (S2.h.life : Nat), .int .u64 (S2.base : Nat), .int .u64 (S2.bterm : Nat), .slice a1 m b1, .slice a2 k b2, .string (S S2.image)]] W fun e w' => e = .returned (.bool true) ∧ JStep w25 F2 jb p cv2 ev2 D3 S2 w') := fun W a1 b1 a2 b2 hJ s1 s2 => by
    obtain ⟨-, h2, h3, h4⟩ := HZ.out W hJ
    refine (same_true S2.h S2.base S2.bterm (.slice cwa m cwc) (.slice ewa k ewc) (.slice a1 m b1) (.slice a2 k b2) S2.image (ints S2.conf) (ens S2.l) (by rw [HN5.out.1]; omega) (by rw [HN5.out.2]; omega) W h2 s1 h3 s2).mono ?_
    rintro e w' ⟨h, b⟩
    exact ⟨h, HK.out.below hJ b⟩
  have HTw := Lib.hid fun W => two_lit W
  clear W25 HInv HO2 HOff HP2 HL2 hy hz HI HMo HMa HN HN5 hen
  go_upto_region 34 with (fail)
  have X0 := Lib.hid (HK.out.below J26.out (below_drew (Below.refl w26.heap.size w26)))
  have kx := (HZ.out _ X0.out).1
  clear J26
  go_region_held3 (fun W => W.cell? ⟨sb, 0, none⟩ = some (.int .u64 (S2.h.term : Nat)) ∧ W.cell? ⟨sb, 1, none⟩ = some (.int .i64 (S2.h.vote : Nat)) ∧ W.cell? ⟨sb, 2, none⟩ = some (.int .u64 (S2.h.life : Nat)) ∧ W.cell? ⟨sb, 3, none⟩ = some (.int .u64 (S2.base : Nat)) ∧ W.cell? ⟨sb, 4, none⟩ = some (.int .u64 (S2.bterm : Nat)) ∧
      W.cell? ⟨sb, 5, none⟩ = some (.slice cwa m cwc) ∧ W.cell? ⟨sb, 6, none⟩ = some (.slice ewa k ewc) ∧ W.cell? ⟨sb, 7, none⟩ = some (.string (S S2.image)))
    (first | (with_reducible exact kx) | (with_reducible exact kw))
    (first | (go_at_call 29; with_reducible refine (HTw.out _).mono ?_; rintro e w27 ⟨g27, c27, rfl, o27, b27⟩; have X1 := Lib.hid (And.intro (HK.out.below X0.out b27) o27); clear o27 b27; have kw := (HZ.out _ X1.out.1).1) | (go_at_call 25; with_reducible refine (HAp.out _ _ _ _ X1.out.1 X1.out.2).mono ?_; rintro e w28 ⟨rfl, j28⟩; have X2 := Lib.hid j28; clear j28 kx; have kx := (HZ.out _ X2.out).1))
  clear X0 HAp q0 q1 q2
  go_upto_region 35 with (fail)
  have X3 := Lib.hid (HK.out.below X2.out (below_drew (Below.refl w28.heap.size w28)))
  clear kx kw X1 X2
  have kx := (HZ.out _ X3.out).1
  go_region_held3 (fun W => W.cell? ⟨sb, 0, none⟩ = some (.int .u64 (S2.h.term : Nat)) ∧ W.cell? ⟨sb, 1, none⟩ = some (.int .i64 (S2.h.vote : Nat)) ∧ W.cell? ⟨sb, 2, none⟩ = some (.int .u64 (S2.h.life : Nat)) ∧ W.cell? ⟨sb, 3, none⟩ = some (.int .u64 (S2.base : Nat)) ∧ W.cell? ⟨sb, 4, none⟩ = some (.int .u64 (S2.bterm : Nat)) ∧
      W.cell? ⟨sb, 5, none⟩ = some (.slice cwa m cwc) ∧ W.cell? ⟨sb, 6, none⟩ = some (.slice ewa k ewc) ∧ W.cell? ⟨sb, 7, none⟩ = some (.string (S S2.image)))
    (first | (with_reducible exact kx) | (with_reducible exact kw))
    (first | (go_at_call 29; with_reducible refine (HTw.out _).mono ?_; rintro e w29 ⟨g29, c29, rfl, o29, b29⟩; have X4 := Lib.hid (And.intro (HK.out.below X3.out b29) o29); clear o29 b29; have kw := (HZ.out _ X4.out.1).1) | (go_at_call 25; with_reducible refine (HAz.out _ _ _ _ X4.out.1 X4.out.2).mono ?_; rintro e w30 ⟨rfl, j30⟩; have X5 := Lib.hid j30; clear j30 kx; have kx := (HZ.out _ X5.out).1) | (go_at_call 24; with_reducible refine (HSv.out _ X5.out).mono ?_; rintro e w31 ⟨rfl, j31⟩; have X6 := Lib.hid j31; clear j31 kx kw; have kx := (HZ.out _ X6.out).1; have kw := (HZ.out _ (HK.out.below X6.out (below_box w31 (.cells #[.int .i64 2, .int .i64 1] 3)))).1; have hRb := HRb.out _ X6.out) | (go_at_call 26; with_reducible refine hRb.mono ?_; rintro e w32 ⟨rfl, j32⟩; have X7 := Lib.hid j32; clear j32 kx kw hRb; have kx := (HZ.out _ X7.out).1) | (go_at_call 14; with_reducible refine (HSt.out _ X7.out).mono ?_; rintro e w33 ⟨a1, b1, a2, b2, rfl, s1, s2, j33⟩; have X8 := Lib.hid (And.intro j33 (And.intro s1 s2)); clear j33 s1 s2 kx; have kx := (HZ.out _ X8.out.1).1) | (go_at_call 30; with_reducible refine (HSm.out _ _ _ _ _ X8.out.1 X8.out.2.1 X8.out.2.2).mono ?_; rintro e w34 ⟨rfl, j34⟩; have X9 := Lib.hid j34; clear j34 kx; have kx := (HZ.out _ X9.out).1))
  have HE := Lib.hid (HZ.out _ X9.out).2.2.2
  clear kx X3 X4 X5 X6 X7 X8 X9 HZ HAz HSv HRb HSt HSm HTw HK
  go_wp2_with fail
  go_ret
  exact ⟨rfl, HE.out⟩
end Go.Proofs.YteeeakbgofjinaaGreat.jr
