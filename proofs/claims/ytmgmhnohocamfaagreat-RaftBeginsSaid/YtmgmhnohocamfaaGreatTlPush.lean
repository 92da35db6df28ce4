/-
  A range over an iterator that holds what it reads; what is one's own is a set of blocks; the round's variable may lie in a box. No walk.
-/
import Derived.Test.YtmgmhnohocamfaaGreatTlP5
import Derived.RangeFuncNested
import Derived.RangeFuncBound
import Derived.RangeFuncCalls
import Derived.RangeFuncLeaves
import Derived.RangeFuncBox
import Derived.Shelf.RegionOpen
import Derived.OwnWalkIn
import Derived.TacticsInMore
import Derived.LoopNIn
import Derived.LoopIn
import Derived.RegionIn
namespace Go.Proofs.YtmgmhnohocamfaaGreat.pt
set_option linter.unusedVariables false
open Go.RowKit Go.Shelf

/-! ### What may turn -/
/-- All of O lies as it lay; the rest may have turned, and there may be more. -/
structure Frm (O : Nat → Prop) (A B : World) : Prop where
  os : B.os = A.os
  tape : B.tape = A.tape
  output : B.output = A.output
  size : A.heap.size ≤ B.heap.size
  block : ∀ k, O k → B.heap[k]? = A.heap[k]?
theorem Frm.refl (O : Nat → Prop) (A : World) : Frm O A A := ⟨rfl, rfl, rfl, Nat.le_refl _, fun _ _ => rfl⟩
theorem Frm.trans {O : Nat → Prop} {A B C : World} (h : Frm O A B) (k : Frm O B C) : Frm O A C := ⟨k.os.trans h.os, k.tape.trans h.tape, k.output.trans h.output, Nat.le_trans h.size k.size, fun j hj => (k.block j hj).trans (h.block j hj)⟩
theorem Frm.less {O O' : Nat → Prop} {A B : World} (h : Frm O A B) (hl : ∀ k, O' k → O k) : Frm O' A B := ⟨h.os, h.tape, h.output, h.size, fun k hk => h.block k (hl k hk)⟩
theorem Frm.boxed {O : Nat → Prop} {A B : World} (h : Frm O A B) {b : Nat} {t : TypeId} {v : Value} (k : Boxed A b t v) (hb : O b) : Boxed B b t v := (h.block b hb).trans k
theorem Frm.cell {O : Nat → Prop} {A B : World} (h : Frm O A B) {p : Addr} {v : Value} (k : A.cell? p = some v) (hb : O p.block) : B.cell? p = some v := by rw [← k]; exact World.cell?_of_block (h.block p.block hb)
theorem Frm.own {O : Nat → Prop} {A B : World} (h : Frm O A B) {b n size : Nat} {e : TypeId} {v : Value} {xs : List Value} (k : A.ownsRow b e size v n xs) (hb : ∀ g, v.ownBlock = some g → O g) : B.ownsRow b e size v n xs := by
  obtain ⟨h1, h2 | ⟨g, cap, cur, h3, h4, h5, h6⟩⟩ := k
  · exact ⟨h1, .inl h2⟩
  · exact ⟨h1, .inr ⟨g, cap, cur, h3, h4, (h.block g (hb g (by rw [h3]; rfl))).trans h5, h6⟩⟩
theorem Below.frm {B : Nat} {w w' : World} (h : Below B w w') {O : Nat → Prop} (hO : ∀ k, O k → k < B) : Frm O w w' := ⟨h.os, h.tape, h.output, h.size, fun k hk => h.block k (hO k hk)⟩
theorem frm_set (O : Nat → Prop) (w : World) (p : Addr) (v : Value) (h : ¬ O p.block) : Frm O w (w.setCell p v) :=
  ⟨rfl, rfl, rfl, by simp, fun k hk => Below.heap_setCell w p v k (fun e => h (e ▸ hk))⟩
theorem frm_alloc (O : Nat → Prop) (w : World) (o : Obj) (h : ∀ k, O k → k < w.heap.size) : Frm O w (w.alloc o) :=
  ⟨rfl, rfl, rfl, by simp, fun k hk => Below.heap_alloc w o k (h k hk)⟩
theorem frm_put (O : Nat → Prop) (w : World) (b : Nat) (o : Obj) (h : ¬ O b) : Frm O w (w.putObj b o) :=
  ⟨rfl, rfl, rfl, by simp [World.putObj], fun k hk => World.putObj_heap_other (fun e => h (e ▸ hk))⟩
theorem Frm.grown {O : Nat → Prop} {A B : World} {row : Option Nat} (h : A.grownBy B row) (hO : ∀ k, O k → k < A.heap.size ∧ some k ≠ row) : Frm O A B :=
  ⟨h.os, h.tape, h.output, h.size, fun k hk => h.block k (hO k hk).1 (hO k hk).2⟩

/-- From A to B only what is C's has turned, or is new; what is O's behind it was O's or is new. -/
structure Moved (C O O' : Nat → Prop) (A B : World) : Prop where
  os : B.os = A.os
  tape : B.tape = A.tape
  output : B.output = A.output
  size : A.heap.size ≤ B.heap.size
  block : ∀ k, k < A.heap.size → ¬ C k → B.heap[k]? = A.heap[k]?
  own : ∀ k, O' k → O k ∨ (A.heap.size ≤ k ∧ k < B.heap.size)
abbrev Step (O O' : Nat → Prop) (A B : World) : Prop := Moved O O O' A B
theorem Moved.refl (C O : Nat → Prop) (A : World) : Moved C O O A A := ⟨rfl, rfl, rfl, Nat.le_refl _, fun _ _ _ => rfl, fun _ h => .inl h⟩
theorem Moved.trans {C O O' O'' : Nat → Prop} {A B D : World} (h : Moved C O O' A B) (k : Step O' O'' B D) (hC : ∀ k, O k → C k) : Moved C O O'' A D :=
  ⟨k.os.trans h.os, k.tape.trans h.tape, k.output.trans h.output, Nat.le_trans h.size k.size, fun j hj hn => by
    refine (k.block j (Nat.lt_of_lt_of_le hj h.size) (fun h' => ?_)).trans (h.block j hj hn)
    rcases h.own j h' with h' | h'
    · exact hn (hC j h')
    · omega, fun j hj => by
    have := h.size
    have := k.size
    rcases k.own j hj with h' | h'
    · rcases h.own j h' with h' | h'
      · exact .inl h'
      · exact .inr ⟨h'.1, by omega⟩
    · exact .inr ⟨by omega, h'.2⟩⟩
/-- Behind it something turned that is C's or new. -/
theorem Moved.andFrm {C O O' R : Nat → Prop} {A B D : World} (h : Moved C O O' A B) (k : Frm R B D) (hR : ∀ j, j < A.heap.size → ¬ C j → R j) : Moved C O O' A D :=
  ⟨k.os.trans h.os, k.tape.trans h.tape, k.output.trans h.output, Nat.le_trans h.size k.size, fun j hj hn => (k.block j (hR j hj hn)).trans (h.block j hj hn), fun j hj => (h.own j hj).imp id (fun h' => ⟨h'.1, Nat.lt_of_lt_of_le h'.2 k.size⟩)⟩
theorem Moved.frm {C O O' R : Nat → Prop} {A B : World} (h : Moved C O O' A B) (hR : ∀ k, R k → k < A.heap.size ∧ ¬ C k) : Frm R A B := ⟨h.os, h.tape, h.output, h.size, fun k hk => h.block k (hR k hk).1 (hR k hk).2⟩
theorem Moved.below {C O O' : Nat → Prop} {A B : World} {n : Nat} (h : Moved C O O' A B) (hn : n ≤ A.heap.size) (hC : ∀ k, C k → n ≤ k) : Below n A B :=
  ⟨h.os, h.tape, h.output, h.size, fun k hk => h.block k (by omega) (fun hk' => by have := hC k hk'; omega)⟩
theorem moved_of_below {A B : World} (C O : Nat → Prop) (h : Below A.heap.size A B) : Moved C O O A B := ⟨h.os, h.tape, h.output, h.size, fun k hk _ => h.block k hk, fun _ h => .inl h⟩
theorem Moved.weak {C C' O O' P : Nat → Prop} {A B : World} (h : Moved C O O' A B) (hC : ∀ k, C k → C' k) (hP : ∀ k, P k → O' k ∨ O k ∨ (A.heap.size ≤ k ∧ k < B.heap.size)) : Moved C' O P A B := ⟨h.os, h.tape, h.output, h.size, fun k hk hn => h.block k hk (fun h' => hn (hC k h')), fun k hk => by
  rcases hP k hk with h' | h' | h'
  · exact h.own k h'
  · exact .inl h'
  · exact .inr h'⟩

/-! ### An iterator -/
/-- What is said of a world hangs on what is one's own. -/
def Dep {α : Type} (J : List α → (Nat → Prop) → World → Prop) : Prop := ∀ s O X Y, J s O X → Frm O X Y → J s O Y
/-- An iterator: what it reads (R, some of it, T, it may turn), what comes (xs). -/
def Push {α : Type} (n : Nat) (P : Program) (g : Nat) (lb : Array Value) (encs : α → Array Value) (R T : Nat → Prop) (xs : List α) (w : World) : Prop :=
  ∀ (lp : Nat) (J Jx : List α → (Nat → Prop) → World → Prop) (O : Nat → Prop) (W : World), Frm R w W → (∀ k, O k → k < W.heap.size ∧ ¬ R k) → Dep J → Dep Jx →
    (∀ pre x post O1 W1, xs = pre ++ x :: post → J pre O1 W1 → (∀ k, O1 k → k < W1.heap.size) → YieldAt Fence.wide (n - 1) P lp (encs x) W1 fun e W' =>
      (e = .returned (.bool true) ∧ ∃ O', J (pre ++ [x]) O' W' ∧ Step O1 O' W1 W') ∨ (e = .returned (.bool false) ∧ ∃ O', Jx (pre ++ [x]) O' W' ∧ Step O1 O' W1 W')) →
    J [] O W →
    CallsIn Fence.wide n P g (#[.func (.yield lp) #[] #[]] ++ lb) W fun e W' => (∃ v, e = .returned v) ∧
      ((∃ O', J xs O' W' ∧ Moved (fun k => O k ∨ T k) O O' W W') ∨ ∃ pre, pre <+: xs ∧ ∃ O', Jx pre O' W' ∧ Moved (fun k => O k ∨ T k) O O' W W')
/-- How a round of a loop's body may end. -/
def RoundP {α : Type} (I : List α → (Nat → Prop) → World → Prop) (Ix : Code → List α → (Nat → Prop) → World → Prop) (xs : List α) (O : Nat → Prop) (W : World) : Exit → Act → World → Prop
  | .normal, _, W' => ∃ O', I xs O' W' ∧ Step O O' W W'
  | .ret, _, W' => ∃ O', Ix .ret xs O' W' ∧ Step O O' W W'
  | .exit id, _, W' => ∃ O', Ix (.exit id) xs O' W' ∧ Step O O' W W'
  | _, _, _ => False

theorem RoundIn.any {m m' : Nat} {P : Program} {l : Nat} {f : FuncId} {tmps : Array Value} {assign body : Code} {w : World} {R : Ending → World → Prop}
    (h : RoundIn Fence.wide m P l f tmps assign body w R) : RoundIn Fence.wide m' P l f tmps assign body w R := ⟨h.1, fun c cs _ => h.2 c cs (room_wide _)⟩

theorem wpIn_push {α : Type} {n : Nat} {P : Program} {g : Operand} {ps : Array Tmp} {assign body : Code} {Q : Exit → Act → World → Prop} {a : Act} {w : World}
    (h1 : 1 ≤ n) {gf : Nat} {lb : Array Value} (hg : a.eval g = .func (.func gf) #[] lb) (eg : ∀ args w, (callFunc gf args).run P w = .ok (.enter gf args) w)
    {encs : α → Array Value} {R T : Nat → Prop} {xs : List α} {w0 : World} (hseq : Push (n - 1) P gf lb encs R T xs w0) (hw : Frm R w0 w) (hR : ∀ k, R k → k < w.heap.size) (hT : ∀ k, T k → k < w.heap.size) (hps : ∀ x, (encs x).size = ps.size)
    (I : List α → (Nat → Prop) → World → Prop) (Ix : Code → List α → (Nat → Prop) → World → Prop) (hI : Dep I) (hIx : ∀ c, Dep (Ix c)) (O0 : Nat → Prop) (hO0 : ∀ k, O0 k → k < w.heap.size ∧ ¬ R k) (h0 : I [] O0 w) (Ax : α → Nat → Act → World → Prop) (hAx : ∀ x N a' X Y, Ax x N a' X → (∀ k, N ≤ k → k < X.heap.size → Y.heap[k]? = X.heap[k]?) → Ax x N a' Y)
    (hassign : ∀ (l : Nat) (x : α) (W : World) (K : Act → World → Prop), (∀ a' W', Below W.heap.size W W' → Ax x W.heap.size a' W' → K a' W') →
      assign.wpIn (Fence.wide.inRound l) (n - 1 - 1) P (Exit.then K (fun _ _ _ => False)) { tmps := (ps.zip (encs x)).foldl (fun t (p, v) => t.setIfInBounds p v) a.tmps, defers := [] } W)
    (hbody : ∀ (l : Nat) (pre : List α) (x : α) (post : List α) (O : Nat → Prop) (W : World) (N : Nat) (a' : Act), xs = pre ++ x :: post → I pre O W → (∀ k, O k → k < N) → N ≤ W.heap.size → Ax x N a' W → body.wpIn (Fence.wide.inRound l) (n - 1 - 1) P (RoundP I Ix (pre ++ [x]) O W) a' W)
    (hdone : ∀ (D : Nat) (O : Nat → Prop) (W : World), w.heap.size ≤ D → I xs O W → Moved (fun k => O0 k ∨ T k) O0 O w W → ¬ O D → W.heap[D]? = some (.deferred (some [])) → Q .normal { a with defers := { target := .collected D, args := #[] } :: a.defers } W)
    (hstop : ∀ (D : Nat) (c : Code) (pre : List α) (O : Nat → Prop) (W : World), w.heap.size ≤ D → pre <+: xs → Ix c pre O W → Moved (fun k => O0 k ∨ T k) O0 O w W → ¬ O D → W.heap[D]? = some (.deferred (some [])) → c.wpIn Fence.wide n P Q { a with defers := { target := .collected D, args := #[] } :: a.defers } W) :
    (Code.rangeFunc g ps assign body).wpIn Fence.wide n P Q a w := by
  refine wpIn_rangeFunc fun fn hfn => ?_
  rw [show Fence.wide.round = none from rfl]
  obtain ⟨rc, hrc⟩ : ∃ rc : LoopState → Option Code → Loop, rc = fun st pe => { state := st, pending := pe, fn, tmps := a.tmps, params := ps, assign, body, defers := w.heap.size } := ⟨_, rfl⟩
  obtain ⟨D, hD⟩ : ∃ D, w.heap.size = D := ⟨_, rfl⟩
  obtain ⟨V, hV⟩ : ∃ V, (w.alloc (.deferred (some []))).alloc (.loop (rc .ready none)) = V := ⟨_, rfl⟩
  have sV : V.heap.size = D + 2 := by rw [← hV, ← hD]; simp
  have bV : Below D w V := by rw [← hV, ← hD]; exact ((Below.refl _ w).alloc (Nat.le_refl _) _).alloc (by simp) _
  have vD : V.heap[D]? = some (.deferred (some [])) := by
    rw [← hV, ← hD]; exact (Below.heap_alloc _ _ _ (by simp)).trans (World.alloc_heap_new w _)
  have vL : V.heap[D + 1]? = some (.loop (rc .ready none)) := by
    rw [← hV, ← hD]
    have := World.alloc_heap_new (w.alloc (.deferred (some []))) (.loop (rc .ready none))
    rwa [World.size_alloc] at this
  have vI : I [] O0 V := hI _ _ _ _ h0 (Below.frm bV (fun k hk => by have := (hO0 k hk).1; omega))
  refine ⟨D + 1, [{ target := .collected D, args := #[] }], V, { target := .fn (.func gf) lb, args := #[.func (.yield (D + 1)) #[] #[]] }, V, gf, #[.func (.yield (D + 1)) #[] #[]] ++ lb, V, ?_, ?_, ?_, ?_, fun _ => h1, ?_⟩
  · rw [← hV, hrc, ← hD]; exact run_enterLoop_outer _ _ _ _ _
  · simp only [resolve, hg]; simp [go_sem]
  · intro f' hf'; simp [Target.leads] at hf'; subst hf'; trivial
  · simp [invoke, go_sem, eg]
  · -- the loop's own books, and what is behind them
    have noT : ∀ k, w.heap.size ≤ k → ¬ (O0 k ∨ T k) := fun k hk h' => by
      rcases h' with h' | h'
      · have := (hO0 k h').1; omega
      · have := hT k h'; omega
    let Bk : (Nat → Prop) → (Nat → Prop) → World → Prop := fun O O1 W => (∀ k, O k ↔ O1 k ∨ k = D ∨ k = D + 1) ∧ ¬ O1 D ∧ ¬ O1 (D + 1) ∧ (∀ k, O1 k → k < W.heap.size)
    let Js : LoopState → Option Code → (List α → (Nat → Prop) → World → Prop) → List α → (Nat → Prop) → World → Prop := fun st pe K s O X => ∃ O1, K s O1 X ∧ X.heap[D + 1]? = some (.loop (rc st pe)) ∧ X.heap[D]? = some (.deferred (some [])) ∧ Bk O O1 X
    have depJ : ∀ (st : LoopState) (pe : Option Code) (K : List α → (Nat → Prop) → World → Prop), Dep K → Dep (Js st pe K) := by
      rintro st pe K hK s O X Y ⟨O1, k1, k2, k3, k4, k5, k6, k7⟩ hf
      exact ⟨O1, hK _ _ _ _ k1 (hf.less fun k hk => (k4 k).2 (.inl hk)), (hf.block _ ((k4 _).2 (.inr (.inr rfl)))).trans k2, (hf.block _ ((k4 _).2 (.inr (.inl rfl)))).trans k3, k4, k5, k6, fun k hk => Nat.lt_of_lt_of_le (k7 k hk) hf.size⟩
    -- behind the iterator, the record shut: what the rest is told
    have last : ∀ (K : List α → (Nat → Prop) → World → Prop) (st : LoopState) (pe : Option Code) (s : List α) (O' : Nat → Prop) (W2 : World) (o : Obj), Dep K → Js st pe K s O' W2 → Moved (fun k => (O0 k ∨ k = D ∨ k = D + 1) ∨ T k) (fun k => O0 k ∨ k = D ∨ k = D + 1) O' V W2 →
        ∃ O1, K s O1 (W2.putObj (D + 1) o) ∧ Moved (fun k => O0 k ∨ T k) O0 O1 w (W2.putObj (D + 1) o) ∧ ¬ O1 D ∧ (W2.putObj (D + 1) o).heap[D]? = some (.deferred (some [])) := by
      rintro K st pe s O' W2 o hK ⟨O1, k1, k2, k3, k4, k5, k6, k7⟩ hs
      have z1 := hs.size
      have zp : (W2.putObj (D + 1) o).heap.size = W2.heap.size := by simp [World.putObj]
      refine ⟨O1, hK _ _ _ _ k1 (frm_put _ _ _ _ k6), ⟨hs.os.trans bV.os, hs.tape.trans bV.tape, hs.output.trans bV.output, by omega, fun k hk hn => ?_, fun k hk => ?_⟩, k5, (World.putObj_heap_other (by omega)).trans k3⟩
      · refine (World.putObj_heap_other (by omega)).trans ((hs.block k (by omega) ?_).trans (bV.block k (by omega)))
        rintro ((h' | h' | h') | h')
        · exact hn (.inl h')
        · omega
        · omega
        · exact hn (.inr h')
      · rcases hs.own k ((k4 k).2 (.inl hk)) with (h' | h' | h') | h'
        · exact .inl h'
        · exact absurd (h' ▸ hk) k5
        · exact absurd (h' ▸ hk) k6
        · exact .inr ⟨by omega, by omega⟩
    refine (hseq (D + 1) (Js .ready none I) (fun pre O W => ∃ c, Js .done (some c) (Ix c) pre O W) (fun k => O0 k ∨ k = D ∨ k = D + 1) V (hw.trans (Below.frm bV (fun k hk => by have := hR k hk; omega))) ?_ (depJ _ _ _ hI) ?_ ?_ ?_).mono ?_
    · rintro k (hk | rfl | rfl)
      · exact ⟨by have := (hO0 k hk).1; omega, (hO0 k hk).2⟩
      · exact ⟨by omega, fun h' => by have := hR _ h'; omega⟩
      · exact ⟨by omega, fun h' => by have := hR _ h'; omega⟩
    · rintro s O X Y ⟨c, h'⟩ hf
      exact ⟨c, depJ _ _ _ (hIx c) _ _ _ _ h' hf⟩
    · -- one round
      rintro pre x post O W hx ⟨O1, hi, hl, hk, hO, nD, nL, hb⟩ hOb
      have hy := run_yield (P := P) (args := encs x) hl (by rw [hrc]; exact hps x)
      rw [hrc] at hy
      have hlt0 : D + 1 < W.heap.size := (Array.getElem?_eq_some_iff.1 hl).1
      refine ⟨fn, _, assign, body, hy, roundIn_of_wpIn hfn (hassign _ x W _ fun a1 V1 bV1 hax => ?_)⟩
      have hl1 := (bV1.block (D + 1) hlt0).trans hl
      refine ⟨_, run_beginRound hl1 (by rw [hrc]), ?_⟩
      have hk1 := (bV1.block D (by omega)).trans hk
      have hi1 : I pre O1 V1 := hI _ _ _ _ hi (Below.frm bV1 hb)
      obtain ⟨N0, hN0⟩ : ∃ N0, W.heap.size = N0 := ⟨_, rfl⟩
      have m0 : Moved O O O W V1 := moved_of_below _ _ bV1
      have hb0 : ∀ k, O1 k → k < N0 := hN0 ▸ hb
      have hb : ∀ k, O1 k → k < V1.heap.size := fun k hk => Nat.lt_of_lt_of_le (hb k hk) bV1.size
      have hNs : N0 ≤ V1.heap.size := hN0 ▸ bV1.size
      have hDN : D + 1 < N0 := hN0 ▸ hlt0
      rw [hN0] at hax
      have hl := hl1
      have hk := hk1
      have hi := hi1
      obtain ⟨W2, hW2⟩ : ∃ W2, V1.putObj (D + 1) (.loop { rc .ready none with state := .busy }) = W2 := ⟨_, rfl⟩
      have hlt : D + 1 < V1.heap.size := (Array.getElem?_eq_some_iff.1 hl).1
      have z2 : W2.heap.size = V1.heap.size := by rw [← hW2]; simp [World.putObj]
      have l2 : W2.heap[D + 1]? = some (.loop { rc .ready none with state := .busy }) := by rw [← hW2]; exact World.putObj_heap_same hlt
      have f2 : Frm O1 V1 W2 := by rw [← hW2]; exact frm_put _ _ _ _ nL
      have e2 : ∀ k, k ≠ D + 1 → W2.heap[k]? = V1.heap[k]? := fun k hk => by rw [← hW2]; exact World.putObj_heap_other hk
      rw [hW2]
      have k2 : W2.heap[D]? = some (.deferred (some [])) := (e2 D (by omega)).trans hk
      have busy : rc .busy none = { rc .ready none with state := .busy } := by rw [hrc]
      rw [← busy] at l2
      refine wpIn_mono (hbody _ pre x post O1 W2 N0 a1 hx (hI _ _ _ _ hi f2) hb0 (by rw [z2]; exact hNs) (hAx _ _ _ _ _ hax fun k h1 h2 => e2 k (by omega))) ?_
      have fin : ∀ (jump : Option Code) (K : List α → (Nat → Prop) → World → Prop) (O3 : Nat → Prop) (W3 : World), Dep K → K (pre ++ [x]) O3 W3 → Step O1 O3 W2 W3 → ∃ W4, (Instr.endRound (D + 1) jump).run P W3 = .ok (.bool jump.isNone) W4 ∧
          ∃ O', Js (if jump.isNone then .ready else .done) jump K (pre ++ [x]) O' W4 ∧ Step O O' V1 W4 := by
        intro jump K O3 W3 hK hk3 h3
        have l3 := (h3.block (D + 1) (by omega) nL).trans l2
        have d3 := (h3.block D (by omega) nD).trans k2
        have z3 := h3.size
        have hr := run_endRound (P := P) jump l3
        have n3 : ¬ O3 (D + 1) := fun h' => by rcases h3.own _ h' with h' | h'; exact nL h'; omega
        have m3 : ¬ O3 D := fun h' => by rcases h3.own _ h' with h' | h'; exact nD h'; omega
        have z4 : ∀ o, (W3.putObj (D + 1) o).heap.size = W3.heap.size := fun o => by simp [World.putObj]
        refine ⟨_, hr, fun k => O3 k ∨ k = D ∨ k = D + 1, ⟨O3, hK _ _ _ _ hk3 (frm_put _ _ _ _ n3), ?_, (World.putObj_heap_other (by omega)).trans d3, fun k => Iff.rfl, m3, n3, fun k hk => ?_⟩, ?_⟩
        · rw [World.putObj_heap_same (by omega), hrc]
        · rw [z4]
          rcases h3.own k hk with h' | h'
          · have := hb k h'; omega
          · exact h'.2
        · have s0 : W2.os = V1.os ∧ W2.tape = V1.tape ∧ W2.output = V1.output := by rw [← hW2]; exact ⟨rfl, rfl, rfl⟩
          refine ⟨h3.os.trans s0.1, h3.tape.trans s0.2.1, h3.output.trans s0.2.2, by rw [z4]; omega, fun k hk hn => ?_, fun k hk => ?_⟩
          · have hD' : k ≠ D + 1 := fun e => hn ((hO k).2 (.inr (.inr e)))
            exact (World.putObj_heap_other hD').trans ((h3.block k (by omega) (fun h' => hn ((hO k).2 (.inl h')))).trans (e2 k hD'))
          · rw [z4]
            rcases hk with h' | h' | h'
            · rcases h3.own k h' with h' | h'
              · exact .inl ((hO k).2 (.inl h'))
              · exact .inr ⟨by omega, h'.2⟩
            · exact .inl ((hO k).2 (.inr (.inl h')))
            · exact .inl ((hO k).2 (.inr (.inr h')))
      rintro e a3 W3 hp
      cases e with
      | normal =>
        obtain ⟨O3, hi3, h3⟩ := hp
        obtain ⟨W4, hr, O', hj, hs⟩ := fin none I O3 W3 hI hi3 h3
        exact ⟨_, _, hr, .inl ⟨rfl, O', hj, m0.trans hs (fun _ h => h)⟩⟩
      | ret =>
        obtain ⟨O3, hi3, h3⟩ := hp
        obtain ⟨W4, hr, O', hj, hs⟩ := fin (some .ret) (Ix .ret) O3 W3 (hIx _) hi3 h3
        exact ⟨_, _, hr, .inr ⟨rfl, O', ⟨_, hj⟩, m0.trans hs (fun _ h => h)⟩⟩
      | exit id =>
        obtain ⟨O3, hi3, h3⟩ := hp
        obtain ⟨W4, hr, O', hj, hs⟩ := fin (some (.exit id)) (Ix (.exit id)) O3 W3 (hIx _) hi3 h3
        exact ⟨_, _, hr, .inr ⟨rfl, O', ⟨_, hj⟩, m0.trans hs (fun _ h => h)⟩⟩
      | goto t => exact hp.elim
      | panic ch => exact hp.elim
      | outgrown => exact hp.elim
    · exact ⟨O0, vI, vL, vD, fun k => Iff.rfl, fun h' => by have := (hO0 _ h').1; omega, fun h' => by have := (hO0 _ h').1; omega, fun k hk => by have := (hO0 k hk).1; omega⟩
    · -- behind the iterator
      rintro e W2 ⟨⟨v, rfl⟩, ⟨O', hj, hs⟩ | ⟨pre, hp, O', ⟨c, hj⟩, hs⟩⟩
      · have hr := run_endLoop (P := P) hj.choose_spec.2.1 (by rw [hrc]; simp)
        rw [hrc] at hr
        obtain ⟨O1, g1, g2, g3, g4⟩ := last I _ _ _ _ W2 _ hI hj hs
        exact ⟨none, _, hr, hdone D O1 _ (by omega) g1 g2 g3 g4⟩
      · have hr := run_endLoop (P := P) hj.choose_spec.2.1 (by rw [hrc]; simp)
        rw [hrc] at hr
        obtain ⟨O1, g1, g2, g3, g4⟩ := last (Ix c) _ _ _ _ W2 _ (hIx c) hj hs
        exact ⟨some c, _, hr, hstop D c pre O1 _ (by omega) hp g1 g2 g3 g4⟩
end Go.Proofs.YtmgmhnohocamfaaGreat.pt
