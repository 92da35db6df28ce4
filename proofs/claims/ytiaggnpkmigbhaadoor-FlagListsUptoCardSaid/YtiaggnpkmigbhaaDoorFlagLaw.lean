/-
  A range over a function whose iterator keeps a state of its own in one box: the loop's law, for a body that goes on or returns.
-/
import Derived.Test.YtiaggnpkmigbhaaDoorFlagIns2
import Derived.RangeFuncNested
import Derived.RangeFuncBound
import Derived.RangeFuncCalls
import Derived.RangeFuncLeaves
import Derived.RangeFuncBox
import Derived.Shelf.Abstract
import Derived.Shelf.RegionOpen
import Derived.OwnWalkIn
import Derived.TacticsInMore
import Derived.LoopNIn
import Derived.LoopIn
namespace Go.Proofs.YtiaggnpkmigbhaaDoor.fl
open Go.RowKit Go.Shelf

/-- What abides new blocks and whatever is done to one block. -/
def Abide {β : Type} (b : Nat) (J : β → World → Prop) : Prop := ∀ s X Y, J s X → X.grownBy Y (some b) → J s Y
/-- An iterator over texts that turns one block of its own: what it promises to whatever loop. -/
def Seq (n : Nat) (P : Program) (g : Nat) (lb : Array Value) (b n₀ : Nat) (xs : List (List UInt8)) (w : World) : Prop :=
  ∀ (lp : Nat) (J Jx : List (List UInt8) → World → Prop) (W : World), Below w.heap.size w W → Abide b J → Abide b Jx →
    (∀ pre x post W1, xs = pre ++ x :: post → J pre W1 → YieldAt Fence.wide (n - 1) P lp #[.string (S x)] W1 fun e W' =>
      (e = .returned (.bool true) ∧ J (pre ++ [x]) W' ∧ Below n₀ W1 W') ∨ (e = .returned (.bool false) ∧ Jx (pre ++ [x]) W')) →
    J [] W →
    CallsIn Fence.wide n P g (#[.func (.yield lp) #[] #[]] ++ lb) W fun e W' => (∃ v, e = .returned v) ∧ (J xs W' ∨ ∃ pre, pre <+: xs ∧ Jx pre W')
/-- What the loop's own cells say must abide: the iterator's block, and the loop's own books. -/
def Holds2 (B b : Nat) (I : List (List UInt8) → World → Prop) : Prop :=
  ∀ s X Y r, I s X → X.grownBy Y (some r) → (r = b ∨ (B ≤ r ∧ ∃ o, X.heap[r]? = some o ∧ o.isCells = false)) → I s Y
/-- How a round may end. -/
def Round (B n₀ : Nat) (I Ix : List (List UInt8) → World → Prop) (xs : List (List UInt8)) (W : World) : Exit → Act → World → Prop
  | .normal, _, W' => KeepsFrom B W W' ∧ Below n₀ W W' ∧ I xs W'
  | .ret, _, W' => KeepsFrom B W W' ∧ Ix xs W'
  | _, _, _ => False

theorem grownBy_any {A B : World} {b : Nat} (h : A.grownBy B none) : A.grownBy B (some b) := ⟨h.os, h.tape, h.output, h.size, fun k hk _ => h.block k hk (by simp)⟩

theorem wpIn_seq {n : Nat} {P : Program} {g : Operand} {ps : Array Tmp} {assign body : Code} {Q : Exit → Act → World → Prop} {a : Act} {w : World}
    (h1 : 1 ≤ n) {gf : Nat} {lb : Array Value} (hg : a.eval g = .func (.func gf) #[] lb) (eg : ∀ args w, (callFunc gf args).run P w = .ok (.enter gf args) w)
    {b n₀ : Nat} {xs : List (List UInt8)} {w0 : World} (hseq : Seq (n - 1) P gf lb b n₀ xs w0) (hb0 : Below w0.heap.size w0 w) (hn0 : n₀ ≤ w.heap.size) (hb : b < w.heap.size) (hps : ps.size = 1)
    (I Ix : List (List UInt8) → World → Prop) (hI : Holds2 w.heap.size b I) (hIx : Holds2 w.heap.size b Ix) (h0 : I [] w) (a₁ : List UInt8 → Act)
    (hassign : ∀ (l : Nat) (x : List UInt8) (W : World) (K : Act → World → Prop), K (a₁ x) W →
      assign.wpIn (Fence.wide.inRound l) (n - 1 - 1) P (Exit.then K (fun _ _ _ => False)) { tmps := (ps.zip #[Value.string (S x)]).foldl (fun t (p, v) => t.setIfInBounds p v) a.tmps, defers := [] } W)
    (hbody : ∀ (l : Nat) (pre : List (List UInt8)) (x : List UInt8) (post : List (List UInt8)) (W : World), xs = pre ++ x :: post → I pre W → body.wpIn (Fence.wide.inRound l) (n - 1 - 1) P (Round w.heap.size n₀ I Ix (pre ++ [x]) W) (a₁ x) W)
    (hdone : ∀ (D : Nat) (W : World), w.heap.size ≤ D → I xs W → W.heap[D]? = some (.deferred (some [])) → Q .normal { a with defers := { target := .collected D, args := #[] } :: a.defers } W)
    (hstop : ∀ (D : Nat) (pre : List (List UInt8)) (W : World), w.heap.size ≤ D → pre <+: xs → Ix pre W → W.heap[D]? = some (.deferred (some [])) → Code.ret.wpIn Fence.wide n P Q { a with defers := { target := .collected D, args := #[] } :: a.defers } W) :
    (Code.rangeFunc g ps assign body).wpIn Fence.wide n P Q a w := by
  refine wpIn_rangeFunc fun fn hfn => ?_
  rw [show Fence.wide.round = none from rfl]
  -- the loop's record, and the world in which the iterator is called
  obtain ⟨rc, hrc⟩ : ∃ rc : LoopState → Option Code → Loop, rc = fun st pe => { state := st, pending := pe, fn, tmps := a.tmps, params := ps, assign, body, defers := w.heap.size } := ⟨_, rfl⟩
  obtain ⟨D, hD⟩ : ∃ D, w.heap.size = D := ⟨_, rfl⟩
  obtain ⟨V, hV⟩ : ∃ V, (w.alloc (.deferred (some []))).alloc (.loop (rc .ready none)) = V := ⟨_, rfl⟩
  have gw : w.grownBy V (some b) := by
    rw [← hV]
    exact ⟨rfl, rfl, rfl, by simp; omega, fun k hk _ => (Below.heap_alloc _ _ k (by simp; omega)).trans (Below.heap_alloc w _ k hk)⟩
  have vD : V.heap[D]? = some (.deferred (some [])) := by
    rw [← hV, ← hD]; exact (Below.heap_alloc _ _ _ (by simp)).trans (heap_alloc_new w _)
  have vL : V.heap[D + 1]? = some (.loop (rc .ready none)) := by
    rw [← hV, ← hD]
    have := heap_alloc_new (w.alloc (.deferred (some []))) (.loop (rc .ready none))
    rwa [World.size_alloc] at this
  have vI : I [] V := hI [] w V b h0 gw (.inl rfl)
  have vB : Below w0.heap.size w0 V := hb0.trans (by rw [← hV]; exact (((Below.refl _ w).alloc (Nat.le_refl _) _).alloc (by simp) _).mono hb0.size)
  refine ⟨D + 1, [{ target := .collected D, args := #[] }], V, { target := .fn (.func gf) lb, args := #[.func (.yield (D + 1)) #[] #[]] }, V, gf, #[.func (.yield (D + 1)) #[] #[]] ++ lb, V, ?_, ?_, ?_, ?_, fun _ => h1, ?_⟩
  · rw [← hV, hrc, ← hD]; exact run_enterLoop_outer _ _ _ _ _
  · simp only [resolve, hg]; simp [go_sem]
  · intro f' hf'; simp [Target.leads] at hf'; subst hf'; trivial
  · simp [invoke, go_sem, eg]
  · -- a store into the loop's record
    have books : ∀ (W : World) (st : LoopState) (pe : Option Code) (o : Obj), W.heap[D + 1]? = some (.loop (rc st pe)) → W.grownBy (W.putObj (D + 1) o) (some (D + 1)) ∧ (∃ o', W.heap[D + 1]? = some o' ∧ o'.isCells = false) ∧ (W.putObj (D + 1) o).heap[D + 1]? = some o :=
      fun W st pe o h => ⟨grownBy_putObj' W (D + 1) o, ⟨_, h, rfl⟩, World.putObj_heap_same (Array.getElem?_eq_some_iff.1 h).1⟩
    refine (hseq (D + 1) (fun pre W => I pre W ∧ W.heap[D + 1]? = some (.loop (rc .ready none)) ∧ W.heap[D]? = some (.deferred (some [])))
      (fun pre W => Ix pre W ∧ W.heap[D + 1]? = some (.loop (rc .done (some .ret))) ∧ W.heap[D]? = some (.deferred (some []))) V vB
      (fun s X Y hs hg' => ⟨hI s X Y b hs.1 hg' (.inl rfl), (hg'.block _ (Array.getElem?_eq_some_iff.1 hs.2.1).1 (by simp; omega)).trans hs.2.1, (hg'.block _ (Array.getElem?_eq_some_iff.1 hs.2.2).1 (by simp; omega)).trans hs.2.2⟩)
      (fun s X Y hs hg' => ⟨hIx s X Y b hs.1 hg' (.inl rfl), (hg'.block _ (Array.getElem?_eq_some_iff.1 hs.2.1).1 (by simp; omega)).trans hs.2.1, (hg'.block _ (Array.getElem?_eq_some_iff.1 hs.2.2).1 (by simp; omega)).trans hs.2.2⟩)
      ?_ ⟨vI, vL, vD⟩).mono ?_
    · -- one round
      rintro pre x post W hx ⟨hi, hl, hk⟩
      have hy := run_yield (P := P) (args := #[Value.string (S x)]) hl (by rw [hrc]; exact hps.symm)
      rw [hrc] at hy
      refine ⟨fn, _, assign, body, hy, roundIn_of_wpIn hfn (hassign _ x W _ ⟨_, run_beginRound hl (by rw [hrc]), ?_⟩)⟩
      obtain ⟨W2, hW2⟩ : ∃ W2, W.putObj (D + 1) (.loop { rc .ready none with state := .busy }) = W2 := ⟨_, rfl⟩
      obtain ⟨g2, o2, l2⟩ := books W _ _ (.loop { rc .ready none with state := .busy }) hl
      rw [hW2] at g2 l2 ⊢
      have k2 : W2.heap[D]? = some (.deferred (some [])) := by rw [← hW2]; exact (World.putObj_heap_other (by omega)).trans hk
      have hi2 : I pre W2 := hI pre W W2 (D + 1) hi g2 (.inr ⟨by omega, o2⟩)
      have hlt : D + 1 < W.heap.size := (Array.getElem?_eq_some_iff.1 hl).1
      have below : ∀ {A : World} (o : Obj), D + 1 < A.heap.size → Below n₀ A (A.putObj (D + 1) o) := fun o h => (Below.refl n₀ _).grown (grownBy_putObj' _ (D + 1) o) (by omega) (fun k e => by cases e; omega)
      have b2 : Below n₀ W W2 := by rw [← hW2]; exact below _ hlt
      have busy : rc .busy none = { rc .ready none with state := .busy } := by rw [hrc]
      rw [← busy] at l2
      refine wpIn_mono (hbody _ pre x post W2 hx hi2) ?_
      have fin : ∀ (jump : Option Code) (W3 : World), KeepsFrom w.heap.size W2 W3 → ∃ W4, (Instr.endRound (D + 1) jump).run P W3 = .ok (.bool jump.isNone) W4 ∧ W4 = W3.putObj (D + 1) (.loop (rc (if jump.isNone then .ready else .done) jump)) ∧
          W3.heap[D + 1]? = some (.loop (rc .busy none)) ∧ W4.heap[D + 1]? = some (.loop (rc (if jump.isNone then .ready else .done) jump)) ∧ W4.heap[D]? = some (.deferred (some [])) := fun jump W3 hk3 => by
        have l3 := hk3.same _ _ (by omega) l2 rfl
        have k3 := hk3.same _ _ (by omega) k2 rfl
        have hr := run_endRound (P := P) jump l3
        refine ⟨_, hr, by rw [hrc], l3, ?_, ?_⟩
        · rw [World.putObj_heap_same (Array.getElem?_eq_some_iff.1 l3).1, hrc]
        · exact (World.putObj_heap_other (by omega)).trans k3
      rintro e a3 W3 hp
      cases e with
      | normal =>
        obtain ⟨hk3, hb3, hi3⟩ := hp
        obtain ⟨W4, hr, he, l3, l4, k4⟩ := fin none W3 hk3
        obtain ⟨g4, o4, _⟩ := books W3 _ _ (.loop (rc .ready none)) l3
        have he' : W4 = W3.putObj (D + 1) (.loop (rc .ready none)) := he
        rw [← he'] at g4
        have b4 : Below n₀ W3 W4 := by rw [he']; exact below _ (Array.getElem?_eq_some_iff.1 l3).1
        exact ⟨_, _, hr, .inl ⟨rfl, ⟨hI _ _ _ (D + 1) hi3 g4 (.inr ⟨by omega, o4⟩), l4, k4⟩, (b2.trans hb3).trans b4⟩⟩
      | ret =>
        obtain ⟨hk3, hi3⟩ := hp
        obtain ⟨W4, hr, he, l3, l4, k4⟩ := fin (some .ret) W3 hk3
        obtain ⟨g4, o4, _⟩ := books W3 _ _ (.loop (rc .done (some .ret))) l3
        have he' : W4 = W3.putObj (D + 1) (.loop (rc .done (some .ret))) := he
        rw [← he'] at g4
        exact ⟨_, _, hr, .inr ⟨rfl, hIx _ _ _ (D + 1) hi3 g4 (.inr ⟨by omega, o4⟩), l4, k4⟩⟩
      | exit id => exact hp.elim
      | goto t => exact hp.elim
      | panic ch => exact hp.elim
      | outgrown => exact hp.elim
    · -- behind the iterator
      rintro e W2 ⟨⟨v, rfl⟩, ⟨hi, hl, hk⟩ | ⟨pre, hp, hi, hl, hk⟩⟩
      · have hr := run_endLoop (P := P) hl (by rw [hrc]; simp)
        rw [hrc] at hr
        refine ⟨none, _, hr, hdone D _ (by omega) (hI _ _ _ (D + 1) hi ?_ (.inr ⟨by omega, ⟨_, hl, rfl⟩⟩)) ((World.putObj_heap_other (by omega)).trans hk)⟩
        exact grownBy_putObj' W2 (D + 1) _
      · have hr := run_endLoop (P := P) hl (by rw [hrc]; simp)
        rw [hrc] at hr
        refine ⟨some .ret, _, hr, hstop D pre _ (by omega) hp (hIx _ _ _ (D + 1) hi (grownBy_putObj' W2 (D + 1) _) (.inr ⟨by omega, ⟨_, hl, rfl⟩⟩)) ((World.putObj_heap_other (by omega)).trans hk)⟩
end Go.Proofs.YtiaggnpkmigbhaaDoor.fl
