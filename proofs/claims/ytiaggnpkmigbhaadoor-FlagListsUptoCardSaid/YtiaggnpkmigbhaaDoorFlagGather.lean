/-
  What the program's gather answers, over whatever iterator over texts.
-/
import Derived.Test.YtiaggnpkmigbhaaDoorFlagIter
import Derived.Maps.AppendAt
import Derived.RegionIn
namespace Go.Proofs.YtiaggnpkmigbhaaDoor.fl
open Go.RowKit Go.Shelf
attribute [local go_sem] Oper.semAt_some

/-- The program's set of some names. -/
def setOf (pre : List (List UInt8)) : List (List UInt8) := pinAll [] (pre.map cf)
theorem setOf_snoc (pre : List (List UInt8)) (x : List UInt8) : setOf (pre ++ [x]) = pin (cf x) (setOf pre) := by
  unfold setOf; rw [List.map_append, List.map_singleton, pinAll_snoc]
theorem setOf_few (pre : List (List UInt8)) : (setOf pre).length ≤ 17 := pinAll_few (by simp)
theorem setOf_sorted (pre : List (List UInt8)) : Sorted (setOf pre) := pinAll_sorted List.Pairwise.nil
theorem okAll_add (pre : List (List UInt8)) (x : List UInt8) : okAll (pre ++ [x]) = (okAll pre && (canon x).isSome) := by
  unfold okAll; rw [List.all_append]; simp
theorem okAll_prefix {pre xs : List (List UInt8)} (h : pre <+: xs) (hp : okAll pre = false) : okAll xs = false := by
  obtain ⟨r, rfl⟩ := h
  unfold okAll at hp ⊢
  rw [List.all_append, hp]; rfl
theorem make_set {xs : List (List UInt8)} (h : okAll xs = true) : make xs = full (setOf xs) := make_pin h
theorem make_bad {xs : List (List UInt8)} (h : okAll xs = false) : make xs = ([], 4) := by unfold make; rw [h]; rfl

theorem ownsRow_lower {w : World} {b b' : Nat} {e : TypeId} {size : Nat} {v : Value} {n : Nat} {xs : List Value} (h : w.ownsRow b e size v n xs) (hb : b' ≤ b) : w.ownsRow b' e size v n xs := by
  obtain ⟨h1, h2 | ⟨g, cap, cur, h3, h4, h5⟩⟩ := h
  · exact ⟨h1, .inl h2⟩
  · exact ⟨h1, .inr ⟨g, cap, cur, h3, by omega, h5⟩⟩
theorem keeps_own {B : Nat} {W W' : World} {base : Nat} {e : TypeId} {size n : Nat} {v : Value} {xs : List Value} (hg : W.grownBy W' v.ownBlock) (ho : W.ownsRow base e size v n xs) : KeepsFrom B W W' :=
  ⟨hg.size, fun k o _ hk hc => (hg.block k (Array.getElem?_eq_some_iff.1 hk).1 (fun e2 => by
    rcases ho.2 with ⟨rfl, _⟩ | ⟨g, cap, cur, rfl, _, hh, _⟩
    · simp [Value.ownBlock] at e2
    · simp [Value.ownBlock] at e2
      subst e2
      rw [hh] at hk
      cases hk; cases hc)).trans hk⟩
theorem keeps_new {B : Nat} {W W' : World} (h : Below W.heap.size W W') : KeepsFrom B W W' := ⟨h.size, fun k _ _ hk _ => (h.block k (Array.getElem?_eq_some_iff.1 hk).1).trans hk⟩
theorem below_own {B : Nat} {W W' : World} {base : Nat} {e : TypeId} {size n : Nat} {v : Value} {xs : List Value} (hg : W.grownBy W' v.ownBlock) (ho : W.ownsRow base e size v n xs) (h : B ≤ base) (hB : B ≤ W.heap.size) : Below B W W' :=
  (Below.refl B W).grown hg hB (fun k e => Nat.le_trans h (ho.lt k e).1)
theorem holds2_boxed {B b t : Nat} {c : Nat} {f : List (List UInt8) → Value} (h : c ≠ b) : Holds2 B b (fun pre W => Boxed W c t (f pre)) := fun s X Y r hs hg hr => by
  refine hs.kept hg (fun e => ?_)
  cases e
  rcases hr with e | ⟨_, o, ho, hc⟩
  · exact h e
  · rw [show X.heap[c]? = _ from hs] at ho
    cases ho; cases hc
theorem holds2_and {B b : Nat} {I K : List (List UInt8) → World → Prop} (h : Holds2 B b I) (k : Holds2 B b K) : Holds2 B b (fun pre W => I pre W ∧ K pre W) :=
  fun s X Y r hs hg hr => ⟨h s X Y r hs.1 hg hr, k s X Y r hs.2 hg hr⟩
theorem holds2_below {B b n₁ : Nat} {w : World} (h1 : n₁ ≤ b) (h2 : n₁ ≤ B) (h3 : n₁ ≤ w.heap.size) : Holds2 B b (fun _ W => Below n₁ w W) := fun _ X Y r hs hg hr =>
  hs.grown hg (Nat.le_trans h3 hs.size) (fun k e => by cases e; rcases hr with e | ⟨h, _⟩ <;> omega)
/-- The box of the set, and the row that it holds. -/
def SetBox (B c : Nat) (pre : List (List UInt8)) (W : World) : Prop := ∃ v, Boxed W c 50 v ∧ W.ownsRow B 9 1 v (setOf pre).length (cellsS (setOf pre))
theorem holds2_set {B b c : Nat} (hc : c ≠ b) (hB : b < B) : Holds2 B b (SetBox B c) := fun s X Y r ⟨v, h1, h2⟩ hg hr => by
  refine ⟨v, holds2_boxed (f := fun _ => v) hc s X Y r h1 hg hr, h2.kept hg ?_⟩
  refine .inr fun e => ?_
  have hlt := h2.lt r e
  rcases hr with e2 | ⟨_, o, ho, hcc⟩
  · omega
  · rcases h2.2 with ⟨rfl, _⟩ | ⟨g, cap, cur, rfl, hg1, hh, _⟩
    · simp [Value.ownBlock] at e
    · simp [Value.ownBlock] at e
      subst e
      rw [hh] at ho
      cases ho; cases hcc

theorem gather_results {tmps : Array Value} {w : World} {r0 r1 : Nat} {v1 v2 : Value} (h2 : tmps.getD 2 undef = .pointer (some ⟨r0, 0, none⟩)) (h3 : tmps.getD 3 undef = .pointer (some ⟨r1, 0, none⟩))
    (b1 : Boxed w r0 50 v1) (b2 : Boxed w r1 29 v2) : (results Tryd.f35 tmps).run Tryd.prog w = .ok (.tuple #[v1, v2]) w := by
  have hres : Tryd.f35.results = #[.cell 2 50, .cell 3 29] := rfl
  have c1 := b1.cell
  have c2 := b2.cell
  have e2 : tmps[2]?.getD undef = .pointer (some ⟨r0, 0, none⟩) := by simpa using h2
  have e3 : tmps[3]?.getD undef = .pointer (some ⟨r1, 0, none⟩) := by simpa using h3
  simp only [results, hres]
  simp [Sem.run_bind, Result.andThen, e2, e3, go_sem, c1, c2]

/-- Between two rounds; behind the one that has found no flag. -/
def GI (w : World) (n₁ : Nat) (pre : List (List UInt8)) (W : World) : Prop :=
  ((SetBox (w.heap.size + 3) (w.heap.size + 1 + 1) pre W ∧ Boxed W w.heap.size 50 (.slice none 0 0)) ∧ (Boxed W (w.heap.size + 1) 29 (.int .i64 0) ∧ okAll pre = true)) ∧ Below n₁ w W
def GX (w : World) (n₁ : Nat) (pre : List (List UInt8)) (W : World) : Prop :=
  (Boxed W w.heap.size 50 (.slice none 0 0) ∧ (Boxed W (w.heap.size + 1) 29 (.int .i64 4) ∧ okAll pre = false)) ∧ Below n₁ w W

set_option maxRecDepth 100000 in
set_option maxHeartbeats 4000000 in
theorem gather_in (gf : Nat) (lb : Array Value) (b n₁ : Nat) (xs : List (List UInt8)) (hx : ∀ x ∈ xs, x.length ≤ 140737488355328) (w : World) (hS : Sys w)
    (eg : ∀ args w, (callFunc gf args).run Tryd.prog w = .ok (.enter gf args) w) (hseq : Seq 4 Tryd.prog gf lb b w.heap.size xs w) (h1 : 0 < n₁) (h2 : n₁ ≤ b) (hb : b < w.heap.size) :
    CallsIn Fence.wide 5 Tryd.prog 35 #[.func (.func gf) #[] lb] w fun e W' => (∃ v, e = .returned (.tuple #[v, .int .i64 ((make xs).2 : Nat)]) ∧ W'.ownsRow w.heap.size 9 1 v (make xs).1.length (cellsS (make xs).1)) ∧ Below n₁ w W' := by
  refine callsIn_of_wp_marks Tryd.func35 rfl trivial ?_ rfl
  simp only [Tryd.ntmps35, List.size_toArray, List.length_cons, List.length_nil, Nat.reduceAdd, Nat.reduceSub, Array.replicate_succ, Array.replicate_zero, List.push_toArray, List.append_toArray, List.nil_append, List.cons_append]
  gi_wp2_with fail
  obtain ⟨W0, hW0⟩ : ∃ W0, ((w.alloc (.cells #[.slice none 0 0] 50)).alloc (.cells #[.int .i64 0] 29)).alloc (.cells #[.slice none 0 0] 50) = W0 := ⟨_, rfl⟩
  have bR : Boxed W0 w.heap.size 50 (.slice none 0 0) := by rw [← hW0]; exact ((Boxed.new w _ _).alloc _).alloc _
  have bE : Boxed W0 (w.heap.size + 1) 29 (.int .i64 0) := by
    rw [← hW0]
    have h := Boxed.new (w.alloc (.cells #[.slice none 0 0] 50)) 29 (.int .i64 0)
    rw [World.size_alloc] at h
    exact h.alloc _
  have bS : Boxed W0 (w.heap.size + 2) 50 (.slice none 0 0) := by
    rw [← hW0]
    have h := Boxed.new ((w.alloc (.cells #[.slice none 0 0] 50)).alloc (.cells #[.int .i64 0] 29)) 50 (.slice none 0 0)
    rw [World.size_alloc, World.size_alloc] at h
    exact h
  have hB0 : Below w.heap.size w W0 := by
    rw [← hW0]
    exact (((Below.refl _ w).alloc (Nat.le_refl _) _).alloc (by simp) _).alloc (by simp; omega) _
  have hs0 : W0.heap.size = w.heap.size + 3 := by rw [← hW0]; simp
  have bS' : Boxed W0 (w.heap.size + 1 + 1) 50 (.slice none 0 0) := bS
  rw [hW0]
  clear hW0 bS
  have hI : Holds2 W0.heap.size b (GI w n₁) := by
    rw [hs0]
    exact holds2_and (holds2_and (holds2_and (holds2_set (c := w.heap.size + 1 + 1) (by omega) (by omega)) (holds2_boxed (c := w.heap.size) (f := fun _ => .slice none 0 0) (by omega))) (holds2_and (holds2_boxed (c := w.heap.size + 1) (f := fun _ => .int .i64 0) (by omega)) (fun _ _ _ _ h _ _ => h))) (holds2_below h2 (by omega) (by omega))
  have hIx : Holds2 W0.heap.size b (GX w n₁) := by
    rw [hs0]
    exact holds2_and (holds2_and (holds2_boxed (c := w.heap.size) (f := fun _ => .slice none 0 0) (by omega)) (holds2_and (holds2_boxed (c := w.heap.size + 1) (f := fun _ => .int .i64 4) (by omega)) (fun _ _ _ _ h _ _ => h))) (holds2_below h2 (by omega) (by omega))
  refine wpIn_seq (n := 5) (by omega) (gf := gf) (lb := lb) rfl eg hseq hB0 (by omega) (by omega) rfl (GI w n₁) (GX w n₁) hI hIx ⟨⟨⟨⟨_, bS', World.ownsRow_nil _ _ _ _⟩, bR⟩, bE, rfl⟩, hB0.mono (by omega)⟩
    (fun x => { tmps := #[.func (.func gf) #[] lb, undef, .pointer (some ⟨w.heap.size, 0, none⟩), .pointer (some ⟨w.heap.size + 1, 0, none⟩), .pointer (some ⟨w.heap.size + 1 + 1, 0, none⟩), .string (S x), undef, undef, .func (.func gf) #[] lb, .string (S x), undef, undef, undef, undef, undef, undef, undef, undef, undef, undef, undef, undef, undef, undef], defers := [] }) ?assign ?body ?done ?stop
  case assign =>
    intro lp x W K hK
    gi_wp2
    exact hK
  case body =>
    rintro lp pre x post W hxs ⟨⟨⟨⟨v, hv, hrow⟩, hR⟩, hE, hok⟩, hB⟩
    have hSW := hS.later hB h1
    have hxx := hx x (by rw [hxs]; simp)
    have hca := canon_any x hxx W hSW
    have hoa := okAll_add pre x
    have hss := setOf_snoc pre x
    have hWs : w.heap.size + 3 ≤ W.heap.size := by have := hv.lt; omega
    cases hcs : (canon x).isSome with
    | false =>
      rw [hcs] at hca hoa
      have HO : Hid (okAll (pre ++ [x]) = false) := Lib.hid (by rw [hoa]; simp)
      have hc1 := hv.cell
      generalize cf x = y at *
      gi_wp2_with (refine ⟨trivial, ?_⟩; gi_at_call 10; refine (CallsIn.inRound lp (callsIn_wide.2 hca)).mono ?_; rintro e w1 ⟨rfl, b1⟩; have hR1 : Boxed w1 w.heap.size 50 (.slice none 0 0) := (b1.block _ hR.lt).trans hR; have hE1 : Boxed w1 (w.heap.size + 1) 29 (.int .i64 0) := (b1.block _ hE.lt).trans hE; have hcR := hR1.cell; have hfR := hR1.frozen; have hE2 := hE1.other (B' := w.heap.size) (by omega) (.slice none 0 0); have hcE := hE2.cell; have hfE := hE2.frozen)
      refine ⟨((keeps_new b1).trans ((KeepsOthers.setCell _ _ _).from _)).trans ((KeepsOthers.setCell _ _ _).from _), ⟨⟨(hR1.set _).other (by omega) _, hE2.set _, HO.out⟩, ?_⟩⟩
      exact ((hB.trans (b1.mono (by omega))).setCell (p := ⟨w.heap.size, 0, none⟩) (by show n₁ ≤ w.heap.size; omega) _).setCell (p := ⟨w.heap.size + 1, 0, none⟩) (by show n₁ ≤ w.heap.size + 1; omega) _
    | true =>
      rw [hcs] at hca hoa
      have HO : Hid (okAll (pre ++ [x]) = true ∧ setOf (pre ++ [x]) = pin (cf x) (setOf pre)) := Lib.hid ⟨by rw [hoa, hok]; rfl, hss⟩
      have hwi := Lib.hid (fun W1 h1 h2 h3 => with_any (w.heap.size + 3) v (setOf pre) (cf x) (setOf_few pre) (setOf_sorted pre) W1 h1 h2 h3)
      generalize cf x = y at *
      have hvs : ∃ a c, v = .slice a (setOf pre).length c := by
        obtain ⟨a, c, h, _⟩ := rowS_of_own rfl hrow
        exact ⟨a, c, h⟩
      obtain ⟨va, vc, rfl⟩ := hvs
      clear hss hoa hok hcs hxs
      gi_wp2_with (refine ⟨trivial, ?_⟩; gi_at_call 10; refine (CallsIn.inRound lp (callsIn_wide.2 hca)).mono ?_; rintro e w1 ⟨rfl, b1⟩; have hv1 : Boxed w1 (w.heap.size + 1 + 1) 50 (.slice va (setOf pre).length vc) := (b1.block _ hv.lt).trans hv; have hcv := hv1.cell)
      have hrow1 := ownsRow_below hrow b1
      have hw1 := hwi.out w1 hrow1 (by have := b1.size; omega) (hSW.next b1)
      refine ⟨trivial, ?_⟩
      refine (CallsIn.inRound lp (callsIn_wide.2 hw1)).mono ?_
      rintro e w2 ⟨v2, rfl, hrow2, hg2⟩
      obtain ⟨a2, c2, hv2e, _⟩ := rowS_of_own rfl hrow2
      subst hv2e
      have nosb : ∀ k, k < w.heap.size + 3 → some k ≠ (Value.slice va (setOf pre).length vc).ownBlock := fun k hk e => by have := (hrow1.lt _ e.symm).1; omega
      have hb2 : Boxed w2 (w.heap.size + 1 + 1) 50 (.slice va (setOf pre).length vc) := hv1.kept hg2 (nosb _ (by omega))
      have hR2 : Boxed w2 w.heap.size 50 (.slice none 0 0) := (Boxed.kept ((b1.block _ hR.lt).trans hR) hg2 (nosb _ (by omega)))
      have hE2 : Boxed w2 (w.heap.size + 1) 29 (.int .i64 0) := (Boxed.kept ((b1.block _ hE.lt).trans hE) hg2 (nosb _ (by omega)))
      have hc2 := hb2.cell
      have hf2 := hb2.frozen
      have hkeep : KeepsFrom W0.heap.size W w2 := (keeps_new b1).trans (keeps_own hg2 hrow1)
      have hblow : ∀ B, B ≤ w.heap.size + 3 → Below B W w2 := fun B h => (b1.mono (by omega)).trans (below_own hg2 hrow1 h (by have := b1.size; omega))
      have HH := Lib.hid (And.intro hkeep hblow)
      have HR2 := Lib.hid hrow2
      clear hkeep hblow hrow2 hg2 hw1 hrow1 hwi hca hrow b1 nosb
      gi_wp2
      refine ⟨HH.out.1.trans ((KeepsOthers.setCell _ _ _).from _), (HH.out.2 _ (by omega)).setCell (p := ⟨w.heap.size + 1 + 1, 0, none⟩) (by show w.heap.size ≤ w.heap.size + 1 + 1; omega) _, ⟨⟨⟨_, hb2.set _, ?_⟩, hR2.other (by omega) _⟩, hE2.other (by omega) _, HO.out.1⟩, ?_⟩
      · rw [HO.out.2]
        exact HR2.out.kept (grownBy_setCell' w2 (w.heap.size + 1 + 1) _) (.inr fun e => by have := (HR2.out.lt _ e).1; omega)
      · exact (hB.trans (HH.out.2 _ (by omega))).setCell (p := ⟨w.heap.size + 1 + 1, 0, none⟩) (by show n₁ ≤ w.heap.size + 1 + 1; omega) _
  case done =>
    rintro D W hD ⟨⟨⟨⟨v, hv, hrow⟩, hR⟩, hE, hok⟩, hB⟩ hK
    obtain ⟨a2, c2, hv2e, _⟩ := rowS_of_own rfl hrow
    subst hv2e
    have hcv := hv.cell
    have hcR := hR.cell
    have hfR := hR.frozen
    have hmk := make_set hok
    by_cases h16 : 16 < (setOf xs).length
    · have HM : Hid (make xs = ([], 7)) := Lib.hid (by rw [hmk]; unfold full; rw [if_pos h16])
      have h16i : ((setOf xs).length : Int) > 16 := by omega
      have hE2 := hE.other (B' := w.heap.size) (by omega) (.slice none 0 0)
      have hcE := hE2.cell
      have hfE := hE2.frozen
      have hR3 := ((hR.set (.slice none 0 0)).other (B' := w.heap.size + 1) (by omega) (.int .i64 7))
      have hE3 := hE2.set (.int .i64 7)
      have hK2 := (KeepsOthers.setCell (W.setCell ⟨w.heap.size, 0, none⟩ (.slice none 0 0)) ⟨w.heap.size + 1, 0, none⟩ (.int .i64 7)).same D _ ((KeepsOthers.setCell W ⟨w.heap.size, 0, none⟩ (.slice none 0 0)).same D _ hK rfl) rfl
      have hB2 := (hB.setCell (p := ⟨w.heap.size, 0, none⟩) (by show n₁ ≤ w.heap.size; omega) (.slice none 0 0)).setCell (p := ⟨w.heap.size + 1, 0, none⟩) (by show n₁ ≤ w.heap.size + 1; omega) (.int .i64 7)
      have hDw : w.heap.size + 3 ≤ D := by omega
      clear hmk
      gi_wp2
      refine ⟨by simp, .inl ⟨_, _, rfl, run_takeDeferred hK2, ?_⟩⟩
      refine ⟨_, gather_results rfl rfl (hR3.kept (grownBy_putObj' _ D _) (fun e => by cases e; omega)) (hE3.kept (grownBy_putObj' _ D _) (fun e => by cases e; omega)), ⟨⟨.slice none 0 0, ?_, ?_⟩, ?_⟩⟩
      · rw [HM.out]; rfl
      · rw [HM.out]; exact World.ownsRow_nil _ _ _ _
      · exact hB2.grown (grownBy_putObj' _ D _) (by have := hB2.size; omega) (fun k e => by cases e; omega)
    · have HM : Hid (make xs = (setOf xs, 0)) := Lib.hid (by rw [hmk]; unfold full; rw [if_neg h16])
      have h16i : ¬ ((setOf xs).length : Int) > 16 := by omega
      have hE2 := hE.other (B' := w.heap.size) (by omega) (.slice a2 (setOf xs).length c2)
      have hcE := hE2.cell
      have hfE := hE2.frozen
      have hR3 := ((hR.set (.slice a2 (setOf xs).length c2)).other (B' := w.heap.size + 1) (by omega) (.int .i64 0))
      have hE3 := hE2.set (.int .i64 0)
      have hK2 := (KeepsOthers.setCell (W.setCell ⟨w.heap.size, 0, none⟩ (.slice a2 (setOf xs).length c2)) ⟨w.heap.size + 1, 0, none⟩ (.int .i64 0)).same D _ ((KeepsOthers.setCell W ⟨w.heap.size, 0, none⟩ (.slice a2 (setOf xs).length c2)).same D _ hK rfl) rfl
      have hB2 := (hB.setCell (p := ⟨w.heap.size, 0, none⟩) (by show n₁ ≤ w.heap.size; omega) (.slice a2 (setOf xs).length c2)).setCell (p := ⟨w.heap.size + 1, 0, none⟩) (by show n₁ ≤ w.heap.size + 1; omega) (.int .i64 0)
      have hDw : w.heap.size + 3 ≤ D := by omega
      have hno : ∀ k, k < w.heap.size + 3 → (Value.slice a2 (setOf xs).length c2).ownBlock ≠ some k := fun k hk e => by have := (hrow.lt _ e).1; omega
      have hr2 := (hrow.kept (grownBy_setCell' W w.heap.size (.slice a2 (setOf xs).length c2)) (.inr (hno _ (by omega)))).kept (grownBy_setCell' _ (w.heap.size + 1) (.int .i64 0)) (.inr (hno _ (by omega)))
      have HRW := Lib.hid hr2
      clear hmk hrow hno hr2
      gi_wp2
      refine ⟨by simp, .inl ⟨_, _, rfl, run_takeDeferred hK2, ?_⟩⟩
      refine ⟨_, gather_results rfl rfl (hR3.kept (grownBy_putObj' _ D _) (fun e => by cases e; omega)) (hE3.kept (grownBy_putObj' _ D _) (fun e => by cases e; omega)), ⟨⟨.slice a2 (setOf xs).length c2, ?_, ?_⟩, ?_⟩⟩
      · rw [HM.out]; rfl
      · rw [HM.out]
        exact ownsRow_putObj (ownsRow_lower HRW.out (by omega)) _ hK2 rfl
      · exact hB2.grown (grownBy_putObj' _ D _) (by have := hB2.size; omega) (fun k e => by cases e; omega)
  case stop =>
    rintro D pre W hD hp ⟨⟨hR, hE, hok⟩, hB⟩ hK
    have HM := Lib.hid (make_bad (okAll_prefix hp hok))
    have hDw : w.heap.size + 3 ≤ D := by omega
    gi_wp2
    refine ⟨by simp, .inl ⟨_, _, rfl, run_takeDeferred hK, ?_⟩⟩
    refine ⟨_, gather_results rfl rfl (hR.kept (grownBy_putObj' _ D _) (fun e => by cases e; omega)) (hE.kept (grownBy_putObj' _ D _) (fun e => by cases e; omega)), ⟨⟨.slice none 0 0, ?_, ?_⟩, ?_⟩⟩
    · rw [HM.out]; rfl
    · rw [HM.out]; exact World.ownsRow_nil _ _ _ _
    · exact hB.grown (grownBy_putObj' _ D _) (by have := hB.size; omega) (fun k e => by cases e; omega)
end Go.Proofs.YtiaggnpkmigbhaaDoor.fl
