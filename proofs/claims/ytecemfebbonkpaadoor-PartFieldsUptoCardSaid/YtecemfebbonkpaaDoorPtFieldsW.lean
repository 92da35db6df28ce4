/-
  The law PartFields, walked. Written by gen_fieldsw.py.
-/
import Derived.Test.YtecemfebbonkpaaDoorPtRef3
import Derived.Test.YtecemfebbonkpaaDoorPtAlive
namespace Go.Proofs.YtecemfebbonkpaaDoor.pt
open Go.RowKit Go.Shelf fl
attribute [local go_sem] Oper.semAt_some

/-- What stands in memory while the law's loop runs. -/
structure Stat (w W : World) (stop : Int) (n c : Nat) (v : Value) (F : List Fd2) : Prop where
  base : Below w.heap.size w W
  bS : Boxed W w.heap.size 3 (.int .i64 stop)
  bR : Boxed W (w.heap.size + 1) 4 (.bool false)
  bM : Boxed W c 29 v
  row : W.ownsRow w.heap.size 35 2 v n (cellsF F)
theorem Stat.mono {w W W' : World} {stop : Int} {n c : Nat} {v : Value} {F : List Fd2} (h : Stat w W stop n c v F) (hb : Below W.heap.size W W') : Stat w W' stop n c v F where
  base := h.base.trans (hb.mono h.base.size)
  bS := (hb.block _ h.bS.lt).trans h.bS
  bR := (hb.block _ h.bR.lt).trans h.bR
  bM := (hb.block _ h.bM.lt).trans h.bM
  row := own_below h.row hb
theorem boxed_ne {W : World} {B D : Nat} {t : TypeId} {v : Value} {x : Option (List Deferred)} (h : Boxed W B t v) (k : W.heap[D]? = some (.deferred x)) : B ≠ D := by
  rintro rfl
  have e := (show W.heap[B]? = _ from h).symm.trans k
  cases e
def muR (a : Act) (w : World) : Nat := match a.tmps.getD 8 undef with
  | .pointer (some p) => (match w.cell? p with
    | some (.int _ r) => 2 - r.toNat
    | _ => 0)
  | _ => 0
def InvR (m name : List UInt8) (w : World) (stop : Int) (n c : Nat) (v : Value) (F : List Fd2) (a : Act) (W : World) : Prop :=
  ∃ (r rB : Nat) (Dl : List Nat) (u : Nat → Value), r ≤ 2 ∧ Stat w W stop n c v F ∧ Boxed W rB 3 (.int .i64 r) ∧ w.heap.size ≤ rB ∧ Dl.length = r ∧ Dl.Nodup ∧ (∀ D ∈ Dl, W.heap[D]? = some (.deferred (some [])) ∧ w.heap.size ≤ D) ∧
    a = { tmps := #[.string (S m), .string (S name), .int .i64 stop, u 3, u 4, .pointer (some ⟨w.heap.size, 0, none⟩), .pointer (some ⟨w.heap.size + 1, 0, none⟩), .pointer (some ⟨c, 0, none⟩), .pointer (some ⟨rB, 0, none⟩), u 9, u 10, u 11, u 12, u 13, u 14, u 15, u 16, u 17, u 18, u 19, u 20, u 21, u 22, u 23, u 24, u 25, u 26, u 27, u 28, u 29, u 30, u 31, u 32, u 33, u 34, u 35, u 36, u 37, u 38, u 39, u 40, u 41, u 42, u 43, u 44, u 45, u 46, u 47, u 48, u 49, u 50, u 51, u 52, u 53, u 54, u 55, u 56, u 57, u 58, u 59, u 60, u 61, u 62, u 63, u 64, u 65, u 66, u 67, u 68, u 69, u 70, u 71, u 72, u 73, u 74, u 75, u 76, u 77, u 78, u 79, u 80, u 81, u 82, u 83, u 84, u 85, u 86, u 87, u 88, u 89, u 90, u 91, u 92], defers := Dl.map fun D => { target := .collected D, args := #[] } }
theorem InvR.mk {m name : List UInt8} {w W : World} {stop : Int} {n c : Nat} {v : Value} {F : List Fd2} (r rB : Nat) (Dl : List Nat) (T : Array Value)
    (hr : r ≤ 2) (hst : Stat w W stop n c v F) (hrB : Boxed W rB 3 (.int .i64 r)) (hrw : w.heap.size ≤ rB) (hDl : Dl.length = r) (hnd : Dl.Nodup) (hDs : ∀ D ∈ Dl, W.heap[D]? = some (.deferred (some [])) ∧ w.heap.size ≤ D)
    (hT : T = #[.string (S m), .string (S name), .int .i64 stop, T.getD 3 undef, T.getD 4 undef, .pointer (some ⟨w.heap.size, 0, none⟩), .pointer (some ⟨w.heap.size + 1, 0, none⟩), .pointer (some ⟨c, 0, none⟩), .pointer (some ⟨rB, 0, none⟩), T.getD 9 undef, T.getD 10 undef, T.getD 11 undef, T.getD 12 undef, T.getD 13 undef, T.getD 14 undef, T.getD 15 undef, T.getD 16 undef, T.getD 17 undef, T.getD 18 undef, T.getD 19 undef, T.getD 20 undef, T.getD 21 undef, T.getD 22 undef, T.getD 23 undef, T.getD 24 undef, T.getD 25 undef, T.getD 26 undef, T.getD 27 undef, T.getD 28 undef, T.getD 29 undef, T.getD 30 undef, T.getD 31 undef, T.getD 32 undef, T.getD 33 undef, T.getD 34 undef, T.getD 35 undef, T.getD 36 undef, T.getD 37 undef, T.getD 38 undef, T.getD 39 undef, T.getD 40 undef, T.getD 41 undef, T.getD 42 undef, T.getD 43 undef, T.getD 44 undef, T.getD 45 undef, T.getD 46 undef, T.getD 47 undef, T.getD 48 undef, T.getD 49 undef, T.getD 50 undef, T.getD 51 undef, T.getD 52 undef, T.getD 53 undef, T.getD 54 undef, T.getD 55 undef, T.getD 56 undef, T.getD 57 undef, T.getD 58 undef, T.getD 59 undef, T.getD 60 undef, T.getD 61 undef, T.getD 62 undef, T.getD 63 undef, T.getD 64 undef, T.getD 65 undef, T.getD 66 undef, T.getD 67 undef, T.getD 68 undef, T.getD 69 undef, T.getD 70 undef, T.getD 71 undef, T.getD 72 undef, T.getD 73 undef, T.getD 74 undef, T.getD 75 undef, T.getD 76 undef, T.getD 77 undef, T.getD 78 undef, T.getD 79 undef, T.getD 80 undef, T.getD 81 undef, T.getD 82 undef, T.getD 83 undef, T.getD 84 undef, T.getD 85 undef, T.getD 86 undef, T.getD 87 undef, T.getD 88 undef, T.getD 89 undef, T.getD 90 undef, T.getD 91 undef, T.getD 92 undef]) : InvR m name w stop n c v F { tmps := T, defers := Dl.map fun D => { target := .collected D, args := #[] } } W :=
  ⟨r, rB, Dl, fun i => T.getD i undef, hr, hst, hrB, hrw, hDl, hnd, hDs, congrArg (fun t => Act.mk t (Dl.map fun D => { target := .collected D, args := #[] })) hT⟩

/-- What the rounds over the fields read and write. -/
def PI (w : World) (stop : Int) (n c rB ib r : Nat) (v : Value) (F : List Fd2) (Dl : List Nat) (i : Int) (O : Nat → Prop) (W : World) : Prop :=
  Boxed W w.heap.size 3 (.int .i64 stop) ∧ Boxed W (w.heap.size + 1) 4 (.bool false) ∧ Boxed W c 29 v ∧ W.ownsRow w.heap.size 35 2 v n (cellsF F) ∧ Boxed W rB 3 (.int .i64 r) ∧ Boxed W ib 3 (.int .i64 i) ∧
    (∀ D ∈ Dl, W.heap[D]? = some (.deferred (some []))) ∧ ∀ k, O k ↔ k = w.heap.size ∨ k = w.heap.size + 1 ∨ k = c ∨ v.ownBlock = some k ∨ k = rB ∨ k = ib ∨ k ∈ Dl
theorem PI.keep {w : World} {stop : Int} {n c rB ib r : Nat} {v : Value} {F : List Fd2} {Dl : List Nat} {i : Int} {O : Nat → Prop} {X Y : World} (h : PI w stop n c rB ib r v F Dl i O X) (hf : Frm O X Y) : PI w stop n c rB ib r v F Dl i O Y := by
  obtain ⟨h1, h2, h3, h4, h5, h6, h7, h8⟩ := h
  exact ⟨hf.boxed h1 ((h8 _).2 (.inl rfl)), hf.boxed h2 ((h8 _).2 (.inr (.inl rfl))), hf.boxed h3 ((h8 _).2 (.inr (.inr (.inl rfl)))), hf.own h4 (fun g hg => (h8 g).2 (.inr (.inr (.inr (.inl hg))))), hf.boxed h5 ((h8 _).2 (.inr (.inr (.inr (.inr (.inl rfl)))))), hf.boxed h6 ((h8 _).2 (.inr (.inr (.inr (.inr (.inr (.inl rfl))))))), fun D hD => (hf.block D ((h8 _).2 (.inr (.inr (.inr (.inr (.inr (.inr hD)))))))).trans (h7 D hD), h8⟩
theorem PI.put {w : World} {stop : Int} {n c rB ib r : Nat} {v : Value} {F : List Fd2} {Dl : List Nat} {i : Int} {O : Nat → Prop} {X : World} (h : PI w stop n c rB ib r v F Dl i O X) (hs : w.heap.size + 1 < ib) (hc : c < ib) (hg : ∀ g, v.ownBlock = some g → g < ib) (hr : rB < ib) (hD : ∀ D ∈ Dl, D < ib) (j : Int) :
    PI w stop n c rB ib r v F Dl j O (X.setCell ⟨ib, 0, none⟩ (.int .i64 j)) := by
  obtain ⟨h1, h2, h3, h4, h5, h6, h7, h8⟩ := h
  exact ⟨h1.other (by omega) _, h2.other (by omega) _, h3.other (by omega) _, ownsRow_setCell_other h4 (fun e => by have := hg _ e; simp at this) _, h5.other (by omega) _, h6.set _, fun D hD' => (Below.heap_setCell _ ⟨ib, 0, none⟩ _ D (by have := hD D hD'; show D ≠ ib; omega)).trans (h7 D hD'), h8⟩
theorem at_prefix {F : List Fd2} {pre post : List Fd2} {x : Fd2} (h : F = pre ++ x :: post) : ∃ hl : pre.length < F.length, F[pre.length] = x := by
  subst h
  exact ⟨by simp, by simp⟩
/-- What a law's end needs of the deferred calls' blocks. -/
theorem belowK (w : World) {W : World} (h : Below w.heap.size w W) (D : Nat) (hD : w.heap.size ≤ D) (o : Obj) : Below w.heap.size w (W.putObj D o) :=
  ⟨h.os, h.tape, h.output, by simp only [World.putObj, Array.size_setIfInBounds]; exact h.size, fun k hk => (World.putObj_heap_other (by omega)).trans (h.block k hk)⟩

set_option maxRecDepth 100000 in
set_option maxHeartbeats 16000000 in
theorem fieldslaw_in (m name : List UInt8) (stop : Int) (hm : m.length < 4294967281) (hn : name.length ≤ 140737488355328) (M : Int) (w : World) (h0 : 0 < w.heap.size) (hM : w.cell? ⟨0, 0, none⟩ = some (.int .i64 M)) :
    CallsIn Fence.wide 16 Tryd.prog 4 #[.string (S m), .string (S name), .int .i64 stop] w fun e W' => e = .returned (.bool true) ∧ Below w.heap.size w W' := by
  refine callsIn_of_wp_marks Tryd.func4 rfl trivial ?_ rfl
  simp only [Tryd.ntmps4, List.size_toArray, List.length_cons, List.length_nil, Nat.reduceAdd, Nat.reduceSub, Array.replicate_succ, Array.replicate_zero, List.push_toArray, List.append_toArray, List.nil_append, List.cons_append]
  gi_wp2_with fail
  obtain ⟨W1, hW1⟩ : ∃ W1, (w.alloc (.cells #[.int .i64 stop] 3)).alloc (.cells #[.bool false] 4) = W1 := ⟨_, rfl⟩
  have bS1 : Boxed W1 w.heap.size 3 (.int .i64 stop) := by rw [← hW1]; exact (Boxed.new w 3 (.int .i64 stop)).alloc _
  have bR1 : Boxed W1 (w.heap.size + 1) 4 (.bool false) := by
    rw [← hW1]
    have h := Boxed.new (w.alloc (.cells #[.int .i64 stop] 3)) 4 (.bool false)
    rw [World.size_alloc] at h
    exact h
  have hB1 : Below w.heap.size w W1 := by
    rw [← hW1]
    exact ((Below.refl _ w).alloc (Nat.le_refl _) _).alloc (by simp) _
  have s1 : W1.heap.size = w.heap.size + 2 := by rw [← hW1]; simp
  refine ⟨trivial, ?_⟩
  rw [hW1]
  clear hW1
  refine (callsIn_wide.2 (alive_any M W1 (by omega) ((hB1.cell (p := ⟨0, 0, none⟩) h0).trans hM))).mono ?_
  rintro e w1 ⟨rfl, hb1⟩
  have hrf := reffields_any m (by omega) w1
  have hcn := fields_count m
  obtain ⟨n, hnF⟩ : ∃ n, (fields m).length = n := ⟨_, rfl⟩
  have HNF := Lib.hid hnF
  rw [hnF] at hrf hcn
  clear hnF
  gi_wp2_with fail
  refine ⟨trivial, ?_⟩
  refine (callsIn_wide.2 hrf).mono ?_
  rintro e w2 ⟨⟨v, rfl, hv⟩, hb2⟩
  obtain ⟨va, vc, rfl⟩ := own_sl hv
  clear hrf
  have hb12 : Below W1.heap.size W1 w2 := hb1.trans (hb2.mono hb1.size)
  have hgl : ∀ g, (Value.slice va n vc).ownBlock = some g → g < w2.heap.size := fun g hg => (hv.lt g hg).2
  have hb3 : Below w2.heap.size w2 ((w2.alloc (.cells #[.slice va n vc] 29)).alloc (.cells #[.int .i64 0] 3)) := ((Below.refl _ w2).alloc (Nat.le_refl _) _).alloc (by simp) _
  have bM3 : Boxed ((w2.alloc (.cells #[.slice va n vc] 29)).alloc (.cells #[.int .i64 0] 3)) w2.heap.size 29 (.slice va n vc) := (Boxed.new w2 _ _).alloc _
  have bN3 : Boxed ((w2.alloc (.cells #[.slice va n vc] 29)).alloc (.cells #[.int .i64 0] 3)) (w2.heap.size + 1) 3 (.int .i64 ((0 : Nat) : Int)) := by
    have h := Boxed.new (w2.alloc (.cells #[.slice va n vc] 29)) 3 (.int .i64 0)
    rw [World.size_alloc] at h
    exact h
  have hsz12 := hb12.size
  have hv1 := hb1.size
  have hst : Stat w ((w2.alloc (.cells #[.slice va n vc] 29)).alloc (.cells #[.int .i64 0] 3)) stop n w2.heap.size (.slice va n vc) (fields m) := {
    base := hB1.trans ((hb12.trans (hb3.mono hb12.size)).mono (by omega))
    bS := (hb3.block _ (by omega)).trans ((hb12.block _ bS1.lt).trans bS1)
    bR := (hb3.block _ (by omega)).trans ((hb12.block _ bR1.lt).trans bR1)
    bM := bM3
    row := ownsRow_lower (own_below hv hb3) (by omega) }
  have HGL := Lib.hid hgl
  have hcw : w.heap.size + 2 ≤ w2.heap.size := by omega
  clear hgl hv
  have HS := Lib.hid (And.intro hst bN3)
  clear hst bN3 bM3 hb3 hb12 hb1 hb2 bS1 bR1 hB1 hsz12 hv1 s1
  gi_wp2_with fail
  obtain ⟨c, hc⟩ : ∃ c, w2.heap.size = c := ⟨_, rfl⟩
  rw [hc] at HS HGL hcw ⊢
  have hst := HS.out.1
  have bN3 := HS.out.2
  clear HS
  generalize (w2.alloc (.cells #[.slice va n vc] 29)).alloc (.cells #[.int .i64 0] 3) = W4 at *
  clear hc
  refine wpIn_loop (InvR m name w stop n c (.slice va n vc) (fields m)) muR ?_ ?_
  · exact InvR.mk 0 (c + 1) [] _ (by omega) hst bN3 (by omega) rfl List.nodup_nil (fun D h => by cases h) rfl
  · clear hst bN3
    rintro a W ⟨r, rB, Dl, u, hr, hst, hrB, hrw, hDl, hnd, hDs, rfl⟩
    have hcR := hrB.cell
    have hW0 : 0 < W.heap.size := Nat.lt_of_lt_of_le h0 hst.base.size
    have hMW := (hst.base.cell (p := ⟨0, 0, none⟩) h0).trans hM
    by_cases hr2 : r = 2
    · subst hr2
      obtain ⟨D1, D0, rfl⟩ : ∃ D1 D0, Dl = [D1, D0] := by
        match Dl, hDl with
        | [D1, D0], _ => exact ⟨D1, D0, rfl⟩
      obtain ⟨g1, l1⟩ := hDs D1 (by simp)
      obtain ⟨g0, l0⟩ := hDs D0 (by simp)
      have hne : D1 ≠ D0 := by simpa using hnd
      have hF1 := Lib.hid (field_any m name hm hn M W hW0 hMW)
      have hF2 := Lib.hid (fun X => reffield_any m name (by omega) hn X)
      have HST := Lib.hid hst
      generalize value (found (fields m) name) = fv at *
      generalize (found (fields m) name).isSome = fo at *
      have d1 := (Array.getElem?_eq_some_iff.1 g1).1
      have d0 := (Array.getElem?_eq_some_iff.1 g0).1
      have HG := Lib.hid (And.intro g1 g0)
      clear hst hrB hDs g1 g0 hDl hnd hMW
      gi_wp2_with fail
      refine ⟨trivial, ?_⟩
      refine (callsIn_wide.2 hF1.out).mono ?_
      rintro e w5 ⟨rfl, b5⟩
      clear hF1 hcR
      gi_wp2_with fail
      refine ⟨trivial, ?_⟩
      refine (callsIn_wide.2 (hF2.out w5)).mono ?_
      rintro e w6 ⟨rfl, b6⟩
      have B6 : Below W.heap.size W w6 := b5.trans (b6.mono b5.size)
      have st6 := HST.out.mono B6
      have cRes := st6.bR.cell
      have fRes := st6.bR.frozen
      have k1 : (w6.setCell ⟨w.heap.size + 1, 0, none⟩ (.bool true)).heap[D1]? = some (.deferred (some [])) := (Below.heap_setCell _ ⟨w.heap.size + 1, 0, none⟩ _ D1 (boxed_ne HST.out.bR HG.out.1).symm).trans ((B6.block _ d1).trans HG.out.1)
      have k0 : (w6.setCell ⟨w.heap.size + 1, 0, none⟩ (.bool true)).heap[D0]? = some (.deferred (some [])) := (Below.heap_setCell _ ⟨w.heap.size + 1, 0, none⟩ _ D0 (boxed_ne HST.out.bR HG.out.2).symm).trans ((B6.block _ d0).trans HG.out.2)
      have hb9 : Below w.heap.size w (w6.setCell ⟨w.heap.size + 1, 0, none⟩ (.bool true)) := st6.base.setCell (p := ⟨w.heap.size + 1, 0, none⟩) (by simp) (.bool true)
      have bR9 := st6.bR.set (.bool true)
      have HK := Lib.hid (And.intro k1 (And.intro k0 (And.intro hb9 bR9)))
      clear k1 k0 hb9 bR9 st6 b5 b6 B6 hF2
      gi_wp2_with fail
      obtain ⟨k1, k0, hb9, bR9⟩ := HK.out
      refine ⟨by simp, .inl ⟨_, _, rfl, run_takeDeferred k1, ?_⟩⟩
      have k0' : ((w6.setCell ⟨w.heap.size + 1, 0, none⟩ (.bool true)).putObj D1 (.deferred none)).heap[D0]? = some (.deferred (some [])) := (World.putObj_heap_other hne.symm).trans k0
      refine ⟨by simp, .inl ⟨_, _, rfl, run_takeDeferred k0', ?_⟩⟩
      have n1 := boxed_ne bR9 k1
      have n0 := boxed_ne bR9 k0
      have c9 : (((w6.setCell ⟨w.heap.size + 1, 0, none⟩ (.bool true)).putObj D1 (.deferred none)).putObj D0 (.deferred none)).cell? ⟨w.heap.size + 1, 0, none⟩ = some (.bool true) := ((World.cell?_of_block (World.putObj_heap_other n0)).trans (World.cell?_of_block (World.putObj_heap_other n1))).trans bR9.cell
      refine ⟨.bool true, ?_, rfl, belowK w (belowK w hb9 D1 l1 _) D0 l0 _⟩
      simp [results, Tryd.results4, go_sem, c9]
    · have hr1 : r < 2 := by omega
      have hri : (r : Int) < 2 := by omega
      gi_wp2_with (refine ⟨trivial, ?_⟩; gi_at_call 16; refine (callsIn_wide.2 (fields_any (S m) _)).mono ?_; rintro e w' ⟨rfl, rfl⟩)
      obtain ⟨W0, hW0'⟩ : ∃ W0, (W.alloc (.cells #[.int .i64 0] 3)).alloc (.cells #[.string (S m)] 9) = W0 := ⟨_, rfl⟩
      have bI : Boxed W0 W.heap.size 3 (.int .i64 0) := by rw [← hW0']; exact (Boxed.new W 3 (.int .i64 0)).alloc _
      have bX : Boxed W0 (W.heap.size + 1) 9 (.string (S m)) := by
        rw [← hW0']
        have h := Boxed.new (W.alloc (.cells #[.int .i64 0] 3)) 9 (.string (S m))
        rw [World.size_alloc] at h
        exact h
      have hB0 : Below W.heap.size W W0 := by
        rw [← hW0']
        exact ((Below.refl _ W).alloc (Nat.le_refl _) _).alloc (by simp) _
      have hs0 : W0.heap.size = W.heap.size + 2 := by rw [← hW0']; simp
      try rw [show World.alloc (World.alloc W (.cells #[.int .i64 0] 3)) (.cells #[.string (S m)] 9) = W0 from hW0']
      clear hW0'
      have hM0 := (hB0.cell (p := ⟨0, 0, none⟩) hW0).trans hMW
      have st0 := hst.mono hB0
      have hrB0 : Boxed W0 rB 3 (.int .i64 r) := (hB0.block rB hrB.lt).trans hrB
      have hDs0 : ∀ D ∈ Dl, W0.heap[D]? = some (.deferred (some [])) := fun D hD => (hB0.block D (Array.getElem?_eq_some_iff.1 (hDs D hD).1).1).trans (hDs D hD).1
      have zS : w.heap.size + 1 < W.heap.size := hst.bR.lt
      have zC : c < W.heap.size := hst.bM.lt
      have zG : ∀ g, (Value.slice va n vc).ownBlock = some g → g < W.heap.size := fun g hg => (hst.row.lt g hg).2
      have zGw : ∀ g, (Value.slice va n vc).ownBlock = some g → w.heap.size ≤ g := fun g hg => (hst.row.lt g hg).1
      have zR : rB < W.heap.size := hrB.lt
      have zD : ∀ D ∈ Dl, D < W.heap.size := fun D hD => (Array.getElem?_eq_some_iff.1 (hDs D hD).1).1
      have zCw : w.heap.size ≤ c := by omega
      have mixed : Tryd.prog.follows .mixedOrders = true := by kernel_rfl
      have HZ := Lib.hid (And.intro zG (And.intro zD (And.intro hDs hnd)))
      have HST := Lib.hid hst
      have hsz := hst.base.size
      obtain ⟨O0, hO0⟩ : ∃ O0 : Nat → Prop, ∀ k, O0 k ↔ k = w.heap.size ∨ k = w.heap.size + 1 ∨ k = c ∨ (Value.slice va n vc).ownBlock = some k ∨ k = rB ∨ k = W.heap.size ∨ k ∈ Dl := ⟨_, fun k => Iff.rfl⟩
      have hO0lt : ∀ k, O0 k → k ≤ W.heap.size ∧ 0 < k := fun k hk => by
        rcases (hO0 k).1 hk with h | h | h | h | h | h | h
        · omega
        · omega
        · omega
        · have := zG k h; have := zGw k h; omega
        · omega
        · omega
        · have := zD k h; have := (hDs k h).2; omega
      have hO0w : ∀ k, O0 k → w.heap.size ≤ k := fun k hk => by
        rcases (hO0 k).1 hk with h | h | h | h | h | h | h
        · omega
        · omega
        · omega
        · exact zGw k h
        · omega
        · omega
        · exact (hDs k h).2
      have hPI0 : PI w stop n c rB W.heap.size r (.slice va n vc) (fields m) Dl 0 O0 W0 := ⟨st0.bS, st0.bR, st0.bM, st0.row, hrB0, bI, hDs0, hO0⟩
      refine wpIn_push (n := 16) (by omega) (gf := 26) (lb := #[.pointer (some ⟨W.heap.size + 1, 0, none⟩)]) rfl (enters_of Tryd.func26 (by kernel_rfl) rfl)
        (fields_push 15 (by omega) (W.heap.size + 1) (by omega) M m hm W0 bX hM0) (Frm.refl _ _) (by omega) (fun _ h => h.elim) (fun _ => rfl)
        (fun pre O W' => PI w stop n c rB W.heap.size r (.slice va n vc) (fields m) Dl (pre.length : Nat) O W')
        (fun cd _ O W' => cd = .exit 2 ∧ r = 0 ∧ PI w stop n c rB W.heap.size r (.slice va n vc) (fields m) Dl stop O W')
        (fun _ _ _ _ h hf => h.keep hf) (fun _ _ _ _ _ h hf => ⟨h.1, h.2.1, h.2.2.keep hf⟩) O0
        (fun k hk => ⟨by have := (hO0lt k hk).1; omega, fun h => by rcases h with rfl | rfl; exact absurd (hO0lt 0 hk).2 (by omega); have := (hO0lt _ hk).1; omega⟩)
        hPI0
        (fun x => { tmps := #[.string (S m), .string (S name), .int .i64 stop, u 3, u 4, .pointer (some ⟨w.heap.size, 0, none⟩), .pointer (some ⟨w.heap.size + 1, 0, none⟩), .pointer (some ⟨c, 0, none⟩), .pointer (some ⟨rB, 0, none⟩), .pointer (some ⟨W.heap.size, 0, none⟩), .string (S x.1), .string (S x.2), u 12, u 13, u 14, u 15, u 16, u 17, u 18, u 19, .int .i64 r, .bool true, u 22, u 23, .string (S m), .func (.func 26) #[] #[.pointer (some ⟨W.heap.size + 1, 0, none⟩)], .string (S x.1), .string (S x.2), u 28, u 29, u 30, u 31, u 32, u 33, u 34, u 35, u 36, u 37, u 38, u 39, u 40, u 41, u 42, u 43, u 44, u 45, u 46, u 47, u 48, u 49, u 50, u 51, u 52, u 53, u 54, u 55, u 56, u 57, u 58, u 59, u 60, u 61, u 62, u 63, u 64, u 65, u 66, u 67, u 68, u 69, u 70, u 71, u 72, u 73, u 74, u 75, u 76, u 77, u 78, u 79, u 80, u 81, u 82, u 83, u 84, u 85, u 86, u 87, u 88, u 89, u 90, u 91, u 92], defers := [] }) ?assign ?body ?done ?stop
      case assign =>
        intro lp x W' K hK
        simp only [encF]
        gi_wp2
        exact hK
      case body =>
        rintro lp pre ⟨x1, x2⟩ post Oi Wi hx hP hOb
        obtain ⟨hlp, hFx⟩ := at_prefix hx
        have hkn : pre.length < n := by rw [← HNF.out]; exact hlp
        obtain ⟨g, vc2, e0, _, _, hcs⟩ := ownF_cells hP.2.2.2.1 HNF.out.symm (by omega)
        obtain ⟨rfl, rfl⟩ : va = some ⟨g, 0, none⟩ ∧ vc = vc2 := by simpa using e0
        clear e0
        have c1 := (hcs pre.length hlp).1
        have c2 := (hcs pre.length hlp).2
        rw [hFx] at c1 c2
        dsimp only at c1 c2
        have cM := hP.2.2.1.cell
        have cI := hP.2.2.2.2.2.1.cell
        have fI := hP.2.2.2.2.2.1.frozen
        have cS := hP.1.cell
        have cR := hP.2.2.2.2.1.cell
        have hki : ((pre.length : Nat) : Int) < (n : Int) := by omega
        have hib : Oi W.heap.size := (hP.2.2.2.2.2.2.2 _).2 (.inr (.inr (.inr (.inr (.inr (.inl rfl))))))
        have hput := hP.put (by omega) zC HZ.out.1 zR HZ.out.2.1 ((pre.length : Int) + 1)
        have hlen : (((pre ++ [(x1, x2)]).length : Nat) : Int) = (pre.length : Int) + 1 := by simp
        have hstep : Step Oi Oi Wi (Wi.setCell ⟨W.heap.size, 0, none⟩ (.int .i64 ((pre.length : Int) + 1))) := ⟨rfl, rfl, rfl, by simp, fun k hk hn => Below.heap_setCell _ ⟨W.heap.size, 0, none⟩ _ k (fun e => hn (by rw [e]; exact hib)), fun k hk => .inl hk⟩
        have cR2 : (Wi.setCell ⟨W.heap.size, 0, none⟩ (.int .i64 ((pre.length : Int) + 1))).cell? ⟨rB, 0, none⟩ = some (.int .i64 r) := hput.2.2.2.2.1.cell
        have cS2 : (Wi.setCell ⟨W.heap.size, 0, none⟩ (.int .i64 ((pre.length : Int) + 1))).cell? ⟨w.heap.size, 0, none⟩ = some (.int .i64 stop) := hput.1.cell
        have HP := Lib.hid (And.intro hput hstep)
        have HLEN := Lib.hid hlen
        obtain ⟨k, hk⟩ : ∃ k, pre.length = k := ⟨_, rfl⟩
        have HK := Lib.hid hk
        rw [hk] at c1 c2 cI hki cR2 cS2
        clear hput hstep hlen hcs hP hlp hFx hx hkn hOb cS cR hk hst hrB hrB0 st0 bI bX hB0 hPI0 hDs hDs0 hcR hM0 hMW hO0 hO0lt zG zGw zD
        by_cases hr0 : r = 0
        · have hbr : ((r : Int) == 0) = true := by simp [hr0]
          by_cases hs : (k : Int) + 1 = stop
          · have hbs : (((k : Int) + 1) == stop) = true := by simp [hs]
            have HS := Lib.hid hs
            have HR := Lib.hid hr0
            clear hs hr0
            gi_wp2_with fail
            refine ⟨Oi, ⟨rfl, HR.out, ?_⟩, ?_⟩
            · have h := HP.out.1
              rw [HK.out] at h
              have h2 : PI w stop n c rB W.heap.size r (.slice (some ⟨g, 0, none⟩) n vc) (fields m) Dl ((k : Int) + 1) Oi (Wi.setCell ⟨W.heap.size, 0, none⟩ (.int .i64 ((k : Int) + 1))) := h
              have e9 : PI w stop n c rB W.heap.size r (.slice (some ⟨g, 0, none⟩) n vc) (fields m) Dl stop Oi (Wi.setCell ⟨W.heap.size, 0, none⟩ (.int .i64 ((k : Int) + 1))) := by
                have e8 := HS.out
                generalize (k : Int) + 1 = kk at *
                subst e8
                exact h2
              exact e9
            · have h := HP.out.2
              rw [HK.out] at h
              exact h
          · have hbs : (((k : Int) + 1) == stop) = false := by simp [hs]
            clear hs hr0
            gi_wp2_with fail
            refine ⟨Oi, ?_, ?_⟩
            · have h := HP.out.1
              show PI w stop n c rB W.heap.size r _ (fields m) Dl (((pre ++ [(x1, x2)]).length : Nat) : Int) Oi _
              rw [HLEN.out, HK.out]
              rw [HK.out] at h
              exact h
            · have h := HP.out.2
              rw [HK.out] at h
              exact h
        · have hbr : ((r : Int) == 0) = false := by simp [hr0]
          clear hr0
          gi_wp2_with fail
          refine ⟨Oi, ?_, ?_⟩
          · have h := HP.out.1
            show PI w stop n c rB W.heap.size r _ (fields m) Dl (((pre ++ [(x1, x2)]).length : Nat) : Int) Oi _
            rw [HLEN.out, HK.out]
            rw [HK.out] at h
            exact h
          · have h := HP.out.2
            rw [HK.out] at h
            exact h
      case done =>
        rintro D O' Wd hD hP hMv nD hK
        have bNew : Boxed (Wd.alloc (.cells #[.int .i64 ((r : Int) + 1)] 3)) Wd.heap.size 3 (.int .i64 (r + 1 : Nat)) := Boxed.new Wd 3 (.int .i64 ((r : Int) + 1))
        have hDlt := (Array.getElem?_eq_some_iff.1 hK).1
        have bd : Below w.heap.size w Wd := HST.out.base.trans ((hB0.mono (by omega)).trans (hMv.below (by omega) (fun k hk => by
          rcases hk with hk | hk
          · have := hO0w k hk; omega
          · exact hk.elim)))
        have stD : Stat w Wd stop n c (.slice va n vc) (fields m) := ⟨bd, hP.1, hP.2.1, hP.2.2.1, hP.2.2.2.1⟩
        have hDs2 : ∀ E ∈ D :: Dl, (Wd.alloc (.cells #[.int .i64 ((r : Int) + 1)] 3)).heap[E]? = some (.deferred (some [])) ∧ w.heap.size ≤ E := by
          intro E hE
          rcases List.mem_cons.1 hE with rfl | hE
          · exact ⟨(Below.heap_alloc Wd _ E hDlt).trans hK, by omega⟩
          · have hEk := hP.2.2.2.2.2.2.1 E hE
            exact ⟨(Below.heap_alloc Wd _ E (Array.getElem?_eq_some_iff.1 hEk).1).trans hEk, (HZ.out.2.2.1 E hE).2⟩
        have hDn : ∀ E ∈ Dl, E ≠ D := fun E hE => by have := HZ.out.2.1 E hE; omega
        have cI := hP.2.2.2.2.2.1.cell
        have cM := hP.2.2.1.cell
        have cR := hP.2.2.2.2.1.cell
        have cS := hP.1.cell
        have hwd : w.heap.size ≤ Wd.heap.size := bd.size
        have HE := Lib.hid (And.intro bNew (And.intro stD (And.intro hDs2 hDn)))
        clear bNew stD hDs2 hDn hP hMv hDlt hst hrB hrB0 st0 bI bX hB0 hPI0 hDs hDs0 hM0 hMW hO0 hO0lt hO0w zG zGw zD nD hK bd
        rw [HNF.out] at cI
        gi_wp2_with fail
        refine ⟨InvR.mk (r + 1) Wd.heap.size (D :: Dl) _ (by omega) (HE.out.2.1.mono ((Below.refl _ Wd).alloc (Nat.le_refl _) _)) HE.out.1 hwd (by simp [hDl]) (List.nodup_cons.2 ⟨fun h => HE.out.2.2.2 D h rfl, HZ.out.2.2.2⟩) HE.out.2.2.1 rfl, ?_⟩
        have cN := HE.out.1.cell
        unfold muR
        simp [hcR]
        omega
      case stop =>
        rintro D cd pre O' Wd hD hpre ⟨rfl, hr0, hP⟩ hMv nD hK
        have bNew : Boxed (Wd.alloc (.cells #[.int .i64 ((r : Int) + 1)] 3)) Wd.heap.size 3 (.int .i64 (r + 1 : Nat)) := Boxed.new Wd 3 (.int .i64 ((r : Int) + 1))
        have hDlt := (Array.getElem?_eq_some_iff.1 hK).1
        have bd : Below w.heap.size w Wd := HST.out.base.trans ((hB0.mono (by omega)).trans (hMv.below (by omega) (fun k hk => by
          rcases hk with hk | hk
          · have := hO0w k hk; omega
          · exact hk.elim)))
        have stD : Stat w Wd stop n c (.slice va n vc) (fields m) := ⟨bd, hP.1, hP.2.1, hP.2.2.1, hP.2.2.2.1⟩
        have hDs2 : ∀ E ∈ D :: Dl, (Wd.alloc (.cells #[.int .i64 ((r : Int) + 1)] 3)).heap[E]? = some (.deferred (some [])) ∧ w.heap.size ≤ E := by
          intro E hE
          rcases List.mem_cons.1 hE with rfl | hE
          · exact ⟨(Below.heap_alloc Wd _ E hDlt).trans hK, by omega⟩
          · have hEk := hP.2.2.2.2.2.2.1 E hE
            exact ⟨(Below.heap_alloc Wd _ E (Array.getElem?_eq_some_iff.1 hEk).1).trans hEk, (HZ.out.2.2.1 E hE).2⟩
        have hDn : ∀ E ∈ Dl, E ≠ D := fun E hE => by have := HZ.out.2.1 E hE; omega
        have cI := hP.2.2.2.2.2.1.cell
        have cM := hP.2.2.1.cell
        have cR := hP.2.2.2.2.1.cell
        have cS := hP.1.cell
        have hwd : w.heap.size ≤ Wd.heap.size := bd.size
        have HE := Lib.hid (And.intro bNew (And.intro stD (And.intro hDs2 hDn)))
        clear bNew stD hDs2 hDn hP hMv hDlt hst hrB hrB0 st0 bI bX hB0 hPI0 hDs hDs0 hM0 hMW hO0 hO0lt hO0w zG zGw zD nD hK bd
        have hbr : ((r : Int) == 1) = false := by simp [hr0]
        have hbs : (stop != stop) = false := by simp
        have HR0 := Lib.hid hr0
        clear hr0
        by_cases hpn : stop = (n : Int)
        · have hbn : (stop != (n : Int)) = false := by simp [hpn]
          clear hpn
          gi_wp2_with fail
          refine ⟨InvR.mk (r + 1) Wd.heap.size (D :: Dl) _ (by omega) (HE.out.2.1.mono ((Below.refl _ Wd).alloc (Nat.le_refl _) _)) HE.out.1 hwd (by simp [hDl]) (List.nodup_cons.2 ⟨fun h => HE.out.2.2.2 D h rfl, HZ.out.2.2.2⟩) HE.out.2.2.1 rfl, ?_⟩
          have cN := HE.out.1.cell
          unfold muR
          simp [hcR]
          omega
        · have hbn : (stop != (n : Int)) = true := by simp [hpn]
          clear hpn
          gi_wp2_with fail
          refine ⟨InvR.mk (r + 1) Wd.heap.size (D :: Dl) _ (by omega) (HE.out.2.1.mono ((Below.refl _ Wd).alloc (Nat.le_refl _) _)) HE.out.1 hwd (by simp [hDl]) (List.nodup_cons.2 ⟨fun h => HE.out.2.2.2 D h rfl, HZ.out.2.2.2⟩) HE.out.2.2.1 rfl, ?_⟩
          have cN := HE.out.1.cell
          unfold muR
          simp [hcR]
          omega
theorem fieldslaw_any (m name : List UInt8) (stop : Int) (hm : m.length < 4294967281) (hn : name.length ≤ 140737488355328) (M : Int) (w : World) (h0 : 0 < w.heap.size) (hM : w.cell? ⟨0, 0, none⟩ = some (.int .i64 M)) :
    Calls Tryd.prog 4 #[.string (S m), .string (S name), .int .i64 stop] w fun e W' => e = .returned (.bool true) ∧ Below w.heap.size w W' :=
  callsIn_wide.1 (fieldslaw_in m name stop hm hn M w h0 hM)
end Go.Proofs.YtecemfebbonkpaaDoor.pt
