/-
  The law SealAll: the call answers true. (The walk.)
-/
import Derived.Test.YtpeogcjakojjhaaSealMem
import Derived.Test.YtpeogcjakojjhaaSealSame
import Derived.Test.YtpeogcjakojjhaaSealTornWalk
namespace Go.Proofs.Ytpeogcjakojjhaa.sl
open Go.RowKit Go.Shelf
attribute [local go_sem] Oper.semAt_some

theorem prefix_snoc {α : Type} {pre L : List α} {x : α} (h : pre <+: L) (hlt : pre.length < L.length) : pre ++ [x] <+: L ↔ x = L[pre.length] := by
  obtain ⟨t, rfl⟩ := h
  have ht : t ≠ [] := by intro h0; subst h0; simp at hlt
  obtain ⟨y, t, rfl⟩ := List.exists_cons_of_ne_nil ht
  rw [List.getElem_append_right (Nat.le_refl _)]
  simp only [Nat.sub_self, List.getElem_cons_zero]
  constructor
  · rintro ⟨s, hs⟩
    rw [List.append_assoc, List.append_cancel_left_eq] at hs
    simp at hs
    exact hs.1
  · rintro rfl
    exact ⟨t, by simp⟩

/-- What stands in memory while the law's loop runs. -/
structure Stat (w W : World) (stop : Int) (n mB aB : Nat) (am au : Option Addr) (cm cu : Nat) (Bs : List (List UInt8)) (Ps : List Nat) : Prop where
  base : Below w.heap.size w W
  bS : Boxed W w.heap.size 3 (.int .i64 stop)
  bR : Boxed W (w.heap.size + 1) 4 (.bool false)
  bM : Boxed W mB 35 (.slice am n cm)
  bA : Boxed W aB 38 (.slice au n cu)
  cM : Bs = [] ∨ ∃ b off, am = some ⟨b, off, none⟩ ∧ b < W.heap.size ∧ ∀ j (h : j < Bs.length), W.cell? ⟨b, off + j, none⟩ = some (.string (S Bs[j]))
  cA : Ps = [] ∨ ∃ b off, au = some ⟨b, off, none⟩ ∧ b < W.heap.size ∧ ∀ j (h : j < Ps.length), W.cell? ⟨b, off + j, none⟩ = some (.int .i64 (Ps[j] : Nat))
theorem Stat.mono {w W W' : World} {stop : Int} {n mB aB : Nat} {am au : Option Addr} {cm cu : Nat} {Bs : List (List UInt8)} {Ps : List Nat} (h : Stat w W stop n mB aB am au cm cu Bs Ps) (hb : Below W.heap.size W W') : Stat w W' stop n mB aB am au cm cu Bs Ps where
  base := h.base.trans (hb.mono h.base.size)
  bS := (hb.block _ h.bS.lt).trans h.bS
  bR := (hb.block _ h.bR.lt).trans h.bR
  bM := (hb.block _ h.bM.lt).trans h.bM
  bA := (hb.block _ h.bA.lt).trans h.bA
  cM := by
    rcases h.cM with h0 | ⟨b, off, h1, h2, h3⟩
    · exact .inl h0
    · exact .inr ⟨b, off, h1, Nat.lt_of_lt_of_le h2 hb.size, fun j hj => (hb.cell (p := ⟨b, off + j, none⟩) h2).trans (h3 j hj)⟩
  cA := by
    rcases h.cA with h0 | ⟨b, off, h1, h2, h3⟩
    · exact .inl h0
    · exact .inr ⟨b, off, h1, Nat.lt_of_lt_of_le h2 hb.size, fun j hj => (hb.cell (p := ⟨b, off + j, none⟩) h2).trans (h3 j hj)⟩

theorem boxed_ne {W : World} {B D : Nat} {t : TypeId} {v : Value} {x : Option (List Deferred)} (h : Boxed W B t v) (k : W.heap[D]? = some (.deferred x)) : B ≠ D := by
  rintro rfl
  have e := (show W.heap[B]? = _ from h).symm.trans k
  cases e

def muR (a : Act) (w : World) : Nat := match a.tmps.getD 12 undef with
  | .pointer (some p) => (match w.cell? p with
    | some (.int _ r) => 2 - r.toNat
    | _ => 0)
  | _ => 0

def InvR (l : List UInt8) (w : World) (stop : Int) (n mB aB : Nat) (am au : Option Addr) (cm cu : Nat) (Bs : List (List UInt8)) (Ps : List Nat) (a : Act) (W : World) : Prop :=
  ∃ (r rB : Nat) (Dl : List Nat) (u : Nat → Value), r ≤ 2 ∧ Stat w W stop n mB aB am au cm cu Bs Ps ∧ Boxed W rB 3 (.int .i64 r) ∧ Dl.length = r ∧ Dl.Nodup ∧ (∀ D ∈ Dl, W.heap[D]? = some (.deferred (some [])) ∧ w.heap.size ≤ D) ∧
    a = { tmps := #[.string (S l), .int .i64 stop, u 2, .pointer (some ⟨w.heap.size, 0, none⟩), .pointer (some ⟨w.heap.size + 1, 0, none⟩), u 5, u 6, u 7, .pointer (some ⟨mB, 0, none⟩), .pointer (some ⟨aB, 0, none⟩), u 10, u 11, .pointer (some ⟨rB, 0, none⟩), u 13, u 14, u 15, u 16, u 17, u 18, u 19, u 20, u 21, u 22, u 23, u 24, u 25, u 26, u 27, u 28, u 29, u 30, u 31, u 32, u 33, u 34, u 35, u 36, u 37, u 38, u 39, u 40, u 41, u 42, u 43, u 44, u 45, u 46, u 47, u 48, u 49, u 50, u 51, u 52, u 53, u 54, u 55, u 56, u 57, u 58, u 59, u 60, u 61, u 62, u 63, u 64, u 65, u 66, u 67, u 68, u 69, u 70, u 71, u 72, u 73, u 74, u 75, u 76, u 77, u 78, u 79, u 80, u 81, u 82, u 83, u 84, u 85, u 86, u 87, u 88, u 89, u 90, u 91, u 92, u 93, u 94, u 95], defers := Dl.map fun D => { target := .collected D, args := #[] } }

theorem InvR.mk {l : List UInt8} {w W : World} {stop : Int} {n mB aB : Nat} {am au : Option Addr} {cm cu : Nat} {Bs : List (List UInt8)} {Ps : List Nat} (r rB : Nat) (Dl : List Nat) (T : Array Value)
    (hr : r ≤ 2) (hst : Stat w W stop n mB aB am au cm cu Bs Ps) (hrB : Boxed W rB 3 (.int .i64 r)) (hDl : Dl.length = r) (hnd : Dl.Nodup) (hDs : ∀ D ∈ Dl, W.heap[D]? = some (.deferred (some [])) ∧ w.heap.size ≤ D)
    (hT : T = #[.string (S l), .int .i64 stop, T.getD 2 undef, .pointer (some ⟨w.heap.size, 0, none⟩), .pointer (some ⟨w.heap.size + 1, 0, none⟩), T.getD 5 undef, T.getD 6 undef, T.getD 7 undef, .pointer (some ⟨mB, 0, none⟩), .pointer (some ⟨aB, 0, none⟩), T.getD 10 undef, T.getD 11 undef, .pointer (some ⟨rB, 0, none⟩), T.getD 13 undef, T.getD 14 undef, T.getD 15 undef, T.getD 16 undef, T.getD 17 undef, T.getD 18 undef, T.getD 19 undef, T.getD 20 undef, T.getD 21 undef, T.getD 22 undef, T.getD 23 undef, T.getD 24 undef, T.getD 25 undef, T.getD 26 undef, T.getD 27 undef, T.getD 28 undef, T.getD 29 undef, T.getD 30 undef, T.getD 31 undef, T.getD 32 undef, T.getD 33 undef, T.getD 34 undef, T.getD 35 undef, T.getD 36 undef, T.getD 37 undef, T.getD 38 undef, T.getD 39 undef, T.getD 40 undef, T.getD 41 undef, T.getD 42 undef, T.getD 43 undef, T.getD 44 undef, T.getD 45 undef, T.getD 46 undef, T.getD 47 undef, T.getD 48 undef, T.getD 49 undef, T.getD 50 undef, T.getD 51 undef, T.getD 52 undef, T.getD 53 undef, T.getD 54 undef, T.getD 55 undef, T.getD 56 undef, T.getD 57 undef, T.getD 58 undef, T.getD 59 undef, T.getD 60 undef, T.getD 61 undef, T.getD 62 undef, T.getD 63 undef, T.getD 64 undef, T.getD 65 undef, T.getD 66 undef, T.getD 67 undef, T.getD 68 undef, T.getD 69 undef, T.getD 70 undef, T.getD 71 undef, T.getD 72 undef, T.getD 73 undef, T.getD 74 undef, T.getD 75 undef, T.getD 76 undef, T.getD 77 undef, T.getD 78 undef, T.getD 79 undef, T.getD 80 undef, T.getD 81 undef, T.getD 82 undef, T.getD 83 undef, T.getD 84 undef, T.getD 85 undef, T.getD 86 undef, T.getD 87 undef, T.getD 88 undef, T.getD 89 undef, T.getD 90 undef, T.getD 91 undef, T.getD 92 undef, T.getD 93 undef, T.getD 94 undef, T.getD 95 undef]) : InvR l w stop n mB aB am au cm cu Bs Ps { tmps := T, defers := Dl.map fun D => { target := .collected D, args := #[] } } W :=
  ⟨r, rB, Dl, fun i => T.getD i undef, hr, hst, hrB, hDl, hnd, hDs, congrArg (fun t => Act.mk t (Dl.map fun D => { target := .collected D, args := #[] })) hT⟩

set_option maxRecDepth 100000 in
set_option maxHeartbeats 8000000 in
theorem sealall_in (l : List UInt8) (hl : l.length ≤ 17592186044416) (stop : Int) (w : World) :
    CallsIn Fence.wide 7 Try.prog 5 #[.string (S l), .int .i64 stop] w fun e W' => e = .returned (.bool true) ∧ Below w.heap.size w W' := by
  have hA := all_any l hl
  have hR := refall_any l hl
  have hsl := scan_len l 0
  obtain ⟨n, hn⟩ : ∃ n, n = (scan 0 l).length := ⟨_, rfl⟩
  rw [← hn] at hA hR hsl
  have hAI := Lib.hid (fun w => (callsIn_wide (n := 6)).2 (hA w))
  have hRI := Lib.hid (fun w => (callsIn_wide (n := 6)).2 (hR w))
  clear hA hR
  refine callsIn_of_wp_marks Try.func5 rfl trivial ?_ rfl
  simp only [Try.ntmps5, List.size_toArray, List.length_cons, List.length_nil, Nat.reduceAdd, Nat.reduceSub, Array.replicate_succ, Array.replicate_zero, List.push_toArray, List.append_toArray, List.nil_append, List.cons_append]
  gi_wp2_with fail
  obtain ⟨W1, hW1⟩ : ∃ W1, (w.alloc (.cells #[.int .i64 stop] 3)).alloc (.cells #[.bool false] 4) = W1 := ⟨_, rfl⟩
  have bS1 : Boxed W1 w.heap.size 3 (.int .i64 stop) := by rw [← hW1]; exact (Boxed.new w 3 (.int .i64 stop)).alloc _
  have bR1 : Boxed W1 (w.heap.size + 1) 4 (.bool false) := by
    rw [← hW1]
    have h := Boxed.new (w.alloc (.cells #[.int .i64 stop] 3)) 4 (.bool false)
    rw [World.size_alloc] at h
    exact h
  have hB1 : Below w.heap.size w W1 := by
    rw [← hW1]
    exact ((Below.refl _ w).alloc (Nat.le_refl _) _).alloc (by simp) _
  refine ⟨trivial, ?_⟩
  rw [hW1]
  clear hW1
  refine ((callsIn_wide (n := 6)).2 (alive_any _)).mono ?_
  rintro e w1 ⟨rfl, hb1⟩
  gi_wp2_with fail
  refine ⟨trivial, ?_⟩
  refine (hAI.out _).mono ?_
  rintro e w2 ⟨v, rfl, hv, hb2⟩
  gi_wp2_with fail
  refine ⟨trivial, ?_⟩
  refine (hRI.out _).mono ?_
  rintro e w3 ⟨m, u, rfl, hm, hu, hb3⟩
  obtain ⟨Bs, hBs⟩ : ∃ Bs, Bs = (scan 0 l).map (·.2) := ⟨_, rfl⟩
  obtain ⟨Ps, hPs⟩ : ∃ Ps, Ps = (scan 0 l).map (·.1) := ⟨_, rfl⟩
  have hBl : Bs.length = n := by rw [hBs, hn, List.length_map]
  have hPl : Ps.length = n := by rw [hPs, hn, List.length_map]
  have hxt : texts (scan 0 l) = Bs.map fun x => .string (S x) := texts_of hBs.symm
  have hxi : ints (scan 0 l) = nums Ps := by rw [hPs]; simp [ints, nums]
  rw [hxt] at hv hm
  rw [hxi] at hu
  have hv3 : SV w3 v Bs := (SV.of_row hBl.symm hv).below hb3
  obtain ⟨am, cm, rfl, hmc⟩ := SV.of_row hBl.symm hm
  obtain ⟨au, cu, rfl, huc⟩ := NV.of_row hPl.symm hu
  have hm3 : SV w3 (.slice am Bs.length cm) Bs := ⟨am, cm, rfl, hmc⟩
  have hSS := Lib.hid (same_any Bs (by omega) v (.slice am Bs.length cm))
  have bM3 := Boxed.new w3 35 (.slice am n cm)
  have bA3 := Boxed.new (w3.alloc (.cells #[.slice am n cm] 35)) 38 (.slice au n cu)
  have bM4 := bM3.alloc (.cells #[.slice au n cu] 38)
  have hB34 : Below w3.heap.size w3 ((w3.alloc (.cells #[.slice am n cm] 35)).alloc (.cells #[.slice au n cu] 38)) := ((Below.refl _ w3).alloc (Nat.le_refl _) _).alloc (by simp) _
  rw [World.size_alloc] at bA3
  rw [hBl] at hm3 hSS ⊢
  rw [hPl]
  have HM := Lib.hid hmc
  have HU := Lib.hid huc
  have HBL := Lib.hid hBl
  have HPL := Lib.hid hPl
  have HBS := Lib.hid hBs
  have HPS := Lib.hid hPs
  have HN := Lib.hid hn
  clear hv hm hu hmc huc hxt hxi hBl hPl hBs hPs hn bM3
  gi_wp2_with fail
  obtain ⟨W4, hW4⟩ : ∃ W4, (w3.alloc (.cells #[.slice am n cm] 35)).alloc (.cells #[.slice au n cu] 38) = W4 := ⟨_, rfl⟩
  rw [hW4] at bA3 bM4 hB34 ⊢
  clear hW4
  refine ⟨trivial, ?_⟩
  refine ((callsIn_wide (n := 6)).2 (hSS.out _ (hv3.below hB34) (hm3.below hB34))).mono ?_
  rintro e w4 ⟨rfl, hb4⟩
  have hB2 : Below W1.heap.size W1 w2 := hb1.trans (hb2.mono hb1.size)
  have hB3 : Below W1.heap.size W1 w3 := hB2.trans (hb3.mono hB2.size)
  have hB4 : Below W1.heap.size W1 W4 := hB3.trans (hB34.mono hB3.size)
  have hB5 : Below W1.heap.size W1 w4 := hB4.trans (hb4.mono hB4.size)
  have hB35 : Below w3.heap.size w3 w4 := hB34.trans (hb4.mono hB34.size)
  have hst : Stat w w4 stop n w3.heap.size (w3.heap.size + 1) am au cm cu Bs Ps := {
    base := hB1.trans (hB5.mono hB1.size)
    bS := (hB5.block _ bS1.lt).trans bS1
    bR := (hB5.block _ bR1.lt).trans bR1
    bM := (hb4.block _ bM4.lt).trans bM4
    bA := (hb4.block _ bA3.lt).trans bA3
    cM := by
      rcases HM.out with h0 | ⟨b, off, h1, h2, h3⟩
      · exact .inl h0
      · exact .inr ⟨b, off, h1, Nat.lt_of_lt_of_le h2 hB35.size, fun j hj => (hB35.cell (p := ⟨b, off + j, none⟩) h2).trans (h3 j hj)⟩
    cA := by
      rcases HU.out with h0 | ⟨b, off, h1, h2, h3⟩
      · exact .inl h0
      · exact .inr ⟨b, off, h1, Nat.lt_of_lt_of_le h2 hB35.size, fun j hj => (hB35.cell (p := ⟨b, off + j, none⟩) h2).trans (h3 j hj)⟩ }
  have hst5 := hst.mono ((Below.refl _ w4).alloc (Nat.le_refl _) (.cells #[.int .i64 0] 3))
  have bN5 := Boxed.new w4 3 (.int .i64 0)
  generalize w3.heap.size + 1 = aB at *
  generalize w3.heap.size = mB at *
  clear hb1 hb2 hb3 hb4 hB1 hB2 hB3 hB4 hB5 hB34 hB35 bS1 bR1 bM4 bA3 hst hSS HM HU hv3 hm3 hAI hRI
  gi_wp2_with fail
  refine wpIn_loop (InvR l w stop n mB aB am au cm cu Bs Ps) muR ?_ ?_
  · exact InvR.mk 0 w4.heap.size [] _ (by omega) hst5 bN5 rfl List.nodup_nil (fun D h => by cases h) rfl
  · clear hst5 bN5
    rintro a W ⟨r, rB, Dl, u, hr, hst, hrB, hDl, hnd, hDs, rfl⟩
    have hcR := hrB.cell
    by_cases hr2 : r = 2
    · subst hr2
      obtain ⟨D1, D0, rfl⟩ : ∃ D1 D0, Dl = [D1, D0] := by
        match Dl, hDl with
        | [D1, D0], _ => exact ⟨D1, D0, rfl⟩
      obtain ⟨h1, g1⟩ := hDs D1 (by simp)
      obtain ⟨h0, g0⟩ := hDs D0 (by simp)
      have hne : D1 ≠ D0 := by simpa using hnd
      have hcB := hst.bR.cell
      have hfB := hst.bR.frozen
      have hb9 := (hst.base.trans ((Below.refl w.heap.size W).setCell (p := ⟨w.heap.size + 1, 0, none⟩) (by simp) (.bool true)))
      have bR9 := hst.bR.set (.bool true)
      have k1 := (KeepsOthers.setCell W ⟨w.heap.size + 1, 0, none⟩ (.bool true)).same D1 _ h1 rfl
      have k0 := (KeepsOthers.setCell W ⟨w.heap.size + 1, 0, none⟩ (.bool true)).same D0 _ h0 rfl
      gi_wp2
      refine ⟨by simp, .inl ⟨_, _, rfl, run_takeDeferred k1, ?_⟩⟩
      have k0' : ((W.setCell ⟨w.heap.size + 1, 0, none⟩ (.bool true)).putObj D1 (.deferred none)).heap[D0]? = some (.deferred (some [])) := (World.putObj_heap_other hne.symm).trans k0
      refine ⟨by simp, .inl ⟨_, _, rfl, run_takeDeferred k0', ?_⟩⟩
      have n1 := boxed_ne bR9 k1
      have n0 := boxed_ne bR9 k0
      have c9 : (((W.setCell ⟨w.heap.size + 1, 0, none⟩ (.bool true)).putObj D1 (.deferred none)).putObj D0 (.deferred none)).cell? ⟨w.heap.size + 1, 0, none⟩ = some (.bool true) := ((World.cell?_of_block (World.putObj_heap_other n0)).trans (World.cell?_of_block (World.putObj_heap_other n1))).trans bR9.cell
      refine ⟨.bool true, ?_, rfl, (hb9.trans (belowK_b (w := w) (Nat.le_refl _) _ D1 _ _ g1 k1 rfl rfl)).trans (belowK_b (w := w) (Nat.le_refl _) _ D0 _ _ g0 k0' rfl rfl)⟩
      simp [results, Try.results5, go_sem, c9]
    · have hr1 : r < 2 := by omega
      have hri : (r : Int) < 2 := by omega
      gi_wp2_with (refine ⟨trivial, ?_⟩; gi_at_call 19; refine (each_any _ l _).mono ?_; rintro e w' ⟨rfl, rfl⟩)
      obtain ⟨W0, hW0⟩ : ∃ W0, (W.alloc (.cells #[.int .i64 0] 3)).alloc (.cells #[.string (S l)] 9) = W0 := ⟨_, rfl⟩
      have bI : Boxed W0 W.heap.size 3 (.int .i64 0) := by rw [← hW0]; exact (Boxed.new W 3 (.int .i64 0)).alloc _
      have bX : Boxed W0 (W.heap.size + 1) 9 (.string (S l)) := by
        rw [← hW0]
        have h := Boxed.new (W.alloc (.cells #[.int .i64 0] 3)) 9 (.string (S l))
        rw [World.size_alloc] at h
        exact h
      have hB0 : Below W.heap.size W W0 := by
        rw [← hW0]
        exact ((Below.refl _ W).alloc (Nat.le_refl _) _).alloc (by simp) _
      have hs0 : W0.heap.size = W.heap.size + 2 := by rw [← hW0]; simp
      rw [show World.alloc (World.alloc W (.cells #[.int .i64 0] 3)) (.cells #[.string (S l)] 9) = W0 from hW0]
      clear hW0
      refine wpIn_rangeFunc_ownG rfl (by omega) (gf := 25) (lb := #[.pointer (some ⟨W.heap.size + 1, 0, none⟩)]) rfl trivial (enters_of Try.func25 (by kernel_rfl) rfl)
        (each_stops _ (by omega) (W.heap.size + 1) l (by omega) W0 bX) keepBox_t (keepBox_b (by omega)) (Below.refl _ _) (fun _ => rfl)
        (fun pre W' => (Boxed W' W.heap.size 3 (.int .i64 (pre.length : Nat)) ∧ pre <+: scan 0 l) ∧ Below W.heap.size W W')
        (fun c pre W' => (c = .ret ∧ ¬ (pre <+: scan 0 l)) ∨ (c = .exit 2 ∧ (r = 0 ∧ (pre.length : Int) = stop) ∧ Boxed W' W.heap.size 3 (.int .i64 (pre.length : Nat)) ∧ Below W.heap.size W W'))
        (OwnFrom.and (OwnFrom.and (Own.from (boxed_own _ _ (fun pre : List (Nat × List UInt8) => .int .i64 (pre.length : Nat))) _) (ownFrom_pure _ (fun pre : List (Nat × List UInt8) => pre <+: scan 0 l))) (ownFrom_below (by omega) (by omega)))
        (fun c => fun s X Y row hs hg hrow => hs.imp id (fun h => ⟨h.1, h.2.1, Own.from (boxed_own W.heap.size 3 (fun pre : List (Nat × List UInt8) => .int .i64 (pre.length : Nat))) _ s X Y row h.2.2.1 hg hrow, ownFrom_below (β := Unit) (by omega) (by omega) () X Y row h.2.2.2 hg hrow⟩))
        ⟨⟨bI, List.nil_prefix⟩, hB0⟩
        (fun x => { tmps := #[.string (S l), .int .i64 stop, u 2, .pointer (some ⟨w.heap.size, 0, none⟩), .pointer (some ⟨w.heap.size + 1, 0, none⟩), u 5, u 6, u 7, .pointer (some ⟨mB, 0, none⟩), .pointer (some ⟨aB, 0, none⟩), u 10, u 11, .pointer (some ⟨rB, 0, none⟩), .pointer (some ⟨W.heap.size, 0, none⟩), .int .i64 x.1, .string (S x.2), u 16, u 17, u 18, u 19, u 20, u 21, u 22, u 23, u 24, u 25, u 26, u 27, u 28, u 29, u 30, u 31, u 32, u 33, u 34, u 35, u 36, u 37, u 38, u 39, u 40, u 41, u 42, u 43, u 44, .int .i64 r, .bool true, u 47, u 48, .string (S l), .func (.func 25) #[] #[.pointer (some ⟨W.heap.size + 1, 0, none⟩)], .int .i64 x.1, .string (S x.2), u 53, u 54, u 55, u 56, u 57, u 58, u 59, u 60, u 61, u 62, u 63, u 64, u 65, u 66, u 67, u 68, u 69, u 70, u 71, u 72, u 73, u 74, u 75, u 76, u 77, u 78, u 79, u 80, u 81, u 82, u 83, u 84, u 85, u 86, u 87, u 88, u 89, u 90, u 91, u 92, u 93, u 94, u 95], defers := [] }) ?assign ?body ?done ?stop
      case assign =>
        intro lp x W' K hK
        simp only [encs]
        gi_wp2
        exact hK
      case body =>
        rintro lp pre ⟨x1, x2⟩ W' ⟨⟨hI, hpre⟩, hB⟩ hlt
        have st := hst.mono hB
        have hrB' : Boxed W' rB 3 (.int .i64 r) := (hB.block rB hrB.lt).trans hrB
        have hix := prefix_snoc (x := (x1, x2)) hpre hlt
        have hkb : pre.length < Bs.length := by rw [HBL.out, HN.out]; exact hlt
        have hkp : pre.length < Ps.length := by rw [HPL.out, HN.out]; exact hlt
        have hkn : pre.length < n := by rw [HN.out]; exact hlt
        have hBsk : Bs[pre.length] = (scan 0 l)[pre.length].2 := by
          rw [List.getElem_of_eq HBS.out hkb, List.getElem_map]
        have hPsk : Ps[pre.length] = (scan 0 l)[pre.length].1 := by
          rw [List.getElem_of_eq HPS.out hkp, List.getElem_map]
        rcases st.cM with h0 | ⟨bm, om, hamE, hbm, hcm⟩
        · rw [h0] at hkb; simp at hkb
        rcases st.cA with h0 | ⟨ba, oa, hauE, hba, hca⟩
        · rw [h0] at hkp; simp at hkp
        have c1 := hca pre.length hkp
        have c2 := hcm pre.length hkb
        obtain ⟨P, hP⟩ : ∃ P, P = Ps[pre.length] := ⟨_, rfl⟩
        obtain ⟨B, hB2⟩ : ∃ B, B = Bs[pre.length] := ⟨_, rfl⟩
        rw [← hP] at c1 hPsk
        rw [← hB2] at c2 hBsk
        have hix2 : pre ++ [(x1, x2)] <+: scan 0 l ↔ x1 = P ∧ x2 = B := by
          rw [hix, hPsk, hBsk]
          constructor
          · intro h; rw [← h]; exact ⟨rfl, rfl⟩
          · rintro ⟨h1, h2⟩; rw [h1, h2]
        have cMb := st.bM.cell
        have cAb := st.bA.cell
        rw [hamE] at cMb
        rw [hauE] at cAb
        have cSb := st.bS.cell
        have cRb := hrB'.cell
        have cRes := st.bR.cell
        have fRes := st.bR.frozen
        have cI := hI.cell
        have fI := hI.frozen
        have bNE : w.heap.size + 1 < W.heap.size := hst.bR.lt
        have bRB : rB < W.heap.size := hrB.lt
        have bNS : w.heap.size < W.heap.size := hst.bS.lt
        have hki : ((pre.length : Nat) : Int) < (n : Int) := by omega
        have ST := Lib.hid st
        have HI := Lib.hid hI
        have HBW := Lib.hid hB
        have HST := Lib.hid hst
        have hsz := hB.size
        clear hca hcm hP hB2 hPsk hBsk hix hkb hkp hbm hba st hI hst hB hrB hrB' hDs
        by_cases h1 : x1 = P
        · subst h1
          by_cases h2 : x2 = B
          · subst h2
            have hq : ((S x2).toList == (S x2).toList) = true := str_eq rfl
            have HPRE := Lib.hid (hix2.2 ⟨rfl, rfl⟩)
            clear hix2
            have hlen : (((pre ++ [(x1, x2)]).length : Nat) : Int) = (pre.length : Int) + 1 := by simp
            have hpost : Boxed (W'.setCell ⟨W.heap.size, 0, none⟩ (.int .i64 ((pre.length : Int) + 1))) W.heap.size 3 (.int .i64 ((pre ++ [(x1, x2)]).length : Nat)) := by
              rw [hlen]
              exact HI.out.set _
            have hpb : Below W.heap.size W (W'.setCell ⟨W.heap.size, 0, none⟩ (.int .i64 ((pre.length : Int) + 1))) := HBW.out.setCell (p := ⟨W.heap.size, 0, none⟩) (Nat.le_refl _) _
            have cR2 : (W'.setCell ⟨W.heap.size, 0, none⟩ (.int .i64 ((pre.length : Int) + 1))).cell? ⟨rB, 0, none⟩ = some (.int .i64 r) := (World.cell?_of_block (Below.heap_setCell _ _ _ _ (by simp; omega))).trans cRb
            have cS2 : (W'.setCell ⟨W.heap.size, 0, none⟩ (.int .i64 ((pre.length : Int) + 1))).cell? ⟨w.heap.size, 0, none⟩ = some (.int .i64 stop) := (World.cell?_of_block (Below.heap_setCell _ _ _ _ (by simp; omega))).trans cSb
            have HPO := Lib.hid hpost
            have HPB := Lib.hid hpb
            have HLEN := Lib.hid hlen
            clear hpost hpb hlen cRb cSb cRes fRes
            by_cases hr0 : r = 0
            · have hbr : ((r : Int) == 0) = true := by simp [hr0]
              by_cases hs : (pre.length : Int) + 1 = stop
              · have hbs : (((pre.length : Int) + 1) == stop) = true := by simp [hs]
                have HS := Lib.hid hs
                have HR := Lib.hid hr0
                clear hs hr0
                gi_wp2
                exact ⟨(KeepsOthers.setCell _ _ _).from _, .inr ⟨rfl, ⟨HR.out, by rw [HLEN.out]; exact HS.out⟩, HPO.out, HPB.out⟩⟩
              · have hbs : (((pre.length : Int) + 1) == stop) = false := by simp [hs]
                clear hs hr0
                gi_wp2
                exact ⟨(KeepsOthers.setCell _ _ _).from _, Below.heap_setCell _ _ _ _ (by simp), ⟨HPO.out, HPRE.out⟩, HPB.out⟩
            · have hbr : ((r : Int) == 0) = false := by simp [hr0]
              clear hr0
              gi_wp2
              exact ⟨(KeepsOthers.setCell _ _ _).from _, Below.heap_setCell _ _ _ _ (by simp), ⟨HPO.out, HPRE.out⟩, HPB.out⟩
          · have hq : ((S x2).toList == (S B).toList) = false := str_ne (fun h => h2 (S_inj h))
            have HNO := Lib.hid (fun h => h2 (hix2.1 h).2)
            clear hix2 h2
            gi_wp2
            exact ⟨(KeepsOthers.setCell _ _ _).from _, .inl ⟨rfl, HNO.out⟩⟩
        · have hq : ((x1 : Int) != (P : Int)) = true := by simp; omega
          have HNO := Lib.hid (fun h => h1 (hix2.1 h).1)
          clear hix2 h1
          gi_wp2
          exact ⟨(KeepsOthers.setCell _ _ _).from _, .inl ⟨rfl, HNO.out⟩⟩
      case done =>
        rintro D ys W' hD rfl ⟨⟨hI, _⟩, hB⟩ hK
        have st := hst.mono hB
        have hrB' : Boxed W' rB 3 (.int .i64 r) := (hB.block rB hrB.lt).trans hrB
        have hDlt := (Array.getElem?_eq_some_iff.1 hK).1
        have hDs2 : ∀ E ∈ D :: Dl, (W'.alloc (.cells #[.int .i64 ((r : Int) + 1)] 3)).heap[E]? = some (.deferred (some [])) ∧ w.heap.size ≤ E := by
          intro E hE
          rcases List.mem_cons.1 hE with rfl | hE
          · exact ⟨(Below.heap_alloc W' _ E hDlt).trans hK, by have := hst.bR.lt; omega⟩
          · have hEl := (Array.getElem?_eq_some_iff.1 (hDs E hE).1).1
            have hEk := (hB.block E hEl).trans (hDs E hE).1
            exact ⟨(Below.heap_alloc W' _ E (Array.getElem?_eq_some_iff.1 hEk).1).trans hEk, (hDs E hE).2⟩
        have hDn : ∀ E ∈ Dl, E ≠ D := fun E hE => by have := (Array.getElem?_eq_some_iff.1 (hDs E hE).1).1; omega
        have bNew : Boxed (W'.alloc (.cells #[.int .i64 ((r : Int) + 1)] 3)) W'.heap.size 3 (.int .i64 (r + 1 : Nat)) := Boxed.new W' 3 (.int .i64 ((r : Int) + 1))
        rw [← HN.out] at hI
        have cI := hI.cell
        have cMb := st.bM.cell
        have cRb := hrB'.cell
        have fRb := hrB'.frozen
        have hsz := hB.size
        have bRB : rB < W.heap.size := hrB.lt
        have ST := Lib.hid st
        clear st hst hB hI hrB' hDs
        gi_wp2
        refine ⟨InvR.mk (r + 1) W'.heap.size (D :: Dl) _ (by omega) (ST.out.mono ((Below.refl _ W').alloc (Nat.le_refl _) _)) bNew (by simp [hDl]) (List.nodup_cons.2 ⟨fun h => hDn D h rfl, hnd⟩) hDs2 rfl, ?_⟩
        have cN := bNew.cell
        unfold muR
        simp [hcR]
        omega
      case stop =>
        rintro D c pre W' hD hsp (⟨rfl, hno⟩ | ⟨rfl, ⟨hr0, hps⟩, hI, hB⟩) hK
        · exact absurd hsp hno
        · have st := hst.mono hB
          have hrB' : Boxed W' rB 3 (.int .i64 r) := (hB.block rB hrB.lt).trans hrB
          have hDlt := (Array.getElem?_eq_some_iff.1 hK).1
          have hDs2 : ∀ E ∈ D :: Dl, (W'.alloc (.cells #[.int .i64 ((r : Int) + 1)] 3)).heap[E]? = some (.deferred (some [])) ∧ w.heap.size ≤ E := by
            intro E hE
            rcases List.mem_cons.1 hE with rfl | hE
            · exact ⟨(Below.heap_alloc W' _ E hDlt).trans hK, by have := hst.bR.lt; omega⟩
            · have hEl := (Array.getElem?_eq_some_iff.1 (hDs E hE).1).1
              have hEk := (hB.block E hEl).trans (hDs E hE).1
              exact ⟨(Below.heap_alloc W' _ E (Array.getElem?_eq_some_iff.1 hEk).1).trans hEk, (hDs E hE).2⟩
          have hDn : ∀ E ∈ Dl, E ≠ D := fun E hE => by have := (Array.getElem?_eq_some_iff.1 (hDs E hE).1).1; omega
          have bNew : Boxed (W'.alloc (.cells #[.int .i64 ((r : Int) + 1)] 3)) W'.heap.size 3 (.int .i64 (r + 1 : Nat)) := Boxed.new W' 3 (.int .i64 ((r : Int) + 1))
          have cI := hI.cell
          have cMb := st.bM.cell
          have cSb := st.bS.cell
          have cRb := hrB'.cell
          have fRb := hrB'.frozen
          have hsz := hB.size
          have bRB : rB < W.heap.size := hrB.lt
          have hbr : ((r : Int) == 1) = false := by simp [hr0]
          have hbs : ((pre.length : Int) != stop) = false := by simp [hps]
          have ST := Lib.hid st
          clear st hst hB hI hrB' hDs hr0 hps
          by_cases hpn : pre.length = n
          · have hbn : ((pre.length : Int) != (n : Int)) = false := by simp [hpn]
            clear hpn
            gi_wp2
            refine ⟨InvR.mk (r + 1) W'.heap.size (D :: Dl) _ (by omega) (ST.out.mono ((Below.refl _ W').alloc (Nat.le_refl _) _)) bNew (by simp [hDl]) (List.nodup_cons.2 ⟨fun h => hDn D h rfl, hnd⟩) hDs2 rfl, ?_⟩
            have cN := bNew.cell
            unfold muR
            simp [hcR]
            omega
          · have hbn : ((pre.length : Int) != (n : Int)) = true := by simp; omega
            clear hpn
            gi_wp2
            refine ⟨InvR.mk (r + 1) W'.heap.size (D :: Dl) _ (by omega) (ST.out.mono ((Below.refl _ W').alloc (Nat.le_refl _) _)) bNew (by simp [hDl]) (List.nodup_cons.2 ⟨fun h => hDn D h rfl, hnd⟩) hDs2 rfl, ?_⟩
            have cN := bNew.cell
            unfold muR
            simp [hcR]
            omega

theorem sealall_any (l : List UInt8) (hl : l.length ≤ 17592186044416) (stop : Int) (w : World) :
    Calls Try.prog 5 #[.string (S l), .int .i64 stop] w fun e W' => e = .returned (.bool true) ∧ Below w.heap.size w W' :=
  callsIn_wide.1 (sealall_in l hl stop w)
end Go.Proofs.Ytpeogcjakojjhaa.sl
