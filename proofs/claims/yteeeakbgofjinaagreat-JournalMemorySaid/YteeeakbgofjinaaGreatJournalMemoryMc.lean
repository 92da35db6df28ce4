/-
  What the law's walk stands on, part 3 of 6: the texts JrRd3, JrLay0, JrLay1, JrLay2, JrLay3, JrLay4, JrRd4, DkRef, DkRef2, DkRef3, Mp, DkP1, DkP2, DkRef4, DkP3, DkP4, DkRef5, one behind the other.
-/
import Derived.Lib.SliceRun
import Derived.ArgAppend
import Derived.Deep.RegionLaw
import Derived.Lib.AtoiErrMem
import Derived.Deep.RegionHeld3
import Derived.BigRegion
import Derived.Maps.OwnSet
import Derived.Maps.OwnOps
import Derived.Maps.RangeWalk
import Derived.Sort.KeysCollected
import Derived.StringKeys
import Derived.OwnWalk
import Derived.Deep.QuietTactic
import Derived.BigQuiet
import Derived.Test.YteeeakbgofjinaaGreatJournalMemoryMb
/-! JrRd3 -/
namespace Go.Proofs.YteeeakbgofjinaaGreat.jr
set_option linter.unusedVariables false
open Go.RowKit
open fl (S S_size S_append)
open rw (Arr But Own below_box bnext below_drew below_drewN)

/-- While a record is read: both readers. -/
structure Hx (w W : World) (B rb lb : Nat) (l : Bs) (cv ev : Value) (s : St) (based : Bool) (m : Nat) (o : Option Bs) : Prop where
  z : Rz0 W B rb (.pointer (some ⟨lb, 0, none⟩)) cv ev s based m
  p : PRd W lb l o
  b : Below B w W
  lb : B ≤ lb
section
variable {w W W' : World} {B rb lb : Nat} {l : Bs} {cv ev : Value} {s : St} {based : Bool} {m : Nat} {o o' : Option Bs}
theorem Hx.le (h : Hx w W B rb lb l cv ev s based m o) : B ≤ W.heap.size := Nat.le_trans h.z.le (Nat.le_of_lt h.z.lt)
theorem Hx.next (h : Hx w W B rb lb l cv ev s based m o) (k : But lb W W') (hp : PRd W' lb l o') : Hx w W' B rb lb l cv ev s based m o' := ⟨h.z.but h.p k, hp, h.b.trans (k.below h.le h.lb), h.lb⟩
theorem Hx.below (h : Hx w W B rb lb l cv ev s based m o) (k : Below W.heap.size W W') : Hx w W' B rb lb l cv ev s based m o := ⟨h.z.below k, h.p.below k, h.b.trans (k.mono h.le), h.lb⟩
theorem Hx.set (h : Hx w W B rb lb l cv ev s based m o) (j : Nat) (u : Value) {s' : St} {based' : Bool} {m' : Nat} (he : (rdC (.pointer (some ⟨lb, 0, none⟩)) cv ev s based m).setIfInBounds j u = rdC (.pointer (some ⟨lb, 0, none⟩)) cv ev s' based' m') (hc : s'.conf = s.conf) (hl : s'.l = s.l) :
    Hx w (W.setCell ⟨rb, j, none⟩ u) B rb lb l cv ev s' based' m' o := ⟨h.z.set j u he hc hl, h.p.set h.z j u, h.b.trans (h.z.since j u), h.lb⟩
theorem Hx.out (h : Hx w W B rb lb l cv ev s based m o) : ROut B rb lb l w (some ⟨s, based, m, o⟩) (.returned (.tuple #[])) W := ⟨h.b, rfl, ⟨cv, ev, h.z⟩, h.p⟩
theorem Hx.num (hl : l.length ≤ 281474976710656) (h : Hx w W B rb lb l cv ev s based m o) :
    Calls Tryz.prog 158 #[.pointer (some ⟨lb, 0, none⟩)] W fun e w' => e = .returned (.int .u64 (vN o : Nat)) ∧ But lb W w' ∧ Hx w w' B rb lb l cv ev s based m (nN o) :=
  (prnum_any lb l o hl W h.p).mono fun _ _ ⟨a, b, c⟩ => ⟨a, b, h.next b c⟩
theorem Hx.count (hl : l.length ≤ 281474976710656) (k : Nat) (hk : k ≤ 1000000) (h : Hx w W B rb lb l cv ev s based m o) :
    Calls Tryz.prog 135 #[.pointer (some ⟨lb, 0, none⟩), .int .i64 (k : Nat)] W fun e w' => e = .returned (.int .i64 (vC k o : Nat)) ∧ But lb W w' ∧ Hx w w' B rb lb l cv ev s based m (nC k o) :=
  (prcount_any lb l o k hk hl W h.p).mono fun _ _ ⟨a, b, c⟩ => ⟨a, b, h.next b c⟩
theorem Hx.text (hl : l.length ≤ 281474976710656) (k : Nat) (hk : k ≤ 1000000) (h : Hx w W B rb lb l cv ev s based m o) :
    Calls Tryz.prog 160 #[.pointer (some ⟨lb, 0, none⟩), .int .i64 (k : Nat)] W fun e w' => e = .returned (.string (S (vT k o))) ∧ But lb W w' ∧ Hx w w' B rb lb l cv ev s based m (nT k o) :=
  (prtext_any lb l o k hk hl W h.p).mono fun _ _ ⟨a, b, c⟩ => ⟨a, b, h.next b c⟩
end
/-- What was there when the reading of this record began. -/
structure Old (w : World) (rb lb : Nat) (cv ev : Value) : Prop where
  rb : rb < w.heap.size
  lb : lb < w.heap.size
  c : ∀ q, cv.ownBlock = some q → q < w.heap.size
  e : ∀ q, ev.ownBlock = some q → q < w.heap.size
theorem Hx.old {w : World} {B rb lb : Nat} {l : Bs} {cv ev : Value} {s : St} {based : Bool} {m : Nat} {o : Option Bs} (h : Hx w w B rb lb l cv ev s based m o) : Old w rb lb cv ev := ⟨h.z.lt, h.p.lt, fun _ hq => own_lt h.z.c hq, fun _ hq => own_lt h.z.l hq⟩
/-- Another block, a new one, turns. -/
theorem Hx.far {w W W' : World} {B rb lb q : Nat} {l : Bs} {cv ev : Value} {s : St} {based : Bool} {m : Nat} {o : Option Bs} (h : Hx w W B rb lb l cv ev s based m o) (ho : Old w rb lb cv ev) (hq : w.heap.size ≤ q) (hs : w.heap.size ≤ W.heap.size) (k : But q W W') : Hx w W' B rb lb l cv ev s based m o := by
  have h1 := ho.rb
  have h2 := ho.lb
  have hb : ∀ i, i < w.heap.size → W'.heap[i]? = W.heap[i]? := fun i hi => k.block i (by omega) (by omega)
  exact ⟨⟨h.z.le, h.z.a.of (hb rb h1), own_of h.z.c fun i hi => hb i (ho.c i hi), own_of h.z.l fun i hi => hb i (ho.e i hi)⟩, h.p.of (hb lb h2), h.b.trans (k.below h.le (by have := h.z.le; omega)), h.lb⟩
theorem Hx.start {w : World} {B rb lb : Nat} {l : Bs} {s : St} {based : Bool} {m : Nat} {o : Option Bs} (h : Rz w B rb (.pointer (some ⟨lb, 0, none⟩)) s based m) (hp : PRd w lb l o) (hlb : B ≤ lb) : ∃ cv ev, Hx w w B rb lb l cv ev s based m o := by
  obtain ⟨cv, ev, h⟩ := h
  exact ⟨cv, ev, h, hp, Below.refl _ _, hlb⟩

set_option maxHeartbeats 4000000 in
set_option maxRecDepth 100000 in
theorem hard_any (B rb lb : Nat) (l : Bs) (x : Pr) (hl : l.length ≤ 281474976710656) (hlb : B ≤ lb) (w : World) (h : Rz w B rb (.pointer (some ⟨lb, 0, none⟩)) x.s x.based x.m) (hp : PRd w lb l x.o) :
    Calls Tryz.prog 143 #[.pointer (some ⟨rb, 0, none⟩)] w (ROut B rb lb l w (phard x)) := by
  obtain ⟨s, based, m, o⟩ := x
  simp only at h hp
  have hW := whole_any w h
  obtain ⟨cv, ev, X0⟩ := Hx.start h hp hlb
  unfold phard
  simp only
  by_cases h0 : based = true ∧ m = 0
  · rw [if_pos h0]
    rw [decide_eq_true h0] at hW
    have hm := must_yes rb w
    have HX := Lib.hid X0
    have HE : Hid (∀ W, Hx w W B rb lb l cv ev s based m (nN (nC 5 (nN o))) → ROut B rb lb l w (some ⟨{ s with h := ⟨vN o, vC 5 (nN o), vN (nC 5 (nN o))⟩ }, based, m, nN (nC 5 (nN o))⟩) (.returned (.tuple #[])) (((W.setCell ⟨rb, 1, none⟩ (.int .u64 (vN o : Nat))).setCell ⟨rb, 2, none⟩ (.int .i64 (vC 5 (nN o) : Nat))).setCell ⟨rb, 3, none⟩ (.int .u64 (vN (nC 5 (nN o)) : Nat))) ∧ World.cell? (((W.setCell ⟨rb, 1, none⟩ (.int .u64 (vN o : Nat))).setCell ⟨rb, 2, none⟩ (.int .i64 (vC 5 (nN o) : Nat))).setCell ⟨rb, 3, none⟩ (.int .u64 (vN (nC 5 (nN o)) : Nat))) ⟨rb, 0, none⟩ = some (.pointer (some ⟨lb, 0, none⟩))) := fun W k => by
      have y1 := k.set 1 (.int .u64 (vN o : Nat)) (s' := { s with h := ⟨vN o, s.h.vote, s.h.life⟩ }) (based' := based) (m' := m) rfl rfl rfl
      have y2 := y1.set 2 (.int .i64 (vC 5 (nN o) : Nat)) (s' := { s with h := ⟨vN o, vC 5 (nN o), s.h.life⟩ }) (based' := based) (m' := m) rfl rfl rfl
      have y3 := y2.set 3 (.int .u64 (vN (nC 5 (nN o)) : Nat)) (s' := { s with h := ⟨vN o, vC 5 (nN o), vN (nC 5 (nN o))⟩ }) (based' := based) (m' := m) rfl rfl rfl
      exact ⟨y3.out, y3.z.a.cell rfl⟩
    have HC : Hid (∀ W o, Hx w W B rb lb l cv ev s based m o → W.cell? ⟨rb, 0, none⟩ = some (.pointer (some ⟨lb, 0, none⟩)) ∧ W.cell? ⟨rb, 1, none⟩ = some (.int .u64 (s.h.term : Nat)) ∧ W.cell? ⟨rb, 2, none⟩ = some (.int .i64 (s.h.vote : Nat)) ∧ W.cell? ⟨rb, 3, none⟩ = some (.int .u64 (s.h.life : Nat)) ∧ W.frozen? ⟨rb, 1, none⟩ = false ∧ W.frozen? ⟨rb, 2, none⟩ = false ∧ W.frozen? ⟨rb, 3, none⟩ = false) :=
      fun W o k => ⟨k.z.a.cell rfl, k.z.a.cell rfl, k.z.a.cell rfl, k.z.a.cell rfl, k.z.a.frozen 1, k.z.a.frozen 2, k.z.a.frozen 3⟩
    have HN := Lib.hid fun W => fun (k : Hx w W B rb lb l cv ev s based m o) => Hx.num hl k
    have HK : Hid (∀ W, Hx w W B rb lb l cv ev s based m (nN o) → Calls Tryz.prog 135 #[.pointer (some ⟨lb, 0, none⟩), .int .i64 5] W fun e w' => e = .returned (.int .i64 (vC 5 (nN o) : Nat)) ∧ But lb W w' ∧ Hx w w' B rb lb l cv ev s based m (nC 5 (nN o))) := fun W k => Hx.count hl 5 (by decide) k
    have HN2 := Lib.hid fun W => fun (k : Hx w W B rb lb l cv ev s based m (nC 5 (nN o))) => Hx.num hl k
    generalize vN o = v1 at *
    generalize vC 5 (nN o) = v2 at *
    generalize vN (nC 5 (nN o)) = v3 at *
    generalize nN (nC 5 (nN o)) = o3 at *
    generalize nC 5 (nN o) = o2 at *
    generalize nN o = o1 at *
    clear h hp X0 h0
    go_enter Tryz.func143, Tryz.ntmps143
    go_wp2_with fail
    refine hW.mono ?_
    rintro e w2 ⟨rfl, rfl⟩
    clear hW
    go_wp2_with fail
    refine hm.mono ?_
    rintro e w3 ⟨rfl, rfl⟩
    clear hm
    go_upto_region 1 with (fail)
    have X1 := Lib.hid (HX.out.below (below_drew (Below.refl _ _)))
    have k0 := (HC.out _ _ X1.out).1
    clear HX
    go_region_held3 (fun W => W.cell? ⟨rb, 0, none⟩ = some (.pointer (some ⟨lb, 0, none⟩)))
      (first | (with_reducible exact k0) | (with_reducible exact k1) | (with_reducible exact k2) | (with_reducible exact k3) | (with_reducible exact k9))
      (first | ((go_at_call 158; with_reducible refine (HN.out _ X1.out).mono ?_; rintro e w4 ⟨rfl, -, x4⟩; have X2 := Lib.hid x4; have k1 := (HC.out _ _ x4).1; clear x4)) | ((go_at_call 135; with_reducible refine (HK.out _ X2.out).mono ?_; rintro e w5 ⟨rfl, -, x5⟩; have X3 := Lib.hid x5; have k2 := (HC.out _ _ x5).1; clear x5)) | ((go_at_call 158; with_reducible refine (HN2.out _ X3.out).mono ?_; rintro e w6 ⟨rfl, -, x6⟩; obtain ⟨k3, y1, y2, y3, y4, y5, y6⟩ := HC.out _ _ x6; have H6 := Lib.hid (HE.out _ x6).1; have k9 := (HE.out _ x6).2; clear x6)))
    have H7 := H6
    go_wp2
    exact bodyPost_end (results_none rfl _ _ _) rfl H7.out
  · rw [if_neg h0]
    rw [decide_eq_false h0] at hW
    have hm := must_no rb w
    have HE : Hid (ROut B rb lb l w none (.panicked wrongs) w) := ⟨Below.refl _ _, rfl⟩
    clear h hp X0 h0
    go_enter Tryz.func143, Tryz.ntmps143
    go_wp2_with fail
    refine hW.mono ?_
    rintro e w2 ⟨rfl, rfl⟩
    clear hW
    go_wp2_with fail
    refine hm.mono ?_
    rintro e w3 ⟨rfl, rfl⟩
    clear hm
    go_wp2_with fail
    exact bodyPost_panic rfl HE.out
end Go.Proofs.YteeeakbgofjinaaGreat.jr
/-! JrLay0 -/
namespace Go.Proofs.YteeeakbgofjinaaGreat.jr
set_option linter.unusedVariables false
open Go.RowKit
open rw (Arr But Own below_box cellsG cellsG_length cellsG_append cellsG_cell cellsG_get)

section
variable {α : Type} (s : rw.Sh α)
theorem cellsG_take (l : List α) (i : Nat) (hi : i ≤ l.length) : (cellsG s l).take (i * s.k) = cellsG s (l.take i) := by
  have h1 : cellsG s l = cellsG s (l.take i) ++ cellsG s (l.drop i) := by rw [← cellsG_append, List.take_append_drop]
  have h2 : (cellsG s (l.take i)).length = i * s.k := by rw [cellsG_length, List.length_take, Nat.min_eq_left hi]
  rw [h1, ← h2, List.take_left]
/-- What a row in memory is. -/
structure RowAt (w : World) (B g cap : Nat) (cur : Array Value) (l : List α) : Prop where
  b : B ≤ g
  h : w.heap[g]? = some (.cells cur s.t (0, 0))
  n : l.length ≤ cap
  m : cap ≤ maxLen
  z : cur.size = cap * s.k
  t : cur.toList.take (l.length * s.k) = cellsG s l
theorem RowAt.own {w : World} {B g cap : Nat} {cur : Array Value} {l : List α} (h : RowAt s w B g cap cur l) : Own s w B (.slice (some ⟨g, 0, none⟩) l.length cap) l :=
  ⟨cellsG_length s l, .inr ⟨g, cap, cur, rfl, h.b, h.h, h.n, h.m, h.z, h.t⟩⟩
theorem RowAt.of {w : World} {B : Nat} {v : Value} {l : List α} (h : Own s w B v l) : (v = .slice none 0 0 ∧ l = []) ∨ ∃ g cap cur, v = .slice (some ⟨g, 0, none⟩) l.length cap ∧ RowAt s w B g cap cur l := by
  obtain ⟨_, ⟨e, h0⟩ | ⟨g, cap, cur, e, h1, h2, h3, h4, h5, h6⟩⟩ := h
  · exact .inl ⟨e, List.length_eq_zero_iff.1 h0⟩
  · exact .inr ⟨g, cap, cur, e, h1, h2, h3, h4, h5, h6⟩
theorem RowAt.cut {w : World} {B g cap : Nat} {cur : Array Value} {l : List α} (h : RowAt s w B g cap cur l) (i : Nat) (hi : i ≤ l.length) : RowAt s w B g cap cur (l.take i) := by
  have e : (l.take i).length = i := by rw [List.length_take, Nat.min_eq_left hi]
  have hn := h.n
  refine ⟨h.b, h.h, by omega, h.m, h.z, ?_⟩
  have h1 := cellsG_take s l i hi
  rw [← h.t, List.take_take, Nat.min_eq_left (Nat.mul_le_mul_right _ hi)] at h1
  rw [e]
  exact h1
/-- Where a slice's cells are read. -/
theorem sl_news {w : World} {ad : Addr} {n c : Nat} {l : List α} (h : rw.Sl s w (.slice (some ad) n c) l) : ∀ j y, (cellsG s l)[j]? = some y → w.cell? (ad.add j) = some y := by
  obtain ⟨a, c', e, hc, hr, hn⟩ := h
  cases e
  intro j y hj
  rcases hr with rfl | ⟨b, off, hab, hbw, hcell⟩
  · simp [cellsG] at hj
  · obtain rfl : ad = ⟨b, off, none⟩ := Option.some.inj hab
    have hjl : j < l.length * s.k := by
      rcases Nat.lt_or_ge j (l.length * s.k) with h | h
      · exact h
      · rw [List.getElem?_eq_none (by rw [cellsG_length]; exact h)] at hj; cases hj
    have hk : j / s.k < l.length := Nat.div_lt_of_lt_mul (by rw [Nat.mul_comm]; exact hjl)
    have hm : j % s.k < s.k := Nat.mod_lt _ s.hk
    have e : j / s.k * s.k + j % s.k = j := by rw [Nat.mul_comm]; exact Nat.div_add_mod _ _
    have h1 := cellsG_get s l (j / s.k) hk (j % s.k) hm
    rw [e] at h1
    have h2 := hcell (j / s.k) hk (j % s.k) hm
    rw [Nat.add_assoc, e] at h2
    rw [rw.addr_add, h2, ← h1, hj]
/-- 'append(row, u...)' where there is room: the run, and the row. -/
theorem append_room {w : World} {B g cap : Nat} {cur : Array Value} {l : List α} (h : RowAt s w B g cap cur l) {ad : Addr} {c : Nat} {m : List α} (hu : rw.Sl s w (.slice (some ad) m.length c) m) (hroom : l.length + m.length ≤ cap) :
    ∃ cur', rw.App s (.slice (some ⟨g, 0, none⟩) l.length cap) (.slice (some ad) m.length c) w (.slice (some ⟨g, 0, none⟩) (l.length + m.length) cap) (w.setRow g cur') ∧ RowAt s (w.setRow g cur') B g cap cur' (l ++ m) := by
  obtain ⟨i0, hi, hz0, hz1, hz2⟩ := info_parts s.hi
  have hlen : (cellsG s m).length = m.length * s.k := cellsG_length s m
  have hle : l.length * s.k + m.length * s.k ≤ cur.size := by rw [h.z, ← Nat.add_mul]; exact Nat.mul_le_mul_right _ hroom
  have hfc := run_firstCells_some (P := Tryz.prog) w s.k m.length ad m.length c (cellsG s m) hlen (sl_news s hu)
  have hst := rw.storeCells_free g s.t (0, 0) (cellsG s m) 0 (l.length * s.k) cur w h.h (by rw [hlen]; omega) (cellsG_cell s) (fun j _ hh => by simp at hh)
  simp only [Nat.add_zero] at hst
  rw [hlen] at hst
  refine ⟨(cur.toList.take (l.length * s.k) ++ cellsG s m ++ cur.toList.drop (l.length * s.k + m.length * s.k)).toArray, ?_, ⟨h.b, setRow_heap w g cur _ s.t _ h.h, by rw [List.length_append]; exact hroom, h.m, ?_, ?_⟩⟩
  · unfold rw.App
    simp [Builtin.append_, run_underlying s.hu, sizeOf, typeInfo, hi, hz1, Builtin.lenOf, hroom, hfc, Addr.add_lit, hst]
  · simp only [List.size_toArray, List.length_append, List.length_take, List.length_drop, Array.length_toList, hlen]
    rw [← h.z]
    omega
  · rw [h.t, List.toList_toArray, cellsG_append]
    refine List.take_left' ?_
    rw [List.length_append, List.length_append, cellsG_length, cellsG_length, Nat.add_mul]
/-- 'clear' of what stands behind a row. -/
theorem clear_tail {w : World} {B g cap : Nat} {cur : Array Value} {l : List α} (h : RowAt s w B g cap cur l) (hz1 : ∀ u ∈ s.z.cells.toList, u.oneCell' = true) (hv : ∀ w, (zeroValue s.t).run Tryz.prog w = .ok s.z w) (n c : Nat) (hn : 0 < n) (hroom : l.length + n ≤ cap) :
    ∃ cur', (Builtin.clear_ #[s.st] 0 #[.slice (some ⟨g, l.length * s.k, none⟩) n c]).run Tryz.prog w = .ok (.tuple #[]) (w.setRow g cur') ∧ RowAt s (w.setRow g cur') B g cap cur' l := by
  obtain ⟨m, rfl⟩ : ∃ m, n = m + 1 := ⟨n - 1, by omega⟩
  have hsz : (Builtin.zeroCells s.z.cells (m + 1)).size = (m + 1) * s.k := by rw [size_zeroCells, s.hz]
  have hzl : (Builtin.zeroCells s.z.cells (m + 1)).toList.length = (m + 1) * s.k := (Array.length_toList).trans hsz
  have hle : l.length * s.k + (m + 1) * s.k ≤ cur.size := by rw [h.z, ← Nat.add_mul]; exact Nat.mul_le_mul_right _ hroom
  have hone : ∀ u ∈ (Builtin.zeroCells s.z.cells (m + 1)).toList, u.oneCell' = true := by
    intro u hu
    unfold Builtin.zeroCells at hu
    rw [Array.toList_map, List.mem_map] at hu
    obtain ⟨i, hi, rfl⟩ := hu
    have hk0 := s.hk
    have hlt : i % s.z.cells.size < s.z.cells.size := Nat.mod_lt _ (by rw [s.hz]; exact hk0)
    rw [getElem!_pos s.z.cells _ hlt]
    exact hz1 _ (Array.getElem_mem_toList hlt)
  have hst := rw.storeCells_free g s.t (0, 0) (Builtin.zeroCells s.z.cells (m + 1)).toList 0 (l.length * s.k) cur w h.h (by rw [hzl]; omega) hone (fun j _ hh => by simp at hh)
  simp only [Nat.add_zero] at hst
  rw [hzl] at hst
  refine ⟨(cur.toList.take (l.length * s.k) ++ (Builtin.zeroCells s.z.cells (m + 1)).toList ++ cur.toList.drop (l.length * s.k + (m + 1) * s.k)).toArray, ?_, ⟨h.b, setRow_heap w g cur _ s.t _ h.h, h.n, h.m, ?_, ?_⟩⟩
  · simp [Builtin.clear_, run_underlying s.hu, hv, hst]
  · simp only [List.size_toArray, List.length_append, List.length_take, List.length_drop, Array.length_toList, hsz]
    rw [← h.z]
    omega
  · rw [List.toList_toArray, List.append_assoc, h.t]
    refine List.take_left' ?_
    rw [cellsG_length]
end
end Go.Proofs.YteeeakbgofjinaaGreat.jr
/-! JrLay1 -/
namespace Go.Proofs.YteeeakbgofjinaaGreat.jr
set_option linter.unusedVariables false
open Go.RowKit
open fl (S S_size)
open rw (Arr But Own below_box bnext below_drew below_drewN)

set_option maxRecDepth 100000 in
theorem next_any (b o base n : Nat) (a : Option Addr) (c : Nat) (hb : base + 1 + n < 18446744073709551616) (hn : n ≤ 9223372036854775807) (w : World) (h3 : w.cell? ⟨b, o + 3, none⟩ = some (.int .u64 (base : Nat))) (h6 : w.cell? ⟨b, o + 6, none⟩ = some (.slice a n c)) :
    Calls Tryz.prog 71 #[.pointer (some ⟨b, o, none⟩)] w fun e w' => e = .returned (.int .u64 ((base + 1 + n : Nat) : Int)) ∧ ∃ q, w' = w.drewN q := by
  have hw1 : IntKind.u64.wrap ((base : Int) + 1) = ((base + 1 : Nat) : Int) := by rw [IntWalk.u64_in _ (by omega)]; omega
  have hw2 : IntKind.u64.wrap (n : Int) = (n : Int) := IntWalk.u64_in _ (by omega)
  have hw3 : IntKind.u64.wrap (((base + 1 : Nat) : Int) + (n : Int)) = ((base + 1 + n : Nat) : Int) := by rw [IntWalk.u64_in _ (by omega)]; omega
  obtain ⟨b1, hb1⟩ : ∃ b1, base + 1 = b1 := ⟨_, rfl⟩
  rw [hb1] at hw1 hw3 ⊢
  obtain ⟨b2, hb2⟩ : ∃ b2, b1 + n = b2 := ⟨_, rfl⟩
  rw [hb2] at hw3 ⊢
  have k3 : ∀ q, (w.drewN q).cell? ⟨b, o + 3, none⟩ = some (.int .u64 (base : Nat)) := fun _ => h3
  clear hb1 hb2 hb hn k3
  go_enter Tryz.func71, Tryz.ntmps71
  go_wp2
  go_quiet (fail)
  go_wp2
  go_ret
  exact ⟨rfl, _, rfl⟩
set_option maxRecDepth 100000 in
theorem takes_any (b o base n i : Nat) (a : Option Addr) (c : Nat) (hb : base + 1 + n < 18446744073709551616) (hn : n ≤ 9223372036854775807) (w : World) (h3 : w.cell? ⟨b, o + 3, none⟩ = some (.int .u64 (base : Nat))) (h6 : w.cell? ⟨b, o + 6, none⟩ = some (.slice a n c)) :
    Calls Tryz.prog 69 #[.pointer (some ⟨b, o, none⟩), .int .u64 (i : Nat)] w fun e w' => e = .returned (.bool (decide (base < i ∧ i ≤ base + 1 + n))) ∧ ∃ q, w' = w.drewN q := by
  have hN := next_any b o base n a c hb hn w h3 h6
  by_cases h1 : base < i
  · have hd : decide ((base : Int) < (i : Int)) = true := decide_eq_true (by omega)
    have hd' : decide (base < i) = true := decide_eq_true h1
    by_cases h2 : i ≤ base + 1 + n
    · have hle : decide (i ≤ base + 1 + n) = true := decide_eq_true h2
      rw [decide_eq_true (show base < i ∧ i ≤ base + 1 + n from ⟨h1, h2⟩)]
      generalize base + 1 + n = x at *
      clear h1 h2 hb hn
      go_enter Tryz.func69, Tryz.ntmps69
      go_wp2_with fail
      refine hN.mono ?_
      rintro e w2 ⟨rfl, q, rfl⟩
      go_wp2_with fail
      go_ret
      exact ⟨rfl, q, rfl⟩
    · have hle : decide (i ≤ base + 1 + n) = false := decide_eq_false h2
      rw [decide_eq_false (show ¬ (base < i ∧ i ≤ base + 1 + n) from fun h => h2 h.2)]
      generalize base + 1 + n = x at *
      clear h1 h2 hb hn
      go_enter Tryz.func69, Tryz.ntmps69
      go_wp2_with fail
      refine hN.mono ?_
      rintro e w2 ⟨rfl, q, rfl⟩
      go_wp2_with fail
      go_ret
      exact ⟨rfl, q, rfl⟩
  · have hd' : decide (base < i) = false := decide_eq_false h1
    rw [decide_eq_false (show ¬ (base < i ∧ i ≤ base + 1 + n) from fun h => h1 h.1)]
    clear h1 hN hb hn
    go_enter Tryz.func69, Tryz.ntmps69
    go_wp2_with fail
    go_ret
    exact ⟨rfl, 0, rfl⟩

/-! ### Entries -/
set_option maxRecDepth 100000 in
theorem wrong1_any (x : EnIn) (w : World) :
    Calls Tryz.prog 100 #[.agg #[.int .u64 (x.term : Nat), .int .i64 x.kind, .string (S x.data)]] w fun e w' => e = .returned (.bool (!decide (MayIn x))) ∧ Below w.heap.size w w' := by
  have hz := S_size x.data
  have HB := Lib.hid (below_box w (.cells #[.int .u64 (x.term : Nat), .int .i64 x.kind, .string (S x.data)] 70))
  by_cases h1 : x.kind < 1
  · have d1 : decide (x.kind < 1) = true := decide_eq_true h1
    rw [decide_eq_false (fun h : MayIn x => by have := h.1; omega)]
    clear h1
    go_enter Tryz.func100, Tryz.ntmps100
    go_wp2_with fail
    go_ret
    exact ⟨rfl, HB.out⟩
  have d1 : decide (x.kind < 1) = false := decide_eq_false h1
  by_cases h2 : 3 < x.kind
  · have d2 : decide (3 < x.kind) = true := decide_eq_true h2
    rw [decide_eq_false (fun h : MayIn x => by have := h.2.1; omega)]
    clear h1 h2
    go_enter Tryz.func100, Tryz.ntmps100
    go_wp2_with fail
    go_ret
    exact ⟨rfl, HB.out⟩
  have d2 : decide (3 < x.kind) = false := decide_eq_false h2
  by_cases h3 : 2048 < x.data.length
  · have d3 : decide ((2048 : Int) < (x.data.length : Int)) = true := decide_eq_true (by omega)
    rw [decide_eq_false (fun h : MayIn x => by have := h.2.2; omega)]
    clear h1 h2 h3
    go_enter Tryz.func100, Tryz.ntmps100
    go_wp2_with fail
    go_ret
    exact ⟨rfl, HB.out⟩
  · have d3 : decide ((2048 : Int) < (x.data.length : Int)) = false := decide_eq_false (by omega)
    rw [decide_eq_true (show MayIn x from ⟨by omega, by omega, by omega⟩)]
    clear h1 h2 h3
    go_enter Tryz.func100, Tryz.ntmps100
    go_wp2_with fail
    go_ret
    exact ⟨rfl, HB.out⟩
/-- Where the first wrong one stands. -/
def IdxOut (l : List EnIn) (w : World) (e : Ending) (w' : World) : Prop := Below w.heap.size w w' ∧ (((∀ x ∈ l, MayIn x) ∧ e = .returned (.int .i64 (-1))) ∨ ((¬ ∀ x ∈ l, MayIn x) ∧ ∃ k : Nat, e = .returned (.int .i64 (k : Nat))))
set_option maxHeartbeats 1000000 in
set_option maxRecDepth 100000 in
theorem index_any (v : Value) (l : List EnIn) (hl : l.length ≤ 1000000000) (w : World) (h : rw.Sl enSh w v l) :
    Calls Tryz.prog 126 #[v, .func (.func 100) #[] #[]] w (IdxOut l w) := by
  obtain ⟨la, lc, rfl⟩ := sl_form h
  have HS := Lib.hid h
  have eg : ∀ args w, (callFunc 100 args).run Tryz.prog w = .ok (.enter 100 args) w := enters_of Tryz.func100 (by kernel_rfl) rfl
  clear h
  go_enter Tryz.func126, Tryz.ntmps126
  go_wp2_with fail
  go_loopw [8] (fun j wr => ∃ k : Nat, j = .int .i64 (k : Nat) ∧ k ≤ l.length ∧ Hid (Below w.heap.size w wr ∧ ∀ i (hi : i < k) (hl : i < l.length), MayIn l[i])) (fun j _ => l.length - (intOf j).toNat)
  case atStart => exact ⟨0, rfl, Nat.zero_le _, Below.refl _ _, fun i hi => absurd hi (Nat.not_lt_zero _)⟩
  case round =>
    obtain ⟨k, rfl, hk, HI⟩ := hrel
    by_cases hlt : k < l.length
    · have hki : (k : Int) < (l.length : Int) := by omega
      obtain ⟨rb, off, c, e, hrb, c0, c1, c2⟩ := slE_at (HS.out.later _ HI.out.1) hlt
      injection e with e1 e2 e3
      subst e1 e3
      obtain ⟨x, hx⟩ : ∃ x, l[k]'hlt = x := ⟨_, rfl⟩
      rw [hx] at c0 c1 c2
      have hW := wrong1_any x wr
      have HX : Hid (∃ h : k < l.length, l[k]'h = x) := ⟨hlt, hx⟩
      clear hx e2
      by_cases hm : MayIn x
      · rw [decide_eq_true hm] at hW
        have HN : Hid (∀ w', Below wr.heap.size wr w' → Below w.heap.size w w' ∧ ∀ i (hi : i < k + 1) (hl : i < l.length), MayIn l[i]) := fun w' b => ⟨bnext HI.out.1 b, fun i hi hl => by
          by_cases h : i < k
          · exact HI.out.2 i h hl
          · obtain rfl : i = k := by omega
            obtain ⟨_, e⟩ := HX.out
            rw [e]
            exact hm⟩
        clear HI hm HX
        go_wp2_with fail
        refine hW.mono ?_
        rintro e w2 ⟨rfl, b2⟩
        have H2 := Lib.hid (HN.out w2 b2)
        clear hW b2 HN c0 c1 c2
        go_wp2_with fail
        go_roundw
        case rel => exact ⟨k + 1, by go_num, by omega, H2⟩
        case measure => simp [intOf]; omega
      · rw [decide_eq_false hm] at hW
        have HN : Hid (∀ w', Below wr.heap.size wr w' → IdxOut l w (.returned (.int .i64 (k : Nat))) w') := fun w' b => ⟨bnext HI.out.1 b, .inr ⟨fun h => by
          obtain ⟨hl, e⟩ := HX.out
          exact hm (e ▸ h _ (List.getElem_mem hl)), k, rfl⟩⟩
        clear HI hm HX
        go_wp2_with fail
        refine hW.mono ?_
        rintro e w2 ⟨rfl, b2⟩
        have H2 := Lib.hid (HN.out w2 b2)
        clear hW b2 HN c0 c1 c2
        go_wp2_with fail
        go_ret
        exact H2.out
    · obtain rfl : k = l.length := by omega
      have hki : ¬ (l.length : Int) < (l.length : Int) := by omega
      have HE : Hid (IdxOut l w (.returned (.int .i64 (-1))) wr) := ⟨HI.out.1, .inl ⟨fun x hx => by
        obtain ⟨i, hi, rfl⟩ := List.getElem_of_mem hx
        exact HI.out.2 i hi hi, rfl⟩⟩
      clear HI
      go_wp2_with fail
      go_ret
      exact HE.out
set_option maxRecDepth 100000 in
theorem contains_any (v : Value) (l : List EnIn) (hl : l.length ≤ 1000000000) (w : World) (h : rw.Sl enSh w v l) :
    Calls Tryz.prog 99 #[v, .func (.func 100) #[] #[]] w fun e w' => e = .returned (.bool (!decide (∀ x ∈ l, MayIn x))) ∧ Below w.heap.size w w' := by
  have hI := index_any v l hl w h
  obtain ⟨la, lc, rfl⟩ := sl_form h
  clear h
  go_enter Tryz.func99, Tryz.ntmps99
  go_wp2_with fail
  refine hI.mono ?_
  rintro e w2 ⟨b2, ⟨hm, rfl⟩ | ⟨hm, k, rfl⟩⟩
  · have H2 : Hid ((!decide (∀ x ∈ l, MayIn x)) = false ∧ Below w.heap.size w w2) := ⟨by rw [decide_eq_true hm]; rfl, b2⟩
    clear hI hm b2
    go_wp2_with fail
    go_ret
    exact ⟨by rw [H2.out.1]; rfl, H2.out.2⟩
  · have H2 : Hid ((!decide (∀ x ∈ l, MayIn x)) = true ∧ Below w.heap.size w w2) := ⟨by rw [decide_eq_false hm]; rfl, b2⟩
    have hk : (0 : Int) ≤ (k : Int) := by omega
    clear hI hm b2
    go_wp2_with fail
    go_ret
    exact ⟨by rw [H2.out.1]; rfl, H2.out.2⟩
set_option maxRecDepth 100000 in
theorem right_any (v : Value) (l : List EnIn) (hl : l.length ≤ 1000000000) (w : World) (h : rw.Sl enSh w v l) :
    Calls Tryz.prog 70 #[v] w fun e w' => e = .returned (.bool (decide (∀ x ∈ l, MayIn x))) ∧ Below w.heap.size w w' := by
  have hI := contains_any v l hl w h
  obtain ⟨la, lc, rfl⟩ := sl_form h
  generalize decide (∀ x ∈ l, MayIn x) = q at *
  clear h
  go_enter Tryz.func70, Tryz.ntmps70
  go_wp2_with fail
  refine hI.mono ?_
  rintro e w2 ⟨rfl, b2⟩
  have H2 := Lib.hid b2
  clear hI b2
  go_wp2_with fail
  go_ret
  exact ⟨by cases q <;> rfl, H2.out⟩
end Go.Proofs.YteeeakbgofjinaaGreat.jr
/-! JrLay2 -/
namespace Go.Proofs.YteeeakbgofjinaaGreat.jr
set_option linter.unusedVariables false
open Go.RowKit
open fl (S S_size)
open rw (Arr But Own below_box bnext below_drew below_drewN)

/-- Nodes rising above one, at most 5. -/
def Rise (a : Int) : List Int → Prop
  | [] => True
  | x :: r => a < x ∧ x ≤ 5 ∧ Rise x r
instance decRise : ∀ (a : Int) (l : List Int), Decidable (Rise a l)
  | _, [] => isTrue trivial
  | a, x :: r => by
    unfold Rise
    have := decRise x r
    infer_instance
theorem rise_of : ∀ (l : List Int) (a : Int), Rise a l ↔ (∀ x ∈ l, a < x ∧ x ≤ 5) ∧ l.Pairwise (· < ·)
  | [], a => by simp [Rise]
  | x :: r, a => by
    rw [Rise, rise_of r x, List.pairwise_cons]
    constructor
    · rintro ⟨h1, h2, h3, h4⟩
      refine ⟨fun y hy => ?_, fun y hy => (h3 y hy).1, h4⟩
      rcases List.mem_cons.1 hy with rfl | hy
      · exact ⟨h1, h2⟩
      · have := h3 y hy; omega
    · rintro ⟨h1, h2, h3⟩
      have hx := h1 x List.mem_cons_self
      exact ⟨hx.1, hx.2, fun y hy => ⟨h2 y hy, (h1 y (List.mem_cons_of_mem _ hy)).2⟩, h3⟩
theorem rise_in (l : List Int) : Rise 0 l ↔ MembersIn l := by
  rw [rise_of]
  constructor
  · rintro ⟨h1, h2⟩
    exact ⟨fun x hx => by have := h1 x hx; omega, h2⟩
  · rintro ⟨h1, h2⟩
    exact ⟨fun x hx => by have := h1 x hx; omega, h2⟩
set_option maxHeartbeats 2000000 in
set_option maxRecDepth 100000 in
theorem rightBase_any (base bterm : Nat) (cv : Value) (l : List Int) (a2 : Option Addr) (n2 c2 : Nat) (hl : l.length ≤ 1000000000) (w : World) (h : rw.Sl noSh w cv l) :
    Calls Tryz.prog 75 #[.agg #[.int .u64 (base : Nat), .int .u64 (bterm : Nat), cv, .slice a2 n2 c2]] w fun e w' => e = .returned (.bool (decide (MembersIn l ∧ base ≤ 4611686018427387904))) ∧ Below w.heap.size w w' := by
  obtain ⟨la, lc, rfl⟩ := sl_form h
  obtain ⟨W1, hW1⟩ : ∃ W1, w.alloc (.cells #[.int .u64 (base : Nat), .int .u64 (bterm : Nat), .slice la l.length lc, .slice a2 n2 c2] 45) = W1 := ⟨_, rfl⟩
  have b1 : Below w.heap.size w W1 := hW1 ▸ below_box w _
  have A1 : Arr W1 w.heap.size 45 #[.int .u64 (base : Nat), .int .u64 (bterm : Nat), .slice la l.length lc, .slice a2 n2 c2] := hW1 ▸ Arr.new w _ _
  have HS := Lib.hid (h.later _ b1)
  have k2 : W1.cell? ⟨w.heap.size, 2, none⟩ = some (.slice la l.length lc) := A1.cell rfl
  have k0 : W1.cell? ⟨w.heap.size, 0, none⟩ = some (.int .u64 (base : Nat)) := A1.cell rfl
  have HB := Lib.hid b1
  have HD : Hid (decide (MembersIn l ∧ base ≤ 4611686018427387904) = decide (Rise 0 l ∧ base ≤ 4611686018427387904)) := by
    show _ = _
    rw [Bool.eq_iff_iff, decide_eq_true_eq, decide_eq_true_eq, rise_in]
  generalize decide (MembersIn l ∧ base ≤ 4611686018427387904) = q at *
  clear h b1 A1
  go_enter Tryz.func75, Tryz.ntmps75
  go_wp2_with fail
  clear hW1 k2
  go_loop [3, 9] (fun av j => ∃ (k : Nat) (a : Int), j = .int .i64 (k : Nat) ∧ av = .int .i64 a ∧ k ≤ l.length ∧ Hid (Rise 0 l ↔ Rise a (l.drop k))) (fun _ j => l.length - (intOf j).toNat)
  case atStart => exact ⟨0, 0, rfl, rfl, Nat.zero_le _, Iff.rfl⟩
  case round =>
    obtain ⟨k, a, rfl, rfl, hk, HI⟩ := hrel
    by_cases hlt : k < l.length
    · have hki : (k : Int) < (l.length : Int) := by omega
      obtain ⟨b, off, c, e, hb, c0⟩ := slN_at HS.out hlt
      injection e with e1 e2 e3
      subst e1 e3
      have hdr : l.drop k = l[k]'hlt :: l.drop (k + 1) := List.drop_eq_getElem_cons hlt
      obtain ⟨x, hx⟩ : ∃ x, l[k]'hlt = x := ⟨_, rfl⟩
      rw [hx] at c0 hdr
      have HI2 : Hid (Rise 0 l ↔ a < x ∧ x ≤ 5 ∧ Rise x (l.drop (k + 1))) := Lib.hid (by have := HI.out; rw [hdr] at this; exact this)
      clear hx hdr HI e2
      by_cases h1 : x ≤ a
      · have d1 : decide (x ≤ a) = true := decide_eq_true h1
        have HE : Hid (q = false) := Lib.hid (by rw [HD.out, decide_eq_false]; rintro ⟨h, _⟩; have := HI2.out.1 h; omega)
        clear h1 HI2
        go_wp2_with fail
        go_ret
        exact ⟨by rw [HE.out]; rfl, HB.out⟩
      have d1 : decide (x ≤ a) = false := decide_eq_false h1
      by_cases h2 : 5 < x
      · have d2 : decide (5 < x) = true := decide_eq_true h2
        have HE : Hid (q = false) := Lib.hid (by rw [HD.out, decide_eq_false]; rintro ⟨h, _⟩; have := HI2.out.1 h; omega)
        clear h1 h2 HI2
        go_wp2_with fail
        go_ret
        exact ⟨by rw [HE.out]; rfl, HB.out⟩
      · have d2 : decide (5 < x) = false := decide_eq_false h2
        have HN : Hid (Rise 0 l ↔ Rise x (l.drop (k + 1))) := by
          show _ ↔ _
          rw [HI2.out]
          exact ⟨fun h => h.2.2, fun h => ⟨by omega, by omega, h⟩⟩
        clear h1 h2 HI2
        go_wp2_with fail
        go_round
        case rel => exact ⟨k + 1, x, by go_num, rfl, by omega, HN⟩
        case measure => simp [intOf]; omega
    · obtain rfl : k = l.length := by omega
      have hki : ¬ (l.length : Int) < (l.length : Int) := by omega
      have HR : Hid (Rise 0 l) := HI.out.2 (by rw [List.drop_length]; trivial)
      by_cases hb : base ≤ 4611686018427387904
      · have d3 : decide ((base : Int) ≤ 4611686018427387904) = true := decide_eq_true (by omega)
        have HE : Hid (q = true) := Lib.hid (by rw [HD.out]; exact decide_eq_true ⟨HR.out, hb⟩)
        clear HI hb HR
        go_wp2_with fail
        go_ret
        exact ⟨by rw [HE.out]; rfl, HB.out⟩
      · have d3 : decide ((base : Int) ≤ 4611686018427387904) = false := decide_eq_false (by omega)
        have HE : Hid (q = false) := Lib.hid (by rw [HD.out]; exact decide_eq_false (fun h => hb h.2))
        clear HI hb HR
        go_wp2_with fail
        go_ret
        exact ⟨by rw [HE.out]; rfl, HB.out⟩
end Go.Proofs.YteeeakbgofjinaaGreat.jr
/-! JrLay3 -/
namespace Go.Proofs.YteeeakbgofjinaaGreat.jr
set_option linter.unusedVariables false
open Go.RowKit
open fl (S S_size)
open rw (Arr But Own below_box bnext below_drew below_drewN cellsG cellsG_length)

/-- The new row lies where the old one did, or in a new block. -/
def Near (w : World) (v v' : Value) : Prop := v'.ownBlock = v.ownBlock ∨ ∀ k, v'.ownBlock = some k → w.heap.size ≤ k
theorem grown_own {w w' : World} {row : Option Nat} (h : w.grownBy w' none) : w.grownBy w' row := ⟨h.os, h.tape, h.output, h.size, fun k hk hn => h.block k hk (by simp)⟩
section
variable {α : Type} (s : rw.Sh α)
theorem append_full {w : World} {B g cap : Nat} {cur : Array Value} {l : List α} (h : RowAt s w B g cap cur l) {ad : Addr} {c : Nat} {m : List α} (hu : rw.Sl s w (.slice (some ad) m.length c) m) (hroom : cap < l.length + m.length) (hlen : l.length + m.length ≤ 34359738368) :
    ∃ v' w', rw.App s (.slice (some ⟨g, 0, none⟩) l.length cap) (.slice (some ad) m.length c) w v' w' ∧ Own s w' w.heap.size v' (l ++ m) ∧ w.grownBy w' none := by
  obtain ⟨i0, hi, hz0, hz1, hz2⟩ := info_parts s.hi
  have hown := h.own
  have hold : ∀ j u, (cellsG s l)[j]? = some u → w.cell? ((⟨g, 0, none⟩ : Addr).add j) = some u := fun j u hj => sl_news s (hown.sl s) j u hj
  have hby : (l.length + m.length) * s.bytes ≤ 140737488355328 := Nat.le_trans (Nat.mul_le_mul hlen s.hb) (by decide)
  obtain ⟨v', w', h1, h2, h3⟩ := run_append_arg_grows (P := Tryz.prog) (w := w) s.st s.st s.t i0 s.z s.k s.bytes s.hu hi hz0 hz1 hz2 s.hz s.hk ⟨g, 0, none⟩ l.length cap (cellsG s l) (cellsG_length s l) hold ad m.length c (cellsG s m) (cellsG_length s m) (sl_news s hu) hroom (by unfold maxLen; omega) hby
  refine ⟨v', w', h1, ?_, h3⟩
  show w'.ownsRow w.heap.size s.t s.k v' (l ++ m).length (cellsG s (l ++ m))
  rw [List.length_append, rw.cellsG_append]
  exact h2
/-- 'append(row, u...)', whether there is room or not. -/
theorem append_near {w : World} {B : Nat} {v : Value} {l : List α} (h : Own s w B v l) {ad : Addr} {c : Nat} {m : List α} (hu : rw.Sl s w (.slice (some ad) m.length c) m) (hm : m ≠ []) (hlen : l.length + m.length ≤ 34359738368) (hB : B ≤ w.heap.size) :
    ∃ v' w', rw.App s v (.slice (some ad) m.length c) w v' w' ∧ Own s w' B v' (l ++ m) ∧ w.grownBy w' v.ownBlock ∧ Near w v v' := by
  rcases RowAt.of s h with ⟨rfl, rfl⟩ | ⟨g, cap, cur, rfl, hr⟩
  · obtain ⟨v', w', h1, h2, h3, h4⟩ := rw.append_own s w.heap.size (.slice none 0 0) [] m _ (by simpa using hlen) w (Own.nil s w _) (Nat.le_refl _) hu
    exact ⟨v', w', h1, own_lower h2 hB, h4, .inr fun k hk => (h2.lt k hk).1⟩
  · by_cases hroom : l.length + m.length ≤ cap
    · obtain ⟨cur', h1, h2⟩ := append_room s hr hu hroom
      have := h2.own
      rw [List.length_append] at this
      exact ⟨_, _, h1, this, ⟨rfl, rfl, rfl, by simp, fun k _ hk => setRow_other w g k _ (fun e => hk (by simp [Value.ownBlock, e]))⟩, .inl rfl⟩
    · obtain ⟨v', w', h1, h2, h3⟩ := append_full s hr hu (by omega) hlen
      exact ⟨v', w', h1, own_lower h2 hB, grown_own h3, .inr fun k hk => (h2.lt k hk).1⟩
end
theorem wpList_clear_at {P : Program} {w : World} {ops : Array Oper} {rest : List Oper} {o : Oper} {a : Act} {Q : Exit → Act → World → Prop} (s : Operand) (t : TypeId)
    (hw : Region.wanted o (yielded ops a.tmps) = true)
    (ho : o.op = .call { callee := .builtin .clear, args := #[s], argTypes := #[t] }) (vs v' : Value) (w' : World) (hs : a.eval s = vs)
    (hr : (Builtin.clear_ #[t] o.type #[vs]).run P w = .ok v' w') (h : wpList P ops Q rest (a.put o.dst v') w') : wpList P ops Q (o :: rest) a w :=
  wpList_step fun K hK => by
    rw [if_pos hw]
    unfold Oper.wp execOp
    simp only [ho, resolve, invoke, builtin, Sem.run_bind, Sem.run_pure, Result.andThen_ok, List.map_toArray, List.map_cons, List.map_nil, hs, hr]
    exact hK _ _ h

/-- What Insert, Replace make of a row. -/
def LayOut (B : Nat) (v : Value) (o : List EnIn) (w : World) (e : Ending) (w' : World) : Prop := ∃ v', e = .returned v' ∧ Own enSh w' B v' o ∧ w.grownBy w' v.ownBlock ∧ Near w v v'
abbrev tE := 43
theorem sizeE : ∀ w, (sizeOf (Tryz.prog.elem 43)).run Tryz.prog w = .ok 3 w := fun w => by kernel_rfl
theorem undE : Tryz.prog.underlying 43 = some (.slice (Tryz.prog.elem 43)) := by kernel_rfl
theorem sl_from (a : Option Addr) (n c i : Nat) (hi : i ≤ n) : ∀ w, (Instr.slice 43 (.slice a n c) (some (.int .i64 (i : Nat))) none none).run Tryz.prog w = .ok (sliced a i n c 3) w := fun w => by
  rw [run_slice_l w 43 a n c undE .i64 (i : Int) (by omega) (by omega), sizeE]
  simp [Result.andThen]
theorem sl_part (a : Option Addr) (n c i j : Nat) (hi : i ≤ j) (hj : j ≤ c) : ∀ w, (Instr.slice 43 (.slice a n c) (some (.int .i64 (i : Nat))) (some (.int .i64 (j : Nat))) none).run Tryz.prog w = .ok (sliced a i j c 3) w := fun w => by
  rw [run_slice_lh w 43 a n c undE .i64 .i64 (i : Int) (j : Int) (by omega) (by omega) (by omega), sizeE]
  simp [Result.andThen]
theorem sl_upto (a : Option Addr) (n c i : Nat) (hi : i ≤ c) : ∀ w, (Instr.slice 43 (.slice a n c) none (some (.int .i64 (i : Nat))) none).run Tryz.prog w = .ok (sliced a 0 i c 3) w := fun w => by
  rw [run_slice_h w 43 a n c undE .i64 (i : Int) (by omega) (by omega), sizeE]
  simp [Result.andThen]

set_option maxHeartbeats 2000000 in
set_option maxRecDepth 100000 in
theorem insert_any (B : Nat) (v : Value) (l m : List EnIn) (ad : Addr) (c : Nat) (hm : m ≠ []) (hlen : l.length + m.length ≤ 34359738368) (w : World) (h : Own enSh w B v l) (hu : rw.Sl enSh w (.slice (some ad) m.length c) m) (hB : B ≤ w.heap.size) :
    Calls Tryz.prog 127 #[v, .int .i64 (l.length : Nat), .slice (some ad) m.length c] w (LayOut B v (l ++ m) w) := by
  obtain ⟨v', w', hr, h2, h3, h4⟩ := append_near enSh h hu hm hlen hB
  have HE : Hid (LayOut B v (l ++ m) w (.returned v') w') := ⟨v', rfl, h2, h3, h4⟩
  have HR := Lib.hid hr
  obtain ⟨va, vc, rfl⟩ := h.form
  have hs1 := sl_from va l.length vc l.length (Nat.le_refl _)
  have hm0 : 0 < m.length := List.length_pos_iff.2 hm
  have hne : ((m.length : Int) == 0) = false := by rw [beq_eq_false_iff_ne]; omega
  obtain ⟨a', n', rfl⟩ : ∃ a' n', v' = .slice a' (l ++ m).length n' := h2.form
  rw [List.length_append] at HE HR
  generalize sliced va l.length l.length vc 3 = y at *
  clear h hu h2 h3 h4 hr hm
  go_enter Tryz.func127, Tryz.ntmps127
  go_wp2_with (at_builtin; refine rw.wpList_append_at _ _ _ rfl rfl _ _ _ _ rfl rfl HR.out ?_)
  go_ret
  exact HE.out

set_option maxHeartbeats 4000000 in
set_option maxRecDepth 100000 in
theorem replace_any (B : Nat) (v : Value) (l m : List EnIn) (i : Nat) (hi : i ≤ l.length) (ad : Addr) (c : Nat) (hm : m ≠ []) (hlen : l.length + m.length ≤ 34359738368) (w : World) (h : Own enSh w B v l) (hu : rw.Sl enSh w (.slice (some ad) m.length c) m) (hB : B ≤ w.heap.size) :
    Calls Tryz.prog 102 #[v, .int .i64 (i : Nat), .int .i64 (l.length : Nat), .slice (some ad) m.length c] w (LayOut B v (l.take i ++ m) w) := by
  have hm0 : 0 < m.length := List.length_pos_iff.2 hm
  by_cases hil : i = l.length
  · subst hil
    have hI := insert_any B v l m ad c hm hlen w h hu hB
    rw [List.take_length]
    obtain ⟨va, vc, rfl⟩ := h.form
    have hcc : l.length ≤ vc := by
      obtain ⟨a, c', e, hc, _⟩ := h.sl
      cases e
      exact hc
    have hs1 := sl_part va l.length vc l.length l.length (Nat.le_refl _) hcc
    generalize sliced va l.length l.length vc 3 = y at *
    generalize l ++ m = o at *
    clear h hu hm hcc
    go_enter Tryz.func102, Tryz.ntmps102
    go_wp2_with fail
    refine hI.mono ?_
    rintro e w2 ⟨v', rfl, h2, h3, h4⟩
    have HE : Hid (LayOut B (.slice va l.length vc) o w (.returned v') w2) := ⟨v', rfl, h2, h3, h4⟩
    obtain ⟨a', n', rfl⟩ := h2.form
    clear hI h2 h3 h4
    go_wp2_with fail
    go_ret
    exact HE.out
  · rcases RowAt.of enSh h with ⟨rfl, rfl⟩ | ⟨g, cap, cur, rfl, hr⟩
    · simp at hi; exact absurd (by simpa using hi) hil
    · have hn := hr.n
      have hne : ((i : Int) == (l.length : Int)) = false := by rw [beq_eq_false_iff_ne]; omega
      have hs1 := sl_part (some ⟨g, 0, none⟩) l.length cap i l.length hi hn
      have hs2 := sl_upto (some ⟨g, 0, none⟩) l.length cap i (by omega)
      have hy2 : sliced (some ⟨g, 0, none⟩) 0 i cap 3 = .slice (some ⟨g, 0, none⟩) i cap := by
        unfold sliced
        split <;> simp [rw.addr_add]
      rw [hy2] at hs2
      generalize sliced (some ⟨g, 0, none⟩) i l.length cap 3 = y at *
      have hcut := hr.cut enSh i hi
      have hcl : (l.take i).length = i := by rw [List.length_take, Nat.min_eq_left hi]
      by_cases hroom : i + m.length ≤ cap
      · obtain ⟨cur', g1, g2⟩ := append_room enSh hcut hu (by rw [hcl]; exact hroom)
        rw [hcl] at g1
        have hol : (l.take i ++ m).length = i + m.length := by rw [List.length_append, hcl]
        by_cases hsh : i + m.length < l.length
        · have hlt : (((i + m.length : Nat) : Int) < (l.length : Int)) := by omega
          have hs3 := sl_from (some ⟨g, 0, none⟩) l.length cap (i + m.length) (by omega)
          have hy3 : sliced (some ⟨g, 0, none⟩) (i + m.length) l.length cap 3 = .slice (some ⟨g, (l.take i ++ m).length * 3, none⟩) (l.length - (i + m.length)) (cap - (i + m.length)) := by
            unfold sliced
            rw [if_neg (by omega), hol]
            simp [rw.addr_add]
          rw [hy3] at hs3
          obtain ⟨cur2, k1, k2⟩ := clear_tail enSh g2 (by simp [enSh]; decide) (fun w => by kernel_rfl) (l.length - (i + m.length)) (cap - (i + m.length)) (by omega) (by rw [hol]; omega)
          have HE : Hid (LayOut B (.slice (some ⟨g, 0, none⟩) l.length cap) (l.take i ++ m) w (.returned (.slice (some ⟨g, 0, none⟩) (i + m.length) cap)) ((w.setRow g cur').setRow g cur2)) := by
            have := k2.own
            rw [hol] at this
            exact ⟨_, rfl, this, ⟨rfl, rfl, rfl, by simp, fun k _ hk => by
              have hkg : k ≠ g := fun e => hk (by simp [Value.ownBlock, e])
              rw [setRow_other _ g k _ hkg, setRow_other w g k _ hkg]⟩, .inl rfl⟩
          have HR := Lib.hid g1
          rw [hol] at hs3 k1
          change (Builtin.clear_ #[43] 0 #[.slice (some ⟨g, (i + m.length) * 3, none⟩) (l.length - (i + m.length)) (cap - (i + m.length))]).run Tryz.prog (w.setRow g cur') = _ at k1
          have HR2 := Lib.hid k1
          obtain ⟨x, hx⟩ : ∃ x, i + m.length = x := ⟨_, rfl⟩
          rw [hx] at hlt hs3 HR HR2 HE
          have hxi : (i : Int) + (m.length : Int) = (x : Int) := by omega
          clear h hu hr hcut g1 g2 k1 k2 hil hroom hsh hy2 hy3 hx
          go_enter Tryz.func102, Tryz.ntmps102
          go_wp2_with (at_builtin; refine rw.wpList_append_at _ _ _ rfl rfl _ _ _ _ rfl rfl HR.out ?_; clear HR)
          rw [HR2.out]
          simp only [Result.andThen]
          rw [Oper.upon_value]
          go_wp2
          go_ret
          exact HE.out
        · have hlt : ¬ (((i + m.length : Nat) : Int) < (l.length : Int)) := by omega
          have HE : Hid (LayOut B (.slice (some ⟨g, 0, none⟩) l.length cap) (l.take i ++ m) w (.returned (.slice (some ⟨g, 0, none⟩) (i + m.length) cap)) (w.setRow g cur')) := by
            have := g2.own
            rw [hol] at this
            exact ⟨_, rfl, this, ⟨rfl, rfl, rfl, by simp, fun k _ hk => setRow_other w g k _ (fun e => hk (by simp [Value.ownBlock, e]))⟩, .inl rfl⟩
          have HR := Lib.hid g1
          obtain ⟨x, hx⟩ : ∃ x, i + m.length = x := ⟨_, rfl⟩
          rw [hx] at hlt HR HE
          clear h hu hr hcut g1 g2 hil hroom hsh hy2 hx
          go_enter Tryz.func102, Tryz.ntmps102
          go_wp2_with (at_builtin; refine rw.wpList_append_at _ _ _ rfl rfl _ _ _ _ rfl rfl HR.out ?_; clear HR)
          go_ret
          exact HE.out
      · obtain ⟨v', w', g1, g2, g3⟩ := append_full enSh hcut hu (by rw [hcl]; omega) (by rw [hcl]; omega)
        rw [hcl] at g1
        have hol : (l.take i ++ m).length = i + m.length := by rw [List.length_append, hcl]
        have HE : Hid (LayOut B (.slice (some ⟨g, 0, none⟩) l.length cap) (l.take i ++ m) w (.returned v') w') := ⟨v', rfl, own_lower g2 hB, grown_own g3, .inr fun k hk => (g2.lt k hk).1⟩
        obtain ⟨a', n', rfl⟩ := g2.form
        rw [hol] at *
        have hlt : ¬ (((i + m.length : Nat) : Int) < (l.length : Int)) := by omega
        have HR := Lib.hid g1
        obtain ⟨x, hx⟩ : ∃ x, i + m.length = x := ⟨_, rfl⟩
        rw [hx] at hlt HR HE
        clear h hu hr hcut g1 g2 g3 hil hroom hy2 hx
        go_enter Tryz.func102, Tryz.ntmps102
        go_wp2_with (at_builtin; refine rw.wpList_append_at _ _ _ rfl rfl _ _ _ _ rfl rfl HR.out ?_; clear HR)
        go_ret
        exact HE.out
end Go.Proofs.YteeeakbgofjinaaGreat.jr
/-! JrLay4 -/
namespace Go.Proofs.YteeeakbgofjinaaGreat.jr
set_option linter.unusedVariables false
open Go.RowKit
open fl (S S_size)
open rw (Arr But Own below_box bnext below_drew below_drewN Fr)

/-- What lay makes: the log's row in cell 7 of the block, all else as it was. -/
def LaidOut (b : Nat) (T : TypeId) (cs : Array Value) (B : Nat) (lv : Value) (o : List EnIn) (w : World) (e : Ending) (w' : World) : Prop :=
  e = .returned (.tuple #[]) ∧ ∃ v', Arr w' b T (cs.setIfInBounds 7 v') ∧ Own enSh w' B v' o ∧ Fr (fun k => k = b ∨ lv.ownBlock = some k) w w' ∧ Near w lv v' ∧ (∃ a n c, v' = .slice a n c)
set_option maxHeartbeats 2000000 in
set_option maxRecDepth 100000 in
theorem lay_any (b : Nat) (T : TypeId) (hT : T ≠ 70) (cs : Array Value) (B : Nat) (lv : Value) (base i : Nat) (l m : List EnIn) (hi : base < i ∧ i ≤ base + 1 + l.length) (hb : base ≤ 4611686018427387904) (hl : l.length ≤ 1000000000) (ad : Addr) (c : Nat) (hm : m ≠ []) (hml : m.length ≤ 1000000000) (w : World)
    (hA : Arr w b T cs) (h4 : cs[4]? = some (.int .u64 (base : Nat))) (h7 : cs[7]? = some lv) (h : Own enSh w B lv l) (hu : rw.Sl enSh w (.slice (some ad) m.length c) m) (hB : B ≤ w.heap.size) :
    Calls Tryz.prog 73 #[.pointer (some ⟨b, 1, none⟩), .int .u64 (i : Nat), .slice (some ad) m.length c] w (LaidOut b T cs B lv (l.take (i - base - 1) ++ m) w) := by
  have c4 : w.cell? ⟨b, 4, none⟩ = some (.int .u64 (base : Nat)) := hA.cell h4
  have c7 : w.drew.cell? ⟨b, 7, none⟩ = some lv := hA.cell h7
  obtain ⟨a, ha⟩ : ∃ a, i - base - 1 = a := ⟨_, rfl⟩
  obtain ⟨a1, ha1⟩ : ∃ a1, i - base = a1 := ⟨_, rfl⟩
  have hw1 : IntKind.u64.wrap ((i : Int) - (base : Int)) = (a1 : Int) := by rw [IntWalk.u64_in _ (by omega)]; omega
  have hw2 : IntKind.u64.wrap ((a1 : Int) - 1) = (a : Int) := by rw [IntWalk.u64_in _ (by omega)]; omega
  have hw3 : IntKind.i64.wrap (a : Int) = (a : Int) := IntWalk.i64_in _ (by omega)
  have hR := replace_any B lv l m a (by omega) ad c hm (by omega) w.drew (h.below enSh (below_drew (Below.refl _ _))) (hu.later _ (below_drew (Below.refl _ _))) hB
  rw [ha]
  obtain ⟨la, lc, rfl⟩ := h.form
  have hnb : Value.ownBlock (.slice la l.length lc) ≠ some b := own_ne h hA hT
  have HN : Hid (∀ w2 v', Own enSh w2 B v' (l.take a ++ m) → w.drew.grownBy w2 (Value.ownBlock (.slice la l.length lc)) → Near w.drew (.slice la l.length lc) v' →
      w2.cell? ⟨b, 7, none⟩ = some (.slice la l.length lc) ∧ w2.frozen? ⟨b, 7, none⟩ = false ∧ LaidOut b T cs B (.slice la l.length lc) (l.take a ++ m) w (.returned (.tuple #[])) (w2.setCell ⟨b, 7, none⟩ v')) := fun w2 v' x1 x2 x3 => by
    have hA2 : Arr w2 b T cs := hA.of (x2.block b hA.lt fun e => hnb e.symm)
    refine ⟨hA2.cell h7, hA2.frozen 7, rfl, v', hA2.set 7 v', own_but x1 hA2 hT ((But.refl b w2).set 7 v'), ?_, x3, ?_⟩
    · refine (Fr.grown (F := fun k => k = b ∨ Value.ownBlock (.slice la l.length lc) = some k) (w := w) ⟨x2.os, x2.tape, x2.output, x2.size, x2.block⟩ fun q hq => .inr hq).trans (Fr.but (F := fun k => k = b) ((But.refl b w2).set 7 v') rfl) fun k _ e => .inl e
    · obtain ⟨a', c', rfl⟩ := x1.form
      exact ⟨_, _, _, rfl⟩
  generalize l.take a ++ m = o at *
  have hz : IntKind.u64.wrap ((i : Int) - (base : Int) - 1) = (a : Int) := by rw [IntWalk.u64_in _ (by omega)]; omega
  clear h hu hA h4 h7 hm hB ha ha1 hi hml
  go_enter Tryz.func73, Tryz.ntmps73
  go_upto_region 1 with (fail)
  go_region_with ((go_at_call 102; refine hR.mono ?_; rintro e w2 ⟨v', rfl, x1, x2, x3⟩; obtain ⟨y1, y2, y3⟩ := HN.out w2 v' x1 x2 x3; have H3 := Lib.hid y3; obtain ⟨a', n', rfl⟩ := x1.form; clear x1 x2 x3 y3))
  all_goals (
    clear hR HN
    go_wp2
    exact bodyPost_end (results_none rfl _ _ _) rfl H3.out)
end Go.Proofs.YteeeakbgofjinaaGreat.jr
/-! JrRd4 -/
namespace Go.Proofs.YteeeakbgofjinaaGreat.jr
set_option linter.unusedVariables false
open Go.RowKit
open fl (S S_size S_append)
open rw (Arr But Own below_box bnext below_drew below_drewN Fr)

theorem may_of (e : En) : MayIn (ofEn e) ↔ May e := by
  unfold MayIn May ofEn
  simp only
  omega
theorem ens_lay (l : List En) (i : Nat) (e : En) : (ens l).take i ++ [ofEn e] = ens (l.take i ++ [e]) := by
  unfold ens
  rw [List.map_append, List.map_take]
  rfl
theorem own_apart {α β : Type} {s : rw.Sh α} {t : rw.Sh β} {w : World} {B B' : Nat} {v u : Value} {l : List α} {m : List β} (h : Own s w B v l) (k : Own t w B' u m) (hne : s.t ≠ t.t) {q : Nat} (hv : v.ownBlock = some q) : u.ownBlock ≠ some q := by
  intro e
  obtain ⟨c, hc⟩ := own_typed h hv
  exact own_ne k hc hne e
section
variable {w W W' : World} {B rb lb : Nat} {l : Bs} {cv ev : Value} {s : St} {based : Bool} {m : Nat} {o : Option Bs}
theorem Hx.laid (h : Hx w W B rb lb l cv ev s based m o) {e : Ending} {l' : List En} (k : LaidOut rb 172 (rdC (.pointer (some ⟨lb, 0, none⟩)) cv ev s based m) B ev (ens l') W e W') :
    e = .returned (.tuple #[]) ∧ ∃ ev', Hx w W' B rb lb l cv ev' { s with l := l' } based m o := by
  obtain ⟨he, v', hA, hO, hF, hN, hf⟩ := k
  refine ⟨he, v', ⟨⟨h.z.le, hA, ?_, hO⟩, ?_, ?_, h.lb⟩⟩
  · refine own_of h.z.c fun q hq => hF.block q (own_lt h.z.c hq) ?_
    rintro (e | e)
    · exact own_ne h.z.c h.z.a (by decide) (e ▸ hq)
    · exact own_apart h.z.c h.z.l (by decide) hq e
  · refine h.p.of (hF.block lb h.p.lt ?_)
    rintro (e | e)
    · exact h.z.ne h.p e.symm
    · obtain ⟨a, f, hp, _⟩ := h.p
      exact own_ne h.z.l hp (by decide) e
  · refine h.b.trans (hF.below h.le ?_)
    rintro k (e | e)
    · exact e ▸ h.z.le
    · exact (h.z.l.lt k e).1
end
/-- A new block of that type, as it was made. -/
structure Nw (w W : World) (xb : Nat) (t : TypeId) (cs : Array Value) : Prop where
  a : Arr W xb t cs
  n : w.heap.size ≤ xb
theorem nw_first {w W W' : World} {B rb lb : Nat} {l : Bs} {cv ev : Value} {s : St} {based : Bool} {m : Nat} {o : Option Bs} {t : TypeId} {cs : Array Value} (h : Hx w W B rb lb l cv ev s based m o) (k : But lb (W.alloc (.cells cs t)) W') : Nw w W' W.heap.size t cs :=
  ⟨k.arr (Arr.new W t cs) (by have := h.p.lt; omega), h.b.size⟩
theorem nw_drew {w W W' : World} {B rb lb : Nat} {l : Bs} {cv ev : Value} {s : St} {based : Bool} {m : Nat} {o : Option Bs} {t : TypeId} {cs : Array Value} (h : Hx w W.drew B rb lb l cv ev s based m o) (k : But lb (W.drew.alloc (.cells cs t)) W') : Nw w W' W.heap.size t cs :=
  show Nw w W' W.drew.heap.size t cs from nw_first h k
theorem nw_next {w W W' : World} {rb lb xb : Nat} {cv ev : Value} {t : TypeId} {cs : Array Value} (ho : Old w rb lb cv ev) (h : Nw w W xb t cs) (k : But lb W W') : Nw w W' xb t cs :=
  ⟨k.arr h.a (by have := ho.lb; have := h.n; omega), h.n⟩
def zeroE : Array Value := #[.int .u64 0, .int .i64 0, .string ⟨#[]⟩]
theorem nw_cells {w W : World} {xb : Nat} (h : Nw w W xb 70 zeroE) : W.cell? ⟨xb, 0, none⟩ = some (.int .u64 0) ∧ W.cell? ⟨xb, 1, none⟩ = some (.int .i64 0) ∧ W.cell? ⟨xb, 2, none⟩ = some (.string ⟨#[]⟩) ∧ W.frozen? ⟨xb, 0, none⟩ = false ∧ W.frozen? ⟨xb, 1, none⟩ = false ∧ W.frozen? ⟨xb, 2, none⟩ = false :=
  ⟨h.a.cell rfl, h.a.cell rfl, h.a.cell rfl, h.a.frozen 0, h.a.frozen 1, h.a.frozen 2⟩
/-- The entry lies in its block. -/
structure Laid (w W : World) (B rb lb : Nat) (l : Bs) (cv ev : Value) (s : St) (based : Bool) (m : Nat) (o : Option Bs) (xb : Nat) (xt xk : Nat) (xd : Bs) : Prop where
  x : Hx w W B rb lb l cv ev s based m o
  a : Arr W xb 70 #[.int .u64 (xt : Nat), .int .i64 (xk : Nat), .string (S xd)]
theorem laid_new {w W : World} {B rb lb : Nat} {l : Bs} {cv ev : Value} {s : St} {based : Bool} {m : Nat} {o : Option Bs} (h : Hx w W B rb lb l cv ev s based m o) (xt xk : Nat) (xd : Bs) :
    Laid w (W.alloc (.cells #[.int .u64 (xt : Nat), .int .i64 (xk : Nat), .string (S xd)] 70)) B rb lb l cv ev s based m o W.heap.size xt xk xd := ⟨h.below (below_box _ _), Arr.new _ _ _⟩
theorem laid_old {w W : World} {B rb lb xb : Nat} {l : Bs} {cv ev : Value} {s : St} {based : Bool} {m : Nat} {o : Option Bs} (h : Hx w W B rb lb l cv ev s based m o) (ho : Old w rb lb cv ev) (k : Nw w W xb 70 zeroE) (xt xk : Nat) (xd : Bs) :
    Laid w (((W.setCell ⟨xb, 0, none⟩ (.int .u64 (xt : Nat))).setCell ⟨xb, 1, none⟩ (.int .i64 (xk : Nat))).setCell ⟨xb, 2, none⟩ (.string (S xd))) B rb lb l cv ev s based m o xb xt xk xd :=
  ⟨h.far ho k.n h.b.size ((((But.refl xb W).set 0 _).set 1 _).set 2 _), ((k.a.set 0 _).set 1 _).set 2 _⟩
set_option maxHeartbeats 8000000 in
set_option maxRecDepth 100000 in
theorem entry_any (B rb lb : Nat) (l : Bs) (x : Pr) (hl : l.length ≤ 281474976710656) (hlb : B ≤ lb) (hbase : x.s.base ≤ 4611686018427387904) (hll : x.s.l.length ≤ 100000000) (w : World) (h : Rz w B rb (.pointer (some ⟨lb, 0, none⟩)) x.s x.based x.m) (hp : PRd w lb l x.o) :
    Calls Tryz.prog 145 #[.pointer (some ⟨rb, 0, none⟩)] w (ROut B rb lb l w (pent x)) := by
  obtain ⟨s, based, m, o⟩ := x
  simp only at h hp hbase hll
  have hW := whole_any w h
  obtain ⟨cv, ev, X0⟩ := Hx.start h hp hlb
  unfold pent
  simp only
  by_cases h0 : based = true ∧ m = 0
  · rw [if_pos h0]
    rw [decide_eq_true h0] at hW
    have hm := must_yes rb w
    have HX := Lib.hid X0
    have HO := Lib.hid X0.old
    have HN := Lib.hid fun W => fun (k : Hx w W B rb lb l cv ev s based m o) => Hx.num hl k
    have HN2 := Lib.hid fun W => fun (k : Hx w W B rb lb l cv ev s based m (nN o)) => Hx.num hl k
    have HK : Hid (∀ W, Hx w W B rb lb l cv ev s based m (nN (nN o)) → Calls Tryz.prog 135 #[.pointer (some ⟨lb, 0, none⟩), .int .i64 3] W fun e w' => e = .returned (.int .i64 (vC 3 (nN (nN o)) : Nat)) ∧ But lb W w' ∧ Hx w w' B rb lb l cv ev s based m (nC 3 (nN (nN o)))) := fun W k => Hx.count hl 3 (by decide) k
    have HT : Hid (∀ W, Hx w W B rb lb l cv ev s based m (nC 3 (nN (nN o))) → Calls Tryz.prog 160 #[.pointer (some ⟨lb, 0, none⟩), .int .i64 2048] W fun e w' => e = .returned (.string (S (vT 2048 (nC 3 (nN (nN o)))))) ∧ But lb W w' ∧ Hx w w' B rb lb l cv ev s based m (nT 2048 (nC 3 (nN (nN o))))) := fun W k => Hx.text hl 2048 (by decide) k
    have hi64 := vN_lt o
    generalize vN o = i at *
    generalize vN (nN o) = xt at *
    generalize vC 3 (nN (nN o)) = xk at *
    generalize vT 2048 (nC 3 (nN (nN o))) = xd at *
    generalize nT 2048 (nC 3 (nN (nN o))) = o4 at *
    generalize nC 3 (nN (nN o)) = o3 at *
    generalize nN (nN o) = o2 at *
    generalize nN o = o1 at *
    have HC : Hid (∀ W o, Hx w W B rb lb l cv ev s based m o → W.cell? ⟨rb, 0, none⟩ = some (.pointer (some ⟨lb, 0, none⟩))) := fun W o k => k.z.a.cell rfl
    obtain ⟨va, vc, rfl⟩ : ∃ a c, ev = .slice a (ens s.l).length c := X0.z.l.form
    have hel := ens_length s.l
    have HTk : Hid (∀ W, Hx w W B rb lb l cv (.slice va (ens s.l).length vc) s based m o4 → Calls Tryz.prog 69 #[.pointer (some ⟨rb, 1, none⟩), .int .u64 (i : Nat)] W fun e w' => e = .returned (.bool (decide (s.base < i ∧ i ≤ s.base + 1 + s.l.length))) ∧ ∃ q, w' = W.drewN q) := fun W k => by
      have := takes_any rb 1 s.base (ens s.l).length i va vc (by omega) (by omega) W (k.z.a.cell rfl) (k.z.a.cell rfl)
      rw [hel] at this
      exact this
    have HMy := Lib.hid fun W => must_yes rb W
    have HMn := Lib.hid fun W => must_no rb W
    have HRt : Hid (∀ W v, rw.Sl enSh W v [ofEn ⟨xt, xk, xd⟩] → Calls Tryz.prog 70 #[v] W fun e w' => e = .returned (.bool (decide (May ⟨xt, xk, xd⟩))) ∧ Below W.heap.size W w') := fun W v k => by
      have := right_any v [ofEn ⟨xt, xk, xd⟩] (by simp) W k
      have e1 : (∀ x ∈ [ofEn ⟨xt, xk, xd⟩], MayIn x) = May ⟨xt, xk, xd⟩ := propext (by simp [may_of])
      simpa only [e1] using this
    have HLt : Hid (∀ W : World, rw.Sl enSh (W.alloc (.cells #[.int .u64 (xt : Nat), .int .i64 (xk : Nat), .string (S xd)] 70)) (.slice (some ⟨W.heap.size, 0, none⟩) 1 1) [ofEn ⟨xt, xk, xd⟩]) := fun W => by
      have := (rw.Own.lit enSh W [ofEn ⟨xt, xk, xd⟩] (by simp) (by simp)).sl
      rw [rw.cellsG_one] at this
      exact this
    obtain ⟨R, hR⟩ : ∃ R : Option Pr, (if (s.base < i ∧ i ≤ s.base + 1 + s.l.length) ∧ May ⟨xt, xk, xd⟩ then some ⟨{ s with l := s.l.take (i - s.base - 1) ++ [⟨xt, xk, xd⟩] }, based, m, o4⟩ else none) = R := ⟨_, rfl⟩
    rw [hR]
    have HR := Lib.hid hR
    have HB0 := Lib.hid (And.intro hbase (And.intro hll hi64))
    clear h hp X0 h0 hR hbase hll hi64 hel
    go_enter Tryz.func145, Tryz.ntmps145
    go_wp2_with fail
    refine hW.mono ?_
    rintro e w2 ⟨rfl, rfl⟩
    clear hW
    go_wp2_with fail
    refine hm.mono ?_
    rintro e w3 ⟨rfl, rfl⟩
    clear hm
    have k0 := HC.out _ _ HX.out
    have hN := HN.out _ HX.out
    clear HN HX
    go_wp2_with fail
    refine hN.mono ?_
    rintro e w4 ⟨rfl, -, x4⟩
    have X4 := Lib.hid x4
    clear hN x4 k0
    go_upto_region 2 with (fail)
    go_cut [3] from 13 to 28 (fun v3 wx => ∃ xb : Nat, v3 = .pointer (some ⟨xb, 0, none⟩) ∧ Hid (Laid w wx B rb lb l cv (.slice va (ens s.l).length vc) s based m o4 xb xt xk xd))
    case first =>
      have X1 := Lib.hid (X4.out.below (below_drew (Below.refl _ _)))
      have k0 := HC.out _ _ X1.out
      clear X4 HTk HMy HMn HRt HLt HR HB0
      go_region_held3 (fun W => W.cell? ⟨rb, 0, none⟩ = some (.pointer (some ⟨lb, 0, none⟩)))
        (first | (with_reducible exact k0) | assumption | (exact HC.out _ _ (Hx.below (Hid.out (by assumption)) (below_box _ _))) | (exact HC.out _ _ (laid_old (Hid.out (by assumption)) HO.out (Hid.out (by assumption)) _ _ _).x))
        (first | ((go_at_call 158; with_reducible refine (HN2.out _ (by first | exact Hid.out (by assumption) | exact Hx.below (Hid.out (by assumption)) (below_box _ _))).mono ?_; rintro e w5 ⟨rfl, k5, x5⟩; have X5 := Lib.hid x5; have kc := HC.out _ _ x5; (first | (have hN := Lib.hid (nw_drew (Hid.out (by assumption)) k5)) | (have hN := Lib.hid (nw_first (Hid.out (by assumption)) k5)) | (have hN := Lib.hid (nw_next HO.out hN.out k5)) | skip); clear x5 k5)) | ((go_at_call 135; with_reducible refine (HK.out _ (by first | exact Hid.out (by assumption) | exact Hx.below (Hid.out (by assumption)) (below_box _ _))).mono ?_; rintro e w5 ⟨rfl, k5, x5⟩; have X5 := Lib.hid x5; have kc := HC.out _ _ x5; (first | (have hN := Lib.hid (nw_drew (Hid.out (by assumption)) k5)) | (have hN := Lib.hid (nw_first (Hid.out (by assumption)) k5)) | (have hN := Lib.hid (nw_next HO.out hN.out k5)) | skip); clear x5 k5)) | ((go_at_call 160; with_reducible refine (HT.out _ (by first | exact Hid.out (by assumption) | exact Hx.below (Hid.out (by assumption)) (below_box _ _))).mono ?_; rintro e w5 ⟨rfl, k5, x5⟩; have X5 := Lib.hid x5; have kc := HC.out _ _ x5; (first | (have hN := Lib.hid (nw_drew (Hid.out (by assumption)) k5); obtain ⟨a0, a1, a2, g0, g1, g2⟩ := nw_cells hN.out) | (have hN := Lib.hid (nw_first (Hid.out (by assumption)) k5); obtain ⟨a0, a1, a2, g0, g1, g2⟩ := nw_cells hN.out) | (have hN := Lib.hid (nw_next HO.out hN.out k5); obtain ⟨a0, a1, a2, g0, g1, g2⟩ := nw_cells hN.out) | skip); clear x5 k5)))
      all_goals (
        first | (have HF := Lib.hid (laid_old X5.out HO.out hN.out xt xk xd)) | (have HF := Lib.hid (laid_new X5.out xt xk xd))
        clear HN2 HK HT X1 X5
        try clear hN a0 a1 a2 g0 g1 g2
        go_wp2_with fail
        go_meet
        case rel => exact ⟨_, rfl, HF⟩)
    case rest =>
      obtain ⟨xb, rfl, L0⟩ := hcut
      clear HN2 HK HT X4
      have hTk := HTk.out _ L0.out.x
      have HA8 : Hid (∀ W, Below wc.heap.size wc W → W.cell? ⟨xb, 0, none⟩ = some (.int .u64 (xt : Nat)) ∧ W.cell? ⟨xb, 1, none⟩ = some (.int .i64 (xk : Nat)) ∧ W.cell? ⟨xb, 2, none⟩ = some (.string (S xd))) := fun W k => ⟨(L0.out.a.below k).cell rfl, (L0.out.a.below k).cell rfl, (L0.out.a.below k).cell rfl⟩
      obtain ⟨d0, d1, d2⟩ := HA8.out wc (Below.refl _ _)
      have HP : Hid (∀ W, Below wc.heap.size wc W → ROut B rb lb l w none (.panicked wrongs) W) := fun W k => ⟨L0.out.x.b.trans (k.mono L0.out.x.le), rfl⟩
      by_cases h1 : s.base < i ∧ i ≤ s.base + 1 + s.l.length
      · rw [decide_eq_true h1] at hTk
        have hRt := fun q => HRt.out _ _ (HLt.out (wc.drewN q))
        by_cases h2 : May ⟨xt, xk, xd⟩
        · rw [decide_eq_true h2] at hRt
          have HR2 : Hid (some ⟨{ s with l := s.l.take (i - s.base - 1) ++ [⟨xt, xk, xd⟩] }, based, m, o4⟩ = R) := Lib.hid (by rw [← HR.out, if_pos ⟨h1, h2⟩])
          have HLy : Hid (∀ W, Below wc.heap.size wc W → Calls Tryz.prog 73 #[.pointer (some ⟨rb, 1, none⟩), .int .u64 (i : Nat), .slice (some ⟨W.heap.size, 0, none⟩) 1 1] (W.alloc (.cells #[.int .u64 (xt : Nat), .int .i64 (xk : Nat), .string (S xd)] 70)) fun e w' => e = .returned (.tuple #[]) ∧ ∃ ev', Hx w w' B rb lb l cv ev' { s with l := s.l.take (i - s.base - 1) ++ [⟨xt, xk, xd⟩] } based m o4) := fun W k => by
            have X9 := (L0.out.x.below k).below (below_box W (.cells #[.int .u64 (xt : Nat), .int .i64 (xk : Nat), .string (S xd)] 70))
            have := lay_any rb 172 (by decide) _ B _ s.base i (ens s.l) [ofEn ⟨xt, xk, xd⟩] (by rw [ens_length]; exact h1) HB0.out.1 (by rw [ens_length]; have := HB0.out.2.1; omega) ⟨W.heap.size, 0, none⟩ 1 (by simp) (by simp) _ X9.z.a rfl rfl X9.z.l (HLt.out W) X9.le
            refine this.mono fun e w' hh => ?_
            rw [ens_lay] at hh
            exact X9.laid hh
          clear h1 h2 HR HRt HTk HP HMn HLt HC
          go_wp2_with fail
          refine hTk.mono ?_
          rintro e w9 ⟨rfl, q, rfl⟩
          have b9 : Below wc.heap.size wc (wc.drewN q) := below_drewN (Below.refl _ _) q
          have hR9 := hRt q
          obtain ⟨z0, z1, z2⟩ := HA8.out _ b9
          clear hTk hRt d0 d1 d2
          go_wp2_with fail
          refine hR9.mono ?_
          rintro e w10 ⟨rfl, b10⟩
          have B10 : Hid (Below wc.heap.size wc w10) := Lib.hid (b9.trans (((below_box _ _).mono b9.size).trans (b10.mono (by have := b9.size; simp <;> omega))))
          have hM := HMy.out w10
          clear hR9 b9 b10 z0 z1 z2
          go_wp2_with fail
          refine hM.mono ?_
          rintro e w11 ⟨rfl, rfl⟩
          clear hM
          go_upto_region 4 with (fail)
          have B11 : Hid (Below wc.heap.size wc w10.drew) := below_drew B10.out
          have k0 := HA8.out _ B11.out
          obtain ⟨z0, z1, z2⟩ := k0
          have hLy : Calls Tryz.prog 73 #[.pointer (some ⟨rb, 1, none⟩), .int .u64 (i : Nat), .slice (some ⟨w10.heap.size, 0, none⟩) 1 1] (w10.drew.alloc (.cells #[.int .u64 (xt : Nat), .int .i64 (xk : Nat), .string (S xd)] 70)) fun e w' => e = .returned (.tuple #[]) ∧ ∃ ev', Hx w w' B rb lb l cv ev' { s with l := s.l.take (i - s.base - 1) ++ [⟨xt, xk, xd⟩] } based m o4 := HLy.out _ B11.out
          clear HLy HA8 L0
          rw [← HR2.out]
          clear HR2
          go_region_with ((go_at_call 73; refine hLy.mono ?_; rintro e w12 ⟨rfl, ev', x12⟩; have X12 := Lib.hid x12.out; clear x12))
          all_goals (
            clear hLy z0 z1 z2
            go_wp2_with fail
            exact bodyPost_end (results_none rfl _ _ _) rfl X12.out)
        · rw [decide_eq_false h2] at hRt
          have HR2 : Hid (none = R) := Lib.hid (by rw [← HR.out, if_neg (fun h => h2 h.2)])
          clear h1 h2 HR HRt HTk HMy HLt HC
          go_wp2_with fail
          refine hTk.mono ?_
          rintro e w9 ⟨rfl, q, rfl⟩
          have b9 : Below wc.heap.size wc (wc.drewN q) := below_drewN (Below.refl _ _) q
          have hR9 := hRt q
          obtain ⟨z0, z1, z2⟩ := HA8.out _ b9
          clear hTk hRt d0 d1 d2
          go_wp2_with fail
          refine hR9.mono ?_
          rintro e w10 ⟨rfl, b10⟩
          have hP := Lib.hid (HP.out w10 (b9.trans (((below_box _ _).mono b9.size).trans (b10.mono (by have := b9.size; simp <;> omega)))))
          have hM := HMn.out w10
          clear hR9 b9 b10 z0 z1 z2 HP
          go_wp2_with fail
          refine hM.mono ?_
          rintro e w11 ⟨rfl, rfl⟩
          clear hM
          go_wp2_with fail
          refine bodyPost_panic rfl ?_
          rw [← HR2.out]
          exact hP.out
      · rw [decide_eq_false h1] at hTk
        have HR2 : Hid (none = R) := Lib.hid (by rw [← HR.out, if_neg (fun h => h1 h.1)])
        clear h1 HR HRt HTk HMy HLt HC
        go_wp2_with fail
        refine hTk.mono ?_
        rintro e w9 ⟨rfl, q, rfl⟩
        have hP := Lib.hid (HP.out _ (below_drewN (Below.refl _ _) q))
        have hM := HMn.out (wc.drewN q)
        clear hTk d0 d1 d2 HP
        go_wp2_with fail
        refine hM.mono ?_
        rintro e w11 ⟨rfl, rfl⟩
        clear hM
        go_wp2_with fail
        refine bodyPost_panic rfl ?_
        rw [← HR2.out]
        exact hP.out
  · rw [if_neg h0]
    rw [decide_eq_false h0] at hW
    have hm := must_no rb w
    have HE : Hid (ROut B rb lb l w none (.panicked wrongs) w) := ⟨Below.refl _ _, rfl⟩
    clear h hp X0 h0
    go_enter Tryz.func145, Tryz.ntmps145
    go_wp2_with fail
    refine hW.mono ?_
    rintro e w2 ⟨rfl, rfl⟩
    clear hW
    go_wp2_with fail
    refine hm.mono ?_
    rintro e w3 ⟨rfl, rfl⟩
    clear hm
    go_wp2_with fail
    exact bodyPost_panic rfl HE.out
end Go.Proofs.YteeeakbgofjinaaGreat.jr
/-! DkRef -/
namespace Go.Proofs.YteeeakbgofjinaaGreat.dk
set_option linter.unusedVariables false
open Go.RowKit
open fl (S S_size S_append S_inj str_eq str_ne)
open rw (Arr But Row Own bnext below_box below_drew below_drewN addr_add)

theorem S_list (l : List UInt8) : (S l).toList = l := by rw [ByteArray.toList_eq, fl.S_data]
theorem bytesLess_eq' : ∀ (x y : List UInt8), Op.bytesLess x y = decide (x < y)
  | [], [] => by simp [Op.bytesLess]
  | [], _ :: _ => by simp [Op.bytesLess]
  | _ :: _, [] => by simp [Op.bytesLess]
  | a :: x, b :: y => by
    rw [Op.bytesLess, bytesLess_eq' x y, Bool.eq_iff_iff]
    simp [List.cons_lt_cons_iff]
theorem less_S (a b : Bs) : Op.bytesLess (S a).toList (S b).toList = decide (a < b) := by rw [bytesLess_eq', S_list, S_list]

def fileSh : rw.Sh File where
  t := 120
  st := 82
  k := 2
  bytes := 32
  z := .agg #[.string ⟨#[]⟩, .string ⟨#[]⟩]
  enc := fun f => [.string (S f.1), .string (S f.2)]
  hu := Tryz.underlying82
  hi := by kernel_rfl
  hz := by rfl
  hk := by decide
  hb := by decide
  len := fun _ => rfl
  one := fun x u hu => by
    simp only [List.mem_cons, List.not_mem_nil, or_false] at hu
    rcases hu with rfl | rfl <;> rfl
def callSh : rw.Sh Call where
  t := 62
  st := 83
  k := 3
  bytes := 40
  z := .agg #[.int .i64 0, .string ⟨#[]⟩, .string ⟨#[]⟩]
  enc := fun c => [.int .i64 (c.kind : Nat), .string (S c.name), .string (S c.s)]
  hu := Tryz.underlying83
  hi := by kernel_rfl
  hz := by rfl
  hk := by decide
  hb := by decide
  len := fun _ => rfl
  one := fun x u hu => by
    simp only [List.mem_cons, List.not_mem_nil, or_false] at hu
    rcases hu with rfl | rfl | rfl <;> rfl
abbrev SlF (w : World) (v : Value) (l : List File) : Prop := rw.Sl fileSh w v l
abbrev SlC (w : World) (v : Value) (l : List Call) : Prop := rw.Sl callSh w v l
theorem slF_at {w : World} {a : Option Addr} {l : List File} (h : Row fileSh w a l) {j : Nat} (hj : j < l.length) : ∃ b off, a = some ⟨b, off, none⟩ ∧ b < w.heap.size ∧ w.cell? ⟨b, off + j * 2, none⟩ = some (.string (S l[j].1)) ∧ w.cell? ⟨b, off + j * 2 + 1, none⟩ = some (.string (S l[j].2)) := by
  obtain ⟨b, off, e, hb, hc⟩ := h.at _ hj
  exact ⟨b, off, e, hb, hc 0 (by decide), hc 1 (by decide)⟩
theorem slC_at {w : World} {a : Option Addr} {l : List Call} (h : Row callSh w a l) {j : Nat} (hj : j < l.length) : ∃ b off, a = some ⟨b, off, none⟩ ∧ b < w.heap.size ∧ w.cell? ⟨b, off + j * 3, none⟩ = some (.int .i64 (l[j].kind : Nat)) ∧ w.cell? ⟨b, off + j * 3 + 1, none⟩ = some (.string (S l[j].name)) ∧ w.cell? ⟨b, off + j * 3 + 2, none⟩ = some (.string (S l[j].s)) := by
  obtain ⟨b, off, e, hb, hc⟩ := h.at _ hj
  exact ⟨b, off, e, hb, hc 0 (by decide), hc 1 (by decide), hc 2 (by decide)⟩

theorem get_take (l : List File) (n : Bs) (k : Nat) (hk : k < l.length) (h : ∀ j (h : j < l.length), j < k → l[j].1 ≠ n) (he : l[k].1 = n) : get l n = some l[k].2 := by
  unfold get
  have : l = l.take k ++ l[k] :: l.drop (k + 1) := by rw [← List.drop_eq_getElem_cons hk, List.take_append_drop]
  have hf : (l.take k).find? (fun f => decide (f.1 = n)) = none := by
    rw [List.find?_eq_none]
    intro f hf
    obtain ⟨j, hj, e⟩ := List.getElem_of_mem hf
    rw [List.length_take] at hj
    rw [List.getElem_take] at e
    have := h j (by omega) (by omega)
    rw [e] at this
    simpa using this
  conv => lhs; rw [this, List.find?_append, hf, List.find?_cons]
  simp [he]

set_option maxHeartbeats 1000000 in
set_option maxRecDepth 100000 in
theorem refget_any (a : Option Addr) (cap : Nat) (l : List File) (n : Bs) (hl : l.length ≤ 140737488355328) (w : World) (hr : Row fileSh w a l) :
    Calls Tryz.prog 65 #[.slice a l.length cap, .string (S n)] w fun e w' => e = .returned (.tuple #[.string (S ((get l n).getD [])), .bool (get l n).isSome]) ∧ w' = w := by
  go_enter Tryz.func65, Tryz.ntmps65
  go_wp2
  go_loopw [6] (fun i wr => ∃ k : Nat, i = .int .i64 k ∧ k ≤ l.length ∧ Hid (∀ j (h : j < l.length), j < k → l[j].1 ≠ n) ∧ wr = w)
    (fun i _ => l.length - (intOf i).toNat)
  case atStart => exact ⟨0, rfl, Nat.zero_le _, Lib.hid (fun j _ h => absurd h (by omega)), rfl⟩
  case round =>
    obtain ⟨k, rfl, hk, HN, rfl⟩ := hrel
    by_cases hlt : k < l.length
    · obtain ⟨b, off, rfl, hb, c0, c1⟩ := slF_at hr hlt
      have hki : (k : Int) < (l.length : Int) := by omega
      by_cases he : (l[k]'hlt).1 = n
      · have HG := Lib.hid (get_take l n k hlt HN.out he)
        have hq : ((S (l[k]'hlt).1).toList == (S n).toList) = true := str_eq (by rw [he])
        clear HN hr he
        generalize l[k]'hlt = x at *
        go_wp2
        go_ret2
        exact ⟨by rw [HG.out]; rfl, rfl⟩
      · have hq : ((S (l[k]'hlt).1).toList == (S n).toList) = false := str_ne (fun e => he (S_inj e))
        have HN2 : Hid (∀ j (h : j < l.length), j < k + 1 → l[j].1 ≠ n) := fun j h hj => by
          by_cases h2 : j < k
          · exact HN.out j h h2
          · obtain rfl : j = k := by omega
            exact he
        clear HN he
        generalize l[k]'hlt = x at *
        go_wp2
        go_roundw
        case rel => exact ⟨k + 1, by go_num, by omega, HN2, by first | rfl | trivial⟩
        case measure => simp [intOf]; omega
    · obtain rfl : k = l.length := by omega
      have HG : Hid (get l n = none) := get_eq_none (fun f hf => by
        obtain ⟨j, hj, e⟩ := List.getElem_of_mem hf
        rw [← e]
        exact HN.out j hj hj)
      clear HN hr
      go_wp2
      go_ret2
      exact ⟨by rw [HG.out]; rfl, rfl⟩

set_option maxHeartbeats 2000000 in
set_option maxRecDepth 100000 in
theorem refwithout_any (v : Value) (l : List File) (n : Bs) (hl : l.length ≤ 1000000) (w : World) (hs : SlF w v l) :
    Calls Tryz.prog 97 #[v, .string (S n)] w fun e w' => (∃ u, e = .returned u ∧ Own fileSh w' w.heap.size u (without l n)) ∧ Below w.heap.size w w' := by
  obtain ⟨a, cap, rfl, _, hr, _⟩ := hs
  go_enter Tryz.func97, Tryz.ntmps97
  go_wp2
  go_loopw [5, 6] (fun o i wr => ∃ k : Nat, i = .int .i64 k ∧ k ≤ l.length ∧ Hid (Own fileSh wr w.heap.size o (without (l.take k) n)) ∧ Below w.heap.size w wr)
    (fun _ i _ => l.length - (intOf i).toNat)
  case atStart => exact ⟨0, rfl, Nat.zero_le _, Lib.hid (Own.nil _ _ _), Below.refl _ _⟩
  case round =>
    obtain ⟨k, rfl, hk, HO, hB⟩ := hrel
    by_cases hlt : k < l.length
    · obtain ⟨b, off, rfl, hb, c0, c1⟩ := slF_at (hr.keep _ hB.size (fun b _ _ h => hB.block b h)) hlt
      have hki : (k : Int) < (l.length : Int) := by omega
      have htk : without (l.take (k + 1)) n = without (l.take k) n ++ (if (l[k]'hlt).1 = n then [] else [l[k]'hlt]) := by
        unfold without
        rw [List.take_succ_eq_append_getElem hlt, List.filter_append]
        by_cases h : (l[k]'hlt).1 = n <;> simp [h]
      by_cases he : (l[k]'hlt).1 = n
      · have hq : ((S (l[k]'hlt).1).toList == (S n).toList) = true := str_eq (by rw [he])
        rw [if_pos he, List.append_nil] at htk
        have HO2 := HO.out
        rw [← htk] at HO2
        replace HO2 := Lib.hid HO2
        clear HO he htk
        generalize l[k]'hlt = x at *
        go_wp2
        go_roundw
        case rel => exact ⟨k + 1, by go_num, by omega, HO2, hB⟩
        case measure => simp [intOf]; omega
      · have hq : ((S (l[k]'hlt).1).toList == (S n).toList) = false := str_ne (fun e => he (S_inj e))
        rw [if_neg he] at htk
        obtain ⟨o', w', h1, h2, h3⟩ := rw.append_one fileSh w.heap.size _ (without (l.take k) n) (l[k]'hlt) (by
          have : (without (l.take k) n).length ≤ (l.take k).length := List.length_filter_le _ _
          rw [List.length_take] at this
          omega) wr HO.out hB.size
        rw [← htk] at h2
        have HR := Lib.hid h1
        have HO2 := Lib.hid h2
        have HB2 := Lib.hid (hB.trans h3)
        clear HO he htk h1 h2 h3
        generalize l[k]'hlt = x at *
        go_wp2_with (at_builtin; refine rw.wpList_append_at _ _ _ rfl rfl _ _ _ _ rfl rfl HR.out ?_)
        go_roundw
        case rel => exact ⟨k + 1, by go_num, by omega, HO2, HB2.out⟩
        case measure => simp [intOf]; omega
    · obtain rfl : k = l.length := by omega
      rw [List.take_length] at HO
      go_wp2
      go_ret
      exact ⟨⟨_, rfl, HO.out⟩, hB⟩
end Go.Proofs.YteeeakbgofjinaaGreat.dk
/-! DkRef2 -/
namespace Go.Proofs.YteeeakbgofjinaaGreat.dk
set_option linter.unusedVariables false
open Go.RowKit
open fl (S S_size S_append S_inj str_eq str_ne)
open rw (Arr But Row Own bnext below_box below_drew below_drewN addr_add)

theorem ins_less {f x : File} {l : List File} (h : f.1 < x.1) : ins f (x :: l) = f :: x :: l := by rw [ins, if_pos h]
theorem ins_not {f x : File} {l : List File} (h : ¬ f.1 < x.1) : ins f (x :: l) = x :: ins f l := by rw [ins, if_neg h]
theorem ins_length (f : File) : ∀ l : List File, (ins f l).length = l.length + 1
  | [] => rfl
  | x :: l => by
    unfold ins
    split
    · rfl
    · simp [ins_length f l]
theorem without_length (l : List File) (n : Bs) : (without l n).length ≤ l.length := List.length_filter_le _ _
theorem put_length (l : List File) (f : File) : (put l f).length ≤ l.length + 1 := by unfold put; rw [ins_length]; have := without_length l f.1; omega
/-- How far a file has been put among those that were gone over. -/
structure Ins (f : File) (l : List File) (k : Nat) (q : Bool) (o : List File) : Prop where
  t : q = true → ins f l = o ++ l.drop k
  f : q = false → o = l.take k ∧ ins f l = o ++ ins f (l.drop k)
  n : o.length ≤ k + 1
theorem Ins.start (f : File) (l : List File) : Ins f l 0 false [] := ⟨fun h => (by cases h), fun _ => ⟨rfl, rfl⟩, by simp⟩
theorem Ins.keep {f : File} {l : List File} {k : Nat} {o : List File} (h : Ins f l k true o) (hk : k < l.length) : Ins f l (k + 1) true (o ++ [l[k]]) :=
  ⟨fun _ => by rw [h.t rfl, List.drop_eq_getElem_cons hk]; simp, fun e => (by cases e), by have := h.n; simp; omega⟩
theorem Ins.less {f : File} {l : List File} {k : Nat} {o : List File} (h : Ins f l k false o) (hk : k < l.length) (hl : f.1 < l[k].1) : Ins f l (k + 1) true ((o ++ [f]) ++ [l[k]]) := by
  obtain ⟨h1, h2⟩ := h.f rfl
  refine ⟨fun _ => ?_, fun e => (by cases e), ?_⟩
  · rw [h2, List.drop_eq_getElem_cons hk, ins_less hl]; simp
  · rw [h1]; simp; omega
theorem Ins.more {f : File} {l : List File} {k : Nat} {o : List File} (h : Ins f l k false o) (hk : k < l.length) (hl : ¬ f.1 < l[k].1) : Ins f l (k + 1) false (o ++ [l[k]]) := by
  obtain ⟨h1, h2⟩ := h.f rfl
  refine ⟨fun e => (by cases e), fun _ => ⟨?_, ?_⟩, ?_⟩
  · rw [h1, List.take_succ_eq_append_getElem hk]
  · rw [h2, List.drop_eq_getElem_cons hk, ins_not hl]; simp
  · have := h.n; simp; omega
theorem Ins.done {f : File} {l : List File} {o : List File} (h : Ins f l l.length true o) : ins f l = o := by rw [h.t rfl, List.drop_length, List.append_nil]
theorem Ins.last {f : File} {l : List File} {o : List File} (h : Ins f l l.length false o) : ins f l = o ++ [f] := by
  obtain ⟨_, h2⟩ := h.f rfl
  rw [h2, List.drop_length]
  rfl

theorem own_lower {w : World} {b b' : Nat} {v : Value} {l : List File} (h : Own fileSh w b v l) (hb : b' ≤ b) : Own fileSh w b' v l := by
  obtain ⟨h1, h2 | ⟨g, cap, cur, h3, h4, h5⟩⟩ := h
  · exact ⟨h1, .inl h2⟩
  · exact ⟨h1, .inr ⟨g, cap, cur, h3, by omega, h5⟩⟩

set_option maxHeartbeats 4000000 in
set_option maxRecDepth 100000 in
theorem refwith_any (v : Value) (l : List File) (n s : Bs) (hl : l.length ≤ 1000000) (w : World) (hs : SlF w v l) :
    Calls Tryz.prog 66 #[v, .agg #[.string (S n), .string (S s)]] w fun e w' => (∃ u, e = .returned u ∧ Own fileSh w' w.heap.size u (put l (n, s))) ∧ Below w.heap.size w w' := by
  have b0 := below_box w (.cells #[.string (S n), .string (S s)] 120)
  have hc := refwithout_any v l n hl _ (hs.later _ b0)
  have A0 := Lib.hid (Arr.new w 120 #[.string (S n), .string (S s)])
  have B0 := Lib.hid b0
  have hwl := without_length l n
  have HP : Hid (put l (n, s) = ins (n, s) (without l n)) := rfl
  obtain ⟨va, vn, vc, rfl⟩ : ∃ a n c, v = .slice a n c := by obtain ⟨a, c, e, _⟩ := hs; exact ⟨a, _, c, e⟩
  clear hs b0
  generalize without l n = m at *
  go_enter Tryz.func66, Tryz.ntmps66
  go_wp2_with fail
  refine hc.mono ?_
  rintro e w2 ⟨⟨u, rfl, ho⟩, b2⟩
  have B2 : Hid (Below w.heap.size w w2) := bnext B0.out b2
  have A2 := Lib.hid (A0.out.below b2)
  obtain ⟨a, cap, e, hcap, hr, hnn⟩ := ho.sl
  subst e
  have hwb : w.heap.size < w2.heap.size := A2.out.lt
  clear hc b2 A0 B0 ho hcap hnn
  go_wp2_with fail
  go_loopw [5, 6, 7] (fun o d i wr => ∃ (k : Nat) (q : Bool) (ol : List File), i = .int .i64 k ∧ k ≤ m.length ∧ d = .bool q ∧ Hid (Ins (n, s) m k q ol ∧ Own fileSh wr w2.heap.size o ol ∧ Below w2.heap.size w2 wr))
    (fun _ _ i _ => m.length - (intOf i).toNat)
  case atStart => exact ⟨0, false, [], rfl, Nat.zero_le _, rfl, Ins.start _ _, Own.nil _ _ _, Below.refl _ _⟩
  case round =>
    obtain ⟨k, q, ol, rfl, hk, rfl, HI⟩ := hrel
    obtain ⟨hi, ho, hB⟩ := HI.out
    by_cases hlt : k < m.length
    · obtain ⟨b, off, rfl, hb, c0, c1⟩ := slF_at (hr.keep _ hB.size (fun b _ _ h => hB.block b h)) hlt
      have hki : (k : Int) < (m.length : Int) := by omega
      have f0 : wr.cell? ⟨w.heap.size, 0, none⟩ = some (.string (S n)) := (A2.out.below hB).cell rfl
      have f1 : wr.cell? ⟨w.heap.size, 1, none⟩ = some (.string (S s)) := (A2.out.below hB).cell rfl
      have hls := less_S n (m[k]'hlt).1
      obtain ⟨x, hx⟩ : ∃ x, m[k]'hlt = x := ⟨_, rfl⟩
      have HX : Hid (∃ h : k < m.length, m[k]'h = x) := ⟨hlt, hx⟩
      rw [hx] at c0 c1 hls
      have HQ : Hid (∀ nq, Own fileSh (wr.drewN nq) w2.heap.size u5 ol ∧ Below w2.heap.size w2 (wr.drewN nq) ∧ (wr.drewN nq).cell? ⟨b, off + k * 2, none⟩ = some (.string (S x.1)) ∧ (wr.drewN nq).cell? ⟨b, off + k * 2 + 1, none⟩ = some (.string (S x.2)) ∧ (wr.drewN nq).cell? ⟨w.heap.size, 0, none⟩ = some (.string (S n)) ∧ (wr.drewN nq).cell? ⟨w.heap.size, 1, none⟩ = some (.string (S s))) :=
        fun nq => ⟨ho, below_drewN hB nq, c0, c1, f0, f1⟩
      have HS := Lib.hid hi
      clear hi ho hB hx hlt HI
      cases q with
      | true =>
        go_wp2
        go_quiet (fail)
        obtain ⟨q1, q2, q3, q4, q5, q6⟩ := HQ.out nq
        clear HQ c0 c1 f0 f1 hls
        generalize wr.drewN nq = wq at *
        obtain ⟨o', w', h1, h2, h3⟩ := rw.append_one fileSh w2.heap.size _ ol x (by have := HS.out.n; have := HX.out.1; omega) wq q1 q2.size
        have HN : Hid (Ins (n, s) m (k + 1) true (ol ++ [x]) ∧ Own fileSh w' w2.heap.size o' (ol ++ [x]) ∧ Below w2.heap.size w2 w') := by
          have h4 := HS.out.keep HX.out.1
          rw [HX.out.2] at h4
          exact ⟨h4, h2, q2.trans h3⟩
        have HR := Lib.hid h1
        clear q1 q2 h1 h2 h3
        go_wp2_with (at_builtin; refine rw.wpList_append_at _ _ _ rfl rfl _ _ _ _ rfl rfl HR.out ?_)
        have hl2 := HX.out.1
        go_roundw
        case rel => exact ⟨k + 1, true, _, by go_num, by omega, rfl, HN⟩
        case measure => simp [intOf]; omega
      | false =>
        by_cases hlt2 : n < x.1
        · rw [decide_eq_true hlt2] at hls
          go_wp2
          go_quiet (fail)
          obtain ⟨q1, q2, q3, q4, q5, q6⟩ := HQ.out nq
          clear HQ c0 c1 f0 f1 hls
          generalize wr.drewN nq = wq at *
          obtain ⟨o1, w1, h1, h2, h3⟩ := rw.append_one fileSh w2.heap.size _ ol (n, s) (by have := HS.out.n; have := HX.out.1; omega) wq q1 q2.size
          have q2' := q2.trans h3
          have kk : w1.cell? ⟨b, off + k * 2, none⟩ = some (.string (S x.1)) ∧ w1.cell? ⟨b, off + k * 2 + 1, none⟩ = some (.string (S x.2)) := by
            obtain ⟨b', off', e', hb', c0', c1'⟩ := slF_at (hr.keep _ q2'.size (fun b _ _ h => q2'.block b h)) HX.out.1
            cases e'
            rw [HX.out.2] at c0' c1'
            exact ⟨c0', c1'⟩
          obtain ⟨k0, k1⟩ := kk
          obtain ⟨o2, w3, g1, g2, g3⟩ := rw.append_one fileSh w2.heap.size _ (ol ++ [(n, s)]) x (by have := HS.out.n; have := HX.out.1; simp; omega) w1 h2 q2'.size
          have HN : Hid (Ins (n, s) m (k + 1) true ((ol ++ [(n, s)]) ++ [x]) ∧ Own fileSh w3 w2.heap.size o2 ((ol ++ [(n, s)]) ++ [x]) ∧ Below w2.heap.size w2 w3) := by
            have h4 := HS.out.less HX.out.1 (by rw [HX.out.2]; exact hlt2)
            rw [HX.out.2] at h4
            exact ⟨h4, g2, q2'.trans g3⟩
          have HR := Lib.hid h1
          have HR2 := Lib.hid g1
          clear q1 q2 h1 h2 h3 g1 g2 g3 q2'
          go_wp2_with (at_builtin; first | (refine rw.wpList_append_at _ _ _ rfl rfl _ _ _ _ rfl rfl HR.out ?_; clear HR) | (refine rw.wpList_append_at _ _ _ rfl rfl _ _ _ _ rfl rfl HR2.out ?_; clear HR2))
          have hl2 := HX.out.1
          go_roundw
          case rel => exact ⟨k + 1, true, _, by go_num, by omega, rfl, HN⟩
          case measure => simp [intOf]; omega
        · rw [decide_eq_false hlt2] at hls
          go_wp2
          go_quiet (fail)
          obtain ⟨q1, q2, q3, q4, q5, q6⟩ := HQ.out nq
          clear HQ c0 c1 f0 f1 hls
          generalize wr.drewN nq = wq at *
          obtain ⟨o', w', h1, h2, h3⟩ := rw.append_one fileSh w2.heap.size _ ol x (by have := HS.out.n; have := HX.out.1; omega) wq q1 q2.size
          have HN : Hid (Ins (n, s) m (k + 1) false (ol ++ [x]) ∧ Own fileSh w' w2.heap.size o' (ol ++ [x]) ∧ Below w2.heap.size w2 w') := by
            have h4 := HS.out.more HX.out.1 (by rw [HX.out.2]; exact hlt2)
            rw [HX.out.2] at h4
            exact ⟨h4, h2, q2.trans h3⟩
          have HR := Lib.hid h1
          clear q1 q2 h1 h2 h3
          go_wp2_with (at_builtin; refine rw.wpList_append_at _ _ _ rfl rfl _ _ _ _ rfl rfl HR.out ?_)
          have hl2 := HX.out.1
          go_roundw
          case rel => exact ⟨k + 1, false, _, by go_num, by omega, rfl, HN⟩
          case measure => simp [intOf]; omega
    · obtain rfl : k = m.length := by omega
      have f0 : wr.cell? ⟨w.heap.size, 0, none⟩ = some (.string (S n)) := (A2.out.below hB).cell rfl
      have f1 : wr.cell? ⟨w.heap.size, 1, none⟩ = some (.string (S s)) := (A2.out.below hB).cell rfl
      have hB' : Below w.heap.size w wr := bnext B2.out hB
      cases q with
      | true =>
        have HE : Hid (Own fileSh wr w.heap.size u5 (put l (n, s))) := by
          rw [HP.out, hi.done]
          exact own_lower ho B2.out.size
        have HB' := Lib.hid hB'
        clear hi ho hB HI hr hB' f0 f1
        go_wp2
        go_ret
        exact ⟨⟨_, rfl, HE.out⟩, HB'.out⟩
      | false =>
        obtain ⟨o', w', h1, h2, h3⟩ := rw.append_one fileSh w2.heap.size _ ol (n, s) (by have := hi.n; omega) wr ho hB.size
        have HE : Hid (Own fileSh w' w.heap.size o' (put l (n, s)) ∧ Below w.heap.size w w') := by
          rw [HP.out, hi.last]
          exact ⟨own_lower h2 B2.out.size, B2.out.trans ((hB.trans h3).mono B2.out.size)⟩
        have HR := Lib.hid h1
        clear hi ho hB HI hr hB' h1 h2 h3
        go_wp2_with (at_builtin; refine rw.wpList_append_at _ _ _ rfl rfl _ _ _ _ rfl rfl HR.out ?_)
        go_ret
        exact ⟨⟨_, rfl, HE.out.1⟩, HE.out.2⟩
end Go.Proofs.YteeeakbgofjinaaGreat.dk
/-! DkRef3 -/
namespace Go.Proofs.YteeeakbgofjinaaGreat.dk
set_option linter.unusedVariables false
open Go.RowKit
open fl (S S_size S_append S_inj str_eq str_ne)
open rw (Arr But Row Own bnext below_box below_drew below_drewN addr_add)

theorem used_take (l : List File) (k : Nat) (h : k < l.length) : used (l.take (k + 1)) = used (l.take k) + l[k].2.length := by
  unfold used
  rw [List.take_succ_eq_append_getElem h, List.map_append, List.sum_append]
  simp
theorem used_take_le (l : List File) (k : Nat) : used (l.take k) ≤ used l := by
  have : used l = used (l.take k) + used (l.drop k) := by
    unfold used
    rw [← List.sum_append, ← List.map_append, List.take_append_drop]
  omega

set_option maxHeartbeats 1000000 in
set_option maxRecDepth 100000 in
theorem refused_any (v : Value) (l : List File) (hl : l.length ≤ 140737488355328) (hu : used l ≤ 4611686018427387904) (w : World) (hs : SlF w v l) :
    Calls Tryz.prog 67 #[v] w fun e w' => e = .returned (.int .i64 (used l : Nat)) ∧ w' = w := by
  obtain ⟨a, cap, rfl, _, hr, _⟩ := hs
  go_enter Tryz.func67, Tryz.ntmps67
  go_wp2
  go_loopw [3, 4] (fun n i wr => ∃ k : Nat, i = .int .i64 k ∧ k ≤ l.length ∧ (∃ u : Nat, n = .int .i64 u ∧ Hid (u = used (l.take k)) ∧ u ≤ 4611686018427387904) ∧ wr = w)
    (fun _ i _ => l.length - (intOf i).toNat)
  case atStart => exact ⟨0, rfl, Nat.zero_le _, ⟨0, rfl, by show 0 = used (l.take 0); simp [used], by omega⟩, by first | rfl | trivial⟩
  case round =>
    obtain ⟨k, rfl, hk, ⟨u, rfl, HU, hb⟩, rfl⟩ := hrel
    by_cases hlt : k < l.length
    · obtain ⟨b, off, rfl, hb2, c0, c1⟩ := slF_at hr hlt
      have hki : (k : Int) < (l.length : Int) := by omega
      have hz := S_size (l[k]'hlt).2
      have HN : Hid (u + (l[k]'hlt).2.length = used (l.take (k + 1))) := by
        show _ = _
        rw [used_take l k hlt, HU.out]
      have hle : u + (l[k]'hlt).2.length ≤ 4611686018427387904 := by
        rw [HN.out]
        have := used_take_le l (k + 1)
        omega
      clear HU hr
      generalize l[k]'hlt = x at *
      go_wp2
      go_roundw
      case rel => exact ⟨k + 1, by go_num, by omega, ⟨u + x.2.length, by go_num, HN, hle⟩, by first | rfl | trivial⟩
      case measure => simp [intOf]; omega
    · obtain rfl : k = l.length := by omega
      rw [List.take_length] at HU
      clear hr
      go_wp2
      go_ret
      exact ⟨by rw [← HU.out]; rfl, by first | rfl | trivial⟩

def callV (c : Call) : Value := .agg #[.int .i64 (c.kind : Nat), .string (S c.name), .string (S c.s)]
set_option maxRecDepth 100000 in
theorem refsteps_any (c : Call) (w : World) :
    Calls Tryz.prog 55 #[callV c] w fun e w' => e = .returned (.int .i64 (steps c : Nat)) ∧ Below w.heap.size w w' := by
  unfold callV steps
  by_cases h : c.kind = 1
  · have hq : ((c.kind : Int) == 1) = true := by rw [h]; rfl
    rw [if_pos h]
    have hz := S_size c.s
    clear h
    go_enter Tryz.func55, Tryz.ntmps55
    go_wp2
    go_ret
    exact ⟨rfl, below_box w _⟩
  · have hq : ((c.kind : Int) == 1) = false := by rw [beq_eq_false_iff_ne]; omega
    rw [if_neg h]
    clear h
    go_enter Tryz.func55, Tryz.ntmps55
    go_wp2
    go_ret
    exact ⟨rfl, below_box w _⟩

/-- What Done owes: the slice that came in, or a new row. -/
def DoneP (w : World) (v : Value) (l : List File) (e : Ending) (w' : World) : Prop := (∃ u, e = .returned u ∧ SlF w' u l ∧ (u = v ∨ Own fileSh w' w.heap.size u l)) ∧ Below w.heap.size w w'

set_option maxHeartbeats 4000000 in
set_option maxRecDepth 100000 in
theorem refdone_any (v : Value) (l : List File) (c : Call) (n : Nat) (hl : l.length ≤ 1000000) (hn : n ≤ steps c) (hg : ((get l c.name).getD []).length ≤ 140737488355328) (hc : c.s.length ≤ 140737488355328) (w : World) (hs : SlF w v l) :
    Calls Tryz.prog 56 #[v, callV c, .int .i64 (n : Nat)] w (DoneP w v (done l c n)) := by
  have b0 := below_box w (.cells #[.int .i64 (c.kind : Nat), .string (S c.name), .string (S c.s)] 62)
  have A0 := Arr.new w 62 #[.int .i64 (c.kind : Nat), .string (S c.name), .string (S c.s)]
  have HS := Lib.hid (hs.later _ b0)
  have HB := Lib.hid b0
  obtain ⟨a, cap, rfl, _, hr, _⟩ := id hs
  have hr0 := hr.keep _ b0.size (fun b _ _ h => b0.block b h)
  obtain ⟨kind, name, s⟩ := c
  unfold callV DoneP
  simp only at *
  by_cases h0 : n < 1
  · have hi : (n : Int) < 1 := by omega
    have e : done l ⟨kind, name, s⟩ n = l := by unfold done; rw [if_pos h0]
    rw [e]
    clear e h0 A0 hr0 hr hn hg hc
    obtain ⟨ln, hln⟩ : ∃ ln, l.length = ln := ⟨_, rfl⟩
    rw [hln] at HS hs ⊢
    clear hs
    go_enter Tryz.func56, Tryz.ntmps56
    go_wp2
    go_ret
    exact ⟨⟨_, rfl, HS.out, .inl rfl⟩, HB.out⟩
  have hi : ¬ (n : Int) < 1 := by omega
  by_cases h1 : kind = 1
  · subst h1
    have e : done l ⟨1, name, s⟩ n = put l (name, (get l name).getD [] ++ s.take n) := by unfold done; rw [if_neg h0]; simp
    rw [e]
    have hns : n ≤ s.length := by unfold steps at hn; simpa using hn
    have hG := refget_any a cap l name (by omega) _ hr0
    have hz := S_size s
    have hsl := fun (W : World) => run_slice_string_h (P := Tryz.prog) (w := W) (t := 9) (s := S s) Tryz.underlying9 .i64 (n : Int) (by omega) (by rw [hz]; omega)
    rw [show (S s).extract 0 (Int.toNat (n : Int)) = S (s.take n) by
      rw [Int.toNat_natCast]
      apply ByteArray.ext
      apply Array.toList_inj.1
      rw [Lib.extract_data, fl.S_data, fl.S_data]
      simp] at hsl
    obtain ⟨g, hgg⟩ : ∃ g, (get l name).getD [] = g := ⟨_, rfl⟩
    obtain ⟨gs, hgs⟩ : ∃ gs, (get l name).isSome = gs := ⟨_, rfl⟩
    rw [hgg] at hg hG ⊢
    rw [hgs] at hG
    have hadd := fun (W : World) => run_string_add_sum (P := Tryz.prog) W (S g) (S (s.take n)) (by rw [S_size, S_size, List.length_take]; omega)
    rw [S_append] at hadd
    have HW := Lib.hid (fun W h => refwith_any (.slice a l.length cap) l name (g ++ s.take n) hl W h)
    have HA := Lib.hid A0
    generalize g ++ s.take n = t at *
    generalize s.take n = st at *
    have hx1 : ((1 : Nat) : Int) = 1 := rfl
    clear e h0 A0 hr0 hr hs hgg hgs hn hns hg hc hl
    generalize l.length = ln at *
    go_enter Tryz.func56, Tryz.ntmps56
    go_wp2_with fail
    refine hG.mono ?_
    rintro e w1 ⟨rfl, rfl⟩
    clear hG
    go_upto_region 6 with (fail)
    generalize w.alloc (.cells #[.int .i64 1, .string (S name), .string (S s)] 62) = W0 at *
    have d1 : W0.drew.cell? ⟨w.heap.size, 1, none⟩ = some (.string (S name)) := HA.out.cell rfl
    have d2 : W0.drew.cell? ⟨w.heap.size, 2, none⟩ = some (.string (S s)) := HA.out.cell rfl
    have hcl := HW.out W0.drew (HS.out.later _ (below_drew (Below.refl _ _)))
    have hlt := HA.out.lt
    clear HW HS
    go_region_held3 (fun W => W.cell? ⟨w.heap.size, 1, none⟩ = some (.string (S name)) ∧ W.cell? ⟨w.heap.size, 2, none⟩ = some (.string (S s))) (first | (with_reducible exact ⟨d1, d2⟩) | exact ⟨(b2.cell (p := ⟨w.heap.size, 1, none⟩) hlt).trans d1, (b2.cell (p := ⟨w.heap.size, 2, none⟩) hlt).trans d2⟩ | go_keep)
      ((go_at_call 66; refine hcl.mono ?_; rintro e w2 ⟨⟨u, rfl, ho⟩, b2⟩))
    have HO := Lib.hid ho
    have HB2 := Lib.hid (bnext (below_drew HB.out) b2)
    have HL : Hid (w.heap.size ≤ W0.drew.heap.size) := HB.out.size
    clear ho b2 hcl d1 d2
    go_wp2_with fail
    go_ret
    exact ⟨⟨_, rfl, HO.out.sl, .inr (own_lower HO.out HL.out)⟩, HB2.out⟩
  have hk1 : ((kind : Int) == 1) = false := by rw [beq_eq_false_iff_ne]; omega
  by_cases h2 : kind = 2
  · subst h2
    have e : done l ⟨2, name, s⟩ n = put l (name, s) := by unfold done; rw [if_neg h0]; simp
    rw [e]
    have HW := refwith_any (.slice a l.length cap) l name s hl _ HS.out
    have HL : Hid (w.heap.size ≤ (w.alloc (.cells #[.int .i64 ((2 : Nat) : Int), .string (S name), .string (S s)] 62)).heap.size) := HB.out.size
    have hx1 : ((2 : Nat) : Int) = 2 := rfl
    rw [hx1] at HW HB HL
    clear e h0 A0 hr0 hr hs hn hg hc hl HS h1 hk1
    generalize l.length = ln at *
    go_enter Tryz.func56, Tryz.ntmps56
    go_wp2_with fail
    refine HW.mono ?_
    rintro e w2 ⟨⟨u, rfl, ho⟩, b2⟩
    have HO := Lib.hid ho
    have HB2 := Lib.hid (bnext HB.out b2)
    clear ho b2 HW
    go_wp2_with fail
    go_ret
    exact ⟨⟨_, rfl, HO.out.sl, .inr (own_lower HO.out HL.out)⟩, HB2.out⟩
  · have hk2 : ((kind : Int) == 2) = false := by rw [beq_eq_false_iff_ne]; omega
    have e : done l ⟨kind, name, s⟩ n = without l name := by unfold done; rw [if_neg h0, if_neg h1, if_neg h2]
    rw [e]
    have HW := refwithout_any (.slice a l.length cap) l name hl _ HS.out
    have HL : Hid (w.heap.size ≤ (w.alloc (.cells #[.int .i64 (kind : Int), .string (S name), .string (S s)] 62)).heap.size) := HB.out.size
    clear e h0 A0 hr0 hr hs hn hg hc hl HS h1 h2
    generalize l.length = ln at *
    go_enter Tryz.func56, Tryz.ntmps56
    go_wp2_with fail
    refine HW.mono ?_
    rintro e w2 ⟨⟨u, rfl, ho⟩, b2⟩
    have HO := Lib.hid ho
    have HB2 := Lib.hid (bnext HB.out b2)
    clear ho b2 HW
    go_wp2_with fail
    go_ret
    exact ⟨⟨_, rfl, HO.out.sl, .inr (own_lower HO.out HL.out)⟩, HB2.out⟩

end Go.Proofs.YteeeakbgofjinaaGreat.dk
/-! Mp -/
namespace Go.Proofs.YteeeakbgofjinaaGreat.mp
set_option linter.unusedVariables false
open Go.RowKit Go.Maps Go.ChangeMaps Go.MapKept Go.WideMaps
open fl (S S_size S_data)

abbrev Bs := List UInt8
section
variable {β : Type}
def kget (l : List (Bs × β)) (n : Bs) : Option β := (l.find? fun f => decide (f.1 = n)).map (·.2)
def kwithout (l : List (Bs × β)) (n : Bs) : List (Bs × β) := l.filter fun f => decide (f.1 ≠ n)
def kins (f : Bs × β) : List (Bs × β) → List (Bs × β)
  | [] => [f]
  | x :: r => if f.1 < x.1 then f :: x :: r else x :: kins f r
def kput (l : List (Bs × β)) (f : Bs × β) : List (Bs × β) := kins f (kwithout l f.1)
def KSorted (l : List (Bs × β)) : Prop := l.Pairwise fun a b => a.1 < b.1

theorem mem_kwithout {l : List (Bs × β)} {n : Bs} {f : Bs × β} : f ∈ kwithout l n ↔ f ∈ l ∧ f.1 ≠ n := by simp [kwithout]
theorem mem_kins {f g : Bs × β} : ∀ {l : List (Bs × β)}, g ∈ kins f l ↔ g = f ∨ g ∈ l
  | [] => by simp [kins]
  | x :: r => by
    unfold kins
    split
    · simp
    · rw [List.mem_cons, mem_kins, List.mem_cons]
      constructor
      · rintro (h | h | h)
        · exact .inr (.inl h)
        · exact .inl h
        · exact .inr (.inr h)
      · rintro (h | h | h)
        · exact .inr (.inl h)
        · exact .inl h
        · exact .inr (.inr h)
theorem mem_kput {l : List (Bs × β)} {f g : Bs × β} : g ∈ kput l f ↔ g = f ∨ (g ∈ l ∧ g.1 ≠ f.1) := by unfold kput; rw [mem_kins, mem_kwithout]
theorem klt_irr (a : Bs) : ¬ a < a := List.lt_irrefl a
theorem klt_tri {a b : Bs} (h : a ≠ b) : a < b ∨ b < a := by
  by_cases h1 : a < b
  · exact .inl h1
  · by_cases h2 : b < a
    · exact .inr h2
    · exact absurd (List.le_antisymm (List.not_lt.1 h2) (List.not_lt.1 h1)) h
theorem kwithout_sorted {l : List (Bs × β)} (h : KSorted l) (n : Bs) : KSorted (kwithout l n) := h.sublist List.filter_sublist
theorem kins_sorted {f : Bs × β} : ∀ {l : List (Bs × β)}, KSorted l → (∀ g ∈ l, g.1 ≠ f.1) → KSorted (kins f l)
  | [], _, _ => List.pairwise_singleton _ _
  | x :: r, h, hn => by
    unfold kins
    obtain ⟨hx, hr⟩ := List.pairwise_cons.1 h
    split
    · next hlt =>
      refine List.pairwise_cons.2 ⟨fun g hg => ?_, h⟩
      rcases List.mem_cons.1 hg with rfl | hg
      · exact hlt
      · exact List.lt_trans hlt (hx g hg)
    · next hlt =>
      have hxf : x.1 < f.1 := by
        rcases klt_tri (hn x List.mem_cons_self) with h1 | h1
        · exact h1
        · exact absurd h1 hlt
      refine List.pairwise_cons.2 ⟨fun g hg => ?_, kins_sorted hr (fun g hg => hn g (List.mem_cons_of_mem _ hg))⟩
      rcases mem_kins.1 hg with rfl | hg
      · exact hxf
      · exact hx g hg
theorem kput_sorted {l : List (Bs × β)} (h : KSorted l) (f : Bs × β) : KSorted (kput l f) := kins_sorted (kwithout_sorted h _) (fun g hg => (mem_kwithout.1 hg).2)
theorem kget_some {l : List (Bs × β)} {n : Bs} {s : β} (h : kget l n = some s) : (n, s) ∈ l := by
  unfold kget at h
  obtain ⟨f, h1, h2⟩ := Option.map_eq_some_iff.1 h
  have h3 := List.find?_some h1
  have h4 := List.mem_of_find?_eq_some h1
  obtain ⟨a, b⟩ := f
  simp only [decide_eq_true_eq] at h3 h2
  subst h3 h2
  exact h4
theorem kget_none {l : List (Bs × β)} {n : Bs} (h : kget l n = none) : ∀ f ∈ l, f.1 ≠ n := by
  unfold kget at h
  intro f hf
  have := List.find?_eq_none.1 (Option.map_eq_none_iff.1 h) f hf
  simpa using this
theorem kget_of_mem {l : List (Bs × β)} (h : KSorted l) {n : Bs} {s : β} (hm : (n, s) ∈ l) : kget l n = some s := by
  induction l with
  | nil => cases hm
  | cons x r ih =>
    obtain ⟨hx, hr⟩ := List.pairwise_cons.1 h
    unfold kget
    rw [List.find?_cons]
    rcases List.mem_cons.1 hm with e | hm
    · subst e
      simp
    · have : x.1 ≠ n := fun e => klt_irr n (by have := hx _ hm; rwa [e] at this)
      simp only [this, decide_false]
      exact ih hr hm
theorem kget_eq_none {l : List (Bs × β)} {n : Bs} (h : ∀ f ∈ l, f.1 ≠ n) : kget l n = none := by
  unfold kget
  rw [Option.map_eq_none_iff, List.find?_eq_none]
  intro f hf
  simpa using h f hf
theorem kwithout_length (l : List (Bs × β)) (n : Bs) : (kwithout l n).length ≤ l.length := List.length_filter_le _ _
theorem kins_length (f : Bs × β) : ∀ l : List (Bs × β), (kins f l).length = l.length + 1
  | [] => rfl
  | x :: r => by
    unfold kins
    split
    · rfl
    · simp [kins_length f r]
theorem kput_length (l : List (Bs × β)) (f : Bs × β) : (kput l f).length ≤ l.length + 1 := by
  unfold kput
  rw [kins_length]
  have := kwithout_length l f.1
  omega
variable {γ : Type}
/-- What stands at the keys, seen otherwise. -/
abbrev kmap (g : β → γ) (l : List (Bs × β)) : List (Bs × γ) := l.map fun f => (f.1, g f.2)
theorem kmap_without (g : β → γ) (l : List (Bs × β)) (n : Bs) : kmap g (kwithout l n) = kwithout (kmap g l) n := by
  unfold kmap kwithout
  rw [List.filter_map]
  rfl
theorem kmap_ins (g : β → γ) (f : Bs × β) : ∀ l : List (Bs × β), kmap g (kins f l) = kins (f.1, g f.2) (kmap g l)
  | [] => rfl
  | x :: r => by
    have ih := kmap_ins g f r
    unfold kins
    by_cases h : f.1 < x.1
    · rw [if_pos h]
      show _ = if f.1 < x.1 then _ else _
      rw [if_pos h]
      rfl
    · rw [if_neg h]
      show _ = if f.1 < x.1 then _ else _
      rw [if_neg h]
      show (x.1, g x.2) :: kmap g (kins f r) = _
      rw [ih]
theorem kmap_put (g : β → γ) (f : Bs × β) (l : List (Bs × β)) : kmap g (kput l f) = kput (kmap g l) (f.1, g f.2) := by unfold kput; rw [kmap_ins, kmap_without]
theorem kmap_get (g : β → γ) (l : List (Bs × β)) (n : Bs) : kget (kmap g l) n = (kget l n).map g := by
  unfold kget kmap
  rw [List.find?_map, Option.map_map, Option.map_map]
  rfl
theorem kmap_sorted (g : β → γ) {l : List (Bs × β)} : KSorted (kmap g l) ↔ KSorted l := by unfold KSorted kmap; rw [List.pairwise_map]
theorem kmap_length (g : β → γ) (l : List (Bs × β)) : (kmap g l).length = l.length := by simp
end

/-! ### As the datum that the library's laws speak of -/
def R (v : Value) : Option (DataW Value × List MemPlace) := some (.held v, [])
def enc (l : List (Bs × Value)) : DataW Value := .map (l.map fun p => (.string p.1, .held p.2))
theorem before_lt : ∀ a b : Bs, bytesBefore a b = decide (a < b)
  | [], [] => by simp [bytesBefore]
  | [], b :: s => by simp [bytesBefore]
  | a :: r, [] => by simp [bytesBefore]
  | a :: r, b :: s => by
    rw [bytesBefore, before_lt r s, Bool.eq_iff_iff, decide_eq_true_eq, List.cons_lt_cons_iff]
    simp
theorem enc_insert (f : Bs × Value) : ∀ l : List (Bs × Value), DataW.insert (.string f.1, .held f.2) (l.map fun p => ((.string p.1 : Lit), (.held p.2 : DataW Value))) = (kins f l).map fun p => (.string p.1, .held p.2)
  | [] => rfl
  | x :: r => by
    have ih := enc_insert f r
    rw [List.map_cons, DataW.insert, kins]
    have e : Lit.before (.string f.1) (.string x.1) = decide (f.1 < x.1) := before_lt _ _
    simp only [e, decide_eq_true_eq]
    split
    · rfl
    · rw [List.map_cons, ih]
theorem enc_filter (n : Bs) (l : List (Bs × Value)) : (l.map fun p => ((.string p.1 : Lit), (.held p.2 : DataW Value))).filter (fun p => !p.1.sameKey (.string n)) = (kwithout l n).map fun p => (.string p.1, .held p.2) := by
  rw [List.filter_map]
  unfold kwithout
  congr 1
  refine List.filter_congr fun x _ => ?_
  by_cases h : x.1 = n <;> simp [Lit.sameKey, Function.comp, h]
theorem enc_put (l : List (Bs × Value)) (n : Bs) (v : Value) : (enc l).put (.string n) (.held v) = enc (kput l (n, v)) := by
  unfold enc DataW.put kput
  simp only
  rw [enc_filter, enc_insert (n, v)]
theorem enc_del (l : List (Bs × Value)) (n : Bs) : (enc l).del (.string n) = enc (kwithout l n) := by
  unfold enc DataW.del
  simp only
  rw [enc_filter]
theorem enc_at (l : List (Bs × Value)) (n : Bs) (z : DataW Value) : (enc l).atKey (.string n) z = match kget l n with | some v => .held v | none => z := by
  unfold enc DataW.atKey kget
  simp only
  rw [List.find?_map]
  have e : ((fun p : Lit × DataW Value => p.1.sameKey (.string n)) ∘ fun p : Bs × Value => ((.string p.1 : Lit), (.held p.2 : DataW Value))) = fun f : Bs × Value => decide (f.1 = n) := by
    funext f
    by_cases h : f.1 = n <;> simp [Lit.sameKey, Function.comp, h]
  rw [e]
  cases l.find? (fun f => decide (f.1 = n)) <;> rfl
theorem enc_has (l : List (Bs × Value)) (n : Bs) : has (enc l) (.string n) = (kget l n).isSome := by
  unfold enc kget
  rw [has_eq, List.any_map, Option.isSome_map, Bool.eq_iff_iff, List.any_eq_true, List.find?_isSome]
  constructor
  · rintro ⟨x, h1, h2⟩
    exact ⟨x, h1, by simpa [Lit.sameKey, Function.comp] using h2⟩
  · rintro ⟨x, h1, h2⟩
    exact ⟨x, h1, by simpa [Lit.sameKey, Function.comp] using h2⟩
theorem enc_size (l : List (Bs × Value)) : size (enc l) = l.length := by unfold enc; rw [size_eq, List.length_map]
theorem enc_strKeys (l : List (Bs × Value)) : strKeys (enc l) = l.map (·.1) := by
  show (l.map fun p => ((.string p.1 : Lit), (.held p.2 : DataW Value))).map (fun p => strOf p.1) = _
  rw [List.map_map]; rfl

/-! ### In memory -/
theorem klaw : Keyed Tryz.prog 9 := string_keyed Tryz.underlying9
theorem kstr (n : Bs) (h : n.length ≤ maxLen) : keyOf Tryz.prog 9 (.string (S n)) = some (.string n) := by
  have := keyOf_string_mk (P := Tryz.prog) Tryz.underlying9 (s := S n) h
  rwa [S_data] at this
/-- Block b is a map that holds l. -/
def Mp (w : World) (b : Nat) (l : List (Bs × Value)) : Prop := w.ownsMap Tryz.prog 9 R b l.length (enc l) ∧ KSorted l
theorem Mp.lt {w : World} {b : Nat} {l : List (Bs × Value)} (h : Mp w b l) : b < w.heap.size := h.1.lt
theorem Mp.block {w : World} {b : Nat} {l : List (Bs × Value)} (h : Mp w b l) : ∃ es c, w.heap[b]? = some (.map es c) := by obtain ⟨es, c, hb, _⟩ := h.1; exact ⟨es, c, hb⟩
theorem Mp.of {w w' : World} {b : Nat} {l : List (Bs × Value)} (h : Mp w b l) (hb : w'.heap[b]? = w.heap[b]?) : Mp w' b l := by
  obtain ⟨⟨es, c, h1, h2⟩, hs⟩ := h
  exact ⟨⟨es, c, hb.trans h1, h2⟩, hs⟩
theorem Mp.made (w : World) : Mp (w.alloc (.map #[] 0)) w.heap.size [] := ⟨World.ownsMap_made w _ _ _, List.Pairwise.nil⟩
theorem Mp.look {w : World} {b : Nat} {l : List (Bs × Value)} (h : Mp w b l) {T E : TypeId} (hT : Tryz.prog.underlying T = some (.map 9 E)) {z : Value} (hz : (zeroValue E).run Tryz.prog w = .ok z w) (n : Bs) (hn : n.length ≤ maxLen) :
    (Instr.lookup T (.map (some b)) (.string (S n)) false).run Tryz.prog w = .ok ((kget l n).getD z) w := by
  obtain ⟨v, ps, h1, h2⟩ := h.1.lookup klaw hT hz (zd := .held z) (zp := []) rfl (kstr n hn)
  rw [h1, enc_at] at *
  have e : v = (kget l n).getD z := by
    unfold R at h2
    cases hk : kget l n with
    | none => rw [hk] at h2; simp at h2; exact h2.1
    | some u => rw [hk] at h2; simp at h2; exact h2.1
  rw [e]
theorem Mp.lookok {w : World} {b : Nat} {l : List (Bs × Value)} (h : Mp w b l) {T E : TypeId} (hT : Tryz.prog.underlying T = some (.map 9 E)) {z : Value} (hz : (zeroValue E).run Tryz.prog w = .ok z w) (n : Bs) (hn : n.length ≤ maxLen) :
    (Instr.lookup T (.map (some b)) (.string (S n)) true).run Tryz.prog w = .ok (.tuple #[(kget l n).getD z, .bool (kget l n).isSome]) w := by
  obtain ⟨v, ps, h1, h2⟩ := h.1.look_ok klaw hT hz (zd := .held z) (zp := []) rfl (kstr n hn)
  rw [enc_has] at h1
  rw [enc_at] at h2
  rw [h1]
  have e : v = (kget l n).getD z := by
    unfold R at h2
    cases hk : kget l n with
    | none => rw [hk] at h2; simp at h2; exact h2.1
    | some u => rw [hk] at h2; simp at h2; exact h2.1
  rw [e]
/-- Only that map has turned. -/
structure Turned (b : Nat) (w w' : World) : Prop where
  os : w'.os = w.os
  tape : w'.tape = w.tape
  output : w'.output = w.output
  size : w'.heap.size = w.heap.size
  block : ∀ k, k ≠ b → w'.heap[k]? = w.heap[k]?
theorem Turned.of {b : Nat} {w w' : World} (h : w.mapTurned w' b) : Turned b w w' := by
  obtain ⟨es, c, es', c', hb, rfl⟩ := h
  exact ⟨rfl, rfl, rfl, by simp [setBlock], fun k hk => heap_setBlock_other hb _ hk⟩
theorem enc_tidy {w : World} {b : Nat} {l : List (Bs × Value)} {n : Nat} (h : w.ownsMap Tryz.prog 9 R b n (enc l)) : w.ownsMap Tryz.prog 9 R b l.length (enc l) := by
  obtain ⟨es, c, hb, F, hs, hD⟩ := h
  refine ⟨es, c, hb, F, ?_, hD⟩
  have := enc_size l
  rw [hD, size_eq, length_read] at this
  omega
theorem Mp.store {w : World} {b : Nat} {l : List (Bs × Value)} (h : Mp w b l) {T E : TypeId} (hT : Tryz.prog.underlying T = some (.map 9 E)) (n : Bs) (hn : n.length ≤ maxLen) (hl : l.length < maxLen) (v : Value) :
    ∃ w', (Instr.mapUpdate T (.map (some b)) (.string (S n)) v).run Tryz.prog w = .ok () w' ∧ Mp w' b (kput l (n, v)) ∧ Turned b w w' := by
  obtain ⟨w', h1, h2, h3⟩ := h.1.store klaw hT hl (kstr n hn) (val := v) (d := .held v) (ps := []) rfl
  rw [enc_put] at h2
  exact ⟨w', h1, ⟨enc_tidy h2, kput_sorted h.2 _⟩, Turned.of h3⟩
theorem Mp.drop {w : World} {b : Nat} {l : List (Bs × Value)} (h : Mp w b l) {T E : TypeId} (hT : Tryz.prog.underlying T = some (.map 9 E)) (n : Bs) (hn : n.length ≤ maxLen) (ty : TypeId) :
    ∃ w', (Builtin.delete_ #[T, 9] ty #[.map (some b), .string (S n)]).run Tryz.prog w = .ok (.tuple #[]) w' ∧ Mp w' b (kwithout l n) ∧ Turned b w w' := by
  obtain ⟨w', h1, h2, h3⟩ := h.1.drop klaw hT (kstr n hn) ty
  rw [enc_del] at h2
  exact ⟨w', h1, ⟨enc_tidy h2, kwithout_sorted h.2 _⟩, Turned.of h3⟩
theorem Mp.len {w : World} {b : Nat} {l : List (Bs × Value)} (h : Mp w b l) {T E : TypeId} (hT : Tryz.prog.underlying T = some (.map 9 E)) (ty : TypeId) :
    (Builtin.len_ #[T] ty #[.map (some b)]).run Tryz.prog w = .ok (.int .i64 (l.length : Nat)) w := by
  rw [h.1.len hT ty, enc_size]

/-! ### Gone over -/
/-- What is under way: r is the iterator; rest: what is still to come, in the map's own order. -/
def Ranging (w : World) (b r : Nat) (l rest : List (Bs × Value)) : Prop :=
  KSorted l ∧ rest.Sublist l ∧ ∃ left cnt, w.ranges Tryz.prog 9 R b r l.length (enc l) left cnt ∧ ∀ n, left (.string n) = (kget rest n).isSome
theorem Ranging.mp {w : World} {b r : Nat} {l rest : List (Bs × Value)} (h : Ranging w b r l rest) : Mp w b l := by obtain ⟨h1, _, left, cnt, h3, _⟩ := h; exact ⟨h3.owns, h1⟩
theorem Ranging.lt {w : World} {b r : Nat} {l rest : List (Bs × Value)} (h : Ranging w b r l rest) : r < w.heap.size := by obtain ⟨_, _, left, cnt, h3, _⟩ := h; exact h3.lt
theorem Ranging.ne {w : World} {b r : Nat} {l rest : List (Bs × Value)} (h : Ranging w b r l rest) : r ≠ b := by obtain ⟨_, _, left, cnt, h3, _⟩ := h; exact h3.ne
theorem Ranging.iter {w : World} {b r : Nat} {l rest : List (Bs × Value)} (h : Ranging w b r l rest) : ∃ a c d e, w.heap[r]? = some (.mapIter a c d e) := by
  obtain ⟨_, _, left, cnt, ⟨es, c, si, se, c0, a1, a2, a3, a4, a5, a6⟩, _⟩ := h
  exact ⟨_, _, _, _, a5⟩
theorem Ranging.of {w w' : World} {b r : Nat} {l rest : List (Bs × Value)} (h : Ranging w b r l rest) (hb : w'.heap[b]? = w.heap[b]?) (hr : w'.heap[r]? = w.heap[r]?) : Ranging w' b r l rest := by
  obtain ⟨h1, h2, left, cnt, ⟨es, c, si, se, c0, a1, a2, a3, a4, a5, a6⟩, h4⟩ := h
  exact ⟨h1, h2, left, cnt, ⟨es, c, si, se, c0, hb.trans a1, a2, a3, a4, hr.trans a5, a6⟩, h4⟩
theorem left_of {w w' : World} {b r : Nat} (hb : w'.heap[b]? = w.heap[b]?) (hr : w'.heap[r]? = w.heap[r]?) : w'.rangeLeft b r = w.rangeLeft b r := by unfold World.rangeLeft; rw [hb, hr]
theorem Mp.range {w : World} {b : Nat} {l : List (Bs × Value)} (h : Mp w b l) {T E : TypeId} (hT : Tryz.prog.underlying T = some (.map 9 E)) :
    ∃ w', (Instr.range T (.map (some b))).run Tryz.prog w = .ok (.pointer (some ⟨w.heap.size, 0, none⟩)) w' ∧ Ranging w' b w.heap.size l l ∧ Below w.heap.size w w' ∧ w'.heap.size = w.heap.size + 1 := by
  obtain ⟨w', h1, h2, h3, h4⟩ := h.1.range klaw hT
  exact ⟨w', h1, ⟨h.2, List.Sublist.refl _, _, _, h2, fun n => enc_has l n⟩, ⟨h3.os, h3.tape, h3.output, h3.size, fun k hk => h3.block k hk (by simp)⟩, h4⟩
theorem kget_without (l : List (Bs × Value)) (n m : Bs) : kget (kwithout l n) m = if m = n then none else kget l m := by
  split
  · next h => subst h; exact kget_eq_none fun f hf => (mem_kwithout.1 hf).2
  · next h =>
    unfold kget kwithout
    rw [List.find?_filter]
    congr 2
    funext f
    by_cases h2 : f.1 = m
    · subst h2; simp [h]
    · simp [h2]
/-- The step: nothing is left, or one that is left comes, whichever. -/
theorem Ranging.next {w : World} {b r : Nat} {l rest : List (Bs × Value)} (h : Ranging w b r l rest) (ty : TypeId) :
    (rest = [] ∧ (Instr.next (.pointer (some ⟨r, 0, none⟩)) false ty).run Tryz.prog w = .ok (.tuple #[.bool false]) w) ∨
    ∃ n v w', (n, v) ∈ rest ∧ n.length ≤ maxLen ∧ (Instr.next (.pointer (some ⟨r, 0, none⟩)) false ty).run Tryz.prog w = .ok (.tuple #[.bool true, .string (S n), v]) w' ∧ Ranging w' b r l (kwithout rest n) ∧ Turned r w w' ∧
      w'.rangeLeft b r < w.rangeLeft b r ∧ (Instr.entry (.pointer (some ⟨r, 0, none⟩))).run Tryz.prog w' = .ok (.tuple #[.string (S n), v]) w' := by
  obtain ⟨h1, h2, left, cnt, h3, h4⟩ := h
  rcases h3.next klaw ty with ⟨_, e2, e3⟩ | ⟨key, v, kl, y, w', cnt', a1, a2, a3, a4, a5, a6, a7, a8, a9, a10⟩
  · refine .inl ⟨?_, e3⟩
    cases rest with
    | nil => rfl
    | cons x t =>
      exfalso
      have h5 := h4 x.1
      rw [e2] at h5
      have : kget (x :: t) x.1 = some x.2 := by unfold kget; rw [List.find?_cons]; simp
      rw [this] at h5
      cases h5
  · obtain ⟨n, rfl, rfl, hn⟩ := Maps.keyOf_str Tryz.underlying9 a1
    obtain rfl : y = (.held v, []) := by unfold R at a3; exact (Option.some.inj a3).symm
    have hs : KSorted rest := List.Pairwise.sublist h2 h1
    have hr : (kget rest n).isSome = true := by rw [← h4]; exact a2
    obtain ⟨u, hu⟩ := Option.isSome_iff_exists.1 hr
    have hm := kget_some hu
    have hml : (n, u) ∈ l := h2.subset hm
    have hv : u = v := by
      have := a4 .nil
      rw [enc_at, kget_of_mem h1 hml] at this
      simpa using this
    subst hv
    have hlt : w'.rangeLeft b r < w.rangeLeft b r := by rw [a6.left_eq, h3.left_eq]; exact a7
    refine .inr ⟨n, u, w', hm, hn, a5, ⟨h1, List.Sublist.trans List.filter_sublist h2, _, cnt', a6, fun m => ?_⟩, ⟨a8.os, a8.tape, a8.output, a9, fun k hk => ?_⟩, hlt, a10⟩
    · show (left (.string m) && !(Lit.string m).sameKey (.string n)) = _
      rw [kget_without, h4]
      by_cases e : m = n
      · subst e; simp [Lit.sameKey]
      · simp [e, Lit.sameKey]
    · by_cases hlt : k < w.heap.size
      · exact a8.block k hlt (fun e => hk (Option.some.inj e))
      · rw [Array.getElem?_eq_none (by omega), Array.getElem?_eq_none (by omega)]
end Go.Proofs.YteeeakbgofjinaaGreat.mp
/-! DkP1 -/
namespace Go.Proofs.YteeeakbgofjinaaGreat.dk
set_option linter.unusedVariables false
open Go.RowKit
open fl (S S_size S_append S_inj str_eq str_ne)
open rw (Arr But Row Own bnext below_box below_drew below_drewN addr_add Fr RowB)
open mp (Mp Turned kget kput kwithout kmap KSorted)

/-! ### The lists are the same -/
theorem get_k (l : List File) (n : Bs) : kget l n = get l n := rfl
theorem without_k (l : List File) (n : Bs) : kwithout l n = without l n := rfl
theorem ins_k (f : File) : ∀ l : List File, mp.kins f l = ins f l
  | [] => rfl
  | x :: r => by unfold mp.kins ins; rw [ins_k f r]
theorem put_k (l : List File) (f : File) : kput l f = put l f := by unfold kput put; rw [ins_k]; rfl
theorem sorted_k (l : List File) : KSorted l ↔ Sorted l := Iff.rfl

/-- A file as it lies: its name, its bytes, its row. -/
abbrev FV := Bs × (Bs × Value)
abbrev con (fs : List FV) : List File := kmap (fun x => x.1) fs
abbrev vals (fs : List FV) : List (Bs × Value) := kmap (fun x => Value.agg #[x.2]) fs
structure FMs (w : World) (b : Nat) (fs : List FV) : Prop where
  map : Mp w b (vals fs)
  own : ∀ f ∈ fs, RowB w f.2.2 f.2.1
  apart : ∀ f ∈ fs, ∀ g ∈ fs, f.1 ≠ g.1 → ∀ q, f.2.2.ownBlock = some q → g.2.2.ownBlock ≠ some q
  small : ∀ f ∈ fs, f.1.length ≤ maxLen
/-- The blocks that they take. -/
def foot (b : Nat) (fs : List FV) (k : Nat) : Prop := k = b ∨ ∃ f ∈ fs, f.2.2.ownBlock = some k
def FM (w : World) (F : Nat → Prop) (b : Nat) (l : List File) : Prop := ∃ fs, FMs w b fs ∧ con fs = l ∧ ∀ k, F k ↔ foot b fs k
/-- No block of F' but those of F and new ones. -/
def Nu (w : World) (F F' : Nat → Prop) : Prop := ∀ k, F' k → F k ∨ w.heap.size ≤ k
theorem Nu.refl (w : World) (F : Nat → Prop) : Nu w F F := fun _ h => .inl h
theorem Nu.trans {w w1 : World} {F F' F'' : Nat → Prop} (h : Nu w F F') (k : Nu w1 F' F'') (hs : w.heap.size ≤ w1.heap.size) : Nu w F F'' := fun i hi => by
  rcases k i hi with h1 | h1
  · exact h i h1
  · exact .inr (by omega)
theorem FMs.sorted {w : World} {b : Nat} {fs : List FV} (h : FMs w b fs) : KSorted fs := (mp.kmap_sorted _).1 h.map.2
theorem FM.sorted {w : World} {F : Nat → Prop} {b : Nat} {l : List File} (h : FM w F b l) : Sorted l := by
  obtain ⟨fs, h1, rfl, _⟩ := h
  exact (mp.kmap_sorted _).2 h1.sorted
/-- Of what block is each of them. -/
theorem FM.typed {w : World} {F : Nat → Prop} {b : Nat} {l : List File} (h : FM w F b l) : ∀ k, F k → (∃ es c, w.heap[k]? = some (.map es c)) ∨ ∃ cs fr, w.heap[k]? = some (.cells cs 5 fr) := by
  obtain ⟨fs, h1, rfl, hF⟩ := h
  intro k hk
  rcases (hF k).1 hk with rfl | ⟨f, hf, e⟩
  · exact .inl h1.map.block
  · obtain ⟨g, e2, _, cs, fr, hh⟩ := (h1.own f hf).at
    rw [e] at e2
    cases e2
    exact .inr ⟨cs, fr, hh⟩
theorem FM.lt {w : World} {F : Nat → Prop} {b : Nat} {l : List File} (h : FM w F b l) {k : Nat} (hk : F k) : k < w.heap.size := by
  rcases h.typed k hk with ⟨es, c, hh⟩ | ⟨cs, fr, hh⟩ <;> exact (Array.getElem?_eq_some_iff.1 hh).1
theorem FM.map {w : World} {F : Nat → Prop} {b : Nat} {l : List File} (h : FM w F b l) : F b := by
  obtain ⟨fs, h1, rfl, hF⟩ := h
  exact (hF b).2 (.inl rfl)
theorem FMs.of {w w' : World} {b : Nat} {fs : List FV} (h : FMs w b fs) (hb : ∀ k, foot b fs k → w'.heap[k]? = w.heap[k]?) : FMs w' b fs :=
  ⟨h.map.of (hb b (.inl rfl)), fun f hf => (h.own f hf).of fun q hq => hb q (.inr ⟨f, hf, hq⟩), h.apart, h.small⟩
theorem FM.of {w w' : World} {F : Nat → Prop} {b : Nat} {l : List File} (h : FM w F b l) (hb : ∀ k, F k → w'.heap[k]? = w.heap[k]?) : FM w' F b l := by
  obtain ⟨fs, h1, h2, hF⟩ := h
  exact ⟨fs, h1.of fun k hk => hb k ((hF k).2 hk), h2, hF⟩
theorem FM.fr {w w' : World} {F G : Nat → Prop} {b : Nat} {l : List File} (h : FM w F b l) (k : Fr G w w') (hd : ∀ i, F i → ¬ G i) : FM w' F b l := h.of fun i hi => k.block i (h.lt hi) (hd i hi)
theorem FM.below {w w' : World} {F : Nat → Prop} {b : Nat} {l : List File} (h : FM w F b l) (k : Below w.heap.size w w') : FM w' F b l := h.of fun i hi => k.block i (h.lt hi)
/-- What stands at a name. -/
theorem FMs.at {w : World} {b : Nat} {fs : List FV} (h : FMs w b fs) (n : Bs) : (kget (con fs) n = none ∧ kget (vals fs) n = none ∧ kget fs n = none) ∨ ∃ o v, kget fs n = some (o, v) ∧ (n, (o, v)) ∈ fs ∧ kget (con fs) n = some o ∧ kget (vals fs) n = some (.agg #[v]) ∧ RowB w v o := by
  rw [mp.kmap_get, mp.kmap_get]
  cases hk : kget fs n with
  | none => exact .inl ⟨rfl, rfl, rfl⟩
  | some x => exact .inr ⟨x.1, x.2, rfl, mp.kget_some hk, rfl, rfl, h.own _ (mp.kget_some hk)⟩
/-- Another row in place of what stood at a name. -/
theorem FMs.put {w w' : World} {b : Nat} {fs : List FV} (h : FMs w b fs) {n s : Bs} {v : Value} (hm : Mp w' b (kput (vals fs) (n, .agg #[v]))) (hv : RowB w' v s) (hn : n.length ≤ maxLen)
    (hk : ∀ f ∈ fs, f.1 ≠ n → ∀ q, f.2.2.ownBlock = some q → w'.heap[q]? = w.heap[q]?) (hq : ∀ f ∈ fs, f.1 ≠ n → ∀ q, f.2.2.ownBlock = some q → v.ownBlock ≠ some q) : FMs w' b (kput fs (n, (s, v))) := by
  refine ⟨by unfold vals; rw [mp.kmap_put]; exact hm, fun f hf => ?_, fun f hf g hg hne q hqf => ?_, fun f hf => ?_⟩
  · rcases mp.mem_kput.1 hf with rfl | ⟨hf, hne⟩
    · exact hv
    · exact (h.own f hf).of (hk f hf hne)
  · rcases mp.mem_kput.1 hf with rfl | ⟨hf, hnf⟩
    · rcases mp.mem_kput.1 hg with rfl | ⟨hg, hng⟩
      · exact absurd rfl hne
      · intro e
        exact hq g hg hng q e hqf
    · rcases mp.mem_kput.1 hg with rfl | ⟨hg, hng⟩
      · exact hq f hf hnf q hqf
      · exact h.apart f hf g hg hne q hqf
  · rcases mp.mem_kput.1 hf with rfl | ⟨hf, hne⟩
    · exact hn
    · exact h.small f hf
theorem FMs.drop {w w' : World} {b : Nat} {fs : List FV} (h : FMs w b fs) {n : Bs} (hm : Mp w' b (kwithout (vals fs) n)) (hk : ∀ f ∈ fs, ∀ q, f.2.2.ownBlock = some q → w'.heap[q]? = w.heap[q]?) : FMs w' b (kwithout fs n) := by
  refine ⟨by unfold vals; rw [mp.kmap_without]; exact hm, fun f hf => ?_, fun f hf g hg => h.apart f (mp.mem_kwithout.1 hf).1 g (mp.mem_kwithout.1 hg).1, fun f hf => h.small f (mp.mem_kwithout.1 hf).1⟩
  have := (mp.mem_kwithout.1 hf).1
  exact (h.own f this).of (hk f this)
theorem FMs.row_ne {w : World} {b : Nat} {fs : List FV} (h : FMs w b fs) {f : FV} (hf : f ∈ fs) {q : Nat} (hq : f.2.2.ownBlock = some q) : q ≠ b := by
  obtain ⟨g, e, _, cur, fr, hh⟩ := (h.own f hf).at
  rw [hq] at e
  cases e
  obtain ⟨es, c, hb⟩ := h.map.block
  intro e
  rw [e, hb] at hh
  cases hh
theorem field_file (a : Option Addr) (n c : Nat) (w : World) : (Instr.field 152 (.agg #[.slice a n c]) 0).run Tryz.prog w = .ok (.slice a n c) w := by kernel_rfl
theorem zero_file (w : World) : (zeroValue 152).run Tryz.prog w = .ok (.agg #[.slice none 0 0]) w := by kernel_rfl

/-- The law's forms at the operations: an equation on the run is all that they ask. -/
theorem wpList_update_at {P : Program} {w : World} {ops : Array Oper} {rest : List Oper} {o : Oper} {a : Act} {Q : Exit → Act → World → Prop} (m x v : Operand) (t : TypeId)
    (hw : Region.wanted o (yielded ops a.tmps) = true) (ho : o.op = .mapUpdate t m x v) (vm vx vv : Value) (w' : World) (hm : a.eval m = vm) (hx : a.eval x = vx) (hv : a.eval v = vv)
    (hr : (Instr.mapUpdate t vm vx vv).run P w = .ok () w') (h : wpList P ops Q rest (a.put o.dst undef) w') : wpList P ops Q (o :: rest) a w :=
  wpList_step fun K hK => by
    rw [if_pos hw]
    unfold Oper.wp
    simp [execOp, ho, hm, hx, hv, hr, Result.andThen]
    exact hK _ _ h
theorem wpList_append2_at {P : Program} {w : World} {ops : Array Oper} {rest : List Oper} {o : Oper} {a : Act} {Q : Exit → Act → World → Prop} (s x : Operand) (t u : TypeId)
    (hw : Region.wanted o (yielded ops a.tmps) = true)
    (ho : o.op = .call { callee := .builtin .append, args := #[s, x], argTypes := #[t, u] }) (vs vx v' : Value) (w' : World) (hs : a.eval s = vs) (hx : a.eval x = vx)
    (hr : (Builtin.append_ #[t, u] o.type #[vs, vx]).run P w = .ok v' w') (h : wpList P ops Q rest (a.put o.dst v') w') : wpList P ops Q (o :: rest) a w :=
  wpList_step fun K hK => by
    rw [if_pos hw]
    unfold Oper.wp execOp
    simp only [ho, resolve, invoke, builtin, Sem.run_bind, Sem.run_pure, Result.andThen_ok, List.map_toArray, List.map_cons, List.map_nil, hs, hx, hr]
    exact hK _ _ h
theorem wpList_delete_at {P : Program} {w : World} {ops : Array Oper} {rest : List Oper} {o : Oper} {a : Act} {Q : Exit → Act → World → Prop} (s x : Operand) (t u : TypeId)
    (hw : Region.wanted o (yielded ops a.tmps) = true)
    (ho : o.op = .call { callee := .builtin .delete, args := #[s, x], argTypes := #[t, u] }) (vs vx v' : Value) (w' : World) (hs : a.eval s = vs) (hx : a.eval x = vx)
    (hr : (Builtin.delete_ #[t, u] o.type #[vs, vx]).run P w = .ok v' w') (h : wpList P ops Q rest (a.put o.dst v') w') : wpList P ops Q (o :: rest) a w :=
  wpList_step fun K hK => by
    rw [if_pos hw]
    unfold Oper.wp execOp
    simp only [ho, resolve, invoke, builtin, Sem.run_bind, Sem.run_pure, Result.andThen_ok, List.map_toArray, List.map_cons, List.map_nil, hs, hx, hr]
    exact hK _ _ h

abbrev tf := 78
theorem und_f : Tryz.prog.underlying 78 = some (.map 9 152) := Tryz.underlying78

set_option maxRecDepth 100000 in
theorem size_any (F : Nat → Prop) (b : Nat) (l : List File) (n : Bs) (hn : n.length ≤ maxLen) (w : World) (h : FM w F b l) :
    Calls Tryz.prog 59 #[.map (some b), .string (S n)] w fun e w' => e = .returned (.int .i64 (((get l n).getD []).length : Nat)) ∧ w' = w := by
  obtain ⟨fs, h1, rfl, hF⟩ := h
  have hr := h1.map.look und_f (zero_file w) n hn
  rw [← get_k]
  rcases h1.at n with ⟨e1, e2, _⟩ | ⟨o, v, _, _, e1, e2, hv⟩
  · rw [e1]
    rw [e2] at hr
    simp only [Option.getD_none, List.length_nil] at hr ⊢
    clear e1 e2 hF h1
    have hfl := fun x => field_file x
    go_enter Tryz.func59, Tryz.ntmps59
    go_wp2
    go_ret
    exact ⟨rfl, rfl⟩
  · rw [e1]
    rw [e2] at hr
    obtain ⟨a, c, rfl, _⟩ := hv.form
    simp only [Option.getD_some] at hr ⊢
    clear e1 e2 hF h1 hv
    have hfl := fun x => field_file x
    go_enter Tryz.func59, Tryz.ntmps59
    go_wp2
    go_ret
    exact ⟨rfl, rfl⟩
set_option maxRecDepth 100000 in
theorem has_any (F : Nat → Prop) (b : Nat) (l : List File) (n : Bs) (hn : n.length ≤ maxLen) (w : World) (h : FM w F b l) :
    Calls Tryz.prog 91 #[.map (some b), .string (S n)] w fun e w' => e = .returned (.bool (get l n).isSome) ∧ Below w.heap.size w w' := by
  obtain ⟨fs, h1, rfl, hF⟩ := h
  have hr := h1.map.lookok und_f (zero_file w) n hn
  rw [← get_k]
  rcases h1.at n with ⟨e1, e2, _⟩ | ⟨o, v, _, _, e1, e2, hv⟩
  · rw [e1]
    rw [e2] at hr
    simp only [Option.getD_none, Option.isSome_none] at hr ⊢
    clear e1 e2 hF h1
    go_enter Tryz.func91, Tryz.ntmps91
    go_wp2
    go_ret
    exact ⟨rfl, below_box w _⟩
  · rw [e1]
    rw [e2] at hr
    obtain ⟨a, c, rfl, _⟩ := hv.form
    simp only [Option.getD_some, Option.isSome_some] at hr ⊢
    clear e1 e2 hF h1 hv
    go_enter Tryz.func91, Tryz.ntmps91
    go_wp2
    go_ret
    exact ⟨rfl, below_box w _⟩

theorem foot_put {b : Nat} {fs : List FV} {n s : Bs} {v : Value} {k : Nat} (h : foot b (kput fs (n, (s, v))) k) : foot b fs k ∨ v.ownBlock = some k := by
  rcases h with rfl | ⟨f, hf, e⟩
  · exact .inl (.inl rfl)
  · rcases mp.mem_kput.1 hf with rfl | ⟨hf, _⟩
    · exact .inr e
    · exact .inl (.inr ⟨f, hf, e⟩)
theorem con_put (fs : List FV) (n s : Bs) (v : Value) : con (kput fs (n, (s, v))) = put (con fs) (n, s) := by unfold con; rw [mp.kmap_put, put_k]
theorem con_without (fs : List FV) (n : Bs) : con (kwithout fs n) = without (con fs) n := by unfold con; rw [mp.kmap_without, without_k]
/-- What a call makes of files. -/
def Made (w : World) (F : Nat → Prop) (b : Nat) (l : List File) (w' : World) : Prop := ∃ F', FM w' F' b l ∧ Fr F w w' ∧ Nu w F F'

set_option maxHeartbeats 1000000 in
set_option maxRecDepth 100000 in
theorem add_any (F : Nat → Prop) (b : Nat) (l : List File) (n s : Bs) (hn : n.length ≤ 80) (hs : s ≠ []) (hl : l.length ≤ 1000000) (hz : ((get l n).getD []).length + s.length ≤ 140737488355328) (w : World) (h : FM w F b l) :
    Calls Tryz.prog 112 #[.map (some b), .string (S n), .string (S s)] w fun e w' => e = .returned (.tuple #[]) ∧ Made w F b (put l (n, (get l n).getD [] ++ s)) w' := by
  obtain ⟨fs, h1, rfl, hF⟩ := h
  have hnm : n.length ≤ maxLen := by unfold maxLen; omega
  have hlk := h1.map.look und_f (zero_file w) n hnm
  have hlen : (vals fs).length < maxLen := by
    rw [mp.kmap_length] at hl ⊢
    unfold maxLen; omega
  rw [← get_k] at hz ⊢
  -- the row that comes of it, and the map
  have key : ∀ (v v' : Value) (o : Bs) (w1 : World), RowB w1 v' (o ++ s) → (v'.ownBlock = v.ownBlock ∨ v'.ownBlock = some w.heap.size) → w.grownBy w1 v.ownBlock → ((kget fs n = none ∧ v.ownBlock = none) ∨ ∃ o', (n, (o', v)) ∈ fs) →
      ∃ w2, (Instr.mapUpdate tf (.map (some b)) (.string (S n)) (.agg #[v'])).run Tryz.prog w1 = .ok () w2 ∧ Hid (Made w F b (put (con fs) (n, o ++ s)) w2) := by
    intro v v' o w1 hrow hown hg hwas
    have hbv : v.ownBlock ≠ some b := by
      rcases hwas with ⟨_, e⟩ | ⟨o', hm⟩
      · rw [e]; exact fun e => by cases e
      · exact fun e => h1.row_ne hm e rfl
    have hoff : ∀ f ∈ fs, f.1 ≠ n → ∀ q, f.2.2.ownBlock = some q → v.ownBlock ≠ some q := by
      intro f hf hne q hq
      rcases hwas with ⟨_, e⟩ | ⟨o', hm⟩
      · rw [e]; exact fun e => by cases e
      · exact fun e => h1.apart f hf _ hm hne q hq e
    have hlt : ∀ f ∈ fs, ∀ q, f.2.2.ownBlock = some q → q < w.heap.size := by
      intro f hf q hq
      obtain ⟨g, e, hlt, _⟩ := (h1.own f hf).at
      rw [hq] at e
      cases e
      exact hlt
    have hm1 : Mp w1 b (vals fs) := h1.map.of (hg.block b h1.map.lt (fun e => hbv e.symm))
    obtain ⟨w2, hr, hm2, ht⟩ := hm1.store und_f n hnm hlen (.agg #[v'])
    obtain ⟨g', hg', hgl, cur, fr, hh⟩ := hrow.at
    have hgb : g' ≠ b := by
      obtain ⟨es, c, hb⟩ := hm1.block
      intro e
      rw [e, hb] at hh
      cases hh
    have hrow2 : RowB w2 v' (o ++ s) := hrow.of fun q hq => ht.block q (by rw [hg'] at hq; cases hq; exact hgb)
    have hF2 := h1.put (w' := w2) (n := n) (s := o ++ s) (v := v') hm2 hrow2 hnm
      (fun f hf hne q hq => (ht.block q (h1.row_ne hf hq)).trans (hg.block q (hlt f hf q hq) (fun e => hoff f hf hne q hq e.symm)))
      (fun f hf hne q hq e => by
        rcases hown with e2 | e2
        · exact hoff f hf hne q hq (e2 ▸ e)
        · rw [e2] at e
          have := hlt f hf q hq
          cases e
          omega)
    refine ⟨w2, hr, ⟨foot b (kput fs (n, (o ++ s, v'))), ⟨_, hF2, con_put _ _ _ _, fun k => Iff.rfl⟩, ?_, ?_⟩⟩
    · have f1 : Fr F w w1 := Fr.grown hg fun q hq => by
        rcases hwas with ⟨_, e⟩ | ⟨o', hm⟩
        · rw [e] at hq; cases hq
        · exact (hF q).2 (.inr ⟨_, hm, hq⟩)
      exact f1.trans (G := fun k => k = b) ⟨ht.os, ht.tape, ht.output, Nat.le_of_eq ht.size.symm, fun k _ hk => ht.block k hk⟩ fun i _ e => by rw [e]; exact (hF b).2 (.inl rfl)
    · intro k hk
      rcases foot_put hk with hk | hk
      · exact .inl ((hF k).2 hk)
      · rcases hown with e2 | e2
        · rw [e2] at hk
          rcases hwas with ⟨_, e⟩ | ⟨o', hm⟩
          · rw [e] at hk; cases hk
          · exact .inl ((hF k).2 (.inr ⟨_, hm, hk⟩))
        · rw [e2] at hk
          cases hk
          exact .inr (Nat.le_refl _)
  rcases h1.at n with ⟨e1, e2, e3⟩ | ⟨o, v, e3, hm, e1, e2, hv⟩
  · rw [e1] at hz ⊢
    rw [e2] at hlk
    simp only [Option.getD_none, List.length_nil] at hlk hz ⊢
    obtain ⟨v', w1, ha, hrow, hb, hnew⟩ := rw.append_str_nil s w hs (by omega)
    obtain ⟨a', c', rfl, _⟩ := hrow.form
    obtain ⟨w2, hup, hM⟩ := key (.slice none 0 0) _ [] w1 hrow (.inr hnew) ⟨hb.os, hb.tape, hb.output, hb.size, fun k hk _ => hb.block k hk⟩ (.inl ⟨e3, rfl⟩)
    unfold rw.AppS at ha
    clear key hrow hb hnew e1 e2 e3 hF h1
    have hfl := fun x => field_file x
    go_enter Tryz.func112, Tryz.ntmps112
    go_wp2_with (first | (refine wpList_append2_at _ _ _ _ rfl rfl _ _ _ _ rfl rfl ha ?_) | (refine wpList_update_at _ _ _ _ rfl rfl _ _ _ _ rfl rfl rfl hup ?_) | fail)
    exact bodyPost_end (results_none rfl _ _ _) rfl ⟨rfl, hM.out⟩
  · rw [e1] at hz ⊢
    rw [e2] at hlk
    simp only [Option.getD_some] at hlk hz ⊢
    obtain ⟨v', w1, ha, hrow, hb, hnew⟩ := rw.append_str v o s w hv hz
    obtain ⟨a', c', rfl, _⟩ := hrow.form
    obtain ⟨a, c, rfl, _⟩ := hv.form
    obtain ⟨w2, hup, hM⟩ := key _ _ o w1 hrow hnew hb (.inr ⟨o, hm⟩)
    unfold rw.AppS at ha
    clear key hrow hb hnew e1 e2 e3 hF h1 hv hm
    generalize (o ++ s).length = L at *
    have hfl := fun x => field_file x
    go_enter Tryz.func112, Tryz.ntmps112
    go_wp2_with (first | (refine wpList_append2_at _ _ _ _ rfl rfl _ _ _ _ rfl rfl ha ?_) | (refine wpList_update_at _ _ _ _ rfl rfl _ _ _ _ rfl rfl rfl hup ?_) | fail)
    exact bodyPost_end (results_none rfl _ _ _) rfl ⟨rfl, hM.out⟩

set_option maxHeartbeats 1000000 in
set_option maxRecDepth 100000 in
theorem fput_any (F : Nat → Prop) (b : Nat) (l : List File) (n s : Bs) (hn : n.length ≤ 80) (hl : l.length ≤ 1000000) (hz : s.length ≤ 140737488355328) (w : World) (h : FM w F b l) :
    Calls Tryz.prog 63 #[.map (some b), .string (S n), .string (S s)] w fun e w' => e = .returned (.tuple #[]) ∧ Made w F b (put l (n, s)) w' := by
  obtain ⟨fs, h1, rfl, hF⟩ := h
  have hnm : n.length ≤ maxLen := by unfold maxLen; omega
  have hlen : (vals fs).length < maxLen := by
    rw [mp.kmap_length] at hl ⊢
    unfold maxLen; omega
  obtain ⟨v', w1, ha, hrow, hb, hnew⟩ := rw.conv_str s w hz
  obtain ⟨a', c', rfl, _⟩ := hrow.form
  have hlt : ∀ f ∈ fs, ∀ q, f.2.2.ownBlock = some q → q < w.heap.size := by
    intro f hf q hq
    obtain ⟨g, e, hlt, _⟩ := (h1.own f hf).at
    rw [hq] at e
    cases e
    exact hlt
  have hm1 : Mp w1 b (vals fs) := h1.map.of (hb.block b h1.map.lt)
  obtain ⟨w2, hup, hm2, ht⟩ := hm1.store und_f n hnm hlen (.agg #[.slice (some a') s.length c'])
  have hgb : w.heap.size ≠ b := by have := h1.map.lt; omega
  have hrow2 : RowB w2 (.slice (some a') s.length c') s := hrow.of fun q hq => ht.block q (by rw [hnew] at hq; cases hq; exact hgb)
  have hF2 := h1.put (w' := w2) (n := n) (s := s) (v := .slice (some a') s.length c') hm2 hrow2 hnm
    (fun f hf hne q hq => (ht.block q (h1.row_ne hf hq)).trans (hb.block q (hlt f hf q hq)))
    (fun f hf hne q hq e => by
      rw [hnew] at e
      have := hlt f hf q hq
      cases e
      omega)
  have hM : Hid (Made w F b (put (con fs) (n, s)) w2) := by
    refine ⟨foot b (kput fs (n, (s, .slice (some a') s.length c'))), ⟨_, hF2, con_put _ _ _ _, fun k => Iff.rfl⟩, ?_, ?_⟩
    · have f1 : Fr F w w1 := Fr.of_below hb
      exact f1.trans (G := fun k => k = b) ⟨ht.os, ht.tape, ht.output, Nat.le_of_eq ht.size.symm, fun k _ hk => ht.block k hk⟩ fun i _ e => by rw [e]; exact (hF b).2 (.inl rfl)
    · intro k hk
      rcases foot_put hk with hk | hk
      · exact .inl ((hF k).2 hk)
      · rw [hnew] at hk
        cases hk
        exact .inr (Nat.le_refl _)
  clear hF2 hrow2 hm1 hm2 ht hrow hb hnew hF h1 hlt hgb
  generalize s.length = L at *
  go_enter Tryz.func63, Tryz.ntmps63
  go_wp2_with (first | (refine wpList_update_at _ _ _ _ rfl rfl _ _ _ _ rfl rfl rfl hup ?_) | fail)
  exact bodyPost_end (results_none rfl _ _ _) rfl ⟨rfl, hM.out⟩

end Go.Proofs.YteeeakbgofjinaaGreat.dk
/-! DkP2 -/
namespace Go.Proofs.YteeeakbgofjinaaGreat.dk
set_option linter.unusedVariables false
open Go.RowKit
open fl (S S_size S_append S_inj str_eq str_ne)
open rw (Arr But Row Own bnext below_box below_drew below_drewN addr_add Fr RowB)
open mp (Mp Turned kget kput kwithout kmap KSorted)

def Boxed (w : World) (a : Nat) (s : Bs) : Prop := Arr w a 9 #[.string (S s)]
theorem Boxed.lt {w : World} {a : Nat} {s : Bs} (h : Boxed w a s) : a < w.heap.size := Arr.lt h
theorem Boxed.of {w w' : World} {a : Nat} {s : Bs} (h : Boxed w a s) (hb : w'.heap[a]? = w.heap[a]?) : Boxed w' a s := Arr.of h hb
/-- v does the call c again. -/
def Does (w : World) (v : Value) (c : Call) : Prop :=
  (c.kind = 1 ∧ ∃ a b, v = .func (.func 111) #[] #[.pointer (some ⟨a, 0, none⟩), .pointer (some ⟨b, 0, none⟩)] ∧ Boxed w a c.name ∧ Boxed w b c.s) ∨
  (c.kind = 2 ∧ ∃ a b, v = .func (.func 62) #[] #[.pointer (some ⟨a, 0, none⟩), .pointer (some ⟨b, 0, none⟩)] ∧ Boxed w a c.name ∧ Boxed w b c.s) ∨
  (c.kind = 3 ∧ ∃ a : Nat, False ∧ Boxed w a c.name)
/-- A box's block is of strings. -/
def NoBox (w : World) (F : Nat → Prop) : Prop := ∀ k, F k → ∀ s, ¬ Boxed w k s
theorem Does.of {w w' : World} {v : Value} {c : Call} (h : Does w v c) (hb : ∀ a s, Boxed w a s → w'.heap[a]? = w.heap[a]?) : Does w' v c := by
  rcases h with ⟨h1, a, b, h2, h3, h4⟩ | ⟨h1, a, b, h2, h3, h4⟩ | ⟨h1, a, h2, h3⟩
  · exact .inl ⟨h1, a, b, h2, h3.of (hb a _ h3), h4.of (hb b _ h4)⟩
  · exact .inr (.inl ⟨h1, a, b, h2, h3.of (hb a _ h3), h4.of (hb b _ h4)⟩)
  · exact .inr (.inr ⟨h1, a, h2, h3.of (hb a _ h3)⟩)
theorem Does.below {w w' : World} {v : Value} {c : Call} (h : Does w v c) (k : Below w.heap.size w w') : Does w' v c := h.of fun a s hs => k.block a hs.lt
theorem Does.fr {w w' : World} {v : Value} {c : Call} (h : Does w v c) {F : Nat → Prop} (k : Fr F w w') (hF : NoBox w F) : Does w' v c := h.of fun a s hs => k.block a hs.lt fun hk => hF a hk s hs
theorem FM.nobox {w : World} {F : Nat → Prop} {b : Nat} {l : List File} (h : FM w F b l) : NoBox w F := by
  intro k hk s hs
  unfold Boxed Arr at hs
  rcases h.typed k hk with ⟨es, c, e⟩ | ⟨cs, fr, e⟩
  · rw [hs] at e; cases e
  · rw [hs] at e; cases e

set_option maxHeartbeats 1000000 in
set_option maxRecDepth 100000 in
theorem add1_any (F : Nat → Prop) (b : Nat) (l : List File) (c : Call) (a1 a2 : Nat) (n : Nat) (hk : c.kind = 1) (hc : Good c) (hn1 : 1 ≤ n) (hn2 : n ≤ steps c) (hl : l.length ≤ 1000000) (hz : ((get l c.name).getD []).length + c.s.length ≤ 140737488355328) (w : World) (h : FM w F b l)
    (h1 : Boxed w a1 c.name) (h2 : Boxed w a2 c.s) :
    Calls Tryz.prog 111 #[.map (some b), .int .i64 (n : Nat), .pointer (some ⟨a1, 0, none⟩), .pointer (some ⟨a2, 0, none⟩)] w fun e w' => e = .returned (.tuple #[]) ∧ Made w F b (done l c n) w' := by
  have hs : steps c = c.s.length := by unfold steps; rw [if_pos hk]
  rw [hs] at hn2
  have hne : c.s.take n ≠ [] := fun e => by
    have := congrArg List.length e
    rw [List.length_take, List.length_nil] at this
    omega
  have hA := add_any F b l c.name (c.s.take n) hc.1.2 hne hl (by rw [List.length_take]; omega) w.drew (h.below (below_drew (Below.refl _ _)))
  have ed : done l c n = put l (c.name, (get l c.name).getD [] ++ c.s.take n) := by unfold done; rw [if_neg (by omega), if_pos hk]
  rw [ed]
  have c1 : w.drew.cell? ⟨a1, 0, none⟩ = some (.string (S c.name)) := h1.cell rfl
  have c2 : w.drew.cell? ⟨a2, 0, none⟩ = some (.string (S c.s)) := h2.cell rfl
  have hnb := h.nobox
  have hfr : Hid (∀ l' w', Made w.drew F b l' w' → Made w F b l' w' ∧ w'.cell? ⟨a1, 0, none⟩ = some (.string (S c.name)) ∧ w'.cell? ⟨a2, 0, none⟩ = some (.string (S c.s))) := by
    rintro l' w' ⟨F', x1, x2, x3⟩
    have y2 : Fr F w w' := ⟨x2.os, x2.tape, x2.output, x2.size, x2.block⟩
    exact ⟨⟨F', x1, y2, x3⟩, (Boxed.of h1 (y2.block a1 h1.lt fun hk => hnb a1 hk _ h1)).cell rfl, (Boxed.of h2 (y2.block a2 h2.lt fun hk => hnb a2 hk _ h2)).cell rfl⟩
  have hsl := fun (W : World) => run_slice_string_h (P := Tryz.prog) (w := W) (t := 9) (s := S c.s) Tryz.underlying9 .i64 (n : Int) (by omega) (by rw [S_size]; omega)
  have hex : (S c.s).extract 0 ((n : Int)).toNat = S (c.s.take n) := by
    unfold S
    rw [ByteArray.extract_mk]
    congr 1
  rw [hex] at hsl
  generalize c.s.take n = t at *
  generalize (put l (c.name, (get l c.name).getD [] ++ t)) = P at *
  clear h1 h2 h ed hk hc hn1 hs hl hz hne hnb
  go_enter Tryz.func111, Tryz.ntmps111
  go_region_held3 (fun W => W.cell? ⟨a1, 0, none⟩ = some (.string (S c.name)) ∧ W.cell? ⟨a2, 0, none⟩ = some (.string (S c.s))) (first | (with_reducible exact ⟨c1, c2⟩) | (with_reducible exact (hfr.out _ _ hM).2) | go_keep)
    ((go_at_call 112; refine hA.mono ?_; rintro e w1 ⟨rfl, hM⟩))
  have HM := Lib.hid (hfr.out _ _ hM).1
  clear hM hA
  go_wp2_with fail
  exact bodyPost_end (results_none rfl _ _ _) rfl ⟨rfl, HM.out⟩
set_option maxHeartbeats 1000000 in
set_option maxRecDepth 100000 in
theorem put1_any (F : Nat → Prop) (b : Nat) (l : List File) (c : Call) (a1 a2 : Nat) (n : Nat) (hk : c.kind = 2) (hc : Good c) (hn1 : 1 ≤ n) (hl : l.length ≤ 1000000) (hz : c.s.length ≤ 140737488355328) (w : World) (h : FM w F b l)
    (h1 : Boxed w a1 c.name) (h2 : Boxed w a2 c.s) :
    Calls Tryz.prog 62 #[.map (some b), .int .i64 (n : Nat), .pointer (some ⟨a1, 0, none⟩), .pointer (some ⟨a2, 0, none⟩)] w fun e w' => e = .returned (.tuple #[]) ∧ Made w F b (done l c n) w' := by
  have hA := fput_any F b l c.name c.s hc.1.2 hl hz w h
  have ed : done l c n = put l (c.name, c.s) := by unfold done; rw [if_neg (by omega), if_neg (by omega), if_pos hk]
  rw [ed]
  have c1 : w.cell? ⟨a1, 0, none⟩ = some (.string (S c.name)) := h1.cell rfl
  have c2 : w.cell? ⟨a2, 0, none⟩ = some (.string (S c.s)) := h2.cell rfl
  generalize (put l (c.name, c.s)) = P at *
  clear h1 h2 h ed hk hc hn1 hl hz
  go_enter Tryz.func62, Tryz.ntmps62
  go_wp2_with fail
  refine hA.mono ?_
  rintro e w1 ⟨rfl, hM⟩
  have HM := Lib.hid hM
  clear hM hA
  go_wp2_with fail
  exact bodyPost_end (results_none rfl _ _ _) rfl ⟨rfl, HM.out⟩
end Go.Proofs.YteeeakbgofjinaaGreat.dk
/-! DkRef4 -/
namespace Go.Proofs.YteeeakbgofjinaaGreat.dk
set_option linter.unusedVariables false
open Go.RowKit
open fl (S S_size S_append S_inj str_eq str_ne)
open rw (Arr But Row Own bnext below_box below_drew below_drewN addr_add)

/-- How large a disk may be, for the contracts. -/
structure Fit (d : Dk) : Prop where
  n : d.seen.length ≤ 100000 ∧ d.lasts.length ≤ 100000 ∧ d.pend.length ≤ 100000
  s : ∀ c ∈ d.pend, c.s.length ≤ 140737488355328
  l : d.fused = true → -9000000000000000000 ≤ d.left ∧ d.left ≤ 9223372036854775807
def diskCells (d : Dk) (sv lv pv : Value) : Array Value := #[.int .i64 (d.cap : Nat), sv, lv, pv, .bool d.fused, .int .i64 d.left]
/-- Block xb is the reference's disk. -/
structure RefD (w : World) (xb : Nat) (d : Dk) : Prop where
  a : ∃ sv lv pv, Arr w xb 85 (diskCells d sv lv pv) ∧ SlF w sv d.seen ∧ SlF w lv d.lasts ∧ SlC w pv d.pend ∧ rw.Off xb sv d.seen ∧ rw.Off xb lv d.lasts ∧ rw.Off xb pv d.pend
theorem RefD.lt {w : World} {xb : Nat} {d : Dk} (h : RefD w xb d) : xb < w.heap.size := by obtain ⟨_, _, _, ha, _⟩ := h.a; exact ha.lt
theorem RefD.below {w w' : World} {xb : Nat} {d : Dk} (h : RefD w xb d) (k : Below w.heap.size w w') : RefD w' xb d := by
  obtain ⟨sv, lv, pv, ha, h1, h2, h3, h4⟩ := h.a
  exact ⟨sv, lv, pv, ha.below k, h1.later _ k, h2.later _ k, h3.later _ k, h4⟩
theorem RefD.but {w w' : World} {xb q : Nat} {d : Dk} (h : RefD w xb d) (k : But q w w') (hq : xb ≠ q) (hs : ∀ sv lv pv, Arr w xb 85 (diskCells d sv lv pv) → rw.Off q sv d.seen ∧ rw.Off q lv d.lasts ∧ rw.Off q pv d.pend) : RefD w' xb d := by
  obtain ⟨sv, lv, pv, ha, h1, h2, h3, h4⟩ := h.a
  obtain ⟨o1, o2, o3⟩ := hs sv lv pv ha
  exact ⟨sv, lv, pv, k.arr ha hq, h1.but _ k o1, h2.but _ k o2, h3.but _ k o3, h4⟩
/-- A store into the disk's own block. -/
theorem RefD.store {w : World} {xb : Nat} {d d' : Dk} {sv lv pv sv' lv' pv' : Value} (ha : Arr w xb 85 (diskCells d sv lv pv)) (j : Nat) (u : Value)
    (he : (diskCells d sv lv pv).setIfInBounds j u = diskCells d' sv' lv' pv') (h1 : SlF w sv' d'.seen) (h2 : SlF w lv' d'.lasts) (h3 : SlC w pv' d'.pend) (o1 : rw.Off xb sv' d'.seen) (o2 : rw.Off xb lv' d'.lasts) (o3 : rw.Off xb pv' d'.pend) :
    RefD (w.setCell ⟨xb, j, none⟩ u) xb d' := by
  have hB : But xb w (w.setCell ⟨xb, j, none⟩ u) := (But.refl xb w).set j u
  refine ⟨sv', lv', pv', ?_, h1.but _ hB o1, h2.but _ hB o2, h3.but _ hB o3, o1, o2, o3⟩
  rw [← he]
  exact ha.set j u
theorem RefD.cells {w : World} {xb : Nat} {d : Dk} {sv lv pv : Value} (ha : Arr w xb 85 (diskCells d sv lv pv)) :
    w.cell? ⟨xb, 0, none⟩ = some (.int .i64 (d.cap : Nat)) ∧ w.cell? ⟨xb, 1, none⟩ = some sv ∧ w.cell? ⟨xb, 2, none⟩ = some lv ∧ w.cell? ⟨xb, 3, none⟩ = some pv ∧ w.cell? ⟨xb, 4, none⟩ = some (.bool d.fused) ∧ w.cell? ⟨xb, 5, none⟩ = some (.int .i64 d.left) :=
  ⟨ha.cell rfl, ha.cell rfl, ha.cell rfl, ha.cell rfl, ha.cell rfl, ha.cell rfl⟩

set_option maxRecDepth 100000 in
theorem refoff_any (xb : Nat) (d : Dk) (w : World) (h : RefD w xb d) :
    Calls Tryz.prog 47 #[.pointer (some ⟨xb, 0, none⟩)] w fun e w' => e = .returned (.bool (off d)) ∧ w' = w := by
  obtain ⟨sv, lv, pv, ha, _⟩ := h.a
  obtain ⟨c0, c1, c2, c3, c4, c5⟩ := RefD.cells ha
  unfold off
  clear ha h
  cases hf : d.fused with
  | false =>
    rw [hf] at c4
    clear hf
    go_enter Tryz.func47, Tryz.ntmps47
    go_wp2
    go_ret
    exact ⟨rfl, rfl⟩
  | true =>
    rw [hf] at c4
    clear hf
    generalize d.left = x at *
    go_enter Tryz.func47, Tryz.ntmps47
    go_wp2
    go_ret
    exact ⟨rfl, rfl⟩

set_option maxRecDepth 100000 in
theorem refspend_any (xb : Nat) (d : Dk) (hl0 : d.fused = true → -9000000000000000000 ≤ d.left ∧ d.left ≤ 9223372036854775807) (w : World) (h : RefD w xb d) :
    Calls Tryz.prog 68 #[.pointer (some ⟨xb, 0, none⟩)] w fun e w' => e = .returned (.tuple #[]) ∧ RefD w' xb (spend d) ∧ But xb w w' := by
  obtain ⟨sv, lv, pv, ha, h1, h2, h3, o1, o2, o3⟩ := h.a
  obtain ⟨c0, c1, c2, c3, c4, c5⟩ := RefD.cells ha
  have f5 := ha.frozen 5
  unfold spend
  by_cases hf : d.fused = true
  · have hl := hl0 hf
    clear hl0
    rw [if_pos hf]
    have HR : Hid (RefD (w.setCell ⟨xb, 5, none⟩ (.int .i64 (d.left - 1))) xb { d with left := d.left - 1 } ∧ But xb w (w.setCell ⟨xb, 5, none⟩ (.int .i64 (d.left - 1)))) :=
      ⟨RefD.store ha 5 _ rfl h1 h2 h3 o1 o2 o3, (But.refl _ _).set 5 _⟩
    have hw : IntKind.i64.wrap (d.left - 1) = d.left - 1 := IntWalk.i64_in _ (by omega)
    rw [hf] at c4
    clear hf ha h h1 h2 h3
    go_enter Tryz.func68, Tryz.ntmps68
    go_wp2
    exact bodyPost_end (results_none rfl _ _ _) rfl ⟨rfl, HR.out.1, HR.out.2⟩
  · clear hl0
    rw [if_neg hf]
    have hff : d.fused = false := by simpa using hf
    have HR := Lib.hid h
    rw [hff] at c4
    clear hf hff ha h h1 h2 h3
    go_enter Tryz.func68, Tryz.ntmps68
    go_wp2
    exact bodyPost_end (results_none rfl _ _ _) rfl ⟨rfl, HR.out, But.refl _ _⟩

set_option maxRecDepth 100000 in
theorem reffuse_any (xb : Nat) (d : Dk) (n : Int) (w : World) (h : RefD w xb d) :
    Calls Tryz.prog 17 #[.pointer (some ⟨xb, 0, none⟩), .int .i64 n] w fun e w' => e = .returned (.tuple #[]) ∧ RefD w' xb (fuse d n) ∧ But xb w w' := by
  obtain ⟨sv, lv, pv, ha, h1, h2, h3, o1, o2, o3⟩ := h.a
  obtain ⟨c0, c1, c2, c3, c4, c5⟩ := RefD.cells ha
  have f4 := ha.frozen 4
  have f5 := ha.frozen 5
  have hB : But xb w (w.setCell ⟨xb, 4, none⟩ (.bool (decide (0 ≤ n)))) := (But.refl _ _).set 4 _
  have ha1 : Arr (w.setCell ⟨xb, 4, none⟩ (.bool (decide (0 ≤ n)))) xb 85 (diskCells { d with fused := decide (0 ≤ n) } sv lv pv) := ha.set 4 _
  have HR : Hid (RefD ((w.setCell ⟨xb, 4, none⟩ (.bool (decide (0 ≤ n)))).setCell ⟨xb, 5, none⟩ (.int .i64 n)) xb (fuse d n) ∧ But xb w ((w.setCell ⟨xb, 4, none⟩ (.bool (decide (0 ≤ n)))).setCell ⟨xb, 5, none⟩ (.int .i64 n))) :=
    ⟨RefD.store ha1 5 _ rfl (h1.but _ hB o1) (h2.but _ hB o2) (h3.but _ hB o3) o1 o2 o3, hB.set 5 _⟩
  clear ha ha1 h h1 h2 h3 hB
  go_enter Tryz.func17, Tryz.ntmps17
  go_wp2
  exact bodyPost_end (results_none rfl _ _ _) rfl ⟨rfl, HR.out.1, HR.out.2⟩

set_option maxRecDepth 100000 in
theorem refread_any (xb : Nat) (d : Dk) (n : Bs) (hf : Fit d) (w : World) (h : RefD w xb d) :
    Calls Tryz.prog 38 #[.pointer (some ⟨xb, 0, none⟩), .string (S n)] w fun e w' => e = .returned (.tuple #[.string (S (read d n).1), .int .i64 ((read d n).2 : Nat)]) ∧ w' = w := by
  have hO := refoff_any xb d w h
  obtain ⟨sv, lv, pv, ha, h1, h2, h3, o1, o2, o3⟩ := h.a
  obtain ⟨c0, c1, c2, c3, c4, c5⟩ := RefD.cells ha
  obtain ⟨a, cap, rfl, _, hr, _⟩ := h1
  have hG := refget_any a cap d.seen n (by have := hf.n.1; omega) w hr
  unfold read
  cases ho : off d with
  | true =>
    rw [ho] at hO
    clear ho hG hr ha h h2 h3
    go_enter Tryz.func38, Tryz.ntmps38
    go_wp2_with fail
    refine hO.mono ?_
    rintro e w1 ⟨rfl, rfl⟩
    clear hO
    go_wp2_with fail
    go_ret2
    exact ⟨rfl, rfl⟩
  | false =>
    rw [ho] at hO
    generalize get d.seen n = g at *
    generalize d.seen.length = ln at *
    clear ho hr ha h h2 h3
    go_enter Tryz.func38, Tryz.ntmps38
    go_wp2_with fail
    refine hO.mono ?_
    rintro e w1 ⟨rfl, rfl⟩
    clear hO
    cases g with
    | none =>
      simp only [Option.getD_none, Option.isSome_none] at hG
      go_wp2_with fail
      refine hG.mono ?_
      rintro e w1 ⟨rfl, rfl⟩
      clear hG
      go_wp2_with fail
      go_ret2
      exact ⟨rfl, rfl⟩
    | some s =>
      simp only [Option.getD_some, Option.isSome_some] at hG
      go_wp2_with fail
      refine hG.mono ?_
      rintro e w1 ⟨rfl, rfl⟩
      clear hG
      go_wp2_with fail
      go_ret2
      exact ⟨rfl, rfl⟩

set_option maxHeartbeats 1000000 in
set_option maxRecDepth 100000 in
theorem refsync_any (xb : Nat) (d : Dk) (hf : Fit d) (w : World) (h : RefD w xb d) :
    Calls Tryz.prog 23 #[.pointer (some ⟨xb, 0, none⟩)] w fun e w' => e = .returned (.int .i64 ((sync d).1 : Nat)) ∧ RefD w' xb (sync d).2 ∧ But xb w w' := by
  have hO := refoff_any xb d w h
  unfold sync
  cases ho : off d with
  | true =>
    rw [ho] at hO
    have HR := Lib.hid h
    clear ho h
    go_enter Tryz.func23, Tryz.ntmps23
    go_wp2_with fail
    refine hO.mono ?_
    rintro e w1 ⟨rfl, rfl⟩
    clear hO
    go_wp2_with fail
    go_ret
    exact ⟨rfl, HR.out, But.refl _ _⟩
  | false =>
    rw [ho] at hO
    obtain ⟨sv, lv, pv, ha, h1, h2, h3, o1, o2, o3⟩ := h.a
    obtain ⟨c0, c1, c2, c3, c4, c5⟩ := RefD.cells ha
    have f2 := ha.frozen 2
    have f3 := ha.frozen 3
    have hB : But xb w (w.setCell ⟨xb, 2, none⟩ sv) := (But.refl _ _).set 2 _
    have ha1 : Arr (w.setCell ⟨xb, 2, none⟩ sv) xb 85 (diskCells { d with lasts := d.seen } sv sv pv) := ha.set 2 _
    have hR2 : RefD ((w.setCell ⟨xb, 2, none⟩ sv).setCell ⟨xb, 3, none⟩ (.slice none 0 0)) xb { d with lasts := d.seen, pend := [] } :=
      RefD.store ha1 3 _ rfl (h1.but _ hB o1) (h1.but _ hB o1) (rw.Sl.nil _ _) o1 o1 (fun hh => absurd rfl hh)
    have HB2 : Hid (But xb w ((w.setCell ⟨xb, 2, none⟩ sv).setCell ⟨xb, 3, none⟩ (.slice none 0 0))) := hB.set 3 _
    have hS := refspend_any xb { d with lasts := d.seen, pend := [] } hf.l _ hR2
    obtain ⟨sa, sn, sc, rfl⟩ : ∃ a n c, sv = .slice a n c := by obtain ⟨a, c, e, _⟩ := h1; exact ⟨a, _, c, e⟩
    obtain ⟨la, ln, lc, rfl⟩ : ∃ a n c, lv = .slice a n c := by obtain ⟨a, c, e, _⟩ := h2; exact ⟨a, _, c, e⟩
    obtain ⟨pa, pn, pc, rfl⟩ : ∃ a n c, pv = .slice a n c := by obtain ⟨a, c, e, _⟩ := h3; exact ⟨a, _, c, e⟩
    clear ho ha ha1 h h1 h2 h3 hB hR2
    go_enter Tryz.func23, Tryz.ntmps23
    go_wp2_with fail
    refine hO.mono ?_
    rintro e w1 ⟨rfl, rfl⟩
    clear hO
    go_wp2_with fail
    refine hS.mono ?_
    rintro e w2 ⟨rfl, r2, b2⟩
    have HR := Lib.hid (And.intro r2 (HB2.out.trans b2))
    clear hS r2 b2 HB2
    go_wp2_with fail
    go_ret
    exact ⟨rfl, HR.out.1, HR.out.2⟩
end Go.Proofs.YteeeakbgofjinaaGreat.dk
/-! DkP3 -/
namespace Go.Proofs.YteeeakbgofjinaaGreat.dk
set_option linter.unusedVariables false
open Go.RowKit
open fl (S S_size S_append S_inj str_eq str_ne)
open rw (Arr But Row Own bnext below_box below_drew below_drewN addr_add Fr RowB)
open mp (Mp Turned kget kput kwithout kmap KSorted)

/-- A pending call as it lies: the closure's function, what it holds, and the call that it is. -/
abbrev TC := (Nat × Array Value) × Call
def fnv (x : TC) : Value := .func (.func x.1.1) #[] x.1.2
def turnSh : rw.Sh TC where
  t := 115
  st := 79
  k := 2
  bytes := 16
  z := .agg #[.int .i64 0, .nilFunc]
  enc := fun x => [.int .i64 (steps x.2 : Nat), fnv x]
  hu := Tryz.underlying79
  hi := by kernel_rfl
  hz := by rfl
  hk := by decide
  hb := by decide
  len := fun _ => rfl
  one := fun x u hu => by
    simp only [List.mem_cons, List.not_mem_nil, or_false] at hu
    rcases hu with rfl | rfl <;> rfl
abbrev OwnT (w : World) (v : Value) (l : List TC) : Prop := rw.Own turnSh w 0 v l
theorem ownT_typed {w : World} {v : Value} {l : List TC} (h : OwnT w v l) {q : Nat} (hq : v.ownBlock = some q) : ∃ cs, w.heap[q]? = some (.cells cs 115 (0, 0)) := by
  obtain ⟨_, ⟨e, _⟩ | ⟨g, cap, cur, e, _, h5, _⟩⟩ := h
  · rw [e] at hq; cases hq
  · rw [e] at hq
    cases hq
    exact ⟨cur, h5⟩
theorem ownT_of {w w' : World} {v : Value} {l : List TC} (h : OwnT w v l) (hb : ∀ q, v.ownBlock = some q → w'.heap[q]? = w.heap[q]?) : OwnT w' v l := by
  obtain ⟨h1, h2 | ⟨g, cap, cur, h3, h4, h5, h6⟩⟩ := h
  · exact ⟨h1, .inl h2⟩
  · exact ⟨h1, .inr ⟨g, cap, cur, h3, h4, (hb g (by rw [h3]; rfl)).trans h5, h6⟩⟩

def fo (p : Nat) (Fs Fl : Nat → Prop) (pv : Value) (k : Nat) : Prop := k = p ∨ Fs k ∨ Fl k ∨ pv.ownBlock = some k
/-- The pieces of a disk. -/
structure Pc (w : World) (p : Nat) (cs : Array Value) (bs bl : Nat) (Fs Fl : Nat → Prop) (seen lasts : List File) (pv : Value) (ts : List TC) : Prop where
  a : Arr w p 81 cs
  s : FM w Fs bs seen
  l : FM w Fl bl lasts
  o : OwnT w pv ts
  does : ∀ x ∈ ts, Does w (fnv x) x.2
  dis : ∀ k, Fs k → ¬ Fl k
section
variable {w w' : World} {p : Nat} {cs : Array Value} {bs bl : Nat} {Fs Fl : Nat → Prop} {seen lasts : List File} {pv : Value} {ts : List TC}
/-- Of what block is each of a disk's. -/
theorem Pc.typed (h : Pc w p cs bs bl Fs Fl seen lasts pv ts) {k : Nat} (hk : fo p Fs Fl pv k) : (∃ es c, w.heap[k]? = some (.map es c)) ∨ ∃ cs t fr, w.heap[k]? = some (.cells cs t fr) ∧ (t = 81 ∨ t = 115 ∨ t = 5) := by
  rcases hk with rfl | hk | hk | hk
  · exact .inr ⟨_, _, _, h.a, .inl rfl⟩
  · rcases h.s.typed k hk with h1 | ⟨c, fr, h1⟩
    · exact .inl h1
    · exact .inr ⟨_, _, _, h1, .inr (.inr rfl)⟩
  · rcases h.l.typed k hk with h1 | ⟨c, fr, h1⟩
    · exact .inl h1
    · exact .inr ⟨_, _, _, h1, .inr (.inr rfl)⟩
  · obtain ⟨c, h1⟩ := ownT_typed h.o hk
    exact .inr ⟨_, _, _, h1, .inr (.inl rfl)⟩
theorem Pc.lt (h : Pc w p cs bs bl Fs Fl seen lasts pv ts) {k : Nat} (hk : fo p Fs Fl pv k) : k < w.heap.size := by
  rcases h.typed hk with ⟨es, c, hh⟩ | ⟨cs, t, fr, hh, _⟩ <;> exact (Array.getElem?_eq_some_iff.1 hh).1
theorem Pc.off (h : Pc w p cs bs bl Fs Fl seen lasts pv ts) {k : Nat} (hk : fo p Fs Fl pv k) {x : Array Value} {t : TypeId} {fr : Nat × Nat} (hx : w.heap[k]? = some (.cells x t fr)) : t = 81 ∨ t = 115 ∨ t = 5 := by
  rcases h.typed hk with ⟨es, c, hh⟩ | ⟨cs, t, fr, hh, ht⟩
  · rw [hx] at hh; cases hh
  · rw [hx] at hh; cases hh; exact ht
theorem Pc.nobox (h : Pc w p cs bs bl Fs Fl seen lasts pv ts) : NoBox w (fo p Fs Fl pv) := by
  intro k hk s hs
  have := h.off hk hs
  simp at this
theorem Pc.p_s (h : Pc w p cs bs bl Fs Fl seen lasts pv ts) : ¬ Fs p := by
  intro hk
  have ha := h.a
  unfold Arr at ha
  rcases h.s.typed p hk with ⟨es, c, e⟩ | ⟨x, fr, e⟩
  · rw [ha] at e; cases e
  · rw [ha] at e; cases e
theorem Pc.p_l (h : Pc w p cs bs bl Fs Fl seen lasts pv ts) : ¬ Fl p := by
  intro hk
  have ha := h.a
  unfold Arr at ha
  rcases h.l.typed p hk with ⟨es, c, e⟩ | ⟨x, fr, e⟩
  · rw [ha] at e; cases e
  · rw [ha] at e; cases e
theorem Pc.p_o (h : Pc w p cs bs bl Fs Fl seen lasts pv ts) : pv.ownBlock ≠ some p := by
  intro hk
  have ha := h.a
  unfold Arr at ha
  obtain ⟨c, e⟩ := ownT_typed h.o hk
  rw [ha] at e; cases e
theorem Pc.o_s (h : Pc w p cs bs bl Fs Fl seen lasts pv ts) {k : Nat} (hk : pv.ownBlock = some k) : ¬ Fs k := by
  intro h2
  obtain ⟨c, e⟩ := ownT_typed h.o hk
  rcases h.s.typed k h2 with ⟨es, c, e2⟩ | ⟨x, fr, e2⟩
  · rw [e] at e2; cases e2
  · rw [e] at e2; cases e2
theorem Pc.o_l (h : Pc w p cs bs bl Fs Fl seen lasts pv ts) {k : Nat} (hk : pv.ownBlock = some k) : ¬ Fl k := by
  intro h2
  obtain ⟨c, e⟩ := ownT_typed h.o hk
  rcases h.l.typed k h2 with ⟨es, c, e2⟩ | ⟨x, fr, e2⟩
  · rw [e] at e2; cases e2
  · rw [e] at e2; cases e2
/-- Other blocks turn. -/
theorem Pc.fr (h : Pc w p cs bs bl Fs Fl seen lasts pv ts) {G : Nat → Prop} (k : Fr G w w') (hG : ∀ i, fo p Fs Fl pv i → ¬ G i) (hn : NoBox w G) : Pc w' p cs bs bl Fs Fl seen lasts pv ts :=
  ⟨k.arr h.a (hG p (.inl rfl)), h.s.fr k fun i hi => hG i (.inr (.inl hi)), h.l.fr k fun i hi => hG i (.inr (.inr (.inl hi))),
    ownT_of h.o fun q hq => k.block q (h.lt (.inr (.inr (.inr hq)))) (hG q (.inr (.inr (.inr hq)))), fun x hx => (h.does x hx).fr k hn, h.dis⟩
theorem Pc.below (h : Pc w p cs bs bl Fs Fl seen lasts pv ts) (k : Below w.heap.size w w') : Pc w' p cs bs bl Fs Fl seen lasts pv ts :=
  h.fr (Fr.of_below (F := fun _ => False) k) (fun _ _ hh => hh) (fun _ hh => hh.elim)
theorem Pc.cell (h : Pc w p cs bs bl Fs Fl seen lasts pv ts) {j : Nat} {v : Value} (hv : cs[j]? = some v) : w.cell? ⟨p, j, none⟩ = some v := h.a.cell hv
/-- A store into the disk itself. -/
theorem Pc.set (h : Pc w p cs bs bl Fs Fl seen lasts pv ts) (j : Nat) (u : Value) : Pc (w.setCell ⟨p, j, none⟩ u) p (cs.setIfInBounds j u) bs bl Fs Fl seen lasts pv ts := by
  have hB : But p w (w.setCell ⟨p, j, none⟩ u) := (But.refl p w).set j u
  have hF : Fr (fun k => k = p) w (w.setCell ⟨p, j, none⟩ u) := Fr.but hB rfl
  have hnb : NoBox w (fun k => k = p) := fun k hk s hs => h.nobox k (.inl hk) s hs
  exact ⟨h.a.set j u, h.s.fr hF fun i hi e => h.p_s (e ▸ hi), h.l.fr hF fun i hi e => h.p_l (e ▸ hi), ownT_of h.o fun q hq => hB.block q (h.lt (.inr (.inr (.inr hq)))) (fun e => h.p_o (e ▸ hq)), fun x hx => (h.does x hx).fr hF hnb, h.dis⟩
theorem Pc.set_fr (h : Pc w p cs bs bl Fs Fl seen lasts pv ts) (j : Nat) (u : Value) : Fr (fo p Fs Fl pv) w (w.setCell ⟨p, j, none⟩ u) := Fr.but ((But.refl p w).set j u) (.inl rfl)
/-- What is seen has turned. -/
theorem Pc.turn (h : Pc w p cs bs bl Fs Fl seen lasts pv ts) {Fs' : Nat → Prop} {seen' : List File} (hs : FM w' Fs' bs seen') (k : Fr Fs w w') (hn : Nu w Fs Fs') : Pc w' p cs bs bl Fs' Fl seen' lasts pv ts := by
  have hnb : NoBox w Fs := fun k hk s hs => h.nobox k (.inr (.inl hk)) s hs
  exact ⟨k.arr h.a h.p_s, hs, h.l.fr k fun i hi e => h.dis i e hi, ownT_of h.o fun q hq => k.block q (h.lt (.inr (.inr (.inr hq)))) (h.o_s hq), fun x hx => (h.does x hx).fr k hnb, fun i hi hl => by
    rcases hn i hi with h1 | h1
    · exact h.dis i h1 hl
    · have := h.l.lt hl; omega⟩
/-- What lasts has turned. -/
theorem Pc.turnL (h : Pc w p cs bs bl Fs Fl seen lasts pv ts) {Fl' : Nat → Prop} {lasts' : List File} (hs : FM w' Fl' bl lasts') (k : Fr Fl w w') (hn : Nu w Fl Fl') : Pc w' p cs bs bl Fs Fl' seen lasts' pv ts := by
  have hnb : NoBox w Fl := fun k hk s hs => h.nobox k (.inr (.inr (.inl hk))) s hs
  exact ⟨k.arr h.a h.p_l, h.s.fr k fun i hi e => h.dis i hi e, hs, ownT_of h.o fun q hq => k.block q (h.lt (.inr (.inr (.inr hq)))) (h.o_l hq), fun x hx => (h.does x hx).fr k hnb, fun i hi hl => by
    rcases hn i hl with h1 | h1
    · exact h.dis i hi h1
    · have := h.s.lt hi; omega⟩
/-- One more is pending. -/
theorem Pc.push (h : Pc w p cs bs bl Fs Fl seen lasts pv ts) {pv' : Value} {x : TC} (ho : OwnT w' pv' (ts ++ [x])) (hg : w.grownBy w' pv.ownBlock) (hx : Does w (fnv x) x.2) : Pc w' p cs bs bl Fs Fl seen lasts pv' (ts ++ [x]) := by
  have k : Fr (fun i => pv.ownBlock = some i) w w' := Fr.grown hg fun q hq => hq
  have hnb : NoBox w (fun i => pv.ownBlock = some i) := fun i hi s hs => h.nobox i (.inr (.inr (.inr hi))) s hs
  exact ⟨k.arr h.a h.p_o, h.s.fr k fun i hi e => h.o_s e hi, h.l.fr k fun i hi e => h.o_l e hi, ho, fun y hy => by
    rcases List.mem_append.1 hy with hy | hy
    · exact (h.does y hy).fr k hnb
    · rw [List.mem_singleton.1 hy]; exact hx.fr k hnb, h.dis⟩
end

def FuseOk (d : Dk) (fz : Int) : Prop := (d.fused = true ∧ fz = d.left ∧ 0 ≤ d.left ∧ d.left ≤ 9223372036854775807) ∨ (d.fused = false ∧ fz < 0 ∧ -9223372036854775808 ≤ fz)
theorem FuseOk.off {d : Dk} {fz : Int} (h : FuseOk d fz) : off d = (fz == 0) := by
  unfold dk.off
  rcases h with ⟨h1, h2, h3, _⟩ | ⟨h1, h2, _⟩
  · rw [h1, h2, Bool.true_and, Bool.eq_iff_iff, decide_eq_true_eq, beq_iff_eq]; omega
  · rw [h1, Bool.false_and]
    symm
    rw [beq_eq_false_iff_ne]
    omega
def dkCells (d : Dk) (bs bl : Nat) (pv : Value) (fz : Int) : Array Value :=
  #[.int .i64 (d.cap : Nat), .map (some bs), .int .i64 (used d.seen : Nat), .map (some bl), pv, .int .i64 (count d.pend : Nat), .int .i64 fz]
/-- Block p is the program's disk; F: all that it takes. -/
def PD (w : World) (F : Nat → Prop) (p : Nat) (d : Dk) : Prop :=
  ∃ bs bl Fs Fl pv ts fz, Pc w p (dkCells d bs bl pv fz) bs bl Fs Fl d.seen d.lasts pv ts ∧ ts.map (·.2) = d.pend ∧ FuseOk d fz ∧ ∀ k, F k ↔ fo p Fs Fl pv k
theorem PD.of_pc {w : World} {p : Nat} {d : Dk} {cs : Array Value} {bs bl : Nat} {Fs Fl : Nat → Prop} {pv : Value} {ts : List TC} {fz : Int} (h : Pc w p cs bs bl Fs Fl d.seen d.lasts pv ts) (hc : cs = dkCells d bs bl pv fz) (ht : ts.map (·.2) = d.pend) (hf : FuseOk d fz) : PD w (fo p Fs Fl pv) p d :=
  ⟨bs, bl, Fs, Fl, pv, ts, fz, hc ▸ h, ht, hf, fun _ => Iff.rfl⟩
theorem PD.lt {w : World} {F : Nat → Prop} {p : Nat} {d : Dk} (h : PD w F p d) {k : Nat} (hk : F k) : k < w.heap.size := by
  obtain ⟨bs, bl, Fs, Fl, pv, ts, fz, h1, _, _, hF⟩ := h
  exact h1.lt ((hF k).1 hk)
theorem PD.own {w : World} {F : Nat → Prop} {p : Nat} {d : Dk} (h : PD w F p d) : F p := by
  obtain ⟨bs, bl, Fs, Fl, pv, ts, fz, h1, _, _, hF⟩ := h
  exact (hF p).2 (.inl rfl)
theorem PD.off {w : World} {F : Nat → Prop} {p : Nat} {d : Dk} (h : PD w F p d) {k : Nat} (hk : F k) {x : Array Value} {t : TypeId} {fr : Nat × Nat} (hx : w.heap[k]? = some (.cells x t fr)) : t = 81 ∨ t = 115 ∨ t = 5 := by
  obtain ⟨bs, bl, Fs, Fl, pv, ts, fz, h1, _, _, hF⟩ := h
  exact h1.off ((hF k).1 hk) hx
theorem PD.nobox {w : World} {F : Nat → Prop} {p : Nat} {d : Dk} (h : PD w F p d) : NoBox w F := by
  intro k hk s hs
  have := h.off hk hs
  simp at this
theorem PD.fr {w w' : World} {F G : Nat → Prop} {p : Nat} {d : Dk} (h : PD w F p d) (k : Fr G w w') (hG : ∀ i, F i → ¬ G i) (hn : NoBox w G) : PD w' F p d := by
  obtain ⟨bs, bl, Fs, Fl, pv, ts, fz, h1, h2, h3, hF⟩ := h
  exact ⟨bs, bl, Fs, Fl, pv, ts, fz, h1.fr k (fun i hi => hG i ((hF i).2 hi)) hn, h2, h3, hF⟩
theorem PD.below {w w' : World} {F : Nat → Prop} {p : Nat} {d : Dk} (h : PD w F p d) (k : Below w.heap.size w w') : PD w' F p d := by
  obtain ⟨bs, bl, Fs, Fl, pv, ts, fz, h1, h2, h3, hF⟩ := h
  exact ⟨bs, bl, Fs, Fl, pv, ts, fz, h1.below k, h2, h3, hF⟩
/-- What a call makes of a disk. -/
def Step (w : World) (F : Nat → Prop) (p : Nat) (d : Dk) (w' : World) : Prop := ∃ F', PD w' F' p d ∧ Fr F w w' ∧ Nu w F F'

/-! ### Small methods -/
set_option maxRecDepth 100000 in
theorem off_any (F : Nat → Prop) (p : Nat) (d : Dk) (w : World) (h : PD w F p d) :
    Calls Tryz.prog 46 #[.pointer (some ⟨p, 0, none⟩)] w fun e w' => e = .returned (.bool (off d)) ∧ w' = w := by
  obtain ⟨bs, bl, Fs, Fl, pv, ts, fz, h1, _, hf, hF⟩ := h
  have c6 := h1.cell (j := 6) (v := .int .i64 fz) rfl
  rw [hf.off]
  clear h1 hf hF
  go_enter Tryz.func46, Tryz.ntmps46
  go_wp2
  go_ret
  exact ⟨rfl, rfl⟩
set_option maxRecDepth 100000 in
theorem room_any (F : Nat → Prop) (p : Nat) (d : Dk) (w : World) (h : PD w F p d) (hc : d.cap ≤ 1048576) (hu : used d.seen ≤ 1048576) :
    Calls Tryz.prog 58 #[.pointer (some ⟨p, 0, none⟩)] w fun e w' => e = .returned (.int .i64 ((d.cap : Int) - (used d.seen : Int))) ∧ ∃ n, w' = w.drewN n := by
  obtain ⟨bs, bl, Fs, Fl, pv, ts, fz, h1, _, hf, hF⟩ := h
  have c0 := h1.cell (j := 0) (v := .int .i64 (d.cap : Nat)) rfl
  have c2 := h1.cell (j := 2) (v := .int .i64 (used d.seen : Nat)) rfl
  have hw : IntKind.i64.wrap ((d.cap : Int) - (used d.seen : Int)) = (d.cap : Int) - (used d.seen : Int) := IntWalk.i64_in _ (by omega)
  generalize used d.seen = u at *
  generalize d.cap = c at *
  clear h1 hf hF hc hu
  go_enter Tryz.func58, Tryz.ntmps58
  go_wp2
  go_quiet (fail)
  go_wp2
  go_ret
  exact ⟨rfl, _, rfl⟩
set_option maxRecDepth 100000 in
theorem pending_any (F : Nat → Prop) (p : Nat) (d : Dk) (w : World) (h : PD w F p d) :
    Calls Tryz.prog 44 #[.pointer (some ⟨p, 0, none⟩)] w fun e w' => e = .returned (.int .i64 (count d.pend : Nat)) ∧ w' = w := by
  obtain ⟨bs, bl, Fs, Fl, pv, ts, fz, h1, _, hf, hF⟩ := h
  have c2 := h1.cell (j := 5) (v := .int .i64 (count d.pend : Nat)) rfl
  generalize count d.pend = u at *
  clear h1 hf hF
  go_enter Tryz.func44, Tryz.ntmps44
  go_wp2
  go_ret
  exact ⟨rfl, rfl⟩
set_option maxRecDepth 100000 in
theorem fuse_any (F : Nat → Prop) (p : Nat) (d : Dk) (n : Int) (hn : -9223372036854775808 ≤ n ∧ n ≤ 9223372036854775807) (w : World) (h : PD w F p d) :
    Calls Tryz.prog 16 #[.pointer (some ⟨p, 0, none⟩), .int .i64 n] w fun e w' => e = .returned (.tuple #[]) ∧ Step w F p (fuse d n) w' := by
  obtain ⟨bs, bl, Fs, Fl, pv, ts, fz, h1, h2, hf, hF⟩ := h
  have c6 := h1.cell (j := 6) (v := .int .i64 fz) rfl
  have f6 := h1.a.frozen 6
  have HS : Hid (Step w F p (fuse d n) (w.setCell ⟨p, 6, none⟩ (.int .i64 n))) := by
    refine ⟨_, PD.of_pc (d := fuse d n) (fz := n) (h1.set 6 (.int .i64 n)) rfl h2 ?_, (h1.set_fr 6 _).mono fun k _ hk => (hF k).2 hk, fun k hk => .inl ((hF k).2 hk)⟩
    by_cases h0 : 0 ≤ n
    · exact .inl ⟨by simp [fuse, h0], rfl, h0, hn.2⟩
    · exact .inr ⟨by simp [fuse, h0], by omega, hn.1⟩
  clear h1 hf hF h2 hn
  go_enter Tryz.func16, Tryz.ntmps16
  go_wp2
  exact bodyPost_end (results_none rfl _ _ _) rfl ⟨rfl, HS.out⟩
/-- A call was done. -/
theorem spend_fuse {d : Dk} {fz : Int} (h : FuseOk d fz) (ho : off d = false) : FuseOk (spend d) (if 0 < fz then fz - 1 else fz) := by
  rw [h.off, beq_eq_false_iff_ne] at ho
  unfold spend
  rcases h with ⟨h1, h2, h3, h4⟩ | ⟨h1, h2, h3⟩
  · rw [if_pos h1, if_pos (by omega)]
    exact .inl ⟨h1, by show fz - 1 = d.left - 1; omega, by show 0 ≤ d.left - 1; omega, by show d.left - 1 ≤ _; omega⟩
  · rw [if_neg (by rw [h1]; decide), if_neg (by omega)]
    exact .inr ⟨h1, h2, h3⟩
set_option maxRecDepth 100000 in
theorem burn_any (F : Nat → Prop) (p : Nat) (d : Dk) (ho : off d = false) (w : World) (h : PD w F p d) :
    Calls Tryz.prog 64 #[.pointer (some ⟨p, 0, none⟩)] w fun e w' => e = .returned (.tuple #[]) ∧ Step w F p (spend d) w' := by
  obtain ⟨bs, bl, Fs, Fl, pv, ts, fz, h1, h2, hf, hF⟩ := h
  have c6 := h1.cell (j := 6) (v := .int .i64 fz) rfl
  have f6 := h1.a.frozen 6
  have hsp := spend_fuse hf ho
  obtain ⟨e1, e2, e3, e4, e5⟩ := spend_parts d
  have hcells : ∀ x, dkCells (spend d) bs bl pv x = dkCells d bs bl pv x := by intro x; unfold dkCells; rw [e1, e2, e4]
  by_cases h0 : 0 < fz
  · rw [if_pos h0] at hsp
    have HS : Hid (Step w F p (spend d) (w.setCell ⟨p, 6, none⟩ (.int .i64 (fz - 1)))) := by
      refine ⟨fo p Fs Fl pv, PD.of_pc (d := spend d) (fz := fz - 1) (bs := bs) (bl := bl) (pv := pv) (ts := ts) (cs := (dkCells d bs bl pv fz).setIfInBounds 6 (.int .i64 (fz - 1))) ?_ (by rw [hcells]; rfl) (by rw [e4]; exact h2) hsp, (h1.set_fr 6 _).mono fun k _ hk => (hF k).2 hk, fun k hk => .inl ((hF k).2 hk)⟩
      rw [e2, e3]
      exact h1.set 6 (.int .i64 (fz - 1))
    have hw : IntKind.i64.wrap (fz - 1) = fz - 1 := IntWalk.i64_in _ (by rcases hf with ⟨_, a, b, c⟩ | ⟨_, a, b⟩ <;> omega)
    clear h1 hf hF h2 hsp hcells e1 e2 e3 e4 e5
    go_enter Tryz.func64, Tryz.ntmps64
    go_wp2
    exact bodyPost_end (results_none rfl _ _ _) rfl ⟨rfl, HS.out⟩
  · rw [if_neg h0] at hsp
    have HS : Hid (Step w F p (spend d) w) := by
      refine ⟨F, ⟨bs, bl, Fs, Fl, pv, ts, fz, ?_, by rw [e4]; exact h2, hsp, hF⟩, Fr.refl _ _, Nu.refl _ _⟩
      rw [hcells, e2, e3]
      exact h1
    clear h1 hf hF h2 hsp hcells e1 e2 e3 e4 e5
    go_enter Tryz.func64, Tryz.ntmps64
    go_wp2
    exact bodyPost_end (results_none rfl _ _ _) rfl ⟨rfl, HS.out⟩
end Go.Proofs.YteeeakbgofjinaaGreat.dk
/-! DkP4 -/
namespace Go.Proofs.YteeeakbgofjinaaGreat.dk
set_option linter.unusedVariables false
open Go.RowKit
open fl (S S_size S_append S_inj str_eq str_ne)
open rw (Arr But Row Own bnext below_box below_drew below_drewN addr_add Fr RowB)
open mp (Mp Turned kget kput kwithout kmap KSorted)

set_option maxRecDepth 100000 in
theorem clone_any (s : Bs) (w : World) (hs : s.length ≤ 281474976710656) :
    Calls Tryz.prog 60 #[.string (S s)] w fun e w' => e = .returned (.string (S s)) ∧ Below w.heap.size w w' := by
  have hc := Tryz.stringslite_Clone (S s) w (by rw [S_size]; exact hs)
  go_enter Tryz.func60, Tryz.ntmps60
  go_wp2_with fail
  refine hc.mono ?_
  rintro e w1 ⟨rfl, b1⟩
  have HB := Lib.hid b1
  clear b1 hc
  go_wp2_with fail
  go_ret
  exact ⟨rfl, HB.out⟩
def refused (d : Dk) (n : Bs) : Nat := if n.length < 1 ∨ 80 < n.length then 1 else if off d = true then 8 else 0
set_option maxRecDepth 100000 in
theorem refuses_any (F : Nat → Prop) (p : Nat) (d : Dk) (n : Bs) (w : World) (h : PD w F p d) :
    Calls Tryz.prog 57 #[.pointer (some ⟨p, 0, none⟩), .string (S n)] w fun e w' => e = .returned (.int .i64 (refused d n : Nat)) ∧ w' = w := by
  have hO := off_any F p d w h
  have hz : ((S n).size : Int) = (n.length : Int) := by rw [S_size]
  unfold refused
  clear h
  by_cases h1 : n.length < 1
  · rw [if_pos (.inl h1)]
    have hi : (n.length : Int) < 1 := by omega
    go_enter Tryz.func57, Tryz.ntmps57
    go_wp2_with fail
    go_ret
    exact ⟨rfl, rfl⟩
  by_cases h2 : 80 < n.length
  · rw [if_pos (.inr h2)]
    have hi : ¬ (n.length : Int) < 1 := by omega
    have hi2 : (n.length : Int) > 80 := by omega
    go_enter Tryz.func57, Tryz.ntmps57
    go_wp2_with fail
    go_ret
    exact ⟨rfl, rfl⟩
  rw [if_neg (by omega)]
  have hi : ¬ (n.length : Int) < 1 := by omega
  have hi2 : ¬ (n.length : Int) > 80 := by omega
  cases ho : off d with
  | true =>
    rw [ho] at hO
    clear ho
    go_enter Tryz.func57, Tryz.ntmps57
    go_wp2_with fail
    refine hO.mono ?_
    rintro e w1 ⟨rfl, rfl⟩
    clear hO
    go_wp2_with fail
    go_ret
    exact ⟨rfl, rfl⟩
  | false =>
    rw [ho] at hO
    clear ho
    go_enter Tryz.func57, Tryz.ntmps57
    go_wp2_with fail
    refine hO.mono ?_
    rintro e w1 ⟨rfl, rfl⟩
    clear hO
    go_wp2_with fail
    go_ret
    exact ⟨rfl, rfl⟩
set_option maxHeartbeats 1000000 in
set_option maxRecDepth 100000 in
theorem read_any (F : Nat → Prop) (p : Nat) (d : Dk) (n : Bs) (hn : n.length ≤ maxLen) (w : World) (h : PD w F p d) :
    Calls Tryz.prog 43 #[.pointer (some ⟨p, 0, none⟩), .string (S n)] w fun e w' => e = .returned (.tuple #[.string (S (read d n).1), .int .i64 ((read d n).2 : Nat)]) ∧ Below w.heap.size w w' := by
  have hO := off_any F p d w h
  obtain ⟨bs, bl, Fs, Fl, pv, ts, fz, h1, _, hf, hF⟩ := h
  have c1 := h1.cell (j := 1) (v := .map (some bs)) rfl
  have hH := has_any Fs bs d.seen n hn w h1.s
  have h1s := h1.s
  obtain ⟨fs, g1, g2, _⟩ := h1.s
  have hlt := h1.a.lt
  unfold read
  cases ho : off d with
  | true =>
    rw [ho] at hO
    clear ho hH c1 h1 hf hF h1s g1 g2
    go_enter Tryz.func43, Tryz.ntmps43
    go_wp2_with fail
    refine hO.mono ?_
    rintro e w1 ⟨rfl, rfl⟩
    clear hO
    go_wp2_with fail
    go_ret2
    exact ⟨rfl, Below.refl _ _⟩
  | false =>
    rw [ho] at hO
    cases hg : get d.seen n with
    | none =>
      rw [hg] at hH
      simp only [Option.isSome_none] at hH
      clear ho h1 hf hF hg h1s g1 g2
      go_enter Tryz.func43, Tryz.ntmps43
      go_wp2_with fail
      refine hO.mono ?_
      rintro e w1 ⟨rfl, rfl⟩
      clear hO
      go_wp2_with fail
      refine hH.mono ?_
      rintro e w1 ⟨rfl, b1⟩
      have HB := Lib.hid b1
      clear hH b1
      go_wp2_with fail
      go_ret2
      exact ⟨rfl, HB.out⟩
    | some s =>
      rw [hg] at hH
      simp only [Option.isSome_some] at hH
      have hrow : ∃ v, kget (vals fs) n = some (.agg #[v]) ∧ RowB w v s := by
        rw [← get_k, ← g2] at hg
        rcases g1.at n with ⟨e1, _, _⟩ | ⟨o, v, _, _, e1, e2, e3⟩
        · rw [e1] at hg; cases hg
        · rw [e1] at hg; cases hg; exact ⟨v, e2, e3⟩
      obtain ⟨v, hk, hv⟩ := hrow
      have HL : Hid (∀ W, Below w.heap.size w W → (Instr.lookup tf (.map (some bs)) (.string (S n)) false).run Tryz.prog W = .ok (.agg #[v]) W ∧ (convert 135 9 v).run Tryz.prog W = .ok (.string (S s)) W ∧ W.cell? ⟨p, 1, none⟩ = some (.map (some bs))) := by
        intro W b
        have hlk := (g1.map.of (b.block bs g1.map.lt)).look und_f (zero_file W) n hn
        rw [hk] at hlk
        refine ⟨hlk, rw.conv_row v s W (hv.of fun q hq => ?_), (World.cell?_of_block (b.block p hlt)).trans c1⟩
        obtain ⟨g, e, hlt, _⟩ := hv.at
        rw [hq] at e
        cases e
        exact b.block q hlt
      obtain ⟨a, c, rfl, _⟩ := hv.form
      generalize s.length = L at *
      clear ho h1 hf hF hg h1s g1 g2 hk hv
      have hfl := fun x => field_file x
      go_enter Tryz.func43, Tryz.ntmps43
      go_wp2_with fail
      refine hO.mono ?_
      rintro e w1 ⟨rfl, rfl⟩
      clear hO
      go_wp2_with fail
      refine hH.mono ?_
      rintro e w2 ⟨rfl, b1⟩
      have HB := Lib.hid b1
      obtain ⟨l1, l2, l3⟩ := HL.out _ b1
      clear hH b1 HL c1
      go_wp2_with fail
      go_ret2
      exact ⟨rfl, HB.out⟩
end Go.Proofs.YteeeakbgofjinaaGreat.dk
/-! DkRef5 -/
namespace Go.Proofs.YteeeakbgofjinaaGreat.dk
set_option linter.unusedVariables false
open Go.RowKit
open fl (S S_size S_append S_inj str_eq str_ne)
open rw (Arr But Row Own bnext below_box below_drew below_drewN addr_add)

/-- What New owes. -/
def NewP (n : Int) (w : World) (e : Ending) (w' : World) : Prop := ((n < 0 ∨ 1048576 < n) ∧ e = .returned (.pointer none) ∧ w' = w) ∨ (∃ k : Nat, n = k ∧ k ≤ 1048576 ∧ e = .returned (.pointer (some ⟨w.heap.size, 0, none⟩)) ∧ RefD w' w.heap.size (fresh k) ∧ Below w.heap.size w w')
set_option maxRecDepth 100000 in
theorem refnew_any (n : Int) (w : World) :
    Calls Tryz.prog 9 #[.int .i64 n] w (NewP n w) := by
  by_cases h0 : n < 0
  · have hd : decide (n < 0) = true := decide_eq_true h0
    go_enter Tryz.func9, Tryz.ntmps9
    go_wp2
    go_ret
    exact .inl ⟨.inl h0, rfl, rfl⟩
  · by_cases h1 : n > 1048576
    · have hd : decide (n < 0) = false := decide_eq_false h0
      have hd1 : decide (n > 1048576) = true := decide_eq_true h1
      go_enter Tryz.func9, Tryz.ntmps9
      go_wp2
      go_ret
      exact .inl ⟨.inr h1, rfl, rfl⟩
    · have hd : decide (n < 0) = false := decide_eq_false h0
      have hd1 : decide (n > 1048576) = false := decide_eq_false h1
      obtain ⟨k, rfl⟩ := Int.eq_ofNat_of_zero_le (Int.not_lt.1 h0)
      have HR : Hid (RefD (w.alloc (.cells #[.int .i64 (k : Nat), .slice none 0 0, .slice none 0 0, .slice none 0 0, .bool false, .int .i64 0] 85)) w.heap.size (fresh k)) :=
        ⟨.slice none 0 0, .slice none 0 0, .slice none 0 0, Arr.new w _ _, rw.Sl.nil _ _, rw.Sl.nil _ _, rw.Sl.nil _ _, fun h => absurd rfl h, fun h => absurd rfl h, fun h => absurd rfl h⟩
      go_enter Tryz.func9, Tryz.ntmps9
      go_wp2
      go_ret
      exact .inr ⟨k, rfl, by omega, rfl, HR.out, below_box _ _⟩

theorem count_take (l : List Call) (k : Nat) (h : k < l.length) : count (l.take (k + 1)) = count (l.take k) + steps l[k] := by
  unfold count
  rw [List.take_succ_eq_append_getElem h, List.map_append, List.sum_append]
  simp
theorem steps_le {c : Call} (h : c.s.length ≤ 140737488355328) : steps c ≤ 140737488355328 := by unfold steps; split <;> omega
theorem count_le : ∀ {l : List Call}, (∀ c ∈ l, c.s.length ≤ 140737488355328) → count l ≤ l.length * 140737488355328
  | [], _ => by simp [count]
  | c :: l, h => by
    have h1 := count_le (l := l) (fun x hx => h x (List.mem_cons_of_mem _ hx))
    have h2 := steps_le (h c List.mem_cons_self)
    unfold count at *
    simp only [List.map_cons, List.sum_cons, List.length_cons]
    omega

set_option maxHeartbeats 1000000 in
set_option maxRecDepth 100000 in
theorem refcount_any (xb : Nat) (d : Dk) (hfit : d.pend.length ≤ 1000) (hs : ∀ c ∈ d.pend, c.s.length ≤ 140737488355328) (w : World) (h : RefD w xb d) :
    Calls Tryz.prog 45 #[.pointer (some ⟨xb, 0, none⟩)] w fun e w' => e = .returned (.int .i64 (count d.pend : Nat)) ∧ Below w.heap.size w w' := by
  obtain ⟨sv, lv, pv, ha, _, _, ⟨a, cap, rfl, _, hr, _⟩, _⟩ := h.a
  have HS := Lib.hid hs
  generalize d.pend = l at *
  have HA := Lib.hid (And.intro ha hr)
  have hl2 : (l.length : Nat) ≤ 1000 := hfit
  clear ha hr h hs
  go_enter Tryz.func45, Tryz.ntmps45
  go_wp2
  go_loopw [3, 4] (fun n i wr => ∃ k : Nat, i = .int .i64 k ∧ k ≤ l.length ∧ (∃ u : Nat, n = .int .i64 u ∧ Hid (u = count (l.take k)) ∧ u ≤ 140737488355328000) ∧ Below w.heap.size w wr)
    (fun _ i _ => l.length - (intOf i).toNat)
  case atStart => exact ⟨0, rfl, Nat.zero_le _, ⟨0, rfl, by show 0 = count (l.take 0); simp [count], by omega⟩, Below.refl _ _⟩
  case round =>
    obtain ⟨k, rfl, hk, ⟨u, rfl, HU, hb⟩, hB⟩ := hrel
    have p3 : wr.cell? ⟨xb, 3, none⟩ = some (.slice a l.length cap) := (HA.out.1.below hB).cell rfl
    by_cases hlt : k < l.length
    · obtain ⟨b, off, rfl, hb2, c0, c1, c2⟩ := slC_at (HA.out.2.keep _ hB.size (fun b _ _ h => hB.block b h)) hlt
      have hki : (k : Int) < (l.length : Int) := by omega
      have HN : Hid (u + steps (l[k]'hlt) = count (l.take (k + 1))) := by
        show _ = _
        rw [count_take l k hlt, HU.out]
      have hle : u + steps (l[k]'hlt) ≤ 140737488355328000 := by
        rw [HN.out]
        have h1 := count_le (l := l.take (k + 1)) (fun c hc => HS.out c (List.mem_of_mem_take hc))
        rw [List.length_take] at h1
        omega
      have hst := refsteps_any (l[k]'hlt) wr
      unfold callV at hst
      clear HU
      generalize l[k]'hlt = x at *
      generalize steps x = sx at *
      go_wp2_with fail
      refine hst.mono ?_
      rintro e w2 ⟨rfl, b2⟩
      have hB2 := bnext hB b2
      clear hst b2 c0 c1 c2 p3 hB
      go_wp2_with fail
      go_roundw
      case rel => exact ⟨k + 1, by go_num, by omega, ⟨u + sx, by go_num, HN, hle⟩, hB2⟩
      case measure => simp [intOf]; omega
    · obtain rfl : k = l.length := by omega
      rw [List.take_length] at HU
      go_wp2
      go_ret
      exact ⟨by rw [← HU.out]; rfl, hB⟩

/-! ### Crash -/
theorem again_take (l : List File) : ∀ (p : List Call) (k j : Nat), j ≤ p.length → again l p k = again (again l (p.take j) k) (p.drop j) (k - min (count (p.take j)) k)
  | [], k, j, _ => by simp [again, count]
  | c :: p, k, 0, _ => by simp [again, count]
  | c :: p, k, j + 1, h => by
    rw [List.take_succ_cons, List.drop_succ_cons, again, again, again_take _ p _ j (by simpa using h)]
    congr 1
    have : count (c :: p.take j) = steps c + count (p.take j) := by simp [count]
    rw [this]
    omega
theorem done_le (l : List File) (c : Call) (n : Nat) : (done l c n).length ≤ l.length + 1 := by
  unfold done
  split
  · omega
  · split
    · exact put_length _ _
    · split
      · exact put_length _ _
      · have := without_length l c.name; omega
theorem again_length : ∀ (l : List File) (p : List Call) (k : Nat), (again l p k).length ≤ l.length + p.length
  | l, [], k => by simp [again]
  | l, c :: p, k => by
    unfold again
    have h1 := again_length (done l c (min (steps c) k)) p (k - min (steps c) k)
    have h2 := done_le l c (min (steps c) k)
    rw [List.length_cons]
    omega
/-- Where the loop stands: j calls done again, k steps were given at the start. -/
theorem again_snoc (l : List File) (p : List Call) (k : Nat) {j : Nat} (hj : j < p.length) : again l (p.take (j + 1)) k = done (again l (p.take j) k) p[j] (min (steps p[j]) (k - min (count (p.take j)) k)) := by
  have e : (p.take (j + 1)).take j = p.take j := by rw [List.take_take]; congr 1; omega
  have e2 : (p.take (j + 1)).drop j = [p[j]] := by
    rw [List.take_succ_eq_append_getElem hj, List.drop_left' (by rw [List.length_take]; omega)]
  rw [again_take l (p.take (j + 1)) k j (by rw [List.length_take]; omega), e, e2]
  rfl
theorem bytes_get {l : List File} {B : Nat} (h : ∀ f ∈ l, f.2.length ≤ B) (n : Bs) : ((get l n).getD []).length ≤ B := by
  cases hg : get l n with
  | none => exact Nat.zero_le _
  | some s => exact h _ (get_some hg)
theorem bytes_of_used {l : List File} {B : Nat} (h : used l ≤ B) : ∀ f ∈ l, f.2.length ≤ B := by
  intro f hf
  refine Nat.le_trans ?_ h
  unfold used
  induction l with
  | nil => cases hf
  | cons x l ih =>
    simp only [List.map_cons, List.sum_cons]
    rcases List.mem_cons.1 hf with rfl | hf
    · omega
    · have : used l ≤ B := by unfold used at h ⊢; simp only [List.map_cons, List.sum_cons] at h; omega
      have := ih this hf
      omega
theorem again_used {d : Dk} (h : Right d) (j k : Nat) : used (again d.lasts (d.pend.take j) k) ≤ d.cap := by
  refine again_room _ _ _ h.so fun i => ?_
  rw [List.take_take]
  exact h.room _

set_option maxHeartbeats 4000000 in
set_option maxRecDepth 100000 in
theorem refcrash_any (xb : Nat) (d : Dk) (k : Int) (hk64 : -9223372036854775808 ≤ k ∧ k ≤ 9223372036854775807) (hr : Right d) (hfit : d.pend.length ≤ 1000 ∧ d.lasts.length ≤ 1000) (hs : ∀ c ∈ d.pend, c.s.length ≤ 140737488355328) (w : World) (h : RefD w xb d) :
    Calls Tryz.prog 19 #[.pointer (some ⟨xb, 0, none⟩), .int .i64 k] w fun e w' => e = .returned (.int .i64 ((crash d k).1 : Nat)) ∧ RefD w' xb (crash d k).2 ∧ But xb w w' := by
  have hC := refcount_any xb d hfit.1 hs w h
  by_cases hk0 : k < 0
  · have hd : decide (k < 0) = true := decide_eq_true hk0
    have e : crash d k = (1, d) := by unfold crash; rw [if_pos (.inl hk0)]
    rw [e]
    have HR := Lib.hid h
    clear e hC h hr hk0
    go_enter Tryz.func19, Tryz.ntmps19
    go_wp2_with fail
    go_ret
    exact ⟨rfl, HR.out, But.refl _ _⟩
  have hd : decide (k < 0) = false := decide_eq_false hk0
  obtain ⟨n, rfl⟩ := Int.eq_ofNat_of_zero_le (Int.not_lt.1 hk0)
  by_cases hkc : (count d.pend : Int) < (n : Int)
  · have hd2 : ((n : Nat) : Int) > (count d.pend : Int) := hkc
    have e : crash d (n : Int) = (1, d) := by unfold crash; rw [if_pos (.inr hkc)]
    rw [e]
    have HR := Lib.hid h
    clear e h hr hk0 hkc
    generalize count d.pend = cn at *
    go_enter Tryz.func19, Tryz.ntmps19
    go_wp2_with fail
    refine hC.mono ?_
    rintro e w2 ⟨rfl, b2⟩
    have HR2 := Lib.hid (And.intro (HR.out.below b2) (But.of_below (q := xb) b2))
    clear hC b2
    go_wp2_with fail
    go_ret
    exact ⟨rfl, HR2.out.1, HR2.out.2⟩
  have hd2 : ¬ ((n : Nat) : Int) > (count d.pend : Int) := hkc
  rw [crash_ok (by omega)]
  have HT : Hid (Right d ∧ (∀ c ∈ d.pend, c.s.length ≤ 140737488355328) ∧ d.pend.length ≤ 1000 ∧ d.lasts.length ≤ 1000 ∧ n ≤ count d.pend) := ⟨hr, hs, hfit.1, hfit.2, by omega⟩
  have hp9 : (d.pend.length : Nat) ≤ 1000 := hfit.1
  have HRD := Lib.hid h
  obtain ⟨cn, hcn⟩ : ∃ cn, count d.pend = cn := ⟨_, rfl⟩
  rw [hcn] at hC hd2
  replace hcn := Lib.hid hcn
  clear h hr hs hfit hk0 hkc
  go_enter Tryz.func19, Tryz.ntmps19
  go_wp2_with fail
  refine hC.mono ?_
  rintro e w1 ⟨rfl, b1⟩
  have h1 := HRD.out.below b1
  have B1 := Lib.hid (But.of_below (q := xb) b1)
  obtain ⟨sv, lv, pv, ha, s1, s2, s3, o1, o2, o3⟩ := h1.a
  obtain ⟨c0, c1, c2, c3, c4, c5⟩ := RefD.cells ha
  have HD : Hid (Arr w1 xb 85 (diskCells d sv lv pv) ∧ SlF w1 sv d.seen ∧ SlF w1 lv d.lasts ∧ SlC w1 pv d.pend ∧ rw.Off xb lv d.lasts) := ⟨ha, s1, s2, s3, o2⟩
  obtain ⟨sa, sn, sc, rfl⟩ : ∃ a n c, sv = .slice a n c := by obtain ⟨a, c, e, _⟩ := s1; exact ⟨a, _, c, e⟩
  obtain ⟨la, ln, lc, rfl⟩ : ∃ a n c, lv = .slice a n c := by obtain ⟨a, c, e, _⟩ := s2; exact ⟨a, _, c, e⟩
  obtain ⟨pa, pc, rfl, hpc, hpr, hpn⟩ := s3
  have HX : Hid (xb < w1.heap.size) := h1.lt
  clear hC b1 HRD h1 ha s1 s2 o1 o2 o3 hpc hpr hpn
  go_wp2_with fail
  rw [show decide (cn < n) = false from decide_eq_false (by omega)]
  go_loopw [1, 5, 6] (fun kk v i wr => ∃ (j r : Nat), i = .int .i64 j ∧ j ≤ d.pend.length ∧ kk = .int .i64 r ∧ Hid (r = n - min (count (d.pend.take j)) n ∧ r ≤ n ∧ SlF wr v (again d.lasts (d.pend.take j) n) ∧ rw.Off xb v (again d.lasts (d.pend.take j) n) ∧ Below w1.heap.size w1 wr))
    (fun _ _ i _ => d.pend.length - (intOf i).toNat)
  case atStart => exact ⟨0, n, rfl, Nat.zero_le _, rfl, by simp [count], Nat.le_refl _, HD.out.2.2.1, HD.out.2.2.2.2, Below.refl _ _⟩
  case round =>
    obtain ⟨j, r, rfl, hj, rfl, HI⟩ := hrel
    obtain ⟨hrr, hrn, hsl, hof, hB⟩ := HI.out
    have p3 : wr.cell? ⟨xb, 3, none⟩ = some (.slice pa d.pend.length pc) := (HD.out.1.below hB).cell rfl
    by_cases hlt : j < d.pend.length
    · have hsC := HD.out.2.2.2.1.later _ hB
      obtain ⟨a2, c2', e2, _, hr2, _⟩ := hsC
      cases e2
      obtain ⟨b, off, rfl, hb2, q0, q1, q2⟩ := slC_at hr2 hlt
      have hki : (j : Int) < (d.pend.length : Int) := by omega
      obtain ⟨c, hc⟩ : ∃ c, d.pend[j]'hlt = c := ⟨_, rfl⟩
      rw [hc] at q0 q1 q2
      have hst := refsteps_any c wr
      have hcm : c ∈ d.pend := by rw [← hc]; exact List.getElem_mem hlt
      have hcs := HT.out.2.1 c hcm
      have hsn := steps_le hcs
      -- the call again
      have hag := again_snoc d.lasts d.pend n hlt
      rw [hc, ← hrr] at hag
      have hul := again_used HT.out.1 j n
      have hbg := bytes_get (bytes_of_used (Nat.le_trans hul HT.out.1.cap)) c.name
      have hlen := again_length d.lasts (d.pend.take j) n
      rw [List.length_take] at hlen
      have HDn := Lib.hid (fun W h => refdone_any u5 (again d.lasts (d.pend.take j) n) c (min (steps c) r) (by have := HT.out.2.2; omega) (Nat.min_le_left _ _) (by omega) hcs W h)
      have hcnt := count_take d.pend j hlt
      rw [hc] at hcnt
      have HM : Hid (∀ W u, SlF W u (done (again d.lasts (d.pend.take j) n) c (min (steps c) r)) → (u = u5 ∨ Own fileSh W wr.heap.size u (done (again d.lasts (d.pend.take j) n) c (min (steps c) r))) → Below wr.heap.size wr W →
          (r - min (steps c) r = n - min (count (d.pend.take (j + 1))) n ∧ r - min (steps c) r ≤ n ∧ SlF W u (again d.lasts (d.pend.take (j + 1)) n) ∧ rw.Off xb u (again d.lasts (d.pend.take (j + 1)) n) ∧ Below w1.heap.size w1 W)) := fun W u hu ho hb => by
        refine ⟨by rw [hcnt]; omega, by omega, by rw [hag]; exact hu, ?_, bnext hB hb⟩
        rw [hag]
        rcases ho with rfl | ho
        · intro hne
          obtain ⟨a7, c7, e7, _⟩ := hsl
          obtain ⟨a8, c8, e8, _⟩ := hu
          rw [e7] at e8
          have hl7 : (((again d.lasts (d.pend.take j) n)).length : Nat) = (done (again d.lasts (d.pend.take j) n) c (min (steps c) r)).length := by injection e8
          exact hof fun h0 => hne (List.eq_nil_of_length_eq_zero (by rw [← hl7, h0]; rfl))
        · exact ho.off _ (Nat.lt_of_lt_of_le HX.out hB.size)
      have HSL := Lib.hid hsl
      have HB := Lib.hid hB
      clear HI hrr hsl hof hB hr2 hcm hcs hag hul hbg hlen hcnt
      replace hc := Lib.hid hc
      have hcw := hc
      clear hc
      obtain ⟨sx, hsx⟩ : ∃ sx, steps c = sx := ⟨_, rfl⟩
      rw [hsx] at hst HDn HM hsn
      unfold callV at hst
      by_cases hgt : (sx : Int) > (r : Int)
      · have em : min sx r = r := by omega
        rw [em] at HDn HM
        go_wp2_with fail
        refine hst.mono ?_
        rintro e w2 ⟨rfl, b2⟩
        clear hst
        have hB2 := Lib.hid (bnext HB.out b2)
        have p3' : w2.cell? ⟨xb, 3, none⟩ = some (.slice (some ⟨b, off, none⟩) d.pend.length pc) := (HD.out.1.below hB2.out).cell rfl
        obtain ⟨a4, c4', e4, _, hr4, _⟩ := HD.out.2.2.2.1.later _ hB2.out
        cases e4
        obtain ⟨b', off', e4', _, q0', q1', q2'⟩ := slC_at hr4 hlt
        cases e4'
        have hdn := HDn.out w2 (HSL.out.later _ b2)
        rw [hcw.out] at q0' q1' q2'
        unfold callV at hdn
        clear hr4 q0 q1 q2 p3
        go_wp2_with fail
        refine hdn.mono ?_
        rintro e w3 ⟨⟨u, rfl, hu, ho⟩, b3⟩
        have HF := Lib.hid (HM.out w3 u hu (ho.imp id fun o => own_lower o b2.size) (b2.trans (b3.mono b2.size)))
        have hw : IntKind.i64.wrap ((r : Int) - (r : Int)) = ((r - r : Nat) : Int) := by
          rw [IntWalk.i64_in _ (by omega)]; omega
        obtain ⟨ua, uc, rfl, _⟩ := id hu
        clear hdn hu ho b3 q0' q1' q2' p3'
        rw [Nat.sub_self] at HF
        go_wp2_with fail
        go_roundw
        case rel => exact ⟨j + 1, 0, by go_num, by omega, rfl, HF⟩
        case measure => simp [intOf]; omega
      · have em : min sx r = sx := by omega
        rw [em] at HDn HM
        go_wp2_with fail
        refine hst.mono ?_
        rintro e w2 ⟨rfl, b2⟩
        clear hst
        have hB2 := Lib.hid (bnext HB.out b2)
        have p3' : w2.cell? ⟨xb, 3, none⟩ = some (.slice (some ⟨b, off, none⟩) d.pend.length pc) := (HD.out.1.below hB2.out).cell rfl
        obtain ⟨a4, c4', e4, _, hr4, _⟩ := HD.out.2.2.2.1.later _ hB2.out
        cases e4
        obtain ⟨b', off', e4', _, q0', q1', q2'⟩ := slC_at hr4 hlt
        cases e4'
        have hdn := HDn.out w2 (HSL.out.later _ b2)
        rw [hcw.out] at q0' q1' q2'
        unfold callV at hdn
        clear hr4 q0 q1 q2 p3
        go_wp2_with fail
        refine hdn.mono ?_
        rintro e w3 ⟨⟨u, rfl, hu, ho⟩, b3⟩
        have HF := Lib.hid (HM.out w3 u hu (ho.imp id fun o => own_lower o b2.size) (b2.trans (b3.mono b2.size)))
        have hw : IntKind.i64.wrap ((r : Int) - (sx : Int)) = ((r - sx : Nat) : Int) := by
          rw [IntWalk.i64_in _ (by omega)]; omega
        obtain ⟨ua, uc, rfl, _⟩ := id hu
        clear hdn hu ho b3 q0' q1' q2' p3'
        generalize r - sx = r2 at *
        go_wp2_with fail
        go_roundw
        case rel => exact ⟨j + 1, r2, by go_num, by omega, by go_num, HF⟩
        case measure => simp [intOf]; omega
    · obtain rfl : j = d.pend.length := by omega
      rw [List.take_length] at hsl hof
      obtain ⟨L, hL⟩ : ∃ L, again d.lasts d.pend n = L := ⟨_, rfl⟩
      rw [hL] at hsl hof
      replace hL := Lib.hid hL
      have ha := HD.out.1.below hB
      have f1 := ha.frozen 1
      have HH := Lib.hid (And.intro ha (And.intro hsl (And.intro hof ((B1.out.then_below hB)))))
      have q1 : wr.cell? ⟨xb, 1, none⟩ = some (.slice sa sn sc) := ha.cell rfl
      obtain ⟨ua, uc, rfl, _⟩ := id hsl
      clear hsl hof ha HI hrr hrn hB hd2
      go_upto_region 13 with (fail)
      obtain ⟨W1, hW1⟩ : ∃ W, wr.setCell ⟨xb, 1, none⟩ (.slice ua L.length uc) = W := ⟨_, rfl⟩
      have K1 : Hid (Arr W1 xb 85 (diskCells { d with seen := L } (.slice ua L.length uc) (.slice la ln lc) (.slice pa d.pend.length pc)) ∧ SlF W1 (.slice ua L.length uc) L ∧ rw.Off xb (.slice ua L.length uc) L ∧ But xb w W1) := by
        rw [← hW1]
        exact ⟨HH.out.1.set 1 _, HH.out.2.1.but _ ((But.refl _ _).set 1 _) HH.out.2.2.1, HH.out.2.2.1, HH.out.2.2.2.set 1 _⟩
      rw [hW1]
      clear hW1 HH f1 q1 p3
      have f2 := K1.out.1.frozen 2
      have q2 : W1.cell? ⟨xb, 2, none⟩ = some (.slice la ln lc) := K1.out.1.cell rfl
      go_upto_region 14 with (fail)
      obtain ⟨W2, hW2⟩ : ∃ W, W1.setCell ⟨xb, 2, none⟩ (.slice ua L.length uc) = W := ⟨_, rfl⟩
      have K2 : Hid (Arr W2 xb 85 (diskCells { d with seen := L, lasts := L } (.slice ua L.length uc) (.slice ua L.length uc) (.slice pa d.pend.length pc)) ∧ SlF W2 (.slice ua L.length uc) L ∧ rw.Off xb (.slice ua L.length uc) L ∧ But xb w W2) := by
        rw [← hW2]
        exact ⟨K1.out.1.set 2 _, K1.out.2.1.but _ ((But.refl _ _).set 2 _) K1.out.2.2.1, K1.out.2.2.1, K1.out.2.2.2.set 2 _⟩
      rw [hW2]
      clear hW2 K1 f2 q2
      have f3 := K2.out.1.frozen 3
      have q3 : W2.cell? ⟨xb, 3, none⟩ = some (.slice pa d.pend.length pc) := K2.out.1.cell rfl
      go_upto_region 15 with (fail)
      obtain ⟨W3, hW3⟩ : ∃ W, W2.setCell ⟨xb, 3, none⟩ (.slice none 0 0) = W := ⟨_, rfl⟩
      have K3 : Hid (Arr W3 xb 85 (diskCells { d with seen := L, lasts := L, pend := [] } (.slice ua L.length uc) (.slice ua L.length uc) (.slice none 0 0)) ∧ SlF W3 (.slice ua L.length uc) L ∧ rw.Off xb (.slice ua L.length uc) L ∧ But xb w W3) := by
        rw [← hW3]
        exact ⟨K2.out.1.set 3 _, K2.out.2.1.but _ ((But.refl _ _).set 3 _) K2.out.2.2.1, K2.out.2.2.1, K2.out.2.2.2.set 3 _⟩
      rw [hW3]
      clear hW3 K2 f3 q3
      have f4 := K3.out.1.frozen 4
      have q4 : W3.cell? ⟨xb, 4, none⟩ = some (.bool d.fused) := K3.out.1.cell rfl
      have HR4 : Hid (RefD (W3.setCell ⟨xb, 4, none⟩ (.bool false)) xb { d with seen := L, lasts := L, pend := [], fused := false } ∧ But xb w (W3.setCell ⟨xb, 4, none⟩ (.bool false))) :=
        ⟨RefD.store K3.out.1 4 _ rfl K3.out.2.1 K3.out.2.1 (rw.Sl.nil _ _) K3.out.2.2.1 K3.out.2.2.1 (fun hh => absurd rfl hh), K3.out.2.2.2.set 4 _⟩
      clear K3
      go_wp2_with fail
      go_ret
      rw [hL.out]
      exact ⟨rfl, HR4.out.1, HR4.out.2⟩
end Go.Proofs.YteeeakbgofjinaaGreat.dk
