/-
  What the law's walk stands on, part 2 of 5: the texts QmH9, one behind the other.
-/
import Derived.Test.YtmgmhnohocamfaaGreatRaftBeginsa
/-! QmH9 -/
namespace Go.Proofs.YtmgmhnohocamfaaGreat.qm
set_option linter.unusedVariables false
open Go.RowKit
open rw (Arr But Own bnext below_box below_drew below_drewN addr_add)

theorem own_type {α : Type} {s : rw.Sh α} {w : World} {B : Nat} {v : Value} {l : List α} (h : Own s w B v l) {k : Nat} (e : v.ownBlock = some k) : ∃ cs, Arr w k s.t cs := by
  obtain ⟨h1, ⟨h2, _⟩ | ⟨g, cap, cur, h3, h4, h5, h6⟩⟩ := h
  · rw [h2] at e; cases e
  · rw [h3] at e
    simp [Value.ownBlock] at e
    subst e
    exact ⟨cur, h5⟩
theorem arr_apart {w : World} {a b : Nat} {t u : TypeId} {cs ds : Array Value} (h : Arr w a t cs) (k : Arr w b u ds) (n : t ≠ u) : a ≠ b := by
  rintro rfl
  unfold Arr at h k
  rw [h] at k
  injection k with k
  injection k with _ k
  exact n k
theorem own_keep {α : Type} {s : rw.Sh α} {B : Nat} {w w' : World} {v : Value} {l : List α} (h : Own s w B v l) (k : ∀ i, i < w.heap.size → v.ownBlock = some i → w'.heap[i]? = w.heap[i]?) : Own s w' B v l := by
  obtain ⟨h1, h2 | ⟨g, cap, cur, h3, h4, h5, h6⟩⟩ := h
  · exact ⟨h1, .inl h2⟩
  · exact ⟨h1, .inr ⟨g, cap, cur, h3, h4, (k g (Array.getElem?_eq_some_iff.1 h5).1 (by rw [h3]; simp [Value.ownBlock])).trans h5, h6⟩⟩
/-- Where the loop stands. -/
structure Cm (w W : World) (hb : Nat) (l : List Int) (hv : List Ix) (who : Value) (P R : List Ix) (wl : List Int) (v : Value) : Prop where
  box : Arr W hb 202 #[v]
  row : Own hpSh W (hb + 1) v R
  heap : Heap R R.length
  few : R.length ≤ 100000
  few2 : wl.length + R.length ≤ 100000
  who : Own noSh W (hb + 1) who wl
  took : Took l hv P R wl
  b : Below hb w W
theorem Cm.below {w W W' : World} {hb : Nat} {l : List Int} {hv : List Ix} {who : Value} {P R : List Ix} {wl : List Int} {v : Value} (h : Cm w W hb l hv who P R wl v) (k : Below W.heap.size W W') : Cm w W' hb l hv who P R wl v :=
  ⟨h.box.below k, h.row.below _ k, h.heap, h.few, h.few2, h.who.below _ k, h.took, h.b.trans (k.mono (Nat.le_of_lt h.box.lt))⟩
/-- Behind a pop: the heap has R', x is told. -/
structure Cp (w W : World) (hb : Nat) (l : List Int) (hv : List Ix) (who : Value) (P R R' : List Ix) (wl : List Int) (v : Value) (x : Ix) : Prop where
  box : Arr W hb 202 #[v]
  row : Own hpSh W (hb + 1) v R'
  heap : Heap R' R'.length
  perm : R.Perm (x :: R')
  top : ∀ r ∈ R, r.idx ≤ x.idx
  few2 : wl.length + R'.length + 1 ≤ 100000
  who : Own noSh W (hb + 1) who wl
  took : Took l hv P R wl
  b : Below hb w W
theorem Cp.below {w W W' : World} {hb : Nat} {l : List Int} {hv : List Ix} {who : Value} {P R R' : List Ix} {wl : List Int} {v : Value} {x : Ix} (h : Cp w W hb l hv who P R R' wl v x) (k : Below W.heap.size W W') : Cp w W' hb l hv who P R R' wl v x :=
  ⟨h.box.below k, h.row.below _ k, h.heap, h.perm, h.top, h.few2, h.who.below _ k, h.took, h.b.trans (k.mono (Nat.le_of_lt h.box.lt))⟩
theorem Cm.popped {w W W' : World} {hb : Nat} {l : List Int} {hv : List Ix} {who : Value} {P R : List Ix} {wl : List Int} {v : Value} {x : Ix} (h : Cm w W hb l hv who P R wl v) (k : Popped W W' hb v R x) : ∃ R' v', Cp w W' hb l hv who P R R' wl v' x := by
  obtain ⟨v', R', h1, h2, h3, h4, h5⟩ := k
  have hb1 := h1.b
  rw [h2] at hb1
  refine ⟨R', v', h1.box, h1.own, h5, h3, h4, ?_, own_keep h.who fun i hi e => hb1.block i hi ?_ ?_, h.took, h.b.trans (hb1.below (Nat.le_of_lt h.box.lt) (Nat.le_refl _) fun k e => by have := (h.row.lt k e).1; omega)⟩
  · have := h3.length_eq
    have := h.few2
    simp at *; omega
  · obtain ⟨cs, hc⟩ := own_type h.who e
    exact arr_apart hc h.box (by decide)
  · intro e2
    obtain ⟨cs, hc⟩ := own_type h.who e
    obtain ⟨ds, hd⟩ := own_type h.row e2
    exact arr_apart hc hd (by decide) rfl
theorem Cp.again {w W : World} {hb : Nat} {l : List Int} {hv : List Ix} {who : Value} {P R R' : List Ix} {wl : List Int} {v : Value} {x : Ix} (h : Cp w W hb l hv who P R R' wl v x) (hx : wl.contains x.node = true) : Cm w W hb l hv who (x :: P) R' wl v :=
  ⟨h.box, h.row, h.heap, by have := h.few2; omega, by have := h.few2; omega, h.who, h.took.again h.perm h.top (List.contains_iff_mem.1 hx), h.b⟩
/-- Behind the append to who. -/
structure Ca (w W : World) (hb : Nat) (l : List Int) (hv : List Ix) (who : Value) (P R R' : List Ix) (wl : List Int) (v : Value) (x : Ix) : Prop where
  box : Arr W hb 202 #[v]
  row : Own hpSh W (hb + 1) v R'
  heap : Heap R' R'.length
  perm : R.Perm (x :: R')
  top : ∀ r ∈ R, r.idx ≤ x.idx
  few2 : wl.length + R'.length + 1 ≤ 100000
  who : Own noSh W (hb + 1) who (wl ++ [x.node])
  took : Took l hv P R wl
  b : Below hb w W
theorem Ca.next {w W : World} {hb : Nat} {l : List Int} {hv : List Ix} {who : Value} {P R R' : List Ix} {wl : List Int} {v : Value} {x : Ix} (h : Ca w W hb l hv who P R R' wl v x) (hn : most l (wl ++ [x.node]) = false) : Cm w W hb l hv who (x :: P) R' (wl ++ [x.node]) v :=
  ⟨h.box, h.row, h.heap, by have := h.few2; omega, by have := h.few2; simp; omega, h.who, h.took.more h.perm h.top hn, h.b⟩
theorem Cp.push {w W : World} {hb : Nat} {l : List Int} {hv : List Ix} {who : Value} {P R R' : List Ix} {wl : List Int} {v : Value} {x : Ix} (h : Cp w W hb l hv who P R R' wl v x) :
    ∃ who' W', rw.App noSh who (.slice (some ⟨W.heap.size, 0, none⟩) 1 1) (W.alloc (.cells #[.int .i64 x.node] 3)) who' W' ∧ Ca w W' hb l hv who' P R R' wl v x ∧ (∀ q cs, Arr W q 152 cs → Arr W' q 152 cs) := by
  have k := below_box W (.cells #[.int .i64 x.node] 3)
  have h1 := h.below k
  have hlit := lit_at noSh W x.node
  obtain ⟨who', W', g1, g2, g3, g4⟩ := append_at noSh (hb + 1) who wl x.node ⟨W.heap.size, 0, none⟩ 1 (by have := h.few2; omega) (W.alloc (.cells #[.int .i64 x.node] 3)) h1.who h1.box.lt hlit
  have keep : ∀ i t cs, t ≠ 3 → Arr (W.alloc (.cells #[.int .i64 x.node] 3)) i t cs → Arr W' i t cs := fun i t cs ht ha => ha.of (g3.block i ha.lt fun e => by
    obtain ⟨ds, hd⟩ := own_type h1.who e.symm
    exact arr_apart ha hd ht rfl)
  refine ⟨who', W', g1, ⟨keep _ _ _ (by decide) h1.box, own_keep h1.row fun i hi e => g3.block i hi fun e2 => ?_, h.heap, h.perm, h.top, h.few2, g2, h.took, h1.b.trans (grown_below g3 (Nat.le_of_lt h1.box.lt) fun k e => by have := (h1.who.lt k e).1; omega)⟩, fun q cs ha => keep _ _ _ (by decide) (ha.below k)⟩
  obtain ⟨cs, hc⟩ := own_type h1.row e
  obtain ⟨ds, hd⟩ := own_type h1.who e2.symm
  exact arr_apart hc hd (by decide) rfl
theorem hp_len {w : World} {B : Nat} {v : Value} {m : List Ix} (h : Own hpSh w B v m) : ∃ ad c, v = .slice ad m.length c := h.form
def lenOf : Option Value → Nat
  | some (.slice _ n _) => n
  | _ => 0
set_option maxHeartbeats 1000000 in
set_option maxRecDepth 100000 in
theorem commit_any (u v : Value) (l : List Int) (hv : List Ix) (hl : l.length ≤ 140737488355328) (hh : hv.length ≤ 100000) (hp : ∀ x ∈ hv, 0 ≤ x.idx) (w : World) (h : Ns w u l) (h2 : Is w v hv) :
    Calls Tryz.prog 150 #[u, v] w fun e w' => e = .returned (.int .u64 (commit l hv)) ∧ Below w.heap.size w w' := by
  have hR := right_any u l hl w h
  have hO := of_any u v l hv hl hh w h h2
  have HM := Lib.hid fun who wl (hw : wl.length ≤ 140737488355328) W (a : Ns W u l) (b : Ns W who wl) => most_any u who l wl hl hw W a b
  obtain ⟨a, c, rfl⟩ := sl_form h
  obtain ⟨a2, c2, rfl⟩ := sl_form h2
  obtain ⟨r, hr⟩ : ∃ r, right l = r := ⟨_, rfl⟩
  rw [hr] at hR
  obtain ⟨C, hC⟩ : ∃ C, commit l hv = C := ⟨_, rfl⟩
  rw [hC]
  obtain ⟨N, hN⟩ : ∃ n, hv.length = n := ⟨_, rfl⟩
  obtain ⟨M, hMm⟩ : ∃ n, l.length = n := ⟨_, rfl⟩
  rw [hN] at hO hh ⊢
  rw [hMm] at hO HM hR hl h ⊢
  have HC : Hid (commit l hv = C) := hC
  have H1 := Lib.hid h
  have HF : Hid ((ofL l hv).length ≤ 100000) := by show _ ≤ _; have := ofL_len l hv; omega
  have HPos := Lib.hid hp
  clear h h2 hC hN hMm hp
  cases r with
  | false =>
    have HT : Hid (C = 0) := HC.out.symm.trans (commit_wrong hr hv)
    obtain rfl := HT.out
    clear hr
    go_enter Tryz.func150, Tryz.ntmps150
    go_wp2_with fail
    refine hR.mono ?_
    clear hR
    rintro e w2 ⟨rfl, rfl⟩
    go_wp2_with fail
    go_ret
    exact ⟨rfl, Below.refl _ _⟩
  | true =>
    clear hr
    obtain ⟨hb, hhb⟩ : ∃ q, w.heap.size = q := ⟨_, rfl⟩
    have HQ : Hid (w.heap.size = hb) := hhb
    rw [hhb] at hO ⊢
    clear hhb
    go_enter Tryz.func150, Tryz.ntmps150
    go_wp2_with fail
    refine hR.mono ?_
    clear hR
    rintro e w2 ⟨rfl, rfl⟩
    go_wp2_with fail
    refine hO.mono ?_
    clear hO
    rintro e w1 ⟨rfl, hd⟩
    have HD : Hid (∃ P R wl v, Cm w w1 hb l hv (.slice none 0 0) P R wl v) := by
      obtain ⟨v, m, h1, h2, h3, h4, h5⟩ := hd
      have hlen := h4.length_eq
      have hf := HF.out
      exact ⟨[], m, [], v, h1, h2, h5, by omega, by simp; omega, Own.nil _ _ _, Took.start fun x => by rw [h4.mem_iff]; exact ofL_mem x, h3⟩
    clear hd HF
    go_wp2_with fail
    go_loopw [6, 7] (fun who _ wr => Hid (∃ P R wl v, Cm w wr hb l hv who P R wl v))
      (fun _ _ wr => lenOf (wr.cell? ⟨hb, 0, none⟩))
    case atStart => exact HD
    case round =>
      obtain ⟨P, R, wl, v, hI⟩ := hrel.out
      clear hrel
      obtain ⟨ad, cap, rfl⟩ := hI.row.form
      obtain ⟨n, hn⟩ : ∃ n, R.length = n := ⟨_, rfl⟩
      have b0 : wr.cell? ⟨hb, 0, none⟩ = some (.slice ad R.length cap) := hI.box.cell rfl
      rw [hn] at b0
      have hL := len_any ad n cap wr
      have HB0 : Hid (lenOf (wr.cell? ⟨hb, 0, none⟩) = n) := by show _ = _; rw [b0]; rfl
      rcases Nat.eq_zero_or_pos n with h0 | h0
      · subst h0
        obtain rfl : R = [] := List.length_eq_zero_iff.1 hn
        have HT : Hid (C = 0) := HC.out.symm.trans (commit_eq hI.took.none).symm
        obtain rfl := HT.out
        have HB := Lib.hid hI.b
        clear hI hn
        go_wp2_with fail
        refine hL.mono ?_
        clear hL
        rintro e w3 ⟨rfl, rfl⟩
        go_wp2_with fail
        go_ret
        exact ⟨rfl, HB.out⟩
      · have h0i : (n : Int) > 0 := by omega
        obtain ⟨n1, hn1⟩ : ∃ n1, R.length = n1 + 1 := ⟨n - 1, by omega⟩
        have hT := take_any hb (.slice ad R.length cap) R n1 hn1 (by have := hI.few; omega) wr wr ⟨hI.box, hI.row, Mh.refl _ _ _⟩ hI.heap
        have HI := Lib.hid hI
        have HN := Lib.hid hn1
        have HNn : Hid (n = n1 + 1) := by show _ = _; omega
        clear hI hn hn1 h0
        go_wp2_with fail
        refine hL.mono ?_
        clear hL
        rintro e w3 ⟨rfl, rfl⟩
        go_wp2_with fail
        refine hT.mono ?_
        clear hT
        rintro e w4 ⟨x, rfl, hpop⟩
        obtain ⟨R', v', hcp⟩ := HI.out.popped hpop
        have k4 := below_box w4 (.cells #[.int .i64 x.node, .int .u64 x.idx] 152)
        have x4 := Arr.new w4 152 #[.int .i64 x.node, .int .u64 x.idx]
        obtain ⟨q, hq⟩ : ∃ q, w4.heap.size = q := ⟨_, rfl⟩
        rw [hq] at x4
        have H4 := Lib.hid (hcp.below k4)
        have X4 := Lib.hid x4
        have hx0 : 0 ≤ x.idx := HPos.out x (hcp.took.of x (.inr (hcp.perm.mem_iff.2 List.mem_cons_self)))
        have HX0 := Lib.hid hx0
        have hlen : R'.length = n1 := by have := hcp.perm.length_eq; have := HN.out; simp at *; omega
        have HLen := Lib.hid hlen
        obtain ⟨xn, xi⟩ := x
        clear hpop hcp k4 x4 hx0 hlen HI b0
        go_upto_region 7 with (fail)
        generalize w4.alloc (.cells #[.int .i64 xn, .int .u64 xi] 152) = W5 at *
        have x0 : W5.cell? ⟨q, 0, none⟩ = some (.int .i64 xn) := X4.out.cell rfl
        have hwl : wl.length ≤ 140737488355328 := by have := H4.out.few2; omega
        obtain ⟨wa, wc, rfl⟩ := H4.out.who.form
        obtain ⟨W, hW⟩ : ∃ n, wl.length = n := ⟨_, rfl⟩
        have HW : Hid (wl.length = W) := hW
        have hCt := contains_any _ wl xn hwl W5 (H4.out.who.sl)
        obtain ⟨r, hr⟩ : ∃ r, wl.contains xn = r := ⟨_, rfl⟩
        rw [hr] at hCt
        rw [hW] at hCt H4 ⊢
        clear hW hwl
        cases r with
        | true =>
          have H6 := Lib.hid (H4.out.again (by exact hr))
          have HMs : Hid (lenOf (W5.cell? ⟨hb, 0, none⟩) = n1) := by
            obtain ⟨ad', c', e⟩ := H4.out.row.form
            have : W5.cell? ⟨hb, 0, none⟩ = some v' := H4.out.box.cell rfl
            show _ = _
            rw [this, e, HLen.out]; rfl
          clear H4 X4 hr
          go_wp2_with fail
          with_reducible refine hCt.mono ?_
          clear hCt x0
          rintro e w6 ⟨rfl, rfl⟩
          go_wp2_with fail
          refine ⟨⟨_, _, _, _, H6.out⟩, ?_⟩
          rw [HMs.out, HB0.out]
          have := HNn.out
          omega
        | false =>
          obtain ⟨who', W7, hrun, hca, hkeep⟩ := H4.out.push
          have HA := Lib.hid hca
          have HR := Lib.hid hrun
          have X7 := Lib.hid (hkeep q _ X4.out)
          have hmo := HM.out who' (wl ++ [xn]) (by have := hca.few2; simp; omega) W7 (H1.out.later _ (by rw [HQ.out]; exact hca.b)) hca.who.sl
          have x7 : W7.cell? ⟨q, 1, none⟩ = some (.int .u64 xi) := X7.out.cell rfl
          have HMs : Hid (lenOf (W7.cell? ⟨hb, 0, none⟩) = n1) := by
            obtain ⟨ad', c', e⟩ := hca.row.form
            have : W7.cell? ⟨hb, 0, none⟩ = some v' := hca.box.cell rfl
            show _ = _
            rw [this, e, HLen.out]; rfl
          obtain ⟨s, hs⟩ : ∃ s, most l (wl ++ [xn]) = s := ⟨_, rfl⟩
          rw [hs] at hmo
          clear H4 X4 hr hkeep hrun hca
          cases s with
          | true =>
            have HT : Hid (C = xi) := HC.out.symm.trans (commit_eq (HA.out.took.found HA.out.perm HA.out.top HX0.out hs)).symm
            have HB : Hid (Below hb w W7) := HA.out.b
            obtain rfl := HT.out
            clear hs HA HX0 HC
            go_wp2_with fail
            with_reducible refine hCt.mono ?_
            clear hCt
            rintro e w6 ⟨rfl, rfl⟩
            go_wp2_with (at_builtin; refine rw.wpList_append_at _ _ _ rfl rfl _ _ _ _ rfl rfl HR.out ?_)
            with_reducible refine hmo.mono ?_
            clear hmo x0
            rintro e w8 ⟨rfl, rfl⟩
            go_wp2_with fail
            go_ret
            exact ⟨rfl, HB.out⟩
          | false =>
            have H6 := Lib.hid (HA.out.next hs)
            clear hs HA
            go_wp2_with fail
            with_reducible refine hCt.mono ?_
            clear hCt
            rintro e w6 ⟨rfl, rfl⟩
            go_wp2_with (at_builtin; refine rw.wpList_append_at _ _ _ rfl rfl _ _ _ _ rfl rfl HR.out ?_)
            with_reducible refine hmo.mono ?_
            clear hmo x0
            rintro e w8 ⟨rfl, rfl⟩
            clear x7
            go_wp2_with fail
            refine ⟨⟨_, _, _, _, H6.out⟩, ?_⟩
            rw [HMs.out, HB0.out]
            have := HNn.out
            omega
end Go.Proofs.YtmgmhnohocamfaaGreat.qm
