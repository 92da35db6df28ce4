/-
  The iterator over a log's entries, from an index down.
-/
import Derived.Test.YtmgmhnohocamfaaGreatTlPush
namespace Go.Proofs.YtmgmhnohocamfaaGreat.tl
set_option linter.unusedVariables false
open Go.RowKit Go.Shelf
open pk (S S_size S_data)
open qm (Bs noSh)
open rw (Arr But below_box bnext below_drew below_drewN)
open pt (Frm Moved Push Dep)
attribute [local go_sem] Oper.semAt_some

theorem told_ans {e : Ending} {A B : Prop} (h : (e = .returned (.bool true) ∧ A) ∨ (e = .returned (.bool false) ∧ B)) : ∃ ans : Bool, e = .returned (.bool ans) ∧ Hid ((ans = true ∧ A) ∨ (ans = false ∧ B)) := by
  rcases h with ⟨rfl, h⟩ | ⟨rfl, h⟩
  · exact ⟨true, rfl, .inl ⟨rfl, h⟩⟩
  · exact ⟨false, rfl, .inr ⟨rfl, h⟩⟩
theorem sl_frm {α : Type} {s : rw.Sh α} {R : Nat → Prop} {w w' : World} {v : Value} {l : List α} (h : rw.Sl s w v l) (k : Frm R w w') (ho : l ≠ [] → ∀ q, v.ownBlock = some q → R q) : rw.Sl s w' v l := by
  obtain ⟨a, c, h1, h2, h3, h4⟩ := h
  refine ⟨a, c, h1, h2, ?_, h4⟩
  by_cases he : l = []
  · exact .inl he
  · refine h3.keep s k.size fun b off e hb => k.block b (ho he b ?_)
    rw [h1, e]; simp [Value.ownBlock]
/-- What the iterator reads. -/
structure It (w : World) (bg bi : Nat) (cv ev : Value) (g : Lg) (i : Nat) (R : Nat → Prop) : Prop where
  a : Arr w bg 46 (lgC g.base g.bt cv ev)
  i : w.cell? ⟨bi, 0, none⟩ = some (.int .u64 (i : Nat))
  v : LV w cv ev g
  rg : R bg
  ri : R bi
  re : g.es ≠ [] → ∀ q, ev.ownBlock = some q → R q
  rc : g.conf ≠ [] → ∀ q, cv.ownBlock = some q → R q
  lt : ∀ k, R k → k < w.heap.size
theorem It.kept {w w' : World} {bg bi : Nat} {cv ev : Value} {g : Lg} {i : Nat} {R : Nat → Prop} (h : It w bg bi cv ev g i R) (k : Frm R w w') : It w' bg bi cv ev g i R :=
  ⟨(k.block bg h.rg).trans h.a, k.cell h.i h.ri, ⟨sl_frm h.v.c k h.rc, sl_frm h.v.l k h.re⟩, h.rg, h.ri, h.re, h.rc, fun q hq => Nat.lt_of_lt_of_le (h.lt q hq) k.size⟩
def NoT (k : Nat) : Prop := False
/-- The entries, from the n-th one down, with their indices. -/
def backs (g : Lg) : Nat → List (Nat × EnIn)
  | 0 => []
  | n + 1 => (g.base + n + 1, g.es.getD n e0) :: backs g n
def backV (x : Nat × EnIn) : Array Value := #[.int .u64 (x.1 : Nat), .agg #[.int .u64 (x.2.term : Nat), .int .i64 x.2.kind, .string (S x.2.data)]]
set_option maxRecDepth 100000 in
set_option maxHeartbeats 4000000 in
theorem back_push (n : Nat) (hn : 2 ≤ n) (g : Lg) (cv ev : Value) (i bg bi : Nat) (hi : i < 18446744073709551616) (hf : Fit g) (R : Nat → Prop) (w : World) (h : It w bg bi cv ev g i R) :
    Push n Tryz.prog 102 #[.pointer (some ⟨bg, 0, none⟩), .pointer (some ⟨bi, 0, none⟩)] backV R NoT (backs g (g.upTo i)) w := by
  intro lp J Jx O W hW hO hJ hJx hY h0
  have hI := h.kept hW
  have HJ := Lib.hid (And.intro hJ hJx)
  have HY := Lib.hid hY
  have HO := Lib.hid hO
  have hU := callsIn_wide (n := n - 1) |>.2 (upTo_any g cv ev i hi hf W hI.v)
  have hup := g.upTo_le i
  obtain ⟨N, hN⟩ : ∃ N, g.upTo i = N := ⟨_, rfl⟩
  rw [hN] at hU hup HY ⊢
  have hbase := hf.base
  have hes := hf.es
  obtain ⟨a2, k2, rfl⟩ := sl_form hI.v.l
  obtain ⟨L, hL⟩ : ∃ L, g.es.length = L := ⟨_, rfl⟩
  have HL := Lib.hid hL
  have HI := Lib.hid hI
  rw [hL] at HI hU hup hes
  obtain ⟨x0, x1, x2, x3⟩ : W.cell? ⟨bg, 0, none⟩ = some (.int .u64 (g.base : Nat)) ∧ W.cell? ⟨bg, 1, none⟩ = some (.int .u64 (g.bt : Nat)) ∧ W.cell? ⟨bg, 2, none⟩ = some cv ∧ W.cell? ⟨bg, 3, none⟩ = some (.slice a2 L k2) := ⟨HI.out.a.cell rfl, HI.out.a.cell rfl, HI.out.a.cell rfl, HI.out.a.cell rfl⟩
  have x4 := HI.out.i
  clear h hJ hJx hY hW hO hf hI hN hL
  have hn1 : 1 ≤ n := by omega
  refine callsIn_of_wp Tryz.func102 rfl trivial ?_ rfl
  simp only [Tryz.ntmps102, List.size_toArray, List.length_cons, List.length_nil, Nat.reduceAdd, Nat.reduceSub, Array.replicate_succ, Array.replicate_zero, List.push_toArray, List.append_toArray, List.nil_append, List.cons_append]
  gi_wp2_with fail
  refine ⟨trivial, ?_⟩
  with_reducible refine hU.mono ?_
  clear hU x0 x1 x2 x3 x4
  rintro e w1 ⟨rfl, b1⟩
  have H1 : Hid (J [] O w1 ∧ It w1 bg bi cv (.slice a2 L k2) g i R ∧ Moved (fun k => O k ∨ NoT k) O O W w1) := by
    have hlt : ∀ k, R k → k < W.heap.size → w1.heap[k]? = W.heap[k]? := fun k _ hk => b1.block k hk
    refine ⟨HJ.out.1 _ _ _ _ h0 (pt.Below.frm b1 fun k hk => (HO.out k hk).1), ?_, ⟨b1.os, b1.tape, b1.output, b1.size, fun k hk _ => b1.block k hk, fun k hk => .inl hk⟩⟩
    exact ⟨HI.out.a.below b1, (b1.cell (World.block_lt_of_cell? _ _ HI.out.i)).trans HI.out.i, HI.out.v.later b1, HI.out.rg, HI.out.ri, HI.out.re, HI.out.rc, fun q hq => Nat.lt_of_lt_of_le (HI.out.lt q hq) b1.size⟩
  clear h0 b1
  have mixed : Tryz.prog.follows .mixedOrders = true := by kernel_rfl
  gi_wp2_with fail
  gi_loopw [4] (fun v wr => ∃ (k : Nat) (pre : List (Nat × EnIn)) (O1 : Nat → Prop), v = .int .i64 (k : Nat) ∧ k ≤ N ∧ Hid (backs g N = pre ++ backs g k ∧ J pre O1 wr ∧ It wr bg bi cv (.slice a2 L k2) g i R ∧ Moved (fun k => O k ∨ NoT k) O O1 W wr))
    (fun v _ => (intOf v).toNat)
  case atStart => exact ⟨N, [], O, rfl, Nat.le_refl _, rfl, H1.out.1, H1.out.2.1, H1.out.2.2⟩
  case round =>
    obtain ⟨k, pre, O1, rfl, hk, HR⟩ := hrel
    cases k with
    | zero =>
      have q0 : ¬ ((0 : Nat) : Int) > 0 := by omega
      gi_wp2_with fail
      go_end0
      exact ⟨⟨_, rfl⟩, .inl ⟨O1, by have := HR.out.1; simp only [backs, List.append_nil] at this; rw [this]; exact HR.out.2.1, HR.out.2.2.2⟩⟩
    | succ m =>
      have hml : m < g.es.length := by rw [HL.out]; omega
      have hO1 : ∀ k, O1 k → k < wr.heap.size ∧ ¬ R k := fun k hk => by
        have := HR.out.2.2.2.size
        rcases HR.out.2.2.2.own k hk with h' | h'
        · have := HO.out k h'; exact ⟨by omega, this.2⟩
        · exact ⟨h'.2, fun h2 => by have := HI.out.lt k h2; omega⟩
      have d0 : Below wr.heap.size wr wr.drew := below_drew (Below.refl _ _)
      have hJd := HJ.out.1 _ _ _ _ HR.out.2.1 (pt.Below.frm d0 fun k hk => (hO1 k hk).1)
      have hbk : backs g N = pre ++ (g.base + m + 1, g.es.getD m e0) :: backs g m := HR.out.1
      obtain ⟨fn, tmps, assign, body, hy, hR⟩ := HY.out pre _ _ O1 wr.drew hbk hJd (fun k hk => (hO1 k hk).1)
      have hvl := HR.out.2.2.1.v.l
      obtain ⟨b, off, cc, e, hlt, c0, c1, c2⟩ := slE_at hvl hml
      have hx : g.es.getD m e0 = g.es[m] := by rw [List.getD_eq_getElem?_getD, List.getElem?_eq_getElem hml, Option.getD_some]
      have HB := Lib.hid hbk
      have HR2 := Lib.hid (And.intro hO1 d0)
      rw [hx] at hy hR HB
      obtain ⟨x, hxx⟩ : ∃ x, g.es[m] = x := ⟨_, rfl⟩
      rw [hxx] at hy hR HB c0 c1 c2
      have hit := HR.out.2.2.1
      obtain ⟨xt, xk, xd⟩ := x
      simp only [backV] at hy c0 c1 c2
      rw [HL.out] at e
      injection e with e1 e2 e3
      subst e1 e3
      clear e2 hx hxx hbk hvl hJd d0 hO1 hml
      have q0 : ((m + 1 : Nat) : Int) > 0 := by omega
      obtain ⟨s, hs⟩ : ∃ s, g.base + m + 1 = s := ⟨_, rfl⟩
      have f1 : IntKind.u64.wrap ((m + 1 : Nat) : Int) = ((m + 1 : Nat) : Int) := u64_in _ (by omega)
      have f2 : IntKind.u64.wrap ((g.base : Int) + ((m + 1 : Nat) : Int)) = (s : Int) := by rw [u64_in _ (by omega)]; omega
      have f3 : IntKind.i64.wrap (((m + 1 : Nat) : Int) - 1) = (m : Int) := by
        have : ((m + 1 : Nat) : Int) - 1 = (m : Int) := by omega
        rw [this]; exact IntWalk.i64_in _ (by omega)
      have hmL : (m : Int) < (L : Int) := by omega
      obtain ⟨M, hM⟩ : ∃ M, m + 1 = M := ⟨_, rfl⟩
      rw [hs] at hy
      rw [hM] at q0 f1 f2 f3 ⊢
      obtain ⟨x0, x1, x2, x3⟩ : wr.drew.cell? ⟨bg, 0, none⟩ = some (.int .u64 (g.base : Nat)) ∧ wr.drew.cell? ⟨bg, 1, none⟩ = some (.int .u64 (g.bt : Nat)) ∧ wr.drew.cell? ⟨bg, 2, none⟩ = some cv ∧ wr.drew.cell? ⟨bg, 3, none⟩ = some (.slice (some ⟨b, off, none⟩) L k2) := ⟨hit.a.cell rfl, hit.a.cell rfl, hit.a.cell rfl, hit.a.cell rfl⟩
      have y0 : wr.drew.cell? ⟨b, off + m * 3, none⟩ = _ := c0
      have y1 : wr.drew.cell? ⟨b, off + m * 3 + 1, none⟩ = _ := c1
      have y2 : wr.drew.cell? ⟨b, off + m * 3 + 2, none⟩ = _ := c2
      clear hit
      gi_wp2_with fail
      gi_region_with_o (first
        | (refine (pt.RoundIn.any hR).mono ?_; rintro e W3 h3; obtain ⟨ans, rfl, hans⟩ := told_ans h3))
      all_goals (
        clear x0 x1 x2 x3 y0 y1 y2 c0 c1 c2 hR hy
        rcases hans.out with ⟨rfl, O3, hJ3, hk3⟩ | ⟨rfl, O3, hJx3, hk3⟩
        · have s3 := (pt.moved_of_below O1 O1 HR2.out.2).trans hk3 (fun _ h => h)
          have HN : Hid (backs g N = (pre ++ [(g.base + m + 1, ⟨xt, xk, xd⟩)]) ++ backs g m ∧ J (pre ++ [(g.base + m + 1, ⟨xt, xk, xd⟩)]) O3 W3 ∧ It W3 bg bi cv (.slice (some ⟨b, off, none⟩) L k2) g i R ∧ Moved (fun k => O k ∨ NoT k) O O3 W W3) :=
            ⟨by rw [HB.out]; simp, hJ3, HR.out.2.2.1.kept (s3.frm fun k hk => ⟨HR.out.2.2.1.lt k hk, fun h' => (HR2.out.1 k h').2 hk⟩), HR.out.2.2.2.trans s3 (fun k h => .inl h)⟩
          clear hans hJ3 hk3 s3 HR HB HR2
          gi_wp2_with fail
          exact ⟨⟨m, _, O3, rfl, by omega, HN⟩, by simp only [intOf]; omega⟩
        · have s3 := (pt.moved_of_below O1 O1 HR2.out.2).trans hk3 (fun _ h => h)
          have HN : Hid (pre ++ [(g.base + m + 1, ⟨xt, xk, xd⟩)] <+: backs g N ∧ Jx (pre ++ [(g.base + m + 1, ⟨xt, xk, xd⟩)]) O3 W3 ∧ Moved (fun k => O k ∨ NoT k) O O3 W W3) :=
            ⟨⟨backs g m, by rw [HB.out]; simp⟩, hJx3, HR.out.2.2.2.trans s3 (fun k h => .inl h)⟩
          clear hans hJx3 hk3 s3 HR HB HR2
          gi_wp2_with fail
          exact bodyPost_ret (results_none rfl _ _ _) rfl ⟨⟨_, rfl⟩, .inr ⟨_, HN.out.1, O3, HN.out.2.1, HN.out.2.2⟩⟩)
end Go.Proofs.YtmgmhnohocamfaaGreat.tl
