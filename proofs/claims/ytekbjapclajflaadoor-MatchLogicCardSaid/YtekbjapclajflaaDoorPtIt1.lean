/-
  The iterator over a text's lines.
-/
import Derived.Test.YtekbjapclajflaaDoorPtFold
namespace Go.Proofs.YtekbjapclajflaaDoor.pt
open Go.RowKit Go.Shelf fl
attribute [local go_sem] Oper.semAt_some

set_option maxRecDepth 100000 in
theorem makeFunc_eq (fn : Fn) (first cap : Array Value) (w : World) : (Instr.makeFunc fn first cap).run Tryd.prog w = .ok (.func fn first cap) w := by simp [go_sem]
set_option maxRecDepth 100000 in
theorem split0_any (s sep : ByteArray) (w : World) :
    Calls Tryd.prog 59 #[.string s, .string sep, .int .i64 0] w fun e w' => e = .returned (.func (.func 69) #[] #[.pointer (some ⟨w.heap.size + 1, 0, none⟩), .pointer (some ⟨w.heap.size, 0, none⟩), .pointer (some ⟨w.heap.size + 2, 0, none⟩)]) ∧ w' = ((w.alloc (.cells #[.string s] 9)).alloc (.cells #[.string sep] 9)).alloc (.cells #[.int .i64 0] 3) := by
  have hmf : ∀ (fn : Fn) (first cap : Array Value) (w : World), (Instr.makeFunc fn first cap).run Tryd.prog w = .ok (.func fn first cap) w := makeFunc_eq
  go_enter Tryd.func59, Tryd.ntmps59
  go_wp2
  go_ret
  exact ⟨by simp, rfl⟩
set_option maxRecDepth 100000 in
theorem splitSeq_any (s sep : ByteArray) (w : World) :
    Calls Tryd.prog 45 #[.string s, .string sep] w fun e w' => e = .returned (.func (.func 69) #[] #[.pointer (some ⟨w.heap.size + 1, 0, none⟩), .pointer (some ⟨w.heap.size, 0, none⟩), .pointer (some ⟨w.heap.size + 2, 0, none⟩)]) ∧ w' = ((w.alloc (.cells #[.string s] 9)).alloc (.cells #[.string sep] 9)).alloc (.cells #[.int .i64 0] 3) := by
  have h := split0_any s sep w
  go_enter Tryd.func45, Tryd.ntmps45
  go_wp2_with fail
  refine h.mono ?_
  rintro e w1 ⟨rfl, rfl⟩
  go_wp2_with fail
  go_ret
  exact ⟨rfl, rfl⟩

/-- How much of the text is left. -/
def leftOf (b : Nat) (w : World) : Nat := match w.cell? ⟨b, 0, none⟩ with
  | some (.string s) => s.size
  | _ => 0
theorem leftOf_eq {b : Nat} {w : World} {s : ByteArray} (h : w.cell? ⟨b, 0, none⟩ = some (.string s)) : leftOf b w = s.size := by unfold leftOf; rw [h]
/-- The iterator's blocks. -/
structure SqAt (b : Nat) (M : Int) (r : List UInt8) (W : World) : Prop where
  b0 : Boxed W b 9 (.string (S r))
  b1 : W.cell? ⟨b + 1, 0, none⟩ = some (.string ⟨#[13, 10]⟩)
  b2 : W.cell? ⟨b + 2, 0, none⟩ = some (.int .i64 0)
  m : W.cell? ⟨0, 0, none⟩ = some (.int .i64 M)
def sqR (b : Nat) : Nat → Prop := fun k => k = 0 ∨ k = b ∨ k = b + 1 ∨ k = b + 2
theorem SqAt.kept {b : Nat} {M : Int} {r : List UInt8} {W W' : World} (h : SqAt b M r W) (hf : Frm (sqR b) W W') : SqAt b M r W' :=
  ⟨hf.boxed h.b0 (.inr (.inl rfl)), hf.cell h.b1 (.inr (.inr (.inl rfl))), hf.cell h.b2 (.inr (.inr (.inr rfl))), hf.cell h.m (.inl rfl)⟩
theorem SqAt.set {b : Nat} {M : Int} {r : List UInt8} {W : World} (h : SqAt b M r W) (hb : 0 < b) (q : List UInt8) : SqAt b M q (W.setCell ⟨b, 0, none⟩ (.string (S q))) :=
  ⟨h.b0.set _, (World.cell?_setCell_other _ _ _ _ (by simp)).trans h.b1, (World.cell?_setCell_other _ _ _ _ (by simp)).trans h.b2, (World.cell?_setCell_other _ _ _ _ (by first | (simp; done) | (simp; omega))).trans h.m⟩

set_option maxRecDepth 100000 in
set_option maxHeartbeats 4000000 in
theorem splitSeq_push (n : Nat) (hn : 2 ≤ n) (b : Nat) (hb0 : 0 < b) (M : Int) (t : List UInt8) (ht : t.length < 4294967281) (w : World) (hb : b + 2 < w.heap.size) (hA : SqAt b M t w) :
    Push n Tryd.prog 69 #[.pointer (some ⟨b + 1, 0, none⟩), .pointer (some ⟨b, 0, none⟩), .pointer (some ⟨b + 2, 0, none⟩)] (fun x : List UInt8 => #[.string (S x)]) (sqR b) (fun k => k = b) (lines t) w := by
  intro lp J Jx O W hW hO hJ hJx hY h0
  have hAW := hA.kept hW
  have HJ := Lib.hid (And.intro hJ hJx)
  have HY := Lib.hid hY
  have HO := Lib.hid hO
  have HI := Lib.hid (fun (x : List UInt8) (hx : x.length < 4294967281) (W : World) hM => (callsIn_wide (n := n - 1)).2 (Tryd.strings_Index (S x) ⟨#[13, 10]⟩ M W (by rw [S_size]; exact hx) hM))
  have hn1 : 1 ≤ n := by omega
  have hse : (⟨#[13, 10]⟩ : ByteArray).data.toList = crlf := rfl
  have hwb := hW.size
  clear hA hJ hJx hY hW hO
  refine callsIn_of_wp Tryd.func69 rfl trivial ?_ rfl
  simp only [Tryd.ntmps69, List.size_toArray, List.length_cons, List.length_nil, Nat.reduceAdd, Nat.reduceSub, Array.replicate_succ, Array.replicate_zero, List.push_toArray, List.append_toArray, List.nil_append, List.cons_append]
  have hcW1 := hAW.b1
  have hse2 : ByteArray.toList ⟨#[13, 10]⟩ = [13, 10] := by rw [ByteArray.toList_eq]
  have hemp : (ByteArray.toList ⟨#[13, 10]⟩).isEmpty = false := by rw [hse2]; rfl
  gi_wp2
  clear hcW1
  gi_loopw [7] (fun i wr => ∃ (pre : List (List UInt8)) (r : List UInt8) (O1 : Nat → Prop), lines t = pre ++ lines r ∧ r.length ≤ t.length ∧ SqAt b M r wr ∧ J pre O1 wr ∧ Moved (fun k => O k ∨ k = b) O O1 W wr)
    (fun _ wr => leftOf b wr)
  case atStart => exact ⟨[], t, O, rfl, Nat.le_refl _, hAW, h0, Moved.refl _ _ _⟩
  case round =>
    obtain ⟨pre, r, O1, hs, hrl, hA, hJs, hMv⟩ := hrel
    have hcell := hA.b0.cell
    have hfr := hA.b0.frozen
    have hB1 := hA.b1
    have hB2 := hA.b2
    have hidx := HI.out r (by omega) wr hA.m
    rw [S_data, hse] at hidx
    have hz := S_size r
    have hcl2 : crlf.length = 2 := rfl
    clear hse
    have hO1 : ∀ k, O1 k → k < wr.heap.size ∧ ¬ sqR b k := fun k hk => by
      have := hMv.size
      rcases hMv.own k hk with h' | h'
      · have := HO.out k h'; exact ⟨by omega, this.2⟩
      · exact ⟨h'.2, by unfold sqR; omega⟩
    have HO1 := Lib.hid hO1
    have HA := Lib.hid hA
    have HMv := Lib.hid hMv
    clear hO1 hA hMv hcl2
    rcases idx2_cases r with h1 | ⟨i, h2, hir⟩
    · have h3 := lines_one h1
      rw [h1] at hidx
      rw [h3] at hs
      obtain ⟨fn, tmps, assign, body, hy, hR⟩ := HY.out pre r [] O1 wr hs hJs (fun k hk => (HO1.out k hk).1)
      have HN := Lib.hid hs
      clear hs h1 h3 hfr
      gi_wp2_with fail
      refine ⟨trivial, ?_⟩
      refine hidx.mono ?_
      rintro e w1 ⟨rfl, rfl⟩
      gi_wp2
      refine hR.mono ?_
      rintro e W3 (⟨rfl, O3, hJ3, hk3⟩ | ⟨rfl, O3, hJx3, hk3⟩)
      · gi_wp2
        go_end0
        exact ⟨⟨_, rfl⟩, .inl ⟨O3, by rw [HN.out]; exact hJ3, HMv.out.trans hk3 (fun k h => .inl h)⟩⟩
      · gi_wp2
        go_end0
        exact ⟨⟨_, rfl⟩, .inr ⟨_, ⟨[], by rw [HN.out]; simp⟩, O3, hJx3, HMv.out.trans hk3 (fun k h => .inl h)⟩⟩
    · have h3 := lines_cut h2
      rw [h2] at hidx
      rw [h3] at hs
      obtain ⟨fn, tmps, assign, body, hy, hR⟩ := HY.out pre (r.take i) _ O1 wr hs hJs (fun k hk => (HO1.out k hk).1)
      have e1 := S_take r i
      have e2 := S_drop r (i + 2)
      have g0 : (0 : Int) ≤ (i : Int) := by omega
      have g1 : (i : Int) ≤ (r.length : Int) := by omega
      have g2 : (0 : Int) ≤ (i : Int) + 2 := by omega
      have g3 : (i : Int) + 2 ≤ (r.length : Int) := by omega
      have g4 : ¬ ((i : Int) < 0) := by omega
      have HN : Hid (lines t = (pre ++ [r.take i]) ++ lines (r.drop (i + 2)) ∧ (r.drop (i + 2)).length < r.length) := Lib.hid ⟨by rw [hs]; simp, by rw [List.length_drop]; omega⟩
      have HP : Hid (pre ++ [r.take i] <+: lines t) := Lib.hid ⟨lines (r.drop (i + 2)), by rw [hs]; simp⟩
      clear hs h2 h3
      generalize r.take i = p at *
      generalize r.drop (i + 2) = q at *
      gi_wp2_with fail
      refine ⟨trivial, ?_⟩
      refine hidx.mono ?_
      rintro e w1 ⟨rfl, rfl⟩
      gi_wp2
      refine hR.mono ?_
      rintro e W3 (⟨rfl, O3, hJ3, hk3⟩ | ⟨rfl, O3, hJx3, hk3⟩)
      · have hA3 : SqAt b M r W3 := HA.out.kept (hk3.frm fun k hk => ⟨by have := HMv.out.size; unfold sqR at hk; omega, fun h' => (HO1.out k h').2 hk⟩)
        have nb : ¬ O3 b := fun h' => by
          rcases hk3.own b h' with h' | h'
          · exact (HO1.out b h').2 (.inr (.inl rfl))
          · have := HMv.out.size; omega
        have hb1 := hA3.b1
        have hb2 := hA3.b2
        have hc3 := hA3.b0.cell
        have hf3 := hA3.b0.frozen
        have f4 : Frm (fun k => k ≠ b) W3 (W3.setCell ⟨b, 0, none⟩ (.string (S q))) := frm_set _ _ _ _ (fun h => h rfl)
        have hJ4 := HJ.out.1 _ _ _ _ hJ3 (f4.less fun k hk e => nb (e ▸ hk))
        have hA4 := hA3.set hb0 q
        have hM4 := (HMv.out.trans hk3 (fun k h => .inl h)).andFrm f4 (fun j _ hn e => hn (.inr e))
        have hl3 := leftOf_eq hcell
        have hl4 := leftOf_eq hA4.b0.cell
        have HH := Lib.hid (And.intro hJ4 (And.intro hA4 (And.intro hM4 (And.intro hl3 hl4))))
        clear hJ4 hA4 hM4 hl3 hl4 f4 hJ3 hk3 hA3
        gi_wp2
        go_roundw
        case rel => exact ⟨pre ++ [p], q, O3, HN.out.1, by have := HN.out.2; omega, HH.out.2.1, HH.out.1, HH.out.2.2.1⟩
        case measure =>
          rw [HH.out.2.2.2.1, HH.out.2.2.2.2, S_size, S_size]
          exact HN.out.2
      · gi_wp2
        refine bodyPost_ret (results_none rfl _ _ _) rfl ?_
        exact ⟨⟨_, rfl⟩, .inr ⟨_, HP.out, O3, hJx3, HMv.out.trans hk3 (fun k h => .inl h)⟩⟩
end Go.Proofs.YtekbjapclajflaaDoor.pt
