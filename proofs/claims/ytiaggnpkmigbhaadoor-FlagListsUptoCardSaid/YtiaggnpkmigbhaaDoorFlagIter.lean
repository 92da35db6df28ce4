/-
  The two iterators: over a row of texts, and over a text's pieces.
-/
import Derived.Test.YtiaggnpkmigbhaaDoorFlagLaw
import Derived.Test.YtiaggnpkmigbhaaDoorFlagSplit
import Derived.Test.YtiaggnpkmigbhaaDoorShelf
namespace Go.Proofs.YtiaggnpkmigbhaaDoor.fl
open Go.RowKit Go.Shelf
attribute [local go_sem] Oper.semAt_some

set_option maxRecDepth 100000 in
theorem values_any (a : Option Addr) (len cap : Nat) (w : World) :
    Calls Tryd.prog 36 #[.slice a len cap] w fun e w' => e = .returned (.func (.func 49) #[] #[.pointer (some ⟨w.heap.size, 0, none⟩)]) ∧ w' = w.alloc (.cells #[.slice a len cap] 22) := by
  go_enter Tryd.func36, Tryd.ntmps36
  go_wp2
  go_ret
  exact ⟨rfl, rfl⟩

set_option maxRecDepth 100000 in
set_option maxHeartbeats 2000000 in
theorem values_seq (n : Nat) (hn : 1 ≤ n) (b n₀ : Nat) (a : Option Addr) (cap : Nat) (l : List (List UInt8)) (hl : l.length ≤ 140737488355328) (w : World) (hb : b < n₀) (hn0 : n₀ ≤ w.heap.size)
    (hc : w.cell? ⟨b, 0, none⟩ = some (.slice a l.length cap)) (hr : l = [] ∨ ∃ rb off, a = some ⟨rb, off, none⟩ ∧ rb < n₀ ∧ ∀ j (h : j < l.length), w.cell? ⟨rb, off + j, none⟩ = some (.string (S l[j]))) :
    Seq n Tryd.prog 49 #[.pointer (some ⟨b, 0, none⟩)] b n₀ l w := by
  intro lp J Jx W hW hJ hJx hY h0
  have hcW : W.cell? ⟨b, 0, none⟩ = some (.slice a l.length cap) := (hW.cell (p := ⟨b, 0, none⟩) (by show b < _; omega)).trans hc
  have hrW : Hid (l = [] ∨ ∃ rb off, a = some ⟨rb, off, none⟩ ∧ rb < n₀ ∧ ∀ j (h : j < l.length), W.cell? ⟨rb, off + j, none⟩ = some (.string (S l[j]))) := by
    rcases hr with h | ⟨rb, off, h1, h2, h3⟩
    · exact .inl h
    · exact .inr ⟨rb, off, h1, h2, fun j hj => (hW.cell (p := ⟨rb, _, none⟩) (by show rb < _; omega)).trans (h3 j hj)⟩
  have HJ := Lib.hid (And.intro hJ hJx)
  have HY := Lib.hid hY
  clear hr hc hJ hJx hY hW
  refine callsIn_of_wp Tryd.func49 rfl trivial ?_ rfl
  simp only [Tryd.ntmps49, List.size_toArray, List.length_cons, List.length_nil, Nat.reduceAdd, Nat.reduceSub, Array.replicate_succ, Array.replicate_zero, List.push_toArray, List.append_toArray, List.nil_append, List.cons_append]
  gi_wp2
  gi_loopw [7] (fun i wr => ∃ k : Nat, k ≤ l.length ∧ i = .int .i64 k ∧ J (l.take k) wr ∧ Below n₀ W wr)
    (fun i _ => l.length - (intOf i).toNat)
  case atStart => exact ⟨0, Nat.zero_le _, rfl, h0, Below.refl _ _⟩
  case round =>
    obtain ⟨k, hk, rfl, hJs, hB⟩ := hrel
    by_cases hlt : k < l.length
    · rcases hrW.out with h1 | ⟨rb, off, rfl, h2, h3⟩
      · rw [h1] at hlt; simp at hlt
      have hcell := (hB.cell (p := ⟨rb, off + k, none⟩) h2).trans (h3 k hlt)
      have hx : l = l.take k ++ l[k] :: l.drop (k + 1) := by rw [← List.drop_eq_getElem_cons hlt, List.take_append_drop]
      obtain ⟨fn, tmps, assign, body, hy, hR⟩ := HY.out (l.take k) (l[k]'hlt) _ wr hx hJs
      have HN := Lib.hid (And.intro hx (List.take_succ_eq_append_getElem hlt))
      have hki : (k : Int) < (l.length : Int) := by omega
      generalize l[k]'hlt = x at *
      clear hx h3
      gi_wp2
      refine hR.mono ?_
      rintro e W3 (⟨rfl, hJ3, hk3⟩ | ⟨rfl, hJx3⟩)
      · gi_wp2
        go_roundw
        case rel => exact ⟨k + 1, by omega, by simp, by rw [HN.out.2]; exact hJ3, hB.trans hk3⟩
        case measure => simp [intOf]; omega
      · gi_wp2
        refine bodyPost_ret (results_none rfl _ _ _) rfl ?_
        exact ⟨⟨_, rfl⟩, .inr ⟨_, ⟨_, by rw [List.append_assoc]; exact HN.out.1.symm⟩, hJx3⟩⟩
    · obtain rfl : k = l.length := by omega
      gi_wp2
      go_end0
      rw [List.take_length] at hJs
      exact ⟨⟨_, rfl⟩, .inl hJs⟩

set_option maxRecDepth 100000 in
theorem split0_any (s sep : ByteArray) (w : World) :
    Calls Tryd.prog 55 #[.string s, .string sep, .int .i64 0] w fun e w' => e = .returned (.func (.func 69) #[] #[.pointer (some ⟨w.heap.size + 1, 0, none⟩), .pointer (some ⟨w.heap.size, 0, none⟩), .pointer (some ⟨w.heap.size + 2, 0, none⟩)]) ∧ w' = ((w.alloc (.cells #[.string s] 9)).alloc (.cells #[.string sep] 9)).alloc (.cells #[.int .i64 0] 3) := by
  have hmf : ∀ (fn : Fn) (first cap : Array Value) (w : World), (Instr.makeFunc fn first cap).run Tryd.prog w = .ok (.func fn first cap) w := makeFunc_eq
  go_enter Tryd.func55, Tryd.ntmps55
  go_wp2
  go_ret
  exact ⟨by simp, rfl⟩
set_option maxRecDepth 100000 in
theorem splitSeq_any (s sep : ByteArray) (w : World) :
    Calls Tryd.prog 41 #[.string s, .string sep] w fun e w' => e = .returned (.func (.func 69) #[] #[.pointer (some ⟨w.heap.size + 1, 0, none⟩), .pointer (some ⟨w.heap.size, 0, none⟩), .pointer (some ⟨w.heap.size + 2, 0, none⟩)]) ∧ w' = ((w.alloc (.cells #[.string s] 9)).alloc (.cells #[.string sep] 9)).alloc (.cells #[.int .i64 0] 3) := by
  have h := split0_any s sep w
  go_enter Tryd.func41, Tryd.ntmps41
  go_wp2_with fail
  refine h.mono ?_
  rintro e w1 ⟨rfl, rfl⟩
  go_wp2_with fail
  go_ret
  exact ⟨rfl, rfl⟩

/-- How much of the text is left. -/
def leftOf (b : Nat) (w : World) : Nat := match w.cell? ⟨b, 0, none⟩ with
  | some (.string s) => s.size
  | _ => 0
theorem leftOf_eq {b : Nat} {w : World} {s : ByteArray} (h : w.cell? ⟨b, 0, none⟩ = some (.string s)) : leftOf b w = s.size := by unfold leftOf; rw [h]

set_option maxRecDepth 100000 in
set_option maxHeartbeats 4000000 in
theorem splitSeq_seq (n : Nat) (hn : 2 ≤ n) (b n₀ : Nat) (t : List UInt8) (ht : t.length ≤ 140737488355328) (w : World) (hb : b + 2 < n₀) (hn0 : n₀ ≤ w.heap.size)
    (hc0 : Boxed w b 9 (.string (S t))) (hc1 : w.cell? ⟨b + 1, 0, none⟩ = some (.string ⟨#[32]⟩)) (hc2 : w.cell? ⟨b + 2, 0, none⟩ = some (.int .i64 0)) :
    Seq n Tryd.prog 69 #[.pointer (some ⟨b + 1, 0, none⟩), .pointer (some ⟨b, 0, none⟩), .pointer (some ⟨b + 2, 0, none⟩)] b n₀ (split 32 t) w := by
  intro lp J Jx W hW hJ hJx hY h0
  have hB0 : Boxed W b 9 (.string (S t)) := (hW.block b hc0.lt).trans hc0
  have hcW1 := (hW.cell (p := ⟨b + 1, 0, none⟩) (by show b + 1 < _; omega)).trans hc1
  have hcW2 := (hW.cell (p := ⟨b + 2, 0, none⟩) (by show b + 2 < _; omega)).trans hc2
  have HJ := Lib.hid (And.intro hJ hJx)
  have HY := Lib.hid hY
  have HI := Lib.hid (fun (x : List UInt8) (W : World) => (callsIn_wide (n := n - 1)).2 (Tryd.strings_Index_one (S x) 32 W))
  have hn1 : 1 ≤ n := by omega
  have hse : ByteArray.toList ⟨#[32]⟩ = [32] := by rw [ByteArray.toList_eq]
  clear hc0 hc1 hc2 hJ hJx hY hW
  refine callsIn_of_wp Tryd.func69 rfl trivial ?_ rfl
  simp only [Tryd.ntmps69, List.size_toArray, List.length_cons, List.length_nil, Nat.reduceAdd, Nat.reduceSub, Array.replicate_succ, Array.replicate_zero, List.push_toArray, List.append_toArray, List.nil_append, List.cons_append]
  gi_wp2
  gi_loopw [7] (fun i wr => ∃ (pre : List (List UInt8)) (r : List UInt8), split 32 t = pre ++ split 32 r ∧ r.length ≤ t.length ∧ Boxed wr b 9 (.string (S r)) ∧ wr.cell? ⟨b + 1, 0, none⟩ = some (.string ⟨#[32]⟩) ∧ wr.cell? ⟨b + 2, 0, none⟩ = some (.int .i64 0) ∧ J pre wr)
    (fun _ wr => leftOf b wr)
  case atStart => exact ⟨[], t, rfl, Nat.le_refl _, hB0, hcW1, hcW2, h0⟩
  case round =>
    obtain ⟨pre, r, hs, hrl, hB0, hB1, hB2, hJs⟩ := hrel
    have hcell := hB0.cell
    have hfr := hB0.frozen
    have hidx := HI.out r wr
    rw [S_data] at hidx
    have hz := S_size r
    rcases idx_cases 32 r with ⟨h1, _, h3⟩ | ⟨i, h1, h2, h3, _⟩
    · rw [h1] at hidx
      rw [h3] at hs
      obtain ⟨fn, tmps, assign, body, hy, hR⟩ := HY.out pre r [] wr hs hJs
      have HN := Lib.hid hs
      clear hs h1 h3 hfr
      gi_wp2_with fail
      refine ⟨trivial, ?_⟩
      refine hidx.mono ?_
      rintro e w1 ⟨rfl, rfl⟩
      gi_wp2
      refine hR.mono ?_
      rintro e W3 (⟨rfl, hJ3, hk3⟩ | ⟨rfl, hJx3⟩)
      · gi_wp2
        go_end0
        exact ⟨⟨_, rfl⟩, .inl (by rw [HN.out]; exact hJ3)⟩
      · gi_wp2
        go_end0
        exact ⟨⟨_, rfl⟩, .inr ⟨_, ⟨[], by rw [HN.out]; simp⟩, hJx3⟩⟩
    · rw [h2] at hidx
      rw [h3] at hs
      obtain ⟨fn, tmps, assign, body, hy, hR⟩ := HY.out pre (r.take i) _ wr hs hJs
      have e1 := S_take r i
      have e2 := S_drop r (i + 1)
      have g0 : (0 : Int) ≤ (i : Int) := by omega
      have g1 : (i : Int) ≤ (r.length : Int) := by omega
      have g2 : (0 : Int) ≤ (i : Int) + 1 := by omega
      have g3 : (i : Int) + 1 ≤ (r.length : Int) := by omega
      have g4 : ¬ ((i : Int) < 0) := by omega
      have HN : Hid (split 32 t = (pre ++ [r.take i]) ++ split 32 (r.drop (i + 1)) ∧ (r.drop (i + 1)).length < r.length) := Lib.hid ⟨by rw [hs]; simp, by rw [List.length_drop]; omega⟩
      have HP : Hid (pre ++ [r.take i] <+: split 32 t) := Lib.hid ⟨split 32 (r.drop (i + 1)), by rw [hs]; simp⟩
      clear hs h2 h3
      generalize r.take i = p at *
      generalize r.drop (i + 1) = q at *
      gi_wp2_with fail
      refine ⟨trivial, ?_⟩
      refine hidx.mono ?_
      rintro e w1 ⟨rfl, rfl⟩
      gi_wp2
      refine hR.mono ?_
      rintro e W3 (⟨rfl, hJ3, hk3⟩ | ⟨rfl, hJx3⟩)
      · have hB3 : Boxed W3 b 9 (.string (S r)) := (hk3.block b (by omega)).trans hB0
        have hb1 := (hk3.cell (p := ⟨b + 1, 0, none⟩) (by show b + 1 < _; omega)).trans hB1
        have hb2 := (hk3.cell (p := ⟨b + 2, 0, none⟩) (by show b + 2 < _; omega)).trans hB2
        have hc3 := hB3.cell
        have hf3 := hB3.frozen
        have hJ4 := HJ.out.1 _ _ _ hJ3 (grownBy_setCell' W3 b (.string (S q)))
        have hB4 := hB3.set (.string (S q))
        have hb4 : (W3.setCell ⟨b, 0, none⟩ (.string (S q))).cell? ⟨b + 1, 0, none⟩ = some (.string ⟨#[32]⟩) := (World.cell?_setCell_other _ _ _ _ (by simp)).trans hb1
        have hb5 : (W3.setCell ⟨b, 0, none⟩ (.string (S q))).cell? ⟨b + 2, 0, none⟩ = some (.int .i64 0) := (World.cell?_setCell_other _ _ _ _ (by simp)).trans hb2
        have hl3 := leftOf_eq hcell
        have hl4 := leftOf_eq hB4.cell
        have HH := Lib.hid (And.intro hJ4 (And.intro hB4 (And.intro hb4 (And.intro hb5 (And.intro hl3 hl4)))))
        clear hJ4 hB4 hb4 hb5 hl3 hl4
        gi_wp2
        go_roundw
        case rel => exact ⟨pre ++ [p], q, HN.out.1, by have := HN.out.2; omega, HH.out.2.1, HH.out.2.2.1, HH.out.2.2.2.1, HH.out.1⟩
        case measure =>
          rw [HH.out.2.2.2.2.1, HH.out.2.2.2.2.2, S_size, S_size]
          exact HN.out.2
      · gi_wp2
        refine bodyPost_ret (results_none rfl _ _ _) rfl ?_
        exact ⟨⟨_, rfl⟩, .inr ⟨_, HP.out, hJx3⟩⟩
end Go.Proofs.YtiaggnpkmigbhaaDoor.fl
