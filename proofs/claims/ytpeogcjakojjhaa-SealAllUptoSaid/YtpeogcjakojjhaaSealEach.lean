/-
  What seal.Each hands back: an iterator over the frames, for every loop body that leaves the box of the text as it is.
-/
import Derived.RangeFuncNested
import Derived.RangeFuncBound
import Derived.RangeFuncCalls
import Derived.RangeFuncLeaves
import Derived.Shelf.Abstract
import Derived.Shelf.RegionOpen
import Derived.WalkKit
import Derived.OwnWalkIn
import Derived.TacticsInMore
import Derived.LoopNIn
import Derived.LoopIn
import Derived.Test.YtpeogcjakojjhaaSealScan
import Derived.Test.YtpeogcjakojjhaaSealCut
namespace Go.Proofs.Ytpeogcjakojjhaa.sl
open Go.RowKit Go.Shelf
attribute [local go_sem] Oper.semAt_some

/-- What a loop's body must leave: the box of the text. -/
def KeepBox (B : Nat) (W W' : World) : Prop := W'.heap[B]? = W.heap[B]?
theorem keepBox_t {B : Nat} {X Y Z : World} (h : KeepBox B X Y) (k : KeepBox B Y Z) : KeepBox B X Z := Eq.trans k h
theorem keepBox_b {B : Nat} {w : World} (hB : B < w.heap.size) (W : World) (l : Nat) (o o' : Obj) (hl : w.heap.size ≤ l) (_ : W.heap[l]? = some o) (_ : o.isCells = false) (_ : o.isWalk = false) : KeepBox B W (W.putObj l o') :=
  World.putObj_heap_other (by omega)

theorem grownBy_of_below {w w' : World} (h : Below w.heap.size w w') : w.grownBy w' none := ⟨h.os, h.tape, h.output, h.size, fun k hk _ => h.block k hk⟩

def encs (x : Nat × List UInt8) : Array Value := #[.int .i64 x.1, .string (S x.2)]

set_option maxRecDepth 100000 in
theorem each_any (n : Nat) (l : List UInt8) (w : World) :
    CallsIn Fence.wide n Try.prog 19 #[.string (S l)] w fun e w' => e = .returned (.func (.func 25) #[] #[.pointer (some ⟨w.heap.size, 0, none⟩)]) ∧ w' = w.alloc (.cells #[.string (S l)] 9) := by
  refine callsIn_of_wp Try.func19 rfl trivial ?_ rfl
  simp only [Try.ntmps19, List.size_toArray, List.length_cons, List.length_nil, Nat.reduceAdd, Nat.reduceSub, Array.replicate_succ, Array.replicate_zero, List.push_toArray, List.append_toArray, List.nil_append, List.cons_append]
  gi_wp2
  go_ret
  exact ⟨rfl, rfl⟩

set_option maxRecDepth 100000 in
set_option maxHeartbeats 1000000 in
theorem each1_in (n : Nat) (hn : 1 ≤ n) (lp Bn : Nat) (l : List UInt8) (hl : l.length ≤ 9223372036854775807) (J Jx : List (Nat × List UInt8) → World → Prop)
    (hY : ∀ pre x W, J pre W → pre.length < (scan 0 l).length → YieldAt Fence.wide (n - 1) Try.prog lp (encs x) W fun e W' =>
      (e = .returned (.bool true) ∧ J (pre ++ [x]) W' ∧ KeepBox Bn W W') ∨ (e = .returned (.bool false) ∧ Jx (pre ++ [x]) W'))
    (W : World) (hJ : AbidesFrom W.heap.size J) (hBn : Boxed W Bn 9 (.string (S l))) (h0 : J [] W) :
    CallsIn Fence.wide n Try.prog 25 #[.func (.yield lp) #[] #[], .pointer (some ⟨Bn, 0, none⟩)] W fun e W' => (∃ v, e = .returned v) ∧
      ((∃ ys, ys = scan 0 l ∧ J ys W') ∨ (∃ pre, pre <+: scan 0 l ∧ Jx pre W')) := by
  have hz := S_size l
  refine callsIn_of_wp Try.func25 rfl trivial ?_ rfl
  simp only [Try.ntmps25, List.size_toArray, List.length_cons, List.length_nil, Nat.reduceAdd, Nat.reduceSub, Array.replicate_succ, Array.replicate_zero, List.push_toArray, List.append_toArray, List.nil_append, List.cons_append]
  gi_wp2
  gi_loopw [3] (fun i wr => ∃ (pre : List (Nat × List UInt8)) (p : Nat), i = .int .i64 p ∧ p ≤ l.length ∧ scan 0 l = pre ++ scan p (l.drop p) ∧ Boxed wr Bn 9 (.string (S l)) ∧ J pre wr)
    (fun i _ => l.length - (intOf i).toNat)
  case atStart => exact ⟨[], 0, rfl, Nat.zero_le _, rfl, hBn, h0⟩
  case round =>
    obtain ⟨pre, p, rfl, hp, hs, hB, hJs⟩ := hrel
    have hcell := hB.cell
    by_cases hlt : p < l.length
    · have hd : (S l).extract p l.length = S (l.drop p) := S_drop l p
      have hC := cut_any (l.drop p) (by rw [List.length_drop]; omega)
      by_cases hok : (cut (l.drop p)).2.2 = 0
      · have hb := cut_bounds hok
        have hsc := scan_ok (p := p) hok
        have hm := hb.2.1
        have hm8 := hb.1
        rw [List.length_drop] at hm
        rw [hsc, List.drop_drop] at hs
        rw [hok] at hC
        generalize (cut (l.drop p)).1 = b at hC hs
        generalize (cut (l.drop p)).2.1 = m at hC hs hm hm8
        clear hok hb hsc
        have hCW := fun w => (callsIn_wide (n := n - 1)).2 (hC w)
        gi_wp2_with fail
        refine ⟨trivial, ?_⟩
        refine (hCW _).mono ?_
        rintro e w1 ⟨rfl, hb1⟩
        have hB1 : Boxed w1 Bn 9 (.string (S l)) := (hb1.block Bn hB.lt).trans hB
        have hJ1 := hJ pre wr w1 none hJs (grownBy_of_below hb1) (fun r e => by cases e)
        have hcell1 := hB1.cell
        obtain ⟨fn, tmps, assign, body, hy, hR⟩ := hY pre (p, b) w1 hJ1 (by rw [hs]; simp)
        dsimp only [encs] at hy
        gi_wp2
        refine hR.mono ?_
        rintro e w2 (⟨rfl, hJ2, hk2⟩ | ⟨rfl, hJx2⟩)
        · have hB2 : Boxed w2 Bn 9 (.string (S l)) := Eq.trans hk2 hB1
          gi_wp2
          go_roundw
          case rel => exact ⟨pre ++ [(p, b)], p + m, by go_num, by omega, by rw [hs]; simp, hB2, hJ2⟩
          case measure => simp [intOf]; omega
        · gi_wp2
          refine bodyPost_ret (results_none rfl _ _ _) rfl ?_
          exact ⟨⟨_, rfl⟩, .inr ⟨pre ++ [(p, b)], ⟨scan (p + m) (l.drop (p + m)), by rw [hs]; simp⟩, hJx2⟩⟩
      · have hne : (((cut (l.drop p)).2.2 : Int) != 0) = true := by simp; omega
        rw [scan_no hok, List.append_nil] at hs
        have hCW := fun w => (callsIn_wide (n := n - 1)).2 (hC w)
        gi_wp2_with (refine ⟨trivial, ?_⟩; gi_at_call 14; refine (hCW _).mono ?_; rintro e w1 ⟨rfl, hb1⟩)
        refine ⟨fun _ h => (by cases h), ?_⟩
        gi_wp2
        refine bodyPost_ret (results_none rfl _ _ _) rfl ?_
        exact ⟨⟨_, rfl⟩, .inl ⟨pre, hs.symm, hJ pre wr _ none hJs (grownBy_of_below hb1) (fun r e => by cases e)⟩⟩
    · obtain rfl : p = l.length := by omega
      rw [List.drop_length, scan_nil, List.append_nil] at hs
      gi_wp2
      go_end0
      exact ⟨⟨_, rfl⟩, .inl ⟨pre, hs.symm, hJs⟩⟩

/-- What Each hands back goes over all frames, or over some of them, where a round has said that it is enough. -/
theorem each_stops (n : Nat) (hn : 1 ≤ n) (Bn : Nat) (l : List UInt8) (hl : l.length ≤ 9223372036854775807) (w : World) (hB : Boxed w Bn 9 (.string (S l))) :
    SeqStopsK Fence.wide n Try.prog 25 #[.pointer (some ⟨Bn, 0, none⟩)] encs (KeepBox Bn) (fun ys => ys = scan 0 l) (fun pre => pre <+: scan 0 l) (scan 0 l).length w := fun lp J Jx W hW hJ _ hY h0 =>
  each1_in n hn lp Bn l hl J Jx hY W hJ ((hW.block Bn hB.lt).trans hB) h0
end Go.Proofs.Ytpeogcjakojjhaa.sl
