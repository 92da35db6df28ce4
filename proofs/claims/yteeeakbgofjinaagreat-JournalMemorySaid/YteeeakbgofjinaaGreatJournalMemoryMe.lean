/-
  What the law's walk stands on, part 5 of 6: the texts SealCut, SealEach, SealAll, SealBackWalk, JrLd1, JrLd2, JrOp, JrJn, JrCp, JrAp, JrLg, JrTe, JrRb, JrRc, JrNi, JrSa, JrSl, one behind the other.
-/
import Derived.RangeFuncNested
import Derived.RangeFuncBound
import Derived.RangeFuncCalls
import Derived.RangeFuncLeaves
import Derived.Shelf.Abstract
import Derived.Shelf.RegionOpen
import Derived.WalkKit
import Derived.OwnWalkIn
import Derived.TacticsInMore
import Derived.LoopNIn
import Derived.LoopIn
import Derived.RangeFuncBox
import Derived.Maps.AppendAt
import Derived.RegionIn
import Derived.Laws.StructEq
import Derived.Laws.MakeOwn
import Derived.Test.YteeeakbgofjinaaGreatJournalMemoryMd
/-! SealCut -/
namespace Go.Proofs.YteeeakbgofjinaaGreat.sl
open Go.RowKit

theorem str_size (s : ByteArray) : s.size = s.data.toList.length := by rw [Array.length_toList]; rfl
/-- A string's first four bytes as a number. -/
def bigS (s : ByteArray) : Nat := big (s.data.toList.take 4)
theorem bigS_lt {s : ByteArray} (h : 4 ≤ s.size) : bigS s < 4294967296 := big_lt (take4_length (by rw [← str_size]; exact h))
theorem lift_str (s : ByteArray) (h : 4 ≤ s.size) (w : World) :
    Calls Tryz.prog 132 #[.string s] w fun e w' => e = .returned (.int .u32 (bigS s)) ∧ w' = w := by
  have := lift_any s.data.toList (by rw [← str_size]; exact h) w
  rw [S_of] at this
  exact this

/-- A string's check sum. -/
def crcS (s : ByteArray) : Nat := crc s.data.toList
theorem crcS_lt (s : ByteArray) : crcS s < 4294967296 := crc_lt _
theorem sum_str (s : ByteArray) (h : s.size ≤ 9223372036854775807) (w : World) :
    Calls Tryz.prog 133 #[.string s] w fun e w' => e = .returned (.int .u32 (crcS s)) ∧ w' = w := by
  have := sum_any s.data.toList (by rw [← str_size]; exact h) w
  rw [S_of] at this
  exact this

set_option maxHeartbeats 1000000 in
set_option maxRecDepth 100000 in
theorem cut_core_ok (s B : ByteArray) (n m : Nat) (h8 : 8 ≤ s.size) (hs : s.size ≤ 9223372036854775807) (en : Hid (bigS s = n)) (em : Hid (bigS (s.extract 4 s.size) = m)) (hzd : 4 ≤ (s.extract 4 s.size).size)
    (hn : n ≤ 65536) (hend : 8 + n ≤ s.size) (hB : Hid (s.extract 8 (8 + n) = B)) (hB0 : B.size ≤ 65536) (hc : Hid (crcS B = m)) (w : World) :
    Calls Tryz.prog 106 #[.string s] w fun e w' => e = .returned (.tuple #[.string B, .int .i64 (8 + n : Nat), .int .i64 0]) ∧ Below w.heap.size w w' := by
  have hsl := fun W => run_slice_string (P := Tryz.prog) W 9 s .i64 .i64 (8 : Int) (8 + (n : Nat) : Int) Tryz.underlying9 (by omega) (by omega) (by omega)
  have e8 : (8 + (n : Int)).toNat = 8 + n := by omega
  simp only [e8, show (8 : Int).toNat = 8 from rfl, hB.out] at hsl
  clear e8 hB
  go_enter Tryz.func106, Tryz.ntmps106
  go_wp2
  go_quiet (first | (go_at_call 132; refine Calls.quiet_of_same (lift_str _ ?_ _); omega))
  simp only [en.out, em.out]
  go_wp2_with fail
  refine (sum_str B (by omega) _).mono ?_
  rintro e w1 ⟨rfl, rfl⟩
  rw [hc.out]
  go_wp2_with fail
  refine (clone_any B _ (by omega)).mono ?_
  rintro e w2 ⟨rfl, hb⟩
  go_wp2
  refine bodyPost_ret (results_tmp3 rfl _ _ _) rfl ?_
  exact ⟨rfl, (below_drewN (Below.refl _ w) nq).trans hb⟩

set_option maxHeartbeats 1000000 in
set_option maxRecDepth 100000 in
theorem cut_core_sum (s B : ByteArray) (n m c : Nat) (h8 : 8 ≤ s.size) (hs : s.size ≤ 9223372036854775807) (en : Hid (bigS s = n)) (em : Hid (bigS (s.extract 4 s.size) = m)) (hzd : 4 ≤ (s.extract 4 s.size).size)
    (hn : n ≤ 65536) (hne : c ≠ m) (hend : 8 + n ≤ s.size) (hB : Hid (s.extract 8 (8 + n) = B)) (hB0 : B.size ≤ 65536) (hc : Hid (crcS B = c)) (w : World) :
    Calls Tryz.prog 106 #[.string s] w fun e w' => e = .returned (.tuple #[.string (S []), .int .i64 0, .int .i64 5]) ∧ Below w.heap.size w w' := by
  have hsl := fun W => run_slice_string (P := Tryz.prog) W 9 s .i64 .i64 (8 : Int) (8 + (n : Nat) : Int) Tryz.underlying9 (by omega) (by omega) (by omega)
  have e8 : (8 + (n : Int)).toNat = 8 + n := by omega
  simp only [e8, show (8 : Int).toNat = 8 from rfl, hB.out] at hsl
  clear e8 hB
  go_enter Tryz.func106, Tryz.ntmps106
  go_wp2
  go_quiet (first | (go_at_call 132; refine Calls.quiet_of_same (lift_str _ ?_ _); omega))
  simp only [en.out, em.out]
  go_wp2_with fail
  refine (sum_str B (by omega) _).mono ?_
  rintro e w1 ⟨rfl, rfl⟩
  rw [hc.out]
  go_wp2
  refine bodyPost_ret (results_tmp3 rfl _ _ _) rfl ?_
  exact ⟨rfl, below_drewN (Below.refl _ w) nq⟩

set_option maxHeartbeats 1000000 in
set_option maxRecDepth 100000 in
theorem cut_any (l : List UInt8) (hl : l.length ≤ 9223372036854775807) (w : World) :
    Calls Tryz.prog 106 #[.string (S l)] w fun e w' => e = .returned (.tuple #[.string (S (cut l).1), .int .i64 (cut l).2.1, .int .i64 (cut l).2.2]) ∧ Below w.heap.size w w' := by
  have hz := S_size l
  by_cases h8 : l.length < 8
  · rw [cut_short h8]
    go_enter Tryz.func106, Tryz.ntmps106
    go_wp2
    refine bodyPost_ret (results_tmp3 rfl _ _ _) rfl ?_
    exact ⟨rfl, Below.refl _ w⟩
  · have h8' : 8 ≤ l.length := by omega
    have hd4 := S_drop l 4
    have hn : big (l.take 4) = bigS (S l) := by unfold bigS; rw [S_data]
    have hm : big ((l.drop 4).take 4) = bigS ((S l).extract 4 l.length) := by unfold bigS; rw [hd4, S_data]
    have hzd : ((S l).extract 4 l.length).size = l.length - 4 := by rw [hd4, S_size, List.length_drop]
    have hb0 := bigS_lt (s := S l) (by omega)
    have hb1 := bigS_lt (s := (S l).extract 4 l.length) (by omega)
    clear hd4
    by_cases hlong : 65536 < bigS (S l)
    · rw [cut_long h8' (by omega)]
      clear hn hm
      go_enter Tryz.func106, Tryz.ntmps106
      go_wp2
      go_quiet (first | (go_at_call 132; refine Calls.quiet_of_same (lift_str _ ?_ _); omega))
      go_wp2
      refine bodyPost_ret (results_tmp3 rfl _ _ _) rfl ?_
      exact ⟨rfl, below_drewN (Below.refl _ w) nq⟩
    · by_cases htorn : l.length < 8 + bigS (S l)
      · rw [cut_torn h8' (by omega) (by omega)]
        clear hn hm
        go_enter Tryz.func106, Tryz.ntmps106
        go_wp2
        go_quiet (first | (go_at_call 132; refine Calls.quiet_of_same (lift_str _ ?_ _); omega))
        go_wp2
        refine bodyPost_ret (results_tmp3 rfl _ _ _) rfl ?_
        exact ⟨rfl, below_drewN (Below.refl _ w) nq⟩
      · have hp := S_part l 8 (bigS (S l))
        have hq : crc ((l.drop 8).take (bigS (S l))) = crcS ((S l).extract 8 (8 + bigS (S l))) := by unfold crcS; rw [hp, S_data]
        have hzp : ((S l).extract 8 (8 + bigS (S l))).size = bigS (S l) := by rw [hp, S_size, List.length_take, List.length_drop]; omega
        by_cases hsum : crcS ((S l).extract 8 (8 + bigS (S l))) = bigS ((S l).extract 4 l.length)
        · rw [cut_ok h8' (by omega) (by omega) (by rw [hn, hq, hm]; exact hsum), hn]
          have h := cut_core_ok (S l) _ (bigS (S l)) (bigS ((S l).extract 4 l.length)) h8' hl (Lib.hid rfl) (Lib.hid rfl) (by rw [hz, hzd]; omega) (by omega) (by omega) (Lib.hid rfl) (by omega) (Lib.hid hsum) w
          rw [hp] at h
          exact h
        · rw [cut_sum h8' (by omega) (by omega) (by rw [hn, hq, hm]; exact hsum)]
          exact cut_core_sum (S l) _ (bigS (S l)) (bigS ((S l).extract 4 l.length)) _ h8' hl (Lib.hid rfl) (Lib.hid rfl) (by rw [hz, hzd]; omega) (by omega) hsum (by omega) (Lib.hid rfl) (by omega) (Lib.hid rfl) w
end Go.Proofs.YteeeakbgofjinaaGreat.sl
/-! SealEach -/
namespace Go.Proofs.YteeeakbgofjinaaGreat.sl
open Go.RowKit Go.Shelf
attribute [local go_sem] Oper.semAt_some

/-- What a loop's body must leave: the box of the text. -/
def KeepBox (B : Nat) (W W' : World) : Prop := W'.heap[B]? = W.heap[B]?
theorem keepBox_t {B : Nat} {X Y Z : World} (h : KeepBox B X Y) (k : KeepBox B Y Z) : KeepBox B X Z := Eq.trans k h
theorem keepBox_b {B : Nat} {w : World} (hB : B < w.heap.size) (W : World) (l : Nat) (o o' : Obj) (hl : w.heap.size ≤ l) (_ : W.heap[l]? = some o) (_ : o.isCells = false) (_ : o.isWalk = false) : KeepBox B W (W.putObj l o') :=
  World.putObj_heap_other (by omega)

theorem grownBy_of_below {w w' : World} (h : Below w.heap.size w w') : w.grownBy w' none := ⟨h.os, h.tape, h.output, h.size, fun k hk _ => h.block k hk⟩

def encs (x : Nat × List UInt8) : Array Value := #[.int .i64 x.1, .string (S x.2)]

set_option maxRecDepth 100000 in
theorem each_any (n : Nat) (l : List UInt8) (w : World) :
    CallsIn Fence.wide n Tryz.prog 105 #[.string (S l)] w fun e w' => e = .returned (.func (.func 131) #[] #[.pointer (some ⟨w.heap.size, 0, none⟩)]) ∧ w' = w.alloc (.cells #[.string (S l)] 9) := by
  refine callsIn_of_wp Tryz.func105 rfl trivial ?_ rfl
  simp only [Tryz.ntmps105, List.size_toArray, List.length_cons, List.length_nil, Nat.reduceAdd, Nat.reduceSub, Array.replicate_succ, Array.replicate_zero, List.push_toArray, List.append_toArray, List.nil_append, List.cons_append]
  gi_wp2
  go_ret
  exact ⟨rfl, rfl⟩

set_option maxRecDepth 100000 in
set_option maxHeartbeats 1000000 in
theorem each1_in (n : Nat) (hn : 1 ≤ n) (lp Bn : Nat) (l : List UInt8) (hl : l.length ≤ 9223372036854775807) (J Jx : List (Nat × List UInt8) → World → Prop)
    (hY : ∀ pre x W, J pre W → pre.length < (scan 0 l).length → YieldAt Fence.wide (n - 1) Tryz.prog lp (encs x) W fun e W' =>
      (e = .returned (.bool true) ∧ J (pre ++ [x]) W' ∧ KeepBox Bn W W') ∨ (e = .returned (.bool false) ∧ Jx (pre ++ [x]) W'))
    (W : World) (hJ : AbidesFrom W.heap.size J) (hBn : Boxed W Bn 9 (.string (S l))) (h0 : J [] W) :
    CallsIn Fence.wide n Tryz.prog 131 #[.func (.yield lp) #[] #[], .pointer (some ⟨Bn, 0, none⟩)] W fun e W' => (∃ v, e = .returned v) ∧
      ((∃ ys, ys = scan 0 l ∧ J ys W') ∨ (∃ pre, pre <+: scan 0 l ∧ Jx pre W')) := by
  have hz := S_size l
  refine callsIn_of_wp Tryz.func131 rfl trivial ?_ rfl
  simp only [Tryz.ntmps131, List.size_toArray, List.length_cons, List.length_nil, Nat.reduceAdd, Nat.reduceSub, Array.replicate_succ, Array.replicate_zero, List.push_toArray, List.append_toArray, List.nil_append, List.cons_append]
  gi_wp2
  gi_loopw [3] (fun i wr => ∃ (pre : List (Nat × List UInt8)) (p : Nat), i = .int .i64 p ∧ p ≤ l.length ∧ scan 0 l = pre ++ scan p (l.drop p) ∧ Boxed wr Bn 9 (.string (S l)) ∧ J pre wr)
    (fun i _ => l.length - (intOf i).toNat)
  case atStart => exact ⟨[], 0, rfl, Nat.zero_le _, rfl, hBn, h0⟩
  case round =>
    obtain ⟨pre, p, rfl, hp, hs, hB, hJs⟩ := hrel
    have hcell := hB.cell
    by_cases hlt : p < l.length
    · have hd : (S l).extract p l.length = S (l.drop p) := S_drop l p
      have hC := cut_any (l.drop p) (by rw [List.length_drop]; omega)
      by_cases hok : (cut (l.drop p)).2.2 = 0
      · have hb := cut_bounds hok
        have hsc := scan_ok (p := p) hok
        have hm := hb.2.1
        have hm8 := hb.1
        rw [List.length_drop] at hm
        rw [hsc, List.drop_drop] at hs
        rw [hok] at hC
        generalize (cut (l.drop p)).1 = b at hC hs
        generalize (cut (l.drop p)).2.1 = m at hC hs hm hm8
        clear hok hb hsc
        have hCW := fun w => (callsIn_wide (n := n - 1)).2 (hC w)
        gi_wp2_with fail
        refine ⟨trivial, ?_⟩
        refine (hCW _).mono ?_
        rintro e w1 ⟨rfl, hb1⟩
        have hB1 : Boxed w1 Bn 9 (.string (S l)) := (hb1.block Bn hB.lt).trans hB
        have hJ1 := hJ pre wr w1 none hJs (grownBy_of_below hb1) (fun r e => by cases e)
        have hcell1 := hB1.cell
        obtain ⟨fn, tmps, assign, body, hy, hR⟩ := hY pre (p, b) w1 hJ1 (by rw [hs]; simp)
        dsimp only [encs] at hy
        gi_wp2
        refine hR.mono ?_
        rintro e w2 (⟨rfl, hJ2, hk2⟩ | ⟨rfl, hJx2⟩)
        · have hB2 : Boxed w2 Bn 9 (.string (S l)) := Eq.trans hk2 hB1
          gi_wp2
          go_roundw
          case rel => exact ⟨pre ++ [(p, b)], p + m, by go_num, by omega, by rw [hs]; simp, hB2, hJ2⟩
          case measure => simp [intOf]; omega
        · gi_wp2
          refine bodyPost_ret (results_none rfl _ _ _) rfl ?_
          exact ⟨⟨_, rfl⟩, .inr ⟨pre ++ [(p, b)], ⟨scan (p + m) (l.drop (p + m)), by rw [hs]; simp⟩, hJx2⟩⟩
      · have hne : (((cut (l.drop p)).2.2 : Int) != 0) = true := by simp; omega
        rw [scan_no hok, List.append_nil] at hs
        have hCW := fun w => (callsIn_wide (n := n - 1)).2 (hC w)
        gi_wp2_with (refine ⟨trivial, ?_⟩; gi_at_call 106; refine (hCW _).mono ?_; rintro e w1 ⟨rfl, hb1⟩)
        refine ⟨fun _ h => (by cases h), ?_⟩
        gi_wp2
        refine bodyPost_ret (results_none rfl _ _ _) rfl ?_
        exact ⟨⟨_, rfl⟩, .inl ⟨pre, hs.symm, hJ pre wr _ none hJs (grownBy_of_below hb1) (fun r e => by cases e)⟩⟩
    · obtain rfl : p = l.length := by omega
      rw [List.drop_length, scan_nil, List.append_nil] at hs
      gi_wp2
      go_end0
      exact ⟨⟨_, rfl⟩, .inl ⟨pre, hs.symm, hJs⟩⟩

/-- What Each hands back goes over all frames, or over some of them, where a round has said that it is enough. -/
theorem each_stops (n : Nat) (hn : 1 ≤ n) (Bn : Nat) (l : List UInt8) (hl : l.length ≤ 9223372036854775807) (w : World) (hB : Boxed w Bn 9 (.string (S l))) :
    SeqStopsK Fence.wide n Tryz.prog 131 #[.pointer (some ⟨Bn, 0, none⟩)] encs (KeepBox Bn) (fun ys => ys = scan 0 l) (fun pre => pre <+: scan 0 l) (scan 0 l).length w := fun lp J Jx W hW hJ _ hY h0 =>
  each1_in n hn lp Bn l hl J Jx hY W hJ ((hW.block Bn hB.lt).trans hB) h0
end Go.Proofs.YteeeakbgofjinaaGreat.sl
/-! SealAll -/
namespace Go.Proofs.YteeeakbgofjinaaGreat.sl
open Go.RowKit Go.Shelf
attribute [local go_sem] Oper.semAt_some

theorem infoS : (Tryz.prog.info? 9).map (fun i => (i.zero, i.size, i.bytes)) = some (some (.string ⟨#[]⟩), 1, 16) := by kernel_rfl

theorem ownsRow_lower {w : World} {b b' : Nat} {e : TypeId} {size : Nat} {v : Value} {n : Nat} {xs : List Value} (h : w.ownsRow b e size v n xs) (hb : b' ≤ b) : w.ownsRow b' e size v n xs := by
  obtain ⟨h1, h2 | ⟨g, cap, cur, h3, h4, h5⟩⟩ := h
  · exact ⟨h1, .inl h2⟩
  · exact ⟨h1, .inr ⟨g, cap, cur, h3, by omega, h5⟩⟩
theorem ownsRow_below {w w' : World} {b : Nat} {e : TypeId} {size : Nat} {v : Value} {n : Nat} {xs : List Value} (h : w.ownsRow b e size v n xs) (hb : Below w.heap.size w w') : w'.ownsRow b e size v n xs := by
  obtain ⟨h1, h2 | ⟨g, cap, cur, h3, h4, h5, h6⟩⟩ := h
  · exact ⟨h1, .inl h2⟩
  · exact ⟨h1, .inr ⟨g, cap, cur, h3, h4, (hb.block g (Array.getElem?_eq_some_iff.1 h5).1).trans h5, h6⟩⟩
theorem ownsRow_block {w : World} {b : Nat} {e : TypeId} {size : Nat} {v : Value} {n : Nat} {xs : List Value} (h : w.ownsRow b e size v n xs) {k : Nat} (hk : k < b) : some k ≠ v.ownBlock := by
  obtain ⟨h1, ⟨h2, _⟩ | ⟨g, cap, cur, h3, h4, h5⟩⟩ := h
  · rw [h2]; simp [Value.ownBlock]
  · rw [h3]; simp [Value.ownBlock]; omega

/-- The end as the program counts it. -/
def endI (ps : List (Nat × List UInt8)) : Int := match ps.getLast? with
  | none => 0
  | some x => wrap64 (wrap64 ((x.1 : Int) + 8) + (x.2.length : Int))
theorem endI_snoc (ps : List (Nat × List UInt8)) (x : Nat × List UInt8) : endI (ps ++ [x]) = wrap64 (wrap64 ((x.1 : Int) + 8) + (x.2.length : Int)) := by
  unfold endI; rw [List.getLast?_concat]
theorem endI_scan (l : List UInt8) (hl : l.length ≤ 17592186044416) : endI (scan 0 l) = (fin 0 l : Nat) := by
  have hf := (fin_le l 0).1
  have h1 := lastEnd_scan l 0
  rcases List.eq_nil_or_concat (scan 0 l) with h | ⟨q, x, h⟩
  · rw [h] at h1
    rw [h, ← h1]
    rfl
  · rw [h, List.concat_eq_append, lastEnd_snoc] at h1
    rw [h, List.concat_eq_append, endI_snoc, IntWalk.wrap64_in ((x.1 : Int) + 8) ⟨by omega, by omega⟩, IntWalk.wrap64_in _ ⟨by omega, by omega⟩]
    omega
theorem endI_nil : endI [] = 0 := rfl

def texts (ps : List (Nat × List UInt8)) : List Value := ps.map fun x => .string (S x.2)
theorem texts_snoc (ps : List (Nat × List UInt8)) (x : Nat × List UInt8) : texts (ps ++ [x]) = texts ps ++ [.string (S x.2)] := by simp [texts]
theorem texts_length (ps : List (Nat × List UInt8)) : (texts ps).length = ps.length := by simp [texts]

set_option maxRecDepth 100000 in
set_option maxHeartbeats 1000000 in
theorem all_in (l : List UInt8) (hl : l.length ≤ 17592186044416) (w : World) :
    CallsIn Fence.wide 5 Tryz.prog 79 #[.string (S l)] w fun e W' => ∃ v, e = .returned (.tuple #[v, .int .i64 (fin 0 l), .int .i64 (err l)]) ∧ W'.ownsRow w.heap.size 9 1 v (scan 0 l).length (texts (scan 0 l)) ∧ Below w.heap.size w W' := by
  have hz := S_size l
  have hsl := scan_len l 0
  obtain ⟨i0, hi, hz0, hz1, hz2⟩ := info_parts infoS
  refine callsIn_of_wp_marks Tryz.func79 rfl trivial ?_ rfl
  simp only [Tryz.ntmps79, List.size_toArray, List.length_cons, List.length_nil, Nat.reduceAdd, Nat.reduceSub, Array.replicate_succ, Array.replicate_zero, List.push_toArray, List.append_toArray, List.nil_append, List.cons_append]
  gi_wp2_with (refine ⟨trivial, ?_⟩; gi_at_call 105; refine (each_any _ l _).mono ?_; rintro e w' ⟨rfl, rfl⟩)
  obtain ⟨W0, hW0⟩ : ∃ W0, ((w.alloc (.cells #[.slice none 0 0] 130)).alloc (.cells #[.int .i64 0] 3)).alloc (.cells #[.string (S l)] 9) = W0 := ⟨_, rfl⟩
  have bO : Boxed W0 w.heap.size 130 (.slice none 0 0) := by rw [← hW0]; exact ((Boxed.new w 130 (.slice none 0 0)).alloc _).alloc _
  have bE : Boxed W0 (w.heap.size + 1) 3 (.int .i64 0) := by
    rw [← hW0]
    have h := Boxed.new (w.alloc (.cells #[.slice none 0 0] 130)) 3 (.int .i64 0)
    rw [World.size_alloc] at h
    exact h.alloc _
  have bN : Boxed W0 (w.heap.size + 2) 9 (.string (S l)) := by
    rw [← hW0]
    have h := Boxed.new ((w.alloc (.cells #[.slice none 0 0] 130)).alloc (.cells #[.int .i64 0] 3)) 9 (.string (S l))
    rw [World.size_alloc, World.size_alloc] at h
    exact h
  have hB0 : Below w.heap.size w W0 := by
    rw [← hW0]
    exact (((Below.refl _ w).alloc (Nat.le_refl _) _).alloc (by simp) _).alloc (by simp; omega) _
  have hs0 : W0.heap.size = w.heap.size + 3 := by rw [← hW0]; simp
  rw [show World.alloc (World.alloc (World.alloc w (.cells #[.slice none 0 0] 130)) (.cells #[.int .i64 0] 3)) (.cells #[.string (S l)] 9) = W0 from hW0]
  clear hW0
  refine wpIn_rangeFunc_ownG rfl (by omega) (gf := 131) (lb := #[.pointer (some ⟨w.heap.size + 2, 0, none⟩)]) rfl trivial (enters_of Tryz.func131 (by kernel_rfl) rfl)
    (each_stops _ (by omega) (w.heap.size + 2) l (by omega) W0 bN) keepBox_t (keepBox_b (by omega)) (Below.refl _ _) (fun _ => rfl)
    (fun pre W => ((∃ v, Boxed W w.heap.size 130 v ∧ W.ownsRow (w.heap.size + 3) 9 1 v pre.length (texts pre) ∧ True) ∧ Boxed W (w.heap.size + 1) 3 (.int .i64 (endI pre))) ∧ Below w.heap.size W0 W)
    (fun _ _ _ => False)
    (OwnFrom.and (OwnFrom.and (Own.from (holdsRow_own (w.heap.size + 3) w.heap.size 130 9 1 (fun pre => pre.length) (fun pre => texts pre) (fun _ _ => True)) _) (Own.from (boxed_own _ _ (fun pre => .int .i64 (endI pre))) _)) (ownFrom_below (by omega) (by omega)))
    (fun _ _ _ _ _ hs _ _ => hs)
    ⟨⟨⟨_, bO, World.ownsRow_nil _ _ _ _, trivial⟩, bE⟩, Below.refl _ _⟩
    (fun x => { tmps := #[.string (S l), undef, .slice none 0 0, .int .i64 0, .int .i64 0, .pointer (some ⟨w.heap.size, 0, none⟩), .pointer (some ⟨w.heap.size + 1, 0, none⟩), .int .i64 x.1, .string (S x.2), undef, undef, undef, .string (S l), .func (.func 131) #[] #[.pointer (some ⟨w.heap.size + 2, 0, none⟩)], .int .i64 x.1, .string (S x.2), undef, undef, undef, undef, undef, undef, undef, undef, undef, undef, undef, undef, undef, undef, undef, undef, undef, undef, undef, undef, undef, undef, undef, undef, undef, undef], defers := [] }) ?assign ?body ?done ?stop
  case assign =>
    intro lp x W K hK
    simp only [encs]
    gi_wp2
    exact hK
  case body =>
    rintro lp pre x W ⟨⟨⟨v, hv, hrow, _⟩, hE⟩, hB⟩ hlt
    have hc := hv.cell
    have hzx := S_size x.2
    have hsz := hB.size
    have hvlt := hE.lt
    have hW3 : w.heap.size + 3 ≤ W.heap.size := by omega
    gi_wp2_with (gi_at_builtin; refine wpListIn_append_own _ rfl _ _ 130 rfl (w.heap.size + 3) 9 i0 (.string ⟨#[]⟩) 1 16 Tryz.underlying130 hi hz0 hz1 hz2 rfl (by decide) _ _ _ rfl (hrow.alloc _) ⟨W.heap.size, 0, none⟩ 1 1 [.string (S x.2)] rfl rfl (cell_one_new _ _ _) (by simp [Value.oneCell']) (by unfold maxLen; omega) (by omega) (by simp; omega) ?_; intro v' w1 hown' hgrow _; obtain ⟨g', cap', rfl⟩ := ownsRow_succ hown'; obtain ⟨hv1, hv2, hr2, hk2, hb2⟩ := hv.appended (by decide) (ownsRow_lower hrow (b' := w.heap.size) (by omega)) (by omega) (Nat.le_refl _) (ownsRow_lower hown' (b' := w.heap.size) (by omega)) hgrow; have hE1 := (hE.alloc _).kept hgrow (hE.not_row (by decide) hrow); have hE2 := hE1.other (B' := w.heap.size) (by omega) (.slice (some ⟨g', 0, none⟩) (pre.length + 1) cap'); have hc1 := hv1.cell; have hf1 := hv1.frozen; have hc2 := hE2.cell; have hf2 := hE2.frozen)
    refine ⟨(hk2.trans (KeepsOthers.setCell _ _ _)).from _, ?_, ⟨⟨_, hv2.other (by omega) _, ?_, trivial⟩, ?_⟩, hB.trans (hb2.setCell (p := ⟨w.heap.size + 1, 0, none⟩) (by simp) _)⟩
    · have k1 : w1.heap[w.heap.size + 2]? = W.heap[w.heap.size + 2]? := (hgrow.block (w.heap.size + 2) (by simp; omega) (ownsRow_block hrow (by omega))).trans (Below.heap_alloc W _ _ (by omega))
      exact ((Below.heap_setCell _ _ _ _ (by simp)).trans (Below.heap_setCell _ _ _ _ (by simp))).trans k1
    · have h1 := hown'.kept (grownBy_setCell' w1 w.heap.size (.slice (some ⟨g', 0, none⟩) (pre.length + 1) cap')) (.inr (hv1.not_row (by decide) hown').symm)
      have h2 := h1.kept (grownBy_setCell' _ (w.heap.size + 1) (.int .i64 (wrap64 (wrap64 ((x.1 : Int) + 8) + (x.2.length : Int))))) (.inr (hE2.not_row (by decide) h1).symm)
      rw [texts_snoc, List.length_append, List.length_singleton]
      exact h2
    · rw [endI_snoc]
      exact hE2.set _
  case done =>
    rintro D ys W hD rfl ⟨⟨⟨v, hv, hrow, _⟩, hE⟩, hB⟩ hK
    have hfl := (fin_le l 0).1
    rw [endI_scan l hl] at hE
    have hc := hv.cell
    have hcE := hE.cell
    by_cases hfin : fin 0 l = l.length
    · have herr : err l = 0 := by unfold err; rw [if_pos hfin]
      have HE := Lib.hid herr
      clear herr
      gi_wp2
      gi_region
      all_goals gi_wp2
      all_goals refine ⟨by simp, .inl ⟨_, _, rfl, run_takeDeferred hK, ?_⟩⟩
      all_goals exact ⟨_, results_tmp3 rfl _ _ _, v, by rw [hfin, HE.out]; rfl, ownsRow_putObj (W := W.drew) (ownsRow_lower hrow (by omega)) _ hK rfl, ((hB0.trans hB).drew).trans (belowK_b (w := w) (Nat.le_refl _) W.drew D _ _ (by omega) hK rfl rfl)⟩
    · have herr : err l = (cut (l.drop (fin 0 l))).2.2 := by unfold err; rw [if_neg hfin]
      have HE := Lib.hid herr
      clear herr
      have hd : (S l).extract (fin 0 l) l.length = S (l.drop (fin 0 l)) := S_drop l (fin 0 l)
      have hC := cut_any (l.drop (fin 0 l)) (by rw [List.length_drop]; omega)
      have hCW := fun w => (callsIn_wide (n := 4)).2 (hC w)
      gi_wp2_with (refine ⟨trivial, ?_⟩; gi_at_call 106; refine (hCW _).mono ?_; rintro e w1 ⟨rfl, hb1⟩; have hv1 : Boxed w1 w.heap.size 130 v := (hb1.block _ hv.lt).trans hv; have hE1 : Boxed w1 (w.heap.size + 1) 3 (.int .i64 (fin 0 l)) := (hb1.block _ hE.lt).trans hE; have hc1 := hv1.cell; have hcE1 := hE1.cell)
      gi_region
      all_goals gi_wp2
      have hK1 : _ := (hb1.block D (Array.getElem?_eq_some_iff.1 hK).1).trans hK
      have hr1 := ownsRow_below hrow hb1
      all_goals refine ⟨by simp, .inl ⟨_, _, rfl, run_takeDeferred hK1, ?_⟩⟩
      all_goals exact ⟨_, results_tmp3 rfl _ _ _, v, by rw [HE.out]; rfl, ownsRow_putObj (W := World.drew _) (ownsRow_lower hr1 (by omega)) _ hK1 rfl, (((hB0.trans hB).trans (hb1.mono (by have := hB.size; omega))).drew).trans (belowK_b (w := w) (Nat.le_refl _) (World.drew _) D _ _ (by omega) hK1 rfl rfl)⟩
  case stop =>
    rintro D c pre W _ _ h _
    exact h.elim
end Go.Proofs.YteeeakbgofjinaaGreat.sl
/-! SealBackWalk -/
namespace Go.Proofs.YteeeakbgofjinaaGreat.sl
open Go.RowKit

theorem all_any (l : List UInt8) (hl : l.length ≤ 17592186044416) (w : World) :
    Calls Tryz.prog 79 #[.string (S l)] w fun e W' => ∃ v, e = .returned (.tuple #[v, .int .i64 (fin 0 l), .int .i64 (err l)]) ∧ W'.ownsRow w.heap.size 9 1 v (scan 0 l).length (texts (scan 0 l)) ∧ Below w.heap.size w W' :=
  callsIn_wide.1 (all_in l hl w)

end Go.Proofs.YteeeakbgofjinaaGreat.sl
/-! JrLd1 -/
namespace Go.Proofs.YteeeakbgofjinaaGreat.jr
set_option linter.unusedVariables false
open Go.RowKit
open fl (S S_size S_append)
open rw (Arr But Own below_box bnext below_drew below_drewN Fr)
open dk (PD Step Nu Inv)

/-- A state laid into a block. -/
def layS (W : World) (sb : Nat) (s : St) (cv ev : Value) : World := ((((((((W.setCell ⟨sb, 0, none⟩ (.int .u64 (s.h.term : Nat))).setCell ⟨sb, 1, none⟩ (.int .i64 (s.h.vote : Nat))).setCell ⟨sb, 2, none⟩ (.int .u64 (s.h.life : Nat))).setCell ⟨sb, 3, none⟩ (.int .u64 (s.base : Nat))).setCell ⟨sb, 4, none⟩ (.int .u64 (s.bterm : Nat))).setCell ⟨sb, 5, none⟩ cv).setCell ⟨sb, 6, none⟩ ev).setCell ⟨sb, 7, none⟩ (.string (S s.image)))
theorem layS_but (W : World) (sb : Nat) (s : St) (cv ev : Value) : But sb W (layS W sb s cv ev) := ((((((((But.refl sb W).set 0 _).set 1 _).set 2 _).set 3 _).set 4 _).set 5 _).set 6 _).set 7 _
theorem layS_arr {W : World} {sb : Nat} {t : TypeId} {s0 s : St} {c0 l0 cv ev : Value} (h : Arr W sb t (stC s0 c0 l0)) : Arr (layS W sb s cv ev) sb t (stC s cv ev) := by
  have e : ((((((((stC s0 c0 l0).setIfInBounds 0 (.int .u64 (s.h.term : Nat))).setIfInBounds 1 (.int .i64 (s.h.vote : Nat))).setIfInBounds 2 (.int .u64 (s.h.life : Nat))).setIfInBounds 3 (.int .u64 (s.base : Nat))).setIfInBounds 4 (.int .u64 (s.bterm : Nat))).setIfInBounds 5 cv).setIfInBounds 6 ev).setIfInBounds 7 (.string (S s.image)) = stC s cv ev := by simp [stC]
  rw [← e]
  unfold layS
  exact (((((((h.set 0 _).set 1 _).set 2 _).set 3 _).set 4 _).set 5 _).set 6 _).set 7 _
/-- The loading under way. -/
structure Lg (w W : World) (F : Nat → Prop) (p : Nat) (d : dk.Dk) : Prop where
  a : Arr W w.heap.size 87 (stC zero (.slice none 0 0) (.slice none 0 0))
  s : Step w F p d W
theorem Lg.size {w W : World} {F : Nat → Prop} {p : Nat} {d : dk.Dk} (h : Lg w W F p d) : w.heap.size < W.heap.size := h.a.lt
theorem lg_new {w : World} {F : Nat → Prop} {p : Nat} {d : dk.Dk} (h : PD w F p d) : Lg w (w.alloc (.cells zeroS 87)) F p d :=
  ⟨Arr.new w _ _, dk.Step.same h (below_box _ _)⟩
theorem step_below {w W W' : World} {F : Nat → Prop} {p : Nat} {d : dk.Dk} (h : Step w F p d W) (k : Below W.heap.size W W') : Step w F p d W' := two_step h fun F1 h1 => dk.Step.same h1 k
theorem Lg.below {w W W' : World} {F : Nat → Prop} {p : Nat} {d : dk.Dk} (h : Lg w W F p d) (k : Below W.heap.size W W') : Lg w W' F p d := ⟨h.a.below k, step_below h.s k⟩
theorem Lg.step {w W W' : World} {F : Nat → Prop} {p : Nat} {d d' : dk.Dk} (h : Lg w W F p d) (k : ∀ F1, PD W F1 p d → Step W F1 p d' W') : Lg w W' F p d' := by
  refine ⟨?_, two_step h.s k⟩
  obtain ⟨F1, h1, _⟩ := h.s
  obtain ⟨F2, _, h3, _⟩ := k F1 h1
  exact arr_step h1 h3 (by unfold Away; decide) h.a
theorem Lg.open {w W : World} {F : Nat → Prop} {p : Nat} {d : dk.Dk} (h : Lg w W F p d) : ∃ F1, PD W F1 p d ∧ ∀ d' W', Step W F1 p d' W' → Lg w W' F p d' := by
  obtain ⟨F1, h1, h2, h3⟩ := h.s
  refine ⟨F1, h1, fun d' W' k => ⟨?_, dk.Step.after h2 h3 k⟩⟩
  obtain ⟨F2, _, h4, _⟩ := k
  exact arr_step h1 h4 (by unfold Away; decide) h.a
theorem away_noSh : Away noSh.t := by unfold Away; decide
theorem away_enSh : Away enSh.t := by unfold Away; decide
theorem away_strSh : Away dk.strSh.t := by unfold Away; decide
theorem Lg.err {w W : World} {F : Nat → Prop} {p : Nat} {d : dk.Dk} (h : Lg w W F p d) {n : Nat} : LoadOut w F p (n, none, d) (.returned (.tuple #[.agg (stC zero (.slice none 0 0) (.slice none 0 0)), .int .i64 (n : Nat)])) W :=
  ⟨_, _, rfl, h.s, Own.nil _ _ _, Own.nil _ _ _⟩
theorem step_but {w W W' : World} {F : Nat → Prop} {p q : Nat} {d : dk.Dk} {t : TypeId} {cs : Array Value} (h : Step w F p d W) (hq : w.heap.size ≤ q) (ha : Arr W q t cs) (ht : Away t) (hs : t ≠ 9) (k : But q W W') : Step w F p d W' := by
  obtain ⟨F1, g1, g2, g3⟩ := h
  have hn : ¬ F1 q := away_of g1 ht ha
  refine ⟨F1, g1.fr (Fr.but k (F := fun i => i = q) rfl) (fun i hi e => hn (e ▸ hi)) (fun i e s hs2 => ?_), ?_, g3⟩
  · change W.heap[i]? = some (.cells #[.string (S s)] 9 (0, 0)) at hs2
    unfold Arr at ha
    rw [e, ha] at hs2
    injection hs2 with h1
    injection h1 with _ h2 _
    exact hs h2
  · refine ⟨k.os.trans g2.os, k.tape.trans g2.tape, k.output.trans g2.output, Nat.le_trans g2.size k.size, fun i hi hF => ?_⟩
    exact (k.block i (Nat.lt_of_lt_of_le hi g2.size) (by omega)).trans (g2.block i hi hF)
/-- The state laid down: the loading is done. -/
theorem Lg.done {w W : World} {F : Nat → Prop} {p : Nat} {d : dk.Dk} (h : Lg w W F p d) {n : Nat} {o : Option St} {cv ev : Value} (hc : rw.Own noSh W w.heap.size cv (ints (o.getD zero).conf)) (hl : rw.Own enSh W w.heap.size ev (ens (o.getD zero).l)) :
    LoadOut w F p (n, o, d) (.returned (.tuple #[.agg (stC (o.getD zero) cv ev), .int .i64 (n : Nat)])) (layS W w.heap.size (o.getD zero) cv ev) := by
  have k := layS_but W w.heap.size (o.getD zero) cv ev
  exact ⟨_, _, rfl, step_but h.s (Nat.le_refl _) h.a (by unfold Away; decide) (by decide) k, own_but hc h.a (by decide) k, own_but hl h.a (by decide) k⟩
end Go.Proofs.YteeeakbgofjinaaGreat.jr
/-! JrLd2 -/
namespace Go.Proofs.YteeeakbgofjinaaGreat.jr
set_option linter.unusedVariables false
open Go.RowKit
open fl (S S_size S_append)
open rw (Arr But below_box bnext below_drew below_drewN Fr)
open dk (PD Step Nu Inv)

theorem read_len {j : Nat} {d : dk.Dk} (h : Inv j d) : (dk.read d log).1.length ≤ 1048576 := by
  unfold dk.read
  split
  · exact Nat.zero_le _
  · split
    · exact Nat.zero_le _
    · next s hs =>
      have h1 := dk.used_without h.r.sorted log
      have h2 := h.r.used
      have h3 := h.r.cap
      rw [hs] at h1
      simp only [Option.getD_some] at h1
      show s.length ≤ _
      omega
theorem results_ld {w : World} {fn : Func} {tmps : Array Value} {sb : Nat} {s : St} {cv ev v : Value} (h : fn.results = #[.cell 2 87, .tmp 3]) (h2 : tmps[2]? = some (.pointer (some ⟨sb, 0, none⟩))) (h3 : tmps[3]? = some v)
    (hC : Arr w sb 87 (stC s cv ev)) :
    (results fn tmps).run Tryz.prog w = .ok (.tuple #[.agg (stC s cv ev), v]) w := by
  have z0 := hC.cell (j := 0) rfl
  have z1 := hC.cell (j := 1) rfl
  have z2 := hC.cell (j := 2) rfl
  have z3 := hC.cell (j := 3) rfl
  have z4 := hC.cell (j := 4) rfl
  have z5 := hC.cell (j := 5) rfl
  have z6 := hC.cell (j := 6) rfl
  have z7 := hC.cell (j := 7) rfl
  simp [results, h, h2, h3, go_sem, z0, z1, z2, z3, z4, z5, z6, z7, stC]
/-- The empty state laid down, with an error's number. -/
theorem Lg.fail {w W : World} {F : Nat → Prop} {p : Nat} {d : dk.Dk} (h : Lg w W F p d) (n : Nat) :
    Arr (layS W w.heap.size zero (.slice none 0 0) (.slice none 0 0)) w.heap.size 87 (stC zero (.slice none 0 0) (.slice none 0 0)) ∧ LoadOut w F p (n, none, d) (.returned (.tuple #[.agg (stC zero (.slice none 0 0) (.slice none 0 0)), .int .i64 (n : Nat)])) (layS W w.heap.size zero (.slice none 0 0) (.slice none 0 0)) :=
  ⟨layS_arr h.a, h.done (n := n) (o := none) (rw.Own.nil _ _ _) (rw.Own.nil _ _ _)⟩
theorem scan_small (l : Bs) : ∀ p, ∀ x ∈ sl.scan p l, x.2.length ≤ 65536 := by
  induction hn : l.length using Nat.strongRecOn generalizing l with
  | _ n ih =>
    intro p x hx
    by_cases h : (sl.cut l).2.2 = 0
    · have hb := sl.cut_bounds h
      rw [sl.scan_ok h] at hx
      rcases List.mem_cons.1 hx with rfl | hx
      · exact hb.2.2.2
      · exact ih _ (by rw [List.length_drop]; omega) _ rfl _ x hx
    · rw [sl.scan_no h] at hx
      cases hx
theorem bodies_of (b : Bs) : sl.fin 0 b ≤ b.length ∧ (sl.bodies b).length ≤ b.length ∧ ∀ x ∈ sl.bodies b, x.length ≤ 65536 := by
  refine ⟨by have := (sl.fin_le b 0).1; omega, by have := sl.scan_len b 0; unfold sl.bodies; rw [List.length_map]; omega, fun x hx => ?_⟩
  obtain ⟨y, hy, rfl⟩ := List.mem_map.1 hx
  exact scan_small b 0 y hy
theorem texts_bodies (b : Bs) : sl.texts (sl.scan 0 b) = rw.cellsG dk.strSh (sl.bodies b) := by
  rw [dk.cells_str]
  unfold sl.texts sl.bodies
  rw [List.map_map]
  rfl

set_option maxHeartbeats 8000000 in
set_option maxRecDepth 100000 in
theorem load_any (F : Nat → Prop) (p j : Nat) (d : dk.Dk) (hd : Inv j d) (hj : j ≤ 980) (w : World) (h : PD w F p d) :
    Calls Tryz.prog 35 #[.pointer (some ⟨p, 0, none⟩)] w (LoadOut w F p (loadJ d)) := by
  have hlen := read_len hd
  have hRd := dk.read_any F p d log (by decide) _ (h.below (below_box w (.cells zeroS 87)))
  rw [log_S] at hRd
  have G1 := Lib.hid (lg_new h)
  have HPut : Hid (∀ s : Bs, s.length ≤ 140737488355328 → ∀ W F1, PD W F1 p d → Calls Tryz.prog 76 #[.pointer (some ⟨p, 0, none⟩), .string (S s)] W fun e w' => e = .returned (.int .i64 ((jput d 2 s).1 : Nat)) ∧ Step W F1 p (jput d 2 s).2 w') := fun s hs W F1 h1 => put_any F1 p j d s hd (by omega) hs W h1
  have hR := hd.r
  obtain ⟨R, hLd⟩ : ∃ R, loadJ d = R := ⟨_, rfl⟩
  rw [hLd]
  have HL := Lib.hid hLd
  unfold loadJ at HL
  generalize dk.read d log = rd at *
  obtain ⟨b, c⟩ := rd
  simp only at hlen hRd HL
  clear hLd h hd
  unfold zeroS at hRd
  go_enter Tryz.func35, Tryz.ntmps35
  go_wp2_with fail
  refine hRd.mono ?_
  rintro e w2 ⟨rfl, b2⟩
  have G2 := Lib.hid (G1.out.below b2)
  clear hRd b2 G1
  by_cases h6 : c = 6
  · subst h6
    have HL2 : Hid ((if (jput d 2 (fileOf zero)).1 ≠ 0 then ((jput d 2 (fileOf zero)).1, none, (jput d 2 (fileOf zero)).2) else (0, some zero, (jput d 2 (fileOf zero)).2)) = R) := by
      have := HL.out
      rw [if_pos rfl] at this
      exact this
    clear HL hlen
    go_upto_region 4 with (fail)
    have X1 : Hid (Lg w (w2.alloc (.cells zeroS 87)).drew F p d ∧ Arr (w2.alloc (.cells zeroS 87)).drew w2.heap.size 87 (stC zero (.slice none 0 0) (.slice none 0 0))) := by
      have k := below_drew (below_box w2 (.cells zeroS 87))
      exact ⟨G2.out.below k, (Arr.new w2 87 zeroS).below (below_drew (Below.refl _ _))⟩
    unfold zeroS at X1
    obtain ⟨nb, hnb⟩ : ∃ nb, w2.heap.size = nb := ⟨_, rfl⟩
    rw [hnb] at X1 ⊢
    have HS : Hid (∀ W, Arr W nb 87 (stC zero (.slice none 0 0) (.slice none 0 0)) → (W.cell? ⟨nb, 0, none⟩ = some (.int .u64 0) ∧ W.cell? ⟨nb, 1, none⟩ = some (.int .i64 0) ∧ W.cell? ⟨nb, 2, none⟩ = some (.int .u64 0) ∧ W.cell? ⟨nb, 3, none⟩ = some (.int .u64 0) ∧ W.cell? ⟨nb, 4, none⟩ = some (.int .u64 0) ∧ W.cell? ⟨nb, 5, none⟩ = some (.slice none 0 0) ∧ W.cell? ⟨nb, 6, none⟩ = some (.slice none 0 0) ∧ W.cell? ⟨nb, 7, none⟩ = some (.string ⟨#[]⟩))) := fun W h => ⟨h.cell rfl, h.cell rfl, h.cell rfl, h.cell rfl, h.cell rfl, h.cell rfl, h.cell rfl, h.cell rfl⟩
    have HFile : Hid (∀ W, Lg w W F p d ∧ Arr W nb 87 (stC zero (.slice none 0 0) (.slice none 0 0)) → Calls Tryz.prog 77 #[.pointer (some ⟨nb, 0, none⟩)] W fun e w' => ∃ q, e = .returned (.string (S q)) ∧ Cutt q (fileOf zero) ∧ Lg w w' F p d ∧ Arr w' nb 87 (stC zero (.slice none 0 0) (.slice none 0 0))) := fun W h => (file_any nb zero _ _ zero_ok (by decide) W ⟨h.2, rw.Sl.nil _ _, rw.Sl.nil _ _⟩).mono fun e w' ⟨q, h1, h2, h3⟩ => ⟨q, h1, h2, h.1.below h3, h.2.below h3⟩
    have HP : Hid (∀ W q, Cutt q (fileOf zero) → Lg w W F p d ∧ Arr W nb 87 (stC zero (.slice none 0 0) (.slice none 0 0)) → Calls Tryz.prog 76 #[.pointer (some ⟨p, 0, none⟩), .string (S q)] W fun e w' => e = .returned (.int .i64 ((jput d 2 (fileOf zero)).1 : Nat)) ∧ Lg w w' F p (jput d 2 (fileOf zero)).2 ∧ Arr w' nb 87 (stC zero (.slice none 0 0) (.slice none 0 0))) := fun W q hq hW => by
      obtain ⟨F1, g1, K⟩ := hW.1.open
      have hj2 := jput_cut (d := d) hR (k := 2) (.inr rfl) hq
      refine (HPut.out q (by have := hq.1; omega) W F1 g1).mono ?_
      rintro e w' ⟨rfl, h2⟩
      rw [hj2] at h2 ⊢
      refine ⟨rfl, K _ _ h2, ?_⟩
      obtain ⟨F2, f1, f2, f3⟩ := h2
      exact arr_step g1 f2 (by unfold Away; decide) hW.2
    have k0 := HS.out _ X1.out.2
    have HD : Hid (∀ W, Lg w W F p (jput d 2 (fileOf zero)).2 → (W.cell? ⟨w.heap.size, 0, none⟩ = some (.int .u64 0)) ∧ Arr (layS W w.heap.size zero (.slice none 0 0) (.slice none 0 0)) w.heap.size 87 (stC zero (.slice none 0 0) (.slice none 0 0)) ∧ LoadOut w F p R (.returned (.tuple #[.agg (stC zero (.slice none 0 0) (.slice none 0 0)), .int .i64 ((jput d 2 (fileOf zero)).1 : Nat)])) (layS W w.heap.size zero (.slice none 0 0) (.slice none 0 0))) := fun W hW => by
      refine ⟨hW.a.cell rfl, layS_arr hW.a, ?_⟩
      rw [← HL2.out]
      by_cases h0 : (jput d 2 (fileOf zero)).1 ≠ 0
      · rw [if_pos h0]
        exact (hW.fail _).2
      · rw [if_neg h0]
        have e0 : (jput d 2 (fileOf zero)).1 = 0 := by omega
        rw [e0]
        exact hW.done (n := 0) (o := some zero) (rw.Own.nil _ _ _) (rw.Own.nil _ _ _)
    have hne1 : nb ≠ w.heap.size := by have := G2.out.size; omega
    have hne2 : w.heap.size ≠ nb := Ne.symm hne1
    clear G2 hnb HL2 HPut hR
    generalize jput d 2 (fileOf zero) = J at *
    obtain ⟨je, jd⟩ := J
    simp only at HP HD
    obtain ⟨k0, k1, k2, k3, k4, k5, k6, k7⟩ := k0
    go_region_law
      (first | (go_simp; go_at_call 77; refine (HFile.out _ X1.out).mono ?_; rintro e w4 ⟨q, rfl, hq, x4, y4⟩; clear k0 k1 k2 k3 k4 k5 k6 k7; replace X1 := Lib.hid (And.intro x4 y4); have HQ := Lib.hid hq; clear x4 y4 hq; obtain ⟨k0, k1, k2, k3, k4, k5, k6, k7⟩ := HS.out _ X1.out.2) | (go_simp; go_at_call 76; refine (HP.out _ _ HQ.out X1.out).mono ?_; rintro e w5 ⟨rfl, g5, t5⟩; have X5 := Lib.hid g5; clear k0 k1 k2 k3 k4 k5 k6 k7; obtain ⟨k0, k1, k2, k3, k4, k5, k6, k7⟩ := HS.out _ t5; clear t5 g5 X1 HQ; obtain ⟨x0, x1, x2, x3, x4, x5, x6, x7⟩ : w5.cell? ⟨w.heap.size, 0, none⟩ = some (.int .u64 0) ∧ w5.cell? ⟨w.heap.size, 1, none⟩ = some (.int .i64 0) ∧ w5.cell? ⟨w.heap.size, 2, none⟩ = some (.int .u64 0) ∧ w5.cell? ⟨w.heap.size, 3, none⟩ = some (.int .u64 0) ∧ w5.cell? ⟨w.heap.size, 4, none⟩ = some (.int .u64 0) ∧ w5.cell? ⟨w.heap.size, 5, none⟩ = some (.slice none 0 0) ∧ w5.cell? ⟨w.heap.size, 6, none⟩ = some (.slice none 0 0) ∧ w5.cell? ⟨w.heap.size, 7, none⟩ = some (.string ⟨#[]⟩) := ⟨X5.out.a.cell rfl, X5.out.a.cell rfl, X5.out.a.cell rfl, X5.out.a.cell rfl, X5.out.a.cell rfl, X5.out.a.cell rfl, X5.out.a.cell rfl, X5.out.a.cell rfl⟩; obtain ⟨y0, y1, y2, y3, y4, y5, y6, y7⟩ : w5.frozen? ⟨w.heap.size, 0, none⟩ = false ∧ w5.frozen? ⟨w.heap.size, 1, none⟩ = false ∧ w5.frozen? ⟨w.heap.size, 2, none⟩ = false ∧ w5.frozen? ⟨w.heap.size, 3, none⟩ = false ∧ w5.frozen? ⟨w.heap.size, 4, none⟩ = false ∧ w5.frozen? ⟨w.heap.size, 5, none⟩ = false ∧ w5.frozen? ⟨w.heap.size, 6, none⟩ = false ∧ w5.frozen? ⟨w.heap.size, 7, none⟩ = false := ⟨X5.out.a.frozen 0, X5.out.a.frozen 1, X5.out.a.frozen 2, X5.out.a.frozen 3, X5.out.a.frozen 4, X5.out.a.frozen 5, X5.out.a.frozen 6, X5.out.a.frozen 7⟩; skip))
    all_goals (
      have HE := Lib.hid (HD.out _ X5.out).2
      clear k0 k1 k2 k3 k4 k5 k6 k7 x0 x1 x2 x3 x4 x5 x6 x7 y0 y1 y2 y3 y4 y5 y6 y7 X5 HD HP HFile HS
      go_wp2_with fail
      exact bodyPost_ret (results_ld (s := zero) rfl rfl rfl HE.out.1) rfl HE.out.2)
  · have hc6 : ¬ (c : Int) = 6 := by omega
    have HL2 := HL.out
    rw [if_neg h6] at HL2
    clear HL
    by_cases h0 : c = 0
    · subst h0
      have HL3 : Hid (loadB d b = R) := by
        rw [if_neg (by decide)] at HL2
        exact HL2
      clear HL2
      have hAll := sl.all_any b (by omega) w2
      have HRow : Hid (∀ v w3, w3.ownsRow w2.heap.size 9 1 v (sl.scan 0 b).length (sl.texts (sl.scan 0 b)) → rw.Own dk.strSh w3 w2.heap.size v (sl.bodies b)) := fun v w3 hv => by
        rw [texts_bodies] at hv
        have hn : (sl.scan 0 b).length = (sl.bodies b).length := by unfold sl.bodies; rw [List.length_map]
        rw [hn] at hv
        exact hv
      have HF : Hid (sl.fin 0 b ≤ b.length ∧ (sl.bodies b).length ≤ b.length ∧ ∀ x ∈ sl.bodies b, x.length ≤ 65536) := bodies_of b
      go_wp2_with fail
      refine hAll.mono ?_
      rintro e w3 ⟨v, rfl, hv, b3⟩
      have O3 := Lib.hid (HRow.out v w3 hv)
      have G3 := Lib.hid (G2.out.below b3)
      clear hAll hv HRow G2
      unfold loadB at HL3
      generalize sl.err b = er at *
      generalize sl.fin 0 b = fi at *
      generalize sl.bodies b = bo at *
      obtain ⟨va, vc, rfl⟩ : ∃ a c, v = .slice a bo.length c := O3.out.form
      by_cases e3 : er = 3
      · subst e3
        have HL4 : Hid ((if (jput d 2 (b.take fi)).1 ≠ 0 then ((jput d 2 (b.take fi)).1, none, (jput d 2 (b.take fi)).2) else (rdErr (readAll bo), readAll bo, (jput d 2 (b.take fi)).2)) = R) := by
          have h := HL3.out
          rw [if_neg (fun h => h.2 rfl), if_pos rfl] at h
          exact h
        have hfi := HF.out.1
        have hsz := S_size b
        have htk : (S b).extract 0 fi = S (b.take fi) := (sl.S_slice b 0 fi).trans (by rw [List.drop_zero]; rfl)
        clear HL3
        go_wp2_with fail
        obtain ⟨F1, g1, K⟩ := G3.out.open
        have hP := HPut.out (b.take fi) (by rw [List.length_take]; omega) w3 F1 g1
        refine hP.mono ?_
        clear hP
        rintro e w5 ⟨rfl, s5⟩
        have G5 := Lib.hid (K _ _ s5)
        have HSl : Hid (rw.Sl dk.strSh w5 (.slice va bo.length vc) bo) := by
          obtain ⟨F2, f1, f2, f3⟩ := s5
          exact rw.Own.sl dk.strSh (own_step g1 f2 away_strSh O3.out)
        clear s5 K g1 G3 O3 b3 HPut htk hsz hfi
        generalize jput d 2 (b.take fi) = J at *
        obtain ⟨je, jd⟩ := J
        simp only at HL4 G5
        by_cases e0 : je = 0
        · subst e0
          have HR0 : Hid ((rdErr (readAll bo), readAll bo, jd) = R) := by
            have h := HL4.out
            rw [if_neg (fun h => h rfl)] at h
            exact h
          clear HL4
          have hRead := read_any (.slice va bo.length vc) bo (by have := HF.out.2.1; omega) (fun x hx => by have := HF.out.2.2 x hx; omega) w5 HSl.out
          cases hra : readAll bo with
          | none =>
            rw [hra] at hRead HR0
            have HR1 : Hid ((4, none, jd) = R) := HR0
            clear HR0 hra
            go_wp2_with fail
            refine hRead.mono ?_
            clear hRead
            rintro e w6 ⟨b6, he⟩
            change e = .returned (.tuple #[.agg #[.int .u64 0, .int .i64 0, .int .u64 0, .int .u64 0, .int .u64 0, .slice none 0 0, .slice none 0 0, .string ⟨#[]⟩], .int .i64 4]) at he
            subst he
            have G6 := Lib.hid (G5.out.below b6)
            have HE : Hid (Arr (layS w6 w.heap.size zero (.slice none 0 0) (.slice none 0 0)) w.heap.size 87 (stC zero (.slice none 0 0) (.slice none 0 0)) ∧ LoadOut w F p R (.returned (.tuple #[.agg (stC zero (.slice none 0 0) (.slice none 0 0)), .int .i64 (4 : Nat)])) (layS w6 w.heap.size zero (.slice none 0 0) (.slice none 0 0))) := by
              rw [← HR1.out]
              exact G6.out.fail 4
            clear b6 HR1 G5
            obtain ⟨x0, x1, x2, x3, x4, x5, x6, x7⟩ : w6.cell? ⟨w.heap.size, 0, none⟩ = some (.int .u64 0) ∧ w6.cell? ⟨w.heap.size, 1, none⟩ = some (.int .i64 0) ∧ w6.cell? ⟨w.heap.size, 2, none⟩ = some (.int .u64 0) ∧ w6.cell? ⟨w.heap.size, 3, none⟩ = some (.int .u64 0) ∧ w6.cell? ⟨w.heap.size, 4, none⟩ = some (.int .u64 0) ∧ w6.cell? ⟨w.heap.size, 5, none⟩ = some (.slice none 0 0) ∧ w6.cell? ⟨w.heap.size, 6, none⟩ = some (.slice none 0 0) ∧ w6.cell? ⟨w.heap.size, 7, none⟩ = some (.string ⟨#[]⟩) := ⟨G6.out.a.cell rfl, G6.out.a.cell rfl, G6.out.a.cell rfl, G6.out.a.cell rfl, G6.out.a.cell rfl, G6.out.a.cell rfl, G6.out.a.cell rfl, G6.out.a.cell rfl⟩
            obtain ⟨y0, y1, y2, y3, y4, y5, y6, y7⟩ : w6.frozen? ⟨w.heap.size, 0, none⟩ = false ∧ w6.frozen? ⟨w.heap.size, 1, none⟩ = false ∧ w6.frozen? ⟨w.heap.size, 2, none⟩ = false ∧ w6.frozen? ⟨w.heap.size, 3, none⟩ = false ∧ w6.frozen? ⟨w.heap.size, 4, none⟩ = false ∧ w6.frozen? ⟨w.heap.size, 5, none⟩ = false ∧ w6.frozen? ⟨w.heap.size, 6, none⟩ = false ∧ w6.frozen? ⟨w.heap.size, 7, none⟩ = false := ⟨G6.out.a.frozen 0, G6.out.a.frozen 1, G6.out.a.frozen 2, G6.out.a.frozen 3, G6.out.a.frozen 4, G6.out.a.frozen 5, G6.out.a.frozen 6, G6.out.a.frozen 7⟩
            clear G6
            go_wp2_with fail
            exact bodyPost_ret (results_ld (s := zero) rfl rfl rfl HE.out.1) rfl HE.out.2
          | some s =>
            rw [hra] at hRead HR0
            have HR1 : Hid ((0, some s, jd) = R) := HR0
            clear HR0 hra
            go_wp2_with fail
            refine hRead.mono ?_
            clear hRead
            rintro e w6 ⟨b6, cv, ev, he, hc, hl⟩
            obtain ⟨ca, cc, rfl⟩ : ∃ a c, cv = .slice a (ints s.conf).length c := hc.form
            obtain ⟨ea, ec, rfl⟩ : ∃ a c, ev = .slice a (ens s.l).length c := hl.form
            change e = .returned (.tuple #[.agg #[.int .u64 (s.h.term : Nat), .int .i64 (s.h.vote : Nat), .int .u64 (s.h.life : Nat), .int .u64 (s.base : Nat), .int .u64 (s.bterm : Nat), .slice ca (ints s.conf).length cc, .slice ea (ens s.l).length ec, .string (S s.image)], .int .i64 0]) at he
            subst he
            have G6 := Lib.hid (G5.out.below b6)
            have HE : Hid (Arr (layS w6 w.heap.size s (.slice ca (ints s.conf).length cc) (.slice ea (ens s.l).length ec)) w.heap.size 87 (stC s (.slice ca (ints s.conf).length cc) (.slice ea (ens s.l).length ec)) ∧ LoadOut w F p R (.returned (.tuple #[.agg (stC s (.slice ca (ints s.conf).length cc) (.slice ea (ens s.l).length ec)), .int .i64 (0 : Nat)])) (layS w6 w.heap.size s (.slice ca (ints s.conf).length cc) (.slice ea (ens s.l).length ec))) := by
              rw [← HR1.out]
              exact ⟨layS_arr G6.out.a, G6.out.done (n := 0) (o := some s) (own_lower hc (Nat.le_of_lt G5.out.size)) (own_lower hl (Nat.le_of_lt G5.out.size))⟩
            clear b6 HR1 G5 hc hl
            obtain ⟨x0, x1, x2, x3, x4, x5, x6, x7⟩ : w6.cell? ⟨w.heap.size, 0, none⟩ = some (.int .u64 0) ∧ w6.cell? ⟨w.heap.size, 1, none⟩ = some (.int .i64 0) ∧ w6.cell? ⟨w.heap.size, 2, none⟩ = some (.int .u64 0) ∧ w6.cell? ⟨w.heap.size, 3, none⟩ = some (.int .u64 0) ∧ w6.cell? ⟨w.heap.size, 4, none⟩ = some (.int .u64 0) ∧ w6.cell? ⟨w.heap.size, 5, none⟩ = some (.slice none 0 0) ∧ w6.cell? ⟨w.heap.size, 6, none⟩ = some (.slice none 0 0) ∧ w6.cell? ⟨w.heap.size, 7, none⟩ = some (.string ⟨#[]⟩) := ⟨G6.out.a.cell rfl, G6.out.a.cell rfl, G6.out.a.cell rfl, G6.out.a.cell rfl, G6.out.a.cell rfl, G6.out.a.cell rfl, G6.out.a.cell rfl, G6.out.a.cell rfl⟩
            obtain ⟨y0, y1, y2, y3, y4, y5, y6, y7⟩ : w6.frozen? ⟨w.heap.size, 0, none⟩ = false ∧ w6.frozen? ⟨w.heap.size, 1, none⟩ = false ∧ w6.frozen? ⟨w.heap.size, 2, none⟩ = false ∧ w6.frozen? ⟨w.heap.size, 3, none⟩ = false ∧ w6.frozen? ⟨w.heap.size, 4, none⟩ = false ∧ w6.frozen? ⟨w.heap.size, 5, none⟩ = false ∧ w6.frozen? ⟨w.heap.size, 6, none⟩ = false ∧ w6.frozen? ⟨w.heap.size, 7, none⟩ = false := ⟨G6.out.a.frozen 0, G6.out.a.frozen 1, G6.out.a.frozen 2, G6.out.a.frozen 3, G6.out.a.frozen 4, G6.out.a.frozen 5, G6.out.a.frozen 6, G6.out.a.frozen 7⟩
            clear G6
            go_wp2_with fail
            exact bodyPost_ret (results_ld (s := s) rfl rfl rfl HE.out.1) rfl HE.out.2
        · have he0 : ¬ (je : Int) = 0 := by omega
          have HE : Hid (Arr (layS w5 w.heap.size zero (.slice none 0 0) (.slice none 0 0)) w.heap.size 87 (stC zero (.slice none 0 0) (.slice none 0 0)) ∧ LoadOut w F p R (.returned (.tuple #[.agg (stC zero (.slice none 0 0) (.slice none 0 0)), .int .i64 (je : Nat)])) (layS w5 w.heap.size zero (.slice none 0 0) (.slice none 0 0))) := by
            have h := HL4.out
            rw [if_pos e0] at h
            rw [← h]
            exact G5.out.fail je
          clear HL4
          obtain ⟨x0, x1, x2, x3, x4, x5, x6, x7⟩ : w5.cell? ⟨w.heap.size, 0, none⟩ = some (.int .u64 0) ∧ w5.cell? ⟨w.heap.size, 1, none⟩ = some (.int .i64 0) ∧ w5.cell? ⟨w.heap.size, 2, none⟩ = some (.int .u64 0) ∧ w5.cell? ⟨w.heap.size, 3, none⟩ = some (.int .u64 0) ∧ w5.cell? ⟨w.heap.size, 4, none⟩ = some (.int .u64 0) ∧ w5.cell? ⟨w.heap.size, 5, none⟩ = some (.slice none 0 0) ∧ w5.cell? ⟨w.heap.size, 6, none⟩ = some (.slice none 0 0) ∧ w5.cell? ⟨w.heap.size, 7, none⟩ = some (.string ⟨#[]⟩) := ⟨G5.out.a.cell rfl, G5.out.a.cell rfl, G5.out.a.cell rfl, G5.out.a.cell rfl, G5.out.a.cell rfl, G5.out.a.cell rfl, G5.out.a.cell rfl, G5.out.a.cell rfl⟩
          obtain ⟨y0, y1, y2, y3, y4, y5, y6, y7⟩ : w5.frozen? ⟨w.heap.size, 0, none⟩ = false ∧ w5.frozen? ⟨w.heap.size, 1, none⟩ = false ∧ w5.frozen? ⟨w.heap.size, 2, none⟩ = false ∧ w5.frozen? ⟨w.heap.size, 3, none⟩ = false ∧ w5.frozen? ⟨w.heap.size, 4, none⟩ = false ∧ w5.frozen? ⟨w.heap.size, 5, none⟩ = false ∧ w5.frozen? ⟨w.heap.size, 6, none⟩ = false ∧ w5.frozen? ⟨w.heap.size, 7, none⟩ = false := ⟨G5.out.a.frozen 0, G5.out.a.frozen 1, G5.out.a.frozen 2, G5.out.a.frozen 3, G5.out.a.frozen 4, G5.out.a.frozen 5, G5.out.a.frozen 6, G5.out.a.frozen 7⟩
          clear G5
          go_wp2_with fail
          exact bodyPost_ret (results_ld (s := zero) rfl rfl rfl HE.out.1) rfl HE.out.2
      · have he3 : ¬ (er : Int) = 3 := by omega
        by_cases e0 : er = 0
        · subst e0
          have HR0 : Hid ((rdErr (readAll bo), readAll bo, d) = R) := by
            have h := HL3.out
            rw [if_neg (fun h => h.1 rfl), if_neg (by decide)] at h
            exact h
          have HSl : Hid (rw.Sl dk.strSh w3 (.slice va bo.length vc) bo) := rw.Own.sl dk.strSh O3.out
          clear HL3 O3 b3
          have hRead := read_any (.slice va bo.length vc) bo (by have := HF.out.2.1; omega) (fun x hx => by have := HF.out.2.2 x hx; omega) w3 HSl.out
          cases hra : readAll bo with
          | none =>
            rw [hra] at hRead HR0
            have HR1 : Hid ((4, none, d) = R) := HR0
            clear HR0 hra
            go_wp2_with fail
            refine hRead.mono ?_
            clear hRead
            rintro e w6 ⟨b6, he⟩
            change e = .returned (.tuple #[.agg #[.int .u64 0, .int .i64 0, .int .u64 0, .int .u64 0, .int .u64 0, .slice none 0 0, .slice none 0 0, .string ⟨#[]⟩], .int .i64 4]) at he
            subst he
            have G6 := Lib.hid (G3.out.below b6)
            have HE : Hid (Arr (layS w6 w.heap.size zero (.slice none 0 0) (.slice none 0 0)) w.heap.size 87 (stC zero (.slice none 0 0) (.slice none 0 0)) ∧ LoadOut w F p R (.returned (.tuple #[.agg (stC zero (.slice none 0 0) (.slice none 0 0)), .int .i64 (4 : Nat)])) (layS w6 w.heap.size zero (.slice none 0 0) (.slice none 0 0))) := by
              rw [← HR1.out]
              exact G6.out.fail 4
            clear b6 HR1 G3
            obtain ⟨x0, x1, x2, x3, x4, x5, x6, x7⟩ : w6.cell? ⟨w.heap.size, 0, none⟩ = some (.int .u64 0) ∧ w6.cell? ⟨w.heap.size, 1, none⟩ = some (.int .i64 0) ∧ w6.cell? ⟨w.heap.size, 2, none⟩ = some (.int .u64 0) ∧ w6.cell? ⟨w.heap.size, 3, none⟩ = some (.int .u64 0) ∧ w6.cell? ⟨w.heap.size, 4, none⟩ = some (.int .u64 0) ∧ w6.cell? ⟨w.heap.size, 5, none⟩ = some (.slice none 0 0) ∧ w6.cell? ⟨w.heap.size, 6, none⟩ = some (.slice none 0 0) ∧ w6.cell? ⟨w.heap.size, 7, none⟩ = some (.string ⟨#[]⟩) := ⟨G6.out.a.cell rfl, G6.out.a.cell rfl, G6.out.a.cell rfl, G6.out.a.cell rfl, G6.out.a.cell rfl, G6.out.a.cell rfl, G6.out.a.cell rfl, G6.out.a.cell rfl⟩
            obtain ⟨y0, y1, y2, y3, y4, y5, y6, y7⟩ : w6.frozen? ⟨w.heap.size, 0, none⟩ = false ∧ w6.frozen? ⟨w.heap.size, 1, none⟩ = false ∧ w6.frozen? ⟨w.heap.size, 2, none⟩ = false ∧ w6.frozen? ⟨w.heap.size, 3, none⟩ = false ∧ w6.frozen? ⟨w.heap.size, 4, none⟩ = false ∧ w6.frozen? ⟨w.heap.size, 5, none⟩ = false ∧ w6.frozen? ⟨w.heap.size, 6, none⟩ = false ∧ w6.frozen? ⟨w.heap.size, 7, none⟩ = false := ⟨G6.out.a.frozen 0, G6.out.a.frozen 1, G6.out.a.frozen 2, G6.out.a.frozen 3, G6.out.a.frozen 4, G6.out.a.frozen 5, G6.out.a.frozen 6, G6.out.a.frozen 7⟩
            clear G6
            go_wp2_with fail
            exact bodyPost_ret (results_ld (s := zero) rfl rfl rfl HE.out.1) rfl HE.out.2
          | some s =>
            rw [hra] at hRead HR0
            have HR1 : Hid ((0, some s, d) = R) := HR0
            clear HR0 hra
            go_wp2_with fail
            refine hRead.mono ?_
            clear hRead
            rintro e w6 ⟨b6, cv, ev, he, hc, hl⟩
            obtain ⟨ca, cc, rfl⟩ : ∃ a c, cv = .slice a (ints s.conf).length c := hc.form
            obtain ⟨ea, ec, rfl⟩ : ∃ a c, ev = .slice a (ens s.l).length c := hl.form
            change e = .returned (.tuple #[.agg #[.int .u64 (s.h.term : Nat), .int .i64 (s.h.vote : Nat), .int .u64 (s.h.life : Nat), .int .u64 (s.base : Nat), .int .u64 (s.bterm : Nat), .slice ca (ints s.conf).length cc, .slice ea (ens s.l).length ec, .string (S s.image)], .int .i64 0]) at he
            subst he
            have G6 := Lib.hid (G3.out.below b6)
            have HE : Hid (Arr (layS w6 w.heap.size s (.slice ca (ints s.conf).length cc) (.slice ea (ens s.l).length ec)) w.heap.size 87 (stC s (.slice ca (ints s.conf).length cc) (.slice ea (ens s.l).length ec)) ∧ LoadOut w F p R (.returned (.tuple #[.agg (stC s (.slice ca (ints s.conf).length cc) (.slice ea (ens s.l).length ec)), .int .i64 (0 : Nat)])) (layS w6 w.heap.size s (.slice ca (ints s.conf).length cc) (.slice ea (ens s.l).length ec))) := by
              rw [← HR1.out]
              exact ⟨layS_arr G6.out.a, G6.out.done (n := 0) (o := some s) (own_lower hc (Nat.le_of_lt G3.out.size)) (own_lower hl (Nat.le_of_lt G3.out.size))⟩
            clear b6 HR1 G3 hc hl
            obtain ⟨x0, x1, x2, x3, x4, x5, x6, x7⟩ : w6.cell? ⟨w.heap.size, 0, none⟩ = some (.int .u64 0) ∧ w6.cell? ⟨w.heap.size, 1, none⟩ = some (.int .i64 0) ∧ w6.cell? ⟨w.heap.size, 2, none⟩ = some (.int .u64 0) ∧ w6.cell? ⟨w.heap.size, 3, none⟩ = some (.int .u64 0) ∧ w6.cell? ⟨w.heap.size, 4, none⟩ = some (.int .u64 0) ∧ w6.cell? ⟨w.heap.size, 5, none⟩ = some (.slice none 0 0) ∧ w6.cell? ⟨w.heap.size, 6, none⟩ = some (.slice none 0 0) ∧ w6.cell? ⟨w.heap.size, 7, none⟩ = some (.string ⟨#[]⟩) := ⟨G6.out.a.cell rfl, G6.out.a.cell rfl, G6.out.a.cell rfl, G6.out.a.cell rfl, G6.out.a.cell rfl, G6.out.a.cell rfl, G6.out.a.cell rfl, G6.out.a.cell rfl⟩
            obtain ⟨y0, y1, y2, y3, y4, y5, y6, y7⟩ : w6.frozen? ⟨w.heap.size, 0, none⟩ = false ∧ w6.frozen? ⟨w.heap.size, 1, none⟩ = false ∧ w6.frozen? ⟨w.heap.size, 2, none⟩ = false ∧ w6.frozen? ⟨w.heap.size, 3, none⟩ = false ∧ w6.frozen? ⟨w.heap.size, 4, none⟩ = false ∧ w6.frozen? ⟨w.heap.size, 5, none⟩ = false ∧ w6.frozen? ⟨w.heap.size, 6, none⟩ = false ∧ w6.frozen? ⟨w.heap.size, 7, none⟩ = false := ⟨G6.out.a.frozen 0, G6.out.a.frozen 1, G6.out.a.frozen 2, G6.out.a.frozen 3, G6.out.a.frozen 4, G6.out.a.frozen 5, G6.out.a.frozen 6, G6.out.a.frozen 7⟩
            clear G6
            go_wp2_with fail
            exact bodyPost_ret (results_ld (s := s) rfl rfl rfl HE.out.1) rfl HE.out.2
        · have he0 : ¬ (er : Int) = 0 := by omega
          have HE : Hid (Arr (layS w3 w.heap.size zero (.slice none 0 0) (.slice none 0 0)) w.heap.size 87 (stC zero (.slice none 0 0) (.slice none 0 0)) ∧ LoadOut w F p R (.returned (.tuple #[.agg (stC zero (.slice none 0 0) (.slice none 0 0)), .int .i64 (er : Nat)])) (layS w3 w.heap.size zero (.slice none 0 0) (.slice none 0 0))) := by
            have h := HL3.out
            rw [if_pos ⟨e0, e3⟩] at h
            rw [← h]
            exact G3.out.fail er
          clear HL3
          obtain ⟨x0, x1, x2, x3, x4, x5, x6, x7⟩ : w3.cell? ⟨w.heap.size, 0, none⟩ = some (.int .u64 0) ∧ w3.cell? ⟨w.heap.size, 1, none⟩ = some (.int .i64 0) ∧ w3.cell? ⟨w.heap.size, 2, none⟩ = some (.int .u64 0) ∧ w3.cell? ⟨w.heap.size, 3, none⟩ = some (.int .u64 0) ∧ w3.cell? ⟨w.heap.size, 4, none⟩ = some (.int .u64 0) ∧ w3.cell? ⟨w.heap.size, 5, none⟩ = some (.slice none 0 0) ∧ w3.cell? ⟨w.heap.size, 6, none⟩ = some (.slice none 0 0) ∧ w3.cell? ⟨w.heap.size, 7, none⟩ = some (.string ⟨#[]⟩) := ⟨G3.out.a.cell rfl, G3.out.a.cell rfl, G3.out.a.cell rfl, G3.out.a.cell rfl, G3.out.a.cell rfl, G3.out.a.cell rfl, G3.out.a.cell rfl, G3.out.a.cell rfl⟩
          obtain ⟨y0, y1, y2, y3, y4, y5, y6, y7⟩ : w3.frozen? ⟨w.heap.size, 0, none⟩ = false ∧ w3.frozen? ⟨w.heap.size, 1, none⟩ = false ∧ w3.frozen? ⟨w.heap.size, 2, none⟩ = false ∧ w3.frozen? ⟨w.heap.size, 3, none⟩ = false ∧ w3.frozen? ⟨w.heap.size, 4, none⟩ = false ∧ w3.frozen? ⟨w.heap.size, 5, none⟩ = false ∧ w3.frozen? ⟨w.heap.size, 6, none⟩ = false ∧ w3.frozen? ⟨w.heap.size, 7, none⟩ = false := ⟨G3.out.a.frozen 0, G3.out.a.frozen 1, G3.out.a.frozen 2, G3.out.a.frozen 3, G3.out.a.frozen 4, G3.out.a.frozen 5, G3.out.a.frozen 6, G3.out.a.frozen 7⟩
          clear G3 b3
          go_wp2_with fail
          exact bodyPost_ret (results_ld (s := zero) rfl rfl rfl HE.out.1) rfl HE.out.2
    · have hc0 : ¬ (c : Int) = 0 := by omega
      have HE : Hid (Arr (layS w2 w.heap.size zero (.slice none 0 0) (.slice none 0 0)) w.heap.size 87 (stC zero (.slice none 0 0) (.slice none 0 0)) ∧ LoadOut w F p R (.returned (.tuple #[.agg (stC zero (.slice none 0 0) (.slice none 0 0)), .int .i64 (c : Nat)])) (layS w2 w.heap.size zero (.slice none 0 0) (.slice none 0 0))) := by
        rw [if_pos h0] at HL2
        rw [← HL2]
        exact G2.out.fail c
      clear HL2
      obtain ⟨x0, x1, x2, x3, x4, x5, x6, x7⟩ : w2.cell? ⟨w.heap.size, 0, none⟩ = some (.int .u64 0) ∧ w2.cell? ⟨w.heap.size, 1, none⟩ = some (.int .i64 0) ∧ w2.cell? ⟨w.heap.size, 2, none⟩ = some (.int .u64 0) ∧ w2.cell? ⟨w.heap.size, 3, none⟩ = some (.int .u64 0) ∧ w2.cell? ⟨w.heap.size, 4, none⟩ = some (.int .u64 0) ∧ w2.cell? ⟨w.heap.size, 5, none⟩ = some (.slice none 0 0) ∧ w2.cell? ⟨w.heap.size, 6, none⟩ = some (.slice none 0 0) ∧ w2.cell? ⟨w.heap.size, 7, none⟩ = some (.string ⟨#[]⟩) := ⟨G2.out.a.cell rfl, G2.out.a.cell rfl, G2.out.a.cell rfl, G2.out.a.cell rfl, G2.out.a.cell rfl, G2.out.a.cell rfl, G2.out.a.cell rfl, G2.out.a.cell rfl⟩
      obtain ⟨y0, y1, y2, y3, y4, y5, y6, y7⟩ : w2.frozen? ⟨w.heap.size, 0, none⟩ = false ∧ w2.frozen? ⟨w.heap.size, 1, none⟩ = false ∧ w2.frozen? ⟨w.heap.size, 2, none⟩ = false ∧ w2.frozen? ⟨w.heap.size, 3, none⟩ = false ∧ w2.frozen? ⟨w.heap.size, 4, none⟩ = false ∧ w2.frozen? ⟨w.heap.size, 5, none⟩ = false ∧ w2.frozen? ⟨w.heap.size, 6, none⟩ = false ∧ w2.frozen? ⟨w.heap.size, 7, none⟩ = false := ⟨G2.out.a.frozen 0, G2.out.a.frozen 1, G2.out.a.frozen 2, G2.out.a.frozen 3, G2.out.a.frozen 4, G2.out.a.frozen 5, G2.out.a.frozen 6, G2.out.a.frozen 7⟩

      go_wp2_with fail
      exact bodyPost_ret (results_ld (s := zero) rfl rfl rfl HE.out.1) rfl HE.out.2
end Go.Proofs.YteeeakbgofjinaaGreat.jr
/-! JrOp -/
namespace Go.Proofs.YteeeakbgofjinaaGreat.jr
set_option linter.unusedVariables false
open Go.RowKit
open fl (S S_size S_append)
open rw (Arr But below_box bnext below_drew below_drewN Fr)
open dk (PD Step Nu Inv)

def jC (p : Nat) (s : St) (cv ev : Value) : Array Value := #[.pointer (some ⟨p, 0, none⟩), .int .u64 (s.h.term : Nat), .int .i64 (s.h.vote : Nat), .int .u64 (s.h.life : Nat), .int .u64 (s.base : Nat), .int .u64 (s.bterm : Nat), cv, ev, .string (S s.image)]
def OpenOut (w : World) (F : Nat → Prop) (p : Nat) (r : Nat × Option St × dk.Dk) (e : Ending) (w' : World) : Prop :=
  Step w F p r.2.2 w' ∧ match r.2.1 with
  | none => e = .returned (.tuple #[.pointer none, .int .i64 (r.1 : Nat)])
  | some s => ∃ cv ev jb, e = .returned (.tuple #[.pointer (some ⟨jb, 0, none⟩), .int .i64 0]) ∧ w.heap.size ≤ jb ∧ Arr w' jb 93 (jC p s cv ev) ∧ rw.Own noSh w' w.heap.size cv (ints s.conf) ∧ rw.Own enSh w' w.heap.size ev (ens s.l)
theorem rdErr_some (o : Option St) : rdErr o = 0 ↔ o.isSome = true := by cases o <;> simp [rdErr]
theorem loadB_err (d : dk.Dk) (b : Bs) : (loadB d b).1 = 0 ↔ (loadB d b).2.1.isSome = true := by
  unfold loadB
  split
  · next h => exact ⟨fun e => absurd e h.1, fun e => by cases e⟩
  · split
    · split
      · next h => exact ⟨fun e => absurd e h, fun e => by cases e⟩
      · exact rdErr_some _
    · exact rdErr_some _
theorem loadJ_err (d : dk.Dk) : (loadJ d).1 = 0 ↔ (loadJ d).2.1.isSome = true := by
  unfold loadJ
  split
  · split
    · next h => exact ⟨fun e => absurd e h, fun e => by cases e⟩
    · exact ⟨fun _ => rfl, fun _ => rfl⟩
  · split
    · next h => exact ⟨fun e => absurd e h, fun e => by cases e⟩
    · exact loadB_err _ _
theorem loadB_ok {d : dk.Dk} {b : Bs} {s : St} (h : (loadB d b).2.1 = some s) : Ok s := by
  unfold loadB at h
  split at h
  · cases h
  · split at h
    · split at h
      · cases h
      · exact readAll_ok h
    · exact readAll_ok h
theorem loadJ_ok {d : dk.Dk} {s : St} (h : (loadJ d).2.1 = some s) : Ok s := by
  unfold loadJ at h
  split at h
  · split at h
    · cases h
    · cases h; exact zero_ok
  · split at h
    · cases h
    · exact loadB_ok h
theorem loadB_inv {j : Nat} {d : dk.Dk} (hd : Inv j d) (b : Bs) (hb : b.length ≤ 1048576) : Inv (j + 2) (loadB d b).2.2 := by
  unfold loadB
  split
  · exact hd.mono (by omega)
  · split
    · split
      · exact jput_inv hd _ _ (by rw [List.length_take]; omega)
      · exact jput_inv hd _ _ (by rw [List.length_take]; omega)
    · exact hd.mono (by omega)
theorem loadJ_inv {j : Nat} {d : dk.Dk} (hd : Inv j d) : Inv (j + 2) (loadJ d).2.2 := by
  unfold loadJ
  have hz : (fileOf zero).length ≤ 140737488355328 := by
    have := fileOf_len zero_ok (by decide)
    have e : zero.l.length = 0 := rfl
    omega
  split
  · split
    · exact jput_inv hd _ _ hz
    · exact jput_inv hd _ _ hz
  · split
    · exact hd.mono (by omega)
    · exact loadB_inv hd _ (read_len hd)
theorem open3_inv {j : Nat} {d : dk.Dk} (hd : Inv j d) {s : St} (hs : Ok s) : Inv (j + 2) (open3 d s).2.2 := by
  have h1 := (more_ok hs)
  have hz : (hardRec (more s.h)).length ≤ 140737488355328 := by
    have := hardRec_len h1.term h1.vote h1.life
    simp only at this
    omega
  unfold open3
  split
  · exact jput_inv hd _ _ hz
  · exact jput_inv hd _ _ hz
theorem openJ_inv {j : Nat} {d : dk.Dk} (hd : Inv j d) : Inv (j + 4) (openJ d).2.2 := by
  have h1 := loadJ_inv hd
  rw [openJ_load]
  cases h : (loadJ d).2.1 with
  | none => exact h1.mono (by omega)
  | some s => exact open3_inv h1 (loadJ_ok h)
/-- The state in a box beside the disk. -/
structure Bx (w W : World) (F : Nat → Prop) (p sb : Nat) (d : dk.Dk) (s : St) (cv ev : Value) : Prop where
  a : Arr W sb 87 (stC s cv ev)
  st : Step w F p d W
  c : rw.Own noSh W w.heap.size cv (ints s.conf)
  l : rw.Own enSh W w.heap.size ev (ens s.l)
  n : w.heap.size ≤ sb
section
variable {w W W' : World} {F : Nat → Prop} {p sb : Nat} {d : dk.Dk} {s : St} {cv ev : Value}
theorem Bx.below (h : Bx w W F p sb d s cv ev) (k : Below W.heap.size W W') : Bx w W' F p sb d s cv ev := ⟨h.a.below k, step_below h.st k, h.c.below _ k, h.l.below _ k, h.n⟩
theorem Bx.open (h : Bx w W F p sb d s cv ev) : ∃ F1, PD W F1 p d ∧ ∀ d' W', Step W F1 p d' W' → Bx w W' F p sb d' s cv ev := by
  obtain ⟨F1, h1, h2, h3⟩ := h.st
  refine ⟨F1, h1, fun d' W' k => ?_⟩
  have k0 := k
  obtain ⟨F2, _, h4, _⟩ := k
  exact ⟨arr_step h1 h4 (by unfold Away; decide) h.a, dk.Step.after h2 h3 k0, own_step h1 h4 away_noSh h.c, own_step h1 h4 away_enSh h.l, h.n⟩
theorem Bx.life (h : Bx w W F p sb d s cv ev) (x : Nat) : Bx w (W.setCell ⟨sb, 2, none⟩ (.int .u64 (x : Nat))) F p sb d { s with h := { s.h with life := x } } cv ev := by
  have k : But sb W (W.setCell ⟨sb, 2, none⟩ (.int .u64 (x : Nat))) := (But.refl sb W).set 2 _
  refine ⟨?_, step_but h.st h.n h.a (by unfold Away; decide) (by decide) k, own_but h.c h.a (by decide) k, own_but h.l h.a (by decide) k, h.n⟩
  exact h.a.set 2 (.int .u64 (x : Nat))
end
theorem bx_new {w W : World} {F : Nat → Prop} {p : Nat} {d : dk.Dk} {s : St} {cv ev : Value} (h : Step w F p d W) (hc : rw.Own noSh W w.heap.size cv (ints s.conf)) (hl : rw.Own enSh W w.heap.size ev (ens s.l)) (hs : w.heap.size ≤ W.heap.size) :
    Bx w (W.alloc (.cells (stC s cv ev) 87)) F p W.heap.size d s cv ev :=
  ⟨Arr.new W _ _, step_below h (below_box _ _), hc.below _ (below_box _ _), hl.below _ (below_box _ _), hs⟩
set_option maxHeartbeats 8000000 in
set_option maxRecDepth 100000 in
theorem open_any (F : Nat → Prop) (p j : Nat) (d : dk.Dk) (hd : Inv j d) (hj : j ≤ 980) (w : World) (h : PD w F p d) :
    Calls Tryz.prog 10 #[.pointer (some ⟨p, 0, none⟩)] w (OpenOut w F p (openJ d)) := by
  have hLd := load_any F p j d hd hj w h
  have hi := loadJ_inv hd
  have herr := loadJ_err d
  have hok := fun s (e : (loadJ d).2.1 = some s) => loadJ_ok e
  obtain ⟨R, hR⟩ : ∃ R, openJ d = R := ⟨_, rfl⟩
  have HR := Lib.hid hR
  rw [hR]
  rw [openJ_load] at HR
  clear hR
  generalize loadJ d = L at *
  obtain ⟨le, lo, ld⟩ := L
  simp only at hi herr hok HR
  cases lo with
  | none =>
    have hne : le ≠ 0 := fun e => by have := herr.1 e; cases this
    have hni : ¬ (le : Int) = 0 := by omega
    have HR2 : Hid ((le, none, ld) = R) := HR
    clear HR herr hok hi hd h hne
    go_enter Tryz.func10, Tryz.ntmps10
    go_wp2_with fail
    refine hLd.mono ?_
    clear hLd
    rintro e w2 ⟨cv, ev, he, hs, hc, hl⟩
    obtain ⟨ca, cc, rfl⟩ : ∃ a c, cv = .slice a (0 : Nat) c := hc.form
    obtain ⟨ea, ec, rfl⟩ : ∃ a c, ev = .slice a (0 : Nat) c := hl.form
    clear hc hl
    have HE : Hid (∀ W, Below w2.heap.size w2 W → OpenOut w F p R (.returned (.tuple #[.pointer none, .int .i64 (le : Nat)])) W) := fun W k => by
      rw [← HR2.out]
      exact ⟨step_below hs k, rfl⟩
    have hb := Lib.hid (below_box w2 (.cells #[.int .u64 0, .int .i64 0, .int .u64 0, .int .u64 0, .int .u64 0, .slice ca 0 cc, .slice ea 0 ec, .string ⟨#[]⟩] 87))
    clear hs HR2
    change e = .returned (.tuple #[.agg #[.int .u64 0, .int .i64 0, .int .u64 0, .int .u64 0, .int .u64 0, .slice ca 0 cc, .slice ea 0 ec, .string ⟨#[]⟩], .int .i64 (le : Nat)]) at he
    subst he
    go_wp2_with fail
    go_ret2
    exact HE.out _ hb.out
  | some s =>
    have he0 : le = 0 := herr.2 rfl
    subst he0
    have hs0 := hok s rfl
    have HR2 : Hid (open3 ld s = R) := HR
    clear HR herr hok hd h
    go_enter Tryz.func10, Tryz.ntmps10
    go_wp2_with fail
    refine hLd.mono ?_
    clear hLd
    rintro e w2 ⟨cv, ev, he, hs, hc, hl⟩
    obtain ⟨ca, cc, rfl⟩ : ∃ a c, cv = .slice a (ints s.conf).length c := hc.form
    obtain ⟨ea, ec, rfl⟩ : ∃ a c, ev = .slice a (ens s.l).length c := hl.form
    change e = .returned (.tuple #[.agg #[.int .u64 (s.h.term : Nat), .int .i64 (s.h.vote : Nat), .int .u64 (s.h.life : Nat), .int .u64 (s.base : Nat), .int .u64 (s.bterm : Nat), .slice ca (ints s.conf).length cc, .slice ea (ens s.l).length ec, .string (S s.image)], .int .i64 0]) at he
    subst he
    have B0 := Lib.hid (bx_new hs hc hl (by obtain ⟨F1, _, h2, _⟩ := hs; exact h2.size))
    change Hid (Bx w (w2.alloc (.cells #[.int .u64 (s.h.term : Nat), .int .i64 (s.h.vote : Nat), .int .u64 (s.h.life : Nat), .int .u64 (s.base : Nat), .int .u64 (s.bterm : Nat), .slice ca (ints s.conf).length cc, .slice ea (ens s.l).length ec, .string (S s.image)] 87)) F p w2.heap.size ld s (.slice ca (ints s.conf).length cc) (.slice ea (ens s.l).length ec)) at B0
    clear hs hc hl
    have hs := more_ok hs0
    have hlife := hs0.life
    clear hs0
    go_upto_region 4 with (fail)
    generalize w2.alloc (.cells #[.int .u64 (s.h.term : Nat), .int .i64 (s.h.vote : Nat), .int .u64 (s.h.life : Nat), .int .u64 (s.base : Nat), .int .u64 (s.bterm : Nat), .slice ca (ints s.conf).length cc, .slice ea (ens s.l).length ec, .string (S s.image)] 87) = W3 at *
    generalize w2.heap.size = sb at *
    have k2 : W3.cell? ⟨sb, 2, none⟩ = some (.int .u64 (s.h.life : Nat)) := B0.out.a.cell rfl
    have f2 := B0.out.a.frozen 2
    by_cases hlt : s.h.life < 9223372036854775807
    · have hli : (s.h.life : Int) < 9223372036854775807 := by omega
      obtain ⟨z, hz⟩ : ∃ z : Int, ((s.h.life + 1 : Nat) : Int) = z := ⟨_, rfl⟩
      have hw : IntKind.u64.wrap ((s.h.life : Int) + 1) = z := by rw [IntWalk.u64_in _ (by omega)]; omega
      have hm : ({ s with h := more s.h } : St) = { s with h := { s.h with life := s.h.life + 1 } } := by unfold more; rw [if_pos hlt]
      have B1 : Hid (Bx w (W3.setCell ⟨sb, 2, none⟩ (.int .u64 z)) F p sb ld { s with h := more s.h } (.slice ca (ints s.conf).length cc) (.slice ea (ens s.l).length ec)) := by
        rw [hm, ← hz]
        exact B0.out.life (s.h.life + 1)
      clear B0 hz hm
      go_upto_region 6 with (fail)
      clear k2 f2 hli hw hlt
      generalize W3.setCell ⟨sb, 2, none⟩ (.int .u64 z) = wc at *
      have HR3 : Hid ((if (jput ld 1 (hardRec (more s.h))).1 ≠ 0 then ((jput ld 1 (hardRec (more s.h))).1, none, (jput ld 1 (hardRec (more s.h))).2) else (0, some { s with h := more s.h }, (jput ld 1 (hardRec (more s.h))).2)) = R) := HR2
      obtain ⟨h1, h2, h3⟩ := And.intro hs.term (And.intro hs.vote hs.life)
      simp only at h1 h2 h3
      clear HR2 hs hlife
      generalize more s.h = h' at *
      obtain ⟨s', hs'⟩ : ∃ s' : St, ({ s with h := h' } : St) = s' := ⟨_, rfl⟩
      have e1 : s'.h = h' := by rw [← hs']
      have e2 : s'.conf = s.conf := by rw [← hs']
      have e3 : s'.l = s.l := by rw [← hs']
      rw [hs'] at B1 HR3
      rw [← e2, ← e3] at B1 ⊢
      subst e1
      clear hs' e2 e3
      have hH := hardFrame_any s'.h h1 h2 h3 wc
      have hlen := hardRec_len h1 h2 h3
      obtain ⟨k0, k1, k2⟩ : wc.cell? ⟨sb, 0, none⟩ = some (.int .u64 (s'.h.term : Nat)) ∧ wc.cell? ⟨sb, 1, none⟩ = some (.int .i64 (s'.h.vote : Nat)) ∧ wc.cell? ⟨sb, 2, none⟩ = some (.int .u64 (s'.h.life : Nat)) := ⟨B1.out.a.cell rfl, B1.out.a.cell rfl, B1.out.a.cell rfl⟩
      go_wp2_with fail
      refine hH.mono ?_
      rintro e w5 ⟨rfl, b5⟩
      have B5 := Lib.hid (B1.out.below b5)
      obtain ⟨F1, g1, K⟩ := B5.out.open
      have hA := add_any F1 p (j + 2) ld (hardRec s'.h) hi (by omega) (by omega) w5 g1
      have HK := Lib.hid K
      clear hH b5 B1 B5 k0 k1 k2 g1 K h1 h2 h3 hlen
      go_wp2_with fail
      refine hA.mono ?_
      clear hA
      rintro e w6 ⟨rfl, s6⟩
      have B6 := Lib.hid (HK.out _ _ s6)
      clear s6 HK
      generalize jput ld 1 (hardRec s'.h) = J at *
      obtain ⟨je, jd⟩ := J
      simp only at HR3 B6
      by_cases h0 : je = 0
      · subst h0
        have HR4 : Hid ((0, some s', jd) = R) := by
          have h := HR3.out
          rw [if_neg (fun h => h rfl)] at h
          exact h
        clear HR3
        obtain ⟨k0, k1, k2, k3, k4, k5, k6, k7⟩ : w6.cell? ⟨sb, 0, none⟩ = some (.int .u64 (s'.h.term : Nat)) ∧ w6.cell? ⟨sb, 1, none⟩ = some (.int .i64 (s'.h.vote : Nat)) ∧ w6.cell? ⟨sb, 2, none⟩ = some (.int .u64 (s'.h.life : Nat)) ∧ w6.cell? ⟨sb, 3, none⟩ = some (.int .u64 (s'.base : Nat)) ∧ w6.cell? ⟨sb, 4, none⟩ = some (.int .u64 (s'.bterm : Nat)) ∧ w6.cell? ⟨sb, 5, none⟩ = some (.slice ca (ints s'.conf).length cc) ∧ w6.cell? ⟨sb, 6, none⟩ = some (.slice ea (ens s'.l).length ec) ∧ w6.cell? ⟨sb, 7, none⟩ = some (.string (S s'.image)) := ⟨B6.out.a.cell rfl, B6.out.a.cell rfl, B6.out.a.cell rfl, B6.out.a.cell rfl, B6.out.a.cell rfl, B6.out.a.cell rfl, B6.out.a.cell rfl, B6.out.a.cell rfl⟩
        have HE : Hid (OpenOut w F p R (.returned (.tuple #[.pointer (some ⟨w6.heap.size, 0, none⟩), .int .i64 0])) (w6.alloc (.cells #[.pointer (some ⟨p, 0, none⟩), .int .u64 (s'.h.term : Nat), .int .i64 (s'.h.vote : Nat), .int .u64 (s'.h.life : Nat), .int .u64 (s'.base : Nat), .int .u64 (s'.bterm : Nat), .slice ca (ints s'.conf).length cc, .slice ea (ens s'.l).length ec, .string (S s'.image)] 93))) := by
          rw [← HR4.out]
          have k := below_box w6 (.cells #[.pointer (some ⟨p, 0, none⟩), .int .u64 (s'.h.term : Nat), .int .i64 (s'.h.vote : Nat), .int .u64 (s'.h.life : Nat), .int .u64 (s'.base : Nat), .int .u64 (s'.bterm : Nat), .slice ca (ints s'.conf).length cc, .slice ea (ens s'.l).length ec, .string (S s'.image)] 93)
          refine ⟨step_below B6.out.st k, _, _, w6.heap.size, rfl, ?_, Arr.new w6 _ _, B6.out.c.below _ k, B6.out.l.below _ k⟩
          obtain ⟨F2, _, f2, _⟩ := B6.out.st
          exact f2.size
        clear B6 HR4
        go_wp2_with fail
        go_ret2
        exact HE.out
      · have h0i : ¬ (je : Int) = 0 := by omega
        have HE : Hid (OpenOut w F p R (.returned (.tuple #[.pointer none, .int .i64 (je : Nat)])) w6) := by
          have h := HR3.out
          rw [if_pos h0] at h
          rw [← h]
          exact ⟨B6.out.st, rfl⟩
        clear B6 HR3
        go_wp2_with fail
        go_ret2
        exact HE.out
    · have hli : ¬ (s.h.life : Int) < 9223372036854775807 := by omega
      have hm : ({ s with h := more s.h } : St) = s := by unfold more; rw [if_neg hlt]
      have B1 : Hid (Bx w W3 F p sb ld { s with h := more s.h } (.slice ca (ints s.conf).length cc) (.slice ea (ens s.l).length ec)) := by
        rw [hm]
        exact B0.out
      clear B0 hm
      go_upto_region 6 with (fail)
      clear k2 f2 hli hlt
      generalize W3 = wc at *
      have HR3 : Hid ((if (jput ld 1 (hardRec (more s.h))).1 ≠ 0 then ((jput ld 1 (hardRec (more s.h))).1, none, (jput ld 1 (hardRec (more s.h))).2) else (0, some { s with h := more s.h }, (jput ld 1 (hardRec (more s.h))).2)) = R) := HR2
      obtain ⟨h1, h2, h3⟩ := And.intro hs.term (And.intro hs.vote hs.life)
      simp only at h1 h2 h3
      clear HR2 hs hlife
      generalize more s.h = h' at *
      obtain ⟨s', hs'⟩ : ∃ s' : St, ({ s with h := h' } : St) = s' := ⟨_, rfl⟩
      have e1 : s'.h = h' := by rw [← hs']
      have e2 : s'.conf = s.conf := by rw [← hs']
      have e3 : s'.l = s.l := by rw [← hs']
      rw [hs'] at B1 HR3
      rw [← e2, ← e3] at B1 ⊢
      subst e1
      clear hs' e2 e3
      have hH := hardFrame_any s'.h h1 h2 h3 wc
      have hlen := hardRec_len h1 h2 h3
      obtain ⟨k0, k1, k2⟩ : wc.cell? ⟨sb, 0, none⟩ = some (.int .u64 (s'.h.term : Nat)) ∧ wc.cell? ⟨sb, 1, none⟩ = some (.int .i64 (s'.h.vote : Nat)) ∧ wc.cell? ⟨sb, 2, none⟩ = some (.int .u64 (s'.h.life : Nat)) := ⟨B1.out.a.cell rfl, B1.out.a.cell rfl, B1.out.a.cell rfl⟩
      go_wp2_with fail
      refine hH.mono ?_
      rintro e w5 ⟨rfl, b5⟩
      have B5 := Lib.hid (B1.out.below b5)
      obtain ⟨F1, g1, K⟩ := B5.out.open
      have hA := add_any F1 p (j + 2) ld (hardRec s'.h) hi (by omega) (by omega) w5 g1
      have HK := Lib.hid K
      clear hH b5 B1 B5 k0 k1 k2 g1 K h1 h2 h3 hlen
      go_wp2_with fail
      refine hA.mono ?_
      clear hA
      rintro e w6 ⟨rfl, s6⟩
      have B6 := Lib.hid (HK.out _ _ s6)
      clear s6 HK
      generalize jput ld 1 (hardRec s'.h) = J at *
      obtain ⟨je, jd⟩ := J
      simp only at HR3 B6
      by_cases h0 : je = 0
      · subst h0
        have HR4 : Hid ((0, some s', jd) = R) := by
          have h := HR3.out
          rw [if_neg (fun h => h rfl)] at h
          exact h
        clear HR3
        obtain ⟨k0, k1, k2, k3, k4, k5, k6, k7⟩ : w6.cell? ⟨sb, 0, none⟩ = some (.int .u64 (s'.h.term : Nat)) ∧ w6.cell? ⟨sb, 1, none⟩ = some (.int .i64 (s'.h.vote : Nat)) ∧ w6.cell? ⟨sb, 2, none⟩ = some (.int .u64 (s'.h.life : Nat)) ∧ w6.cell? ⟨sb, 3, none⟩ = some (.int .u64 (s'.base : Nat)) ∧ w6.cell? ⟨sb, 4, none⟩ = some (.int .u64 (s'.bterm : Nat)) ∧ w6.cell? ⟨sb, 5, none⟩ = some (.slice ca (ints s'.conf).length cc) ∧ w6.cell? ⟨sb, 6, none⟩ = some (.slice ea (ens s'.l).length ec) ∧ w6.cell? ⟨sb, 7, none⟩ = some (.string (S s'.image)) := ⟨B6.out.a.cell rfl, B6.out.a.cell rfl, B6.out.a.cell rfl, B6.out.a.cell rfl, B6.out.a.cell rfl, B6.out.a.cell rfl, B6.out.a.cell rfl, B6.out.a.cell rfl⟩
        have HE : Hid (OpenOut w F p R (.returned (.tuple #[.pointer (some ⟨w6.heap.size, 0, none⟩), .int .i64 0])) (w6.alloc (.cells #[.pointer (some ⟨p, 0, none⟩), .int .u64 (s'.h.term : Nat), .int .i64 (s'.h.vote : Nat), .int .u64 (s'.h.life : Nat), .int .u64 (s'.base : Nat), .int .u64 (s'.bterm : Nat), .slice ca (ints s'.conf).length cc, .slice ea (ens s'.l).length ec, .string (S s'.image)] 93))) := by
          rw [← HR4.out]
          have k := below_box w6 (.cells #[.pointer (some ⟨p, 0, none⟩), .int .u64 (s'.h.term : Nat), .int .i64 (s'.h.vote : Nat), .int .u64 (s'.h.life : Nat), .int .u64 (s'.base : Nat), .int .u64 (s'.bterm : Nat), .slice ca (ints s'.conf).length cc, .slice ea (ens s'.l).length ec, .string (S s'.image)] 93)
          refine ⟨step_below B6.out.st k, _, _, w6.heap.size, rfl, ?_, Arr.new w6 _ _, B6.out.c.below _ k, B6.out.l.below _ k⟩
          obtain ⟨F2, _, f2, _⟩ := B6.out.st
          exact f2.size
        clear B6 HR4
        go_wp2_with fail
        go_ret2
        exact HE.out
      · have h0i : ¬ (je : Int) = 0 := by omega
        have HE : Hid (OpenOut w F p R (.returned (.tuple #[.pointer none, .int .i64 (je : Nat)])) w6) := by
          have h := HR3.out
          rw [if_pos h0] at h
          rw [← h]
          exact ⟨B6.out.st, rfl⟩
        clear B6 HR3
        go_wp2_with fail
        go_ret2
        exact HE.out
end Go.Proofs.YteeeakbgofjinaaGreat.jr
/-! JrJn -/
namespace Go.Proofs.YteeeakbgofjinaaGreat.jr
set_option linter.unusedVariables false
open Go.RowKit
open fl (S S_size S_append)
open rw (Arr But below_box bnext below_drew below_drewN Fr)
open dk (PD Step Nu Inv)

/-- Block jb is a journal on the disk p. -/
structure Jn (W : World) (F : Nat → Prop) (jb p : Nat) (d : dk.Dk) (s : St) (cv ev : Value) : Prop where
  d : PD W F p d
  a : Arr W jb 93 (jC p s cv ev)
  c : rw.Own noSh W 0 cv (ints s.conf)
  l : rw.Own enSh W 0 ev (ens s.l)
def JG (F : Nat → Prop) (jb : Nat) (ev : Value) (i : Nat) : Prop := F i ∨ i = jb ∨ ev.ownBlock = some i
/-- The same row as before, or a new one. -/
def Or (w : World) (v v' : Value) : Prop := v'.ownBlock = v.ownBlock ∨ ∀ q, v'.ownBlock = some q → w.heap.size ≤ q
/-- What a call makes of a journal. -/
def JStep (w : World) (F : Nat → Prop) (jb p : Nat) (cv ev : Value) (d' : dk.Dk) (s' : St) (w' : World) : Prop :=
  ∃ F' cv' ev', Jn w' F' jb p d' s' cv' ev' ∧ Fr (JG F jb ev) w w' ∧ Nu w F F' ∧ Or w cv cv' ∧ Or w ev ev'
section
variable {w w' W W' : World} {F : Nat → Prop} {jb p : Nat} {d d' : dk.Dk} {s s' : St} {cv ev : Value}
theorem Jn.below (h : Jn W F jb p d s cv ev) (k : Below W.heap.size W W') : Jn W' F jb p d s cv ev := ⟨h.d.below k, h.a.below k, h.c.below _ k, h.l.below _ k⟩
theorem Jn.step (h : Jn W F jb p d s cv ev) (k : Step W F p d' W') : JStep W F jb p cv ev d' s W' := by
  obtain ⟨F', h1, h2, h3⟩ := k
  exact ⟨F', cv, ev, ⟨h1, arr_step h.d h2 (by unfold Away; decide) h.a, own_step h.d h2 away_noSh h.c, own_step h.d h2 away_enSh h.l⟩, h2.mono fun k _ hk => .inl hk, h3, .inl rfl, .inl rfl⟩
theorem Jn.same (h : Jn W F jb p d s cv ev) (k : Below W.heap.size W W') : JStep W F jb p cv ev d s W' := h.step (dk.Step.same h.d k)
/-- A store into the journal's own block. -/
theorem Jn.set (h : Jn W F jb p d s cv ev) (j : Nat) (u : Value) (he : (jC p s cv ev).setIfInBounds j u = jC p s' cv ev) (hc : s'.conf = s.conf) (hl : s'.l = s.l) : Jn (W.setCell ⟨jb, j, none⟩ u) F jb p d s' cv ev := by
  have k : But jb W (W.setCell ⟨jb, j, none⟩ u) := (But.refl jb W).set j u
  have hn : ¬ F jb := away_of h.d (by unfold Away; decide) h.a
  refine ⟨h.d.fr (Fr.but k (F := fun i => i = jb) rfl) (fun i hi e => hn (e ▸ hi)) (fun i e s hs => ?_), ?_, ?_, ?_⟩
  · have ha := h.a
    change W.heap[i]? = some (.cells #[.string (S s)] 9 (0, 0)) at hs
    unfold Arr at ha
    rw [e, ha] at hs
    injection hs with h1
    injection h1 with _ h2 _
    exact absurd h2 (by decide)
  · rw [← he]; exact h.a.set j u
  · rw [hc]; exact own_but h.c h.a (by decide) k
  · rw [hl]; exact own_but h.l h.a (by decide) k
theorem jset_fr (W : World) (F : Nat → Prop) (jb : Nat) (ev : Value) (j : Nat) (u : Value) : Fr (JG F jb ev) W (W.setCell ⟨jb, j, none⟩ u) := Fr.but ((But.refl jb W).set j u) (.inr (.inl rfl))
theorem Or.trans {w W : World} {v v' v'' : Value} (hs : w.heap.size ≤ W.heap.size) (h : Or w v v') (k : Or W v' v'') : Or w v v'' := by
  rcases k with k | k
  · rcases h with h | h
    · exact .inl (k.trans h)
    · exact .inr fun q hq => h q (k ▸ hq)
  · exact .inr fun q hq => Nat.le_trans hs (k q hq)
theorem JStep.then (h : JStep w F jb p cv ev d s W) (k : ∀ F1 c1 e1, Jn W F1 jb p d s c1 e1 → JStep W F1 jb p c1 e1 d' s' W') : JStep w F jb p cv ev d' s' W' := by
  obtain ⟨F1, c1, e1, h1, h2, h3, h4, h5⟩ := h
  obtain ⟨F2, c2, e2, g1, g2, g3, g4, g5⟩ := k F1 c1 e1 h1
  refine ⟨F2, c2, e2, g1, h2.trans g2 fun i hi hk => ?_, h3.trans g3 h2.size, Or.trans h2.size h4 g4, Or.trans h2.size h5 g5⟩
  rcases hk with hk | hk | hk
  · rcases h3 i hk with h | h
    · exact .inl h
    · omega
  · exact .inr (.inl hk)
  · rcases h5 with h | h
    · exact .inr (.inr (h ▸ hk))
    · have := h i hk; omega
end
set_option linter.unusedSimpArgs false in
theorem eq_hard (t1 l1 t2 l2 : Nat) (v1 v2 : Nat) (w : World) : (binOp .eql 41 (.agg #[.int .u64 (t1 : Nat), .int .i64 (v1 : Nat), .int .u64 (l1 : Nat)]) (.agg #[.int .u64 (t2 : Nat), .int .i64 (v2 : Nat), .int .u64 (l2 : Nat)])).run Tryz.prog w = .ok (.bool (decide ((⟨t1, v1, l1⟩ : Hd) = ⟨t2, v2, l2⟩))) w := by
  have e1 : Tryz.prog.underlying 41 = some (.struct (Tryz.prog.fieldsOf 41)) := by kernel_rfl
  have e2 : Tryz.prog.stoodInHeld 41 = false := by kernel_rfl
  have e3 : (Tryz.prog.fieldsOf 41).toList = [⟨"Term", 39, 0, false, "", "", 0⟩, ⟨"Vote", 3, 1, false, "", "", 8⟩, ⟨"Life", 39, 2, false, "", "", 16⟩] := by kernel_rfl
  have u1 : Tryz.prog.underlying 39 = some (.int .u64) := by kernel_rfl
  have u2 : Tryz.prog.underlying 3 = some (.int .i64) := by kernel_rfl
  rw [run_eql_struct, run_equalIn_agg _ _ _ _ _ e1 e2, e3]
  have p1 : ∀ (xs : Array Value) (j : Nat) (v : Value) (w : World), xs[j]? = some v → (part 39 xs j).run Tryz.prog w = .ok v w := fun xs j v w h => run_part_plain w (by kernel_rfl) h
  have p2 : ∀ (xs : Array Value) (j : Nat) (v : Value) (w : World), xs[j]? = some v → (part 3 xs j).run Tryz.prog w = .ok v w := fun xs j v w h => run_part_plain w (by kernel_rfl) h
  simp only [Op.eqFields, ne_eq, String.reduceEq, not_false_eq_true, if_true, Sem.run_bind]
  have a0 := fun w => p1 #[.int .u64 (t1 : Nat), .int .i64 (v1 : Nat), .int .u64 (l1 : Nat)] 0 (.int .u64 (t1 : Nat)) w rfl
  have a1 := fun w => p2 #[.int .u64 (t1 : Nat), .int .i64 (v1 : Nat), .int .u64 (l1 : Nat)] 1 (.int .i64 (v1 : Nat)) w rfl
  have a2 := fun w => p1 #[.int .u64 (t1 : Nat), .int .i64 (v1 : Nat), .int .u64 (l1 : Nat)] 2 (.int .u64 (l1 : Nat)) w rfl
  have b0 := fun w => p1 #[.int .u64 (t2 : Nat), .int .i64 (v2 : Nat), .int .u64 (l2 : Nat)] 0 (.int .u64 (t2 : Nat)) w rfl
  have b1 := fun w => p2 #[.int .u64 (t2 : Nat), .int .i64 (v2 : Nat), .int .u64 (l2 : Nat)] 1 (.int .i64 (v2 : Nat)) w rfl
  have b2 := fun w => p1 #[.int .u64 (t2 : Nat), .int .i64 (v2 : Nat), .int .u64 (l2 : Nat)] 2 (.int .u64 (l2 : Nat)) w rfl
  have q1 := fun (a b : Int) (w : World) => run_equalIn_int (P := Tryz.prog) w 9998 39 .u64 .u64 a b u1
  have q2 := fun (a b : Int) (w : World) => run_equalIn_int (P := Tryz.prog) w 9998 3 .i64 .i64 a b u2
  have hcast : ∀ a b : Nat, ((a : Int) == (b : Int)) = decide (a = b) := fun a b => by rw [Bool.eq_iff_iff, beq_iff_eq, decide_eq_true_eq]; omega
  simp only [Nat.reduceAdd] at q1 q2
  simp only [a0, b0, a1, b1, a2, b2, Result.andThen_ok, q1, q2, hcast]
  by_cases h1 : t1 = t2
  · subst h1
    by_cases h2 : v1 = v2
    · subst h2
      by_cases h3 : l1 = l2
      · subst h3
        simp [a0, a1, a2, q1, q2, hcast]
      · simp [h3, a0, b0, a1, b1, a2, b2, q1, q2, hcast]
    · simp [h2, a0, b0, a1, b1, a2, b2, q1, q2, hcast]
  · simp [h1, a0, b0, a1, b1, a2, b2, q1, q2, hcast]
set_option maxHeartbeats 8000000 in
set_option maxRecDepth 100000 in
theorem save_any (F : Nat → Prop) (jb p j : Nat) (d : dk.Dk) (s : St) (cv ev : Value) (term life : Nat) (vote : Int) (hd : Inv j d) (hj : j ≤ 980) (ho : Ok s) (ht : term < 18446744073709551616) (w : World) (h : Jn w F jb p d s cv ev) :
    Calls Tryz.prog 24 #[.pointer (some ⟨jb, 0, none⟩), .agg #[.int .u64 (term : Nat), .int .i64 vote, .int .u64 (life : Nat)]] w fun e w' => e = .returned (.int .i64 ((save s d term vote).1 : Nat)) ∧ JStep w F jb p cv ev (save s d term vote).2.2 (save s d term vote).2.1 w' := by
  obtain ⟨R, hR⟩ : ∃ R, save s d term vote = R := ⟨_, rfl⟩
  rw [hR]
  unfold save at hR
  have H1 := Lib.hid (h.below (below_box w (.cells #[.int .u64 (term : Nat), .int .i64 vote, .int .u64 (life : Nat)] 41)))
  by_cases c1 : vote < 0 ∨ 5 < vote
  · rw [if_pos c1] at hR
    have HE : Hid (JStep w F jb p cv ev d s (w.alloc (.cells #[.int .u64 (term : Nat), .int .i64 vote, .int .u64 (life : Nat)] 41))) := h.same (below_box _ _)
    have HR2 : Hid ((1, s, d) = R) := Lib.hid hR
    clear hR h H1
    by_cases c2 : vote < 0
    · clear c1
      go_enter Tryz.func24, Tryz.ntmps24
      go_wp2_with fail
      go_ret
      rw [← HR2.out]
      exact ⟨rfl, HE.out⟩
    · have c3 : vote > 5 := by omega
      clear c1
      go_enter Tryz.func24, Tryz.ntmps24
      go_wp2_with fail
      go_ret
      rw [← HR2.out]
      exact ⟨rfl, HE.out⟩
  · rw [if_neg c1] at hR
    have c2 : ¬ vote < 0 := by omega
    have c3 : ¬ vote > 5 := by omega
    obtain ⟨v, rfl⟩ : ∃ v : Nat, vote = (v : Int) := ⟨vote.toNat, by omega⟩
    rw [Int.toNat_natCast] at hR
    have HR2 := Lib.hid hR
    have k3 : (w.alloc (.cells #[.int .u64 (term : Nat), .int .i64 (v : Nat), .int .u64 (life : Nat)] 41)).cell? ⟨jb, 3, none⟩ = some (.int .u64 (s.h.life : Nat)) := H1.out.a.cell rfl
    clear hR c1
    go_enter Tryz.func24, Tryz.ntmps24
    go_upto_region 4 with (fail)
    have H2 : Hid (Jn (w.alloc (.cells #[.int .u64 (term : Nat), .int .i64 (v : Nat), .int .u64 (s.h.life : Nat)] 41)) F jb p d s cv ev ∧ Arr (w.alloc (.cells #[.int .u64 (term : Nat), .int .i64 (v : Nat), .int .u64 (s.h.life : Nat)] 41)) w.heap.size 41 #[.int .u64 (term : Nat), .int .i64 (v : Nat), .int .u64 (s.h.life : Nat)] ∧ Below w.heap.size w (w.alloc (.cells #[.int .u64 (term : Nat), .int .i64 (v : Nat), .int .u64 (s.h.life : Nat)] 41))) :=
      ⟨h.below (below_box _ _), Arr.new w _ _, below_box _ _⟩
    obtain ⟨hb, hhb⟩ : ∃ hb, w.heap.size = hb := ⟨_, rfl⟩
    have HN : Hid (w.heap.size = hb) := hhb
    rw [hhb] at H2 ⊢
    have HH := Lib.hid h
    clear H1 k3 hhb h
    generalize w.alloc (.cells #[.int .u64 (term : Nat), .int .i64 (v : Nat), .int .u64 (s.h.life : Nat)] 41) = W1 at *
    obtain ⟨x0, x1, x2⟩ : W1.cell? ⟨hb, 0, none⟩ = some (.int .u64 (term : Nat)) ∧ W1.cell? ⟨hb, 1, none⟩ = some (.int .i64 (v : Nat)) ∧ W1.cell? ⟨hb, 2, none⟩ = some (.int .u64 (s.h.life : Nat)) := ⟨H2.out.2.1.cell rfl, H2.out.2.1.cell rfl, H2.out.2.1.cell rfl⟩
    obtain ⟨y1, y2, y3⟩ : W1.cell? ⟨jb, 1, none⟩ = some (.int .u64 (s.h.term : Nat)) ∧ W1.cell? ⟨jb, 2, none⟩ = some (.int .i64 (s.h.vote : Nat)) ∧ W1.cell? ⟨jb, 3, none⟩ = some (.int .u64 (s.h.life : Nat)) := ⟨H2.out.1.a.cell rfl, H2.out.1.a.cell rfl, H2.out.1.a.cell rfl⟩
    have heq := eq_hard term s.h.life s.h.term s.h.life v s.h.vote
    by_cases hsm : (⟨term, v, s.h.life⟩ : Hd) = ⟨s.h.term, s.h.vote, s.h.life⟩
    · rw [decide_eq_true hsm] at heq
      have HE : Hid (∀ n, (0, s, d) = R ∧ JStep w F jb p cv ev d s (W1.drewN n)) := fun n => by
        have h := HR2.out
        rw [if_pos hsm] at h
        have hb2 := H2.out.2.2
        rw [← HN.out] at hb2
        exact ⟨h, HH.out.same (below_drewN hb2 n)⟩
      clear HR2 H2 HH
      go_quiet (fail)
      clear x0 x1 x2 y1 y2 y3 heq
      go_wp2_with fail
      go_ret
      rw [← (HE.out 0).1]
      exact ⟨rfl, (HE.out _).2⟩
    · rw [decide_eq_false hsm] at heq
      have HR3 := HR2.out
      rw [if_neg hsm] at HR3
      have HR4 := Lib.hid HR3
      clear HR3 HR2
      go_quiet (fail)
      clear x0 x1 x2 y1 y2 y3 heq hsm
      have H3 : Hid (Jn (W1.drewN nq) F jb p d s cv ev ∧ Arr (W1.drewN nq) hb 41 #[.int .u64 (term : Nat), .int .i64 (v : Nat), .int .u64 (s.h.life : Nat)] ∧ Below w.heap.size w (W1.drewN nq)) := by
        have hb2 := H2.out.2.2
        rw [← HN.out] at hb2
        have k := below_drewN (Below.refl W1.heap.size W1) nq
        exact ⟨H2.out.1.below k, H2.out.2.1.below k, below_drewN hb2 nq⟩
      clear H2
      generalize W1.drewN nq = W2 at *
      obtain ⟨l', hl'⟩ : ∃ l', s.h.life = l' := ⟨_, rfl⟩
      have hll : l' < 18446744073709551616 := hl' ▸ ho.life
      have hvl : v ≤ 5 := by omega
      have hlen := hardRec_len (h := ⟨term, v, l'⟩) ht hvl hll
      rw [hl'] at H3 HR4 ⊢
      have HA : Hid (∀ W, Jn W F jb p d s cv ev ∧ Arr W hb 41 #[.int .u64 (term : Nat), .int .i64 (v : Nat), .int .u64 (l' : Nat)] ∧ Below w.heap.size w W → Calls Tryz.prog 36 #[.pointer (some ⟨p, 0, none⟩), .string (S (hardRec ⟨term, v, l'⟩))] W fun e w' => e = .returned (.int .i64 ((jput d 1 (hardRec ⟨term, v, l'⟩)).1 : Nat)) ∧
          ∃ F', Jn w' F' jb p (jput d 1 (hardRec ⟨term, v, l'⟩)).2 s cv ev ∧ Arr w' hb 41 #[.int .u64 (term : Nat), .int .i64 (v : Nat), .int .u64 (l' : Nat)] ∧ Fr (JG F jb ev) w w' ∧ Nu w F F') := fun W hW => by
        refine (add_any F p j d (hardRec ⟨term, v, l'⟩) hd (by omega) (by omega) W hW.1.d).mono ?_
        rintro e w' ⟨rfl, F', g1, g2, g3⟩
        exact ⟨rfl, F', ⟨g1, arr_step hW.1.d g2 (by unfold Away; decide) hW.1.a, own_step hW.1.d g2 away_noSh hW.1.c, own_step hW.1.d g2 away_enSh hW.1.l⟩, arr_step hW.1.d g2 (by unfold Away; decide) hW.2.1,
          ((Fr.of_below hW.2.2).trans g2 fun _ _ hF => hF).mono fun _ _ hF => .inl hF, fun k hk => (g3 k hk).imp id fun hh => Nat.le_trans hW.2.2.size hh⟩
      have HF : Hid (∀ W, Jn W F jb p d s cv ev ∧ Arr W hb 41 #[.int .u64 (term : Nat), .int .i64 (v : Nat), .int .u64 (l' : Nat)] ∧ Below w.heap.size w W → Calls Tryz.prog 37 #[.agg #[.int .u64 (term : Nat), .int .i64 (v : Nat), .int .u64 (l' : Nat)]] W fun e w' => e = .returned (.string (S (hardRec ⟨term, v, l'⟩))) ∧ Jn w' F jb p d s cv ev ∧ Arr w' hb 41 #[.int .u64 (term : Nat), .int .i64 (v : Nat), .int .u64 (l' : Nat)] ∧ Below w.heap.size w w') := fun W hW =>
        (hardFrame_any ⟨term, v, l'⟩ ht hvl hll W).mono fun e w' ⟨h1, h2⟩ => ⟨h1, hW.1.below h2, hW.2.1.below h2, hW.2.2.trans (h2.mono hW.2.2.size)⟩
      clear ho hd HH HN
      go_upto_region 6 with (fail)
      have X1 : Hid (Jn W2.drew F jb p d s cv ev ∧ Arr W2.drew hb 41 #[.int .u64 (term : Nat), .int .i64 (v : Nat), .int .u64 (l' : Nat)] ∧ Below w.heap.size w W2.drew) := by
        have k := below_drew (Below.refl W2.heap.size W2)
        exact ⟨H3.out.1.below k, H3.out.2.1.below k, below_drew H3.out.2.2⟩
      clear H3
      have k0 : W2.drew.cell? ⟨jb, 0, none⟩ = some (.pointer (some ⟨p, 0, none⟩)) := X1.out.1.a.cell rfl
      obtain ⟨x0, x1, x2⟩ : W2.drew.cell? ⟨hb, 0, none⟩ = some (.int .u64 (term : Nat)) ∧ W2.drew.cell? ⟨hb, 1, none⟩ = some (.int .i64 (v : Nat)) ∧ W2.drew.cell? ⟨hb, 2, none⟩ = some (.int .u64 (l' : Nat)) := ⟨X1.out.2.1.cell rfl, X1.out.2.1.cell rfl, X1.out.2.1.cell rfl⟩
      generalize hardRec ⟨term, v, l'⟩ = fr at *
      generalize jput d 1 fr = J at *
      obtain ⟨je, jd⟩ := J
      simp only at HA HR4
      go_region_law
        (first | (go_simp; go_at_call 37; refine (HF.out _ X1.out).mono ?_; rintro e w4 ⟨rfl, g4⟩; replace X1 := Lib.hid g4; clear k0 x0 x1 x2 g4; have k0 : w4.cell? ⟨jb, 0, none⟩ = some (.pointer (some ⟨p, 0, none⟩)) := X1.out.1.a.cell rfl) | (go_simp; go_at_call 36; refine (HA.out _ X1.out).mono ?_; rintro e w5 ⟨rfl, g5⟩; have X5 := Lib.hid g5; clear k0 g5 X1))
      all_goals (
        have HX := X5
        clear X5 HA HF
        by_cases h0 : je = 0
        · subst h0
          have HR5 : Hid ((0, { s with h := ⟨term, v, l'⟩ }, jd) = R) := by
            have h := HR4.out
            rw [if_neg (fun h => h rfl)] at h
            exact h
          obtain ⟨F', a1, a2, a3, a4⟩ := HX.out
          obtain ⟨x0, x1, x2⟩ : w5.cell? ⟨hb, 0, none⟩ = some (.int .u64 (term : Nat)) ∧ w5.cell? ⟨hb, 1, none⟩ = some (.int .i64 (v : Nat)) ∧ w5.cell? ⟨hb, 2, none⟩ = some (.int .u64 (l' : Nat)) := ⟨a2.cell rfl, a2.cell rfl, a2.cell rfl⟩
          obtain ⟨y1, y2, y3⟩ : w5.cell? ⟨jb, 1, none⟩ = some (.int .u64 (s.h.term : Nat)) ∧ w5.cell? ⟨jb, 2, none⟩ = some (.int .i64 (s.h.vote : Nat)) ∧ w5.cell? ⟨jb, 3, none⟩ = some (.int .u64 (s.h.life : Nat)) := ⟨a1.a.cell rfl, a1.a.cell rfl, a1.a.cell rfl⟩
          obtain ⟨f1, f2, f3⟩ : w5.frozen? ⟨jb, 1, none⟩ = false ∧ w5.frozen? ⟨jb, 2, none⟩ = false ∧ w5.frozen? ⟨jb, 3, none⟩ = false := ⟨a1.a.frozen 1, a1.a.frozen 2, a1.a.frozen 3⟩
          have HE : Hid (JStep w F jb p cv ev jd { s with h := ⟨term, v, l'⟩ } (((w5.setCell ⟨jb, 1, none⟩ (.int .u64 (term : Nat))).setCell ⟨jb, 2, none⟩ (.int .i64 (v : Nat))).setCell ⟨jb, 3, none⟩ (.int .u64 (l' : Nat)))) := by
            have b1 := a1.set 1 (.int .u64 (term : Nat)) (s' := { s with h := ⟨term, s.h.vote, s.h.life⟩ }) rfl rfl rfl
            have b2 := b1.set 2 (.int .i64 (v : Nat)) (s' := { s with h := ⟨term, v, s.h.life⟩ }) rfl rfl rfl
            have b3 := b2.set 3 (.int .u64 (l' : Nat)) (s' := { s with h := ⟨term, v, l'⟩ }) rfl rfl rfl
            have k : But jb w5 (((w5.setCell ⟨jb, 1, none⟩ (.int .u64 (term : Nat))).setCell ⟨jb, 2, none⟩ (.int .i64 (v : Nat))).setCell ⟨jb, 3, none⟩ (.int .u64 (l' : Nat))) := (((But.refl jb w5).set 1 _).set 2 _).set 3 _
            exact ⟨F', cv, ev, b3, a3.trans (Fr.but k (F := fun i => i = jb) rfl) fun i _ e => .inr (.inl e), a4, .inl rfl, .inl rfl⟩
          clear HX a1 a2 a3 a4 HR4
          go_wp2_with fail
          go_ret
          rw [← HR5.out]
          exact ⟨rfl, HE.out⟩
        · have h0i : ¬ (je : Int) = 0 := by omega
          have HR5 : Hid ((je, s, jd) = R) := by
            have h := HR4.out
            rw [if_pos h0] at h
            exact h
          have HE : Hid (JStep w F jb p cv ev jd s w5) := by
            obtain ⟨F', a1, a2, a3, a4⟩ := HX.out
            exact ⟨F', cv, ev, a1, a3, a4, .inl rfl, .inl rfl⟩
          clear HX HR4
          go_wp2_with fail
          go_ret
          rw [← HR5.out]
          exact ⟨rfl, HE.out⟩)
end Go.Proofs.YteeeakbgofjinaaGreat.jr
/-! JrCp -/
namespace Go.Proofs.YteeeakbgofjinaaGreat.jr
set_option linter.unusedVariables false
open Go.RowKit
open fl (S S_size S_append)
open rw (Arr But below_box bnext below_drew below_drewN Fr)
open dk (PD Step Nu Inv)

theorem sclone_any (s : Bs) (hs : s.length ≤ 281474976710656) (w : World) : Calls Tryz.prog 60 #[.string (S s)] w fun e w' => e = .returned (.string (S s)) ∧ Below w.heap.size w w' :=
  pk.clone_any (S s) w (by rw [S_size]; exact hs)
/-- The copy under way: k entries lie in the new row. -/
structure Cp (w W : World) (g n k : Nat) (l : List EnIn) : Prop where
  a : ∃ cs, Arr W g 70 cs ∧ cs.size = n * 3 ∧ cs.toList.take (k * 3) = rw.cellsG enSh (l.take k)
  b : Below w.heap.size w W
  g : w.heap.size ≤ g
theorem Cp.below {w W W' : World} {g n k : Nat} {l : List EnIn} (h : Cp w W g n k l) (b : Below W.heap.size W W') : Cp w W' g n k l := by
  obtain ⟨⟨cs, h1, h2, h3⟩, h4, h5⟩ := h
  exact ⟨⟨cs, h1.below b, h2, h3⟩, h4.trans (b.mono h4.size), h5⟩
theorem Cp.far {w W W' : World} {g n k q : Nat} {l : List EnIn} (h : Cp w W g n k l) (hq : q ≠ g) (hw : w.heap.size ≤ q) (b : But q W W') : Cp w W' g n k l := by
  obtain ⟨⟨cs, h1, h2, h3⟩, h4, h5⟩ := h
  exact ⟨⟨cs, b.arr h1 (Ne.symm hq), h2, h3⟩, h4.trans (b.below h4.size hw), h5⟩
theorem Cp.cell {w W : World} {g n k : Nat} {l : List EnIn} (h : Cp w W g n k l) (hk : k < n) {j : Nat} (hj : j < 3) : ∃ v, W.cell? ⟨g, k * 3 + j, none⟩ = some v := by
  obtain ⟨⟨cs, h1, h2, h3⟩, h4, h5⟩ := h
  exact ⟨cs[k * 3 + j]'(by omega), h1.cell (Array.getElem?_eq_getElem (by omega))⟩
theorem Cp.frozen {w W : World} {g n k : Nat} {l : List EnIn} (h : Cp w W g n k l) (i : Nat) : W.frozen? ⟨g, i, none⟩ = false := by
  obtain ⟨⟨cs, h1, h2, h3⟩, h4, h5⟩ := h
  exact h1.frozen i
theorem take_three (L : List Value) (m : Nat) (a b c : Value) (h : m + 3 ≤ L.length) : (((L.set m a).set (m + 1) b).set (m + 2) c).take (m + 3) = L.take m ++ [a, b, c] := by
  apply List.ext_getElem?
  intro i
  by_cases hi : i < m + 3
  · rw [List.getElem?_take_of_lt hi]
    rcases Nat.lt_or_ge i m with h1 | h1
    · rw [List.getElem?_set_ne (by omega), List.getElem?_set_ne (by omega), List.getElem?_set_ne (by omega), List.getElem?_append_left (by rw [List.length_take]; omega), List.getElem?_take_of_lt h1]
    · rw [List.getElem?_append_right (by rw [List.length_take]; omega), List.length_take, Nat.min_eq_left (by omega)]
      obtain rfl | rfl | rfl : i = m ∨ i = m + 1 ∨ i = m + 2 := by omega
      · rw [List.getElem?_set_ne (by omega), List.getElem?_set_ne (by omega), List.getElem?_set_self (by omega), Nat.sub_self]; rfl
      · rw [List.getElem?_set_ne (by omega), List.getElem?_set_self (by rw [List.length_set]; omega), show m + 1 - m = 1 by omega]; rfl
      · rw [List.getElem?_set_self (by rw [List.length_set, List.length_set]; omega), show m + 2 - m = 2 by omega]; rfl
  · rw [List.getElem?_eq_none (by rw [List.length_take, List.length_set, List.length_set, List.length_set]; omega), List.getElem?_eq_none (by rw [List.length_append, List.length_take]; simp; omega)]
theorem Cp.store {w W : World} {g n k : Nat} {l : List EnIn} (h : Cp w W g n k l) (hn : n = l.length) (hk : k < l.length) :
    Cp w (((W.setCell ⟨g, k * 3, none⟩ (.int .u64 ((l[k]'hk).term : Nat))).setCell ⟨g, k * 3 + 1, none⟩ (.int .i64 (l[k]'hk).kind)).setCell ⟨g, k * 3 + 2, none⟩ (.string (S (l[k]'hk).data))) g n (k + 1) l := by
  obtain ⟨⟨cs, h1, h2, h3⟩, h4, h5⟩ := h
  have kb : But g W (((W.setCell ⟨g, k * 3, none⟩ (.int .u64 ((l[k]'hk).term : Nat))).setCell ⟨g, k * 3 + 1, none⟩ (.int .i64 (l[k]'hk).kind)).setCell ⟨g, k * 3 + 2, none⟩ (.string (S (l[k]'hk).data))) := (((But.refl g W).set _ _).set _ _).set _ _
  refine ⟨⟨_, ((h1.set _ _).set _ _).set _ _, by simp [h2], ?_⟩, h4.trans (kb.below h4.size h5), h5⟩
  rw [Array.toList_setIfInBounds, Array.toList_setIfInBounds, Array.toList_setIfInBounds, show (k + 1) * 3 = k * 3 + 3 by omega, take_three _ _ _ _ _ (by rw [Array.length_toList]; omega), h3, List.take_succ_eq_append_getElem hk, rw.cellsG_append]
  congr 1
theorem Cp.own {w W : World} {g : Nat} {l : List EnIn} (h : Cp w W g l.length l.length l) (hl : l.length ≤ 1000000000) : rw.Own enSh W w.heap.size (.slice (some ⟨g, 0, none⟩) l.length l.length) l := by
  obtain ⟨⟨cs, h1, h2, h3⟩, h4, h5⟩ := h
  rw [List.take_length] at h3
  exact ⟨rw.cellsG_length enSh l, .inr ⟨g, l.length, cs, rfl, h5, h1, Nat.le_refl _, by unfold maxLen; omega, h2, h3⟩⟩
set_option maxHeartbeats 8000000 in
set_option maxRecDepth 100000 in
theorem copy_any (v : Value) (l : List EnIn) (hl : l.length ≤ 1000000000) (hd : ∀ e ∈ l, e.data.length ≤ 281474976710656) (w : World) (h : rw.Sl enSh w v l) :
    Calls Tryz.prog 74 #[v] w fun e w' => ∃ v', e = .returned v' ∧ rw.Own enSh w' w.heap.size v' l ∧ Below w.heap.size w w' := by
  obtain ⟨la, lc, rfl⟩ := sl_form h
  obtain ⟨i0, hi, hz0, hz1, hz2⟩ := info_parts enSh.hi
  have hmk := run_make (P := Tryz.prog) w 43 70 i0 _ enSh.hu hi hz0 .i64 .i64 (l.length : Int) (l.length : Int) (by omega) (Int.le_refl _) (by rw [hz2]; show (32 : Int) * _ ≤ _; omega) (by omega)
  rw [hz1, Int.toNat_natCast] at hmk
  have HS := Lib.hid h
  have HD := Lib.hid hd
  have C0 : Hid (Cp w (w.alloc (.cells (madeCells (Value.cells enSh.z) (l.length * enSh.k)) 70)) w.heap.size l.length 0 l) :=
    ⟨⟨_, Arr.new w _ _, by rw [size_madeCells]; rfl, by simp [rw.cellsG]⟩, below_box _ _, Nat.le_refl _⟩
  generalize w.alloc (.cells (madeCells (Value.cells enSh.z) (l.length * enSh.k)) 70) = w1 at *
  obtain ⟨g, hg⟩ : ∃ g, w.heap.size = g := ⟨_, rfl⟩
  rw [hg] at hmk C0
  clear h hd hi hz0 hz1 hz2
  go_enter Tryz.func74, Tryz.ntmps74
  go_wp2_with fail
  clear hmk
  go_loopw [11] (fun i wr => ∃ k : Nat, i = .int .i64 (k : Nat) ∧ k ≤ l.length ∧ Hid (Cp w wr g l.length k l))
    (fun i _ => l.length - (intOf i).toNat)
  case atStart => exact ⟨0, rfl, Nat.zero_le _, C0.out⟩
  case round =>
    obtain ⟨k, rfl, hk, HI⟩ := hrel
    by_cases hlt : k < l.length
    · have hki : (k : Int) < (l.length : Int) := by omega
      obtain ⟨b, off, c, e, hb, c0, c1, c2⟩ := slE_at (HS.out.later _ HI.out.b) hlt
      injection e with e1 e2 e3
      subst e1 e3
      obtain ⟨x, hx⟩ : ∃ x, l[k]'hlt = x := ⟨_, rfl⟩
      have hxd : x.data.length ≤ 281474976710656 := HD.out x (hx ▸ List.getElem_mem hlt)
      rw [hx] at c0 c1 c2
      obtain ⟨xt, xk, xd⟩ := x
      simp only at c0 c1 c2 hxd
      obtain ⟨xb, hxb⟩ : ∃ xb, wr.heap.size = xb := ⟨_, rfl⟩
      have hgx : xb ≠ g := by
        obtain ⟨⟨cs, h1, _, _⟩, _, _⟩ := HI.out
        have := h1.lt
        omega
      have hwx : w.heap.size ≤ xb := hxb ▸ HI.out.b.size
      have HB : Hid (Cp w (wr.alloc (.cells #[.int .u64 (xt : Nat), .int .i64 xk, .string (S xd)] 70)) g l.length k l ∧ Arr (wr.alloc (.cells #[.int .u64 (xt : Nat), .int .i64 xk, .string (S xd)] 70)) xb 70 #[.int .u64 (xt : Nat), .int .i64 xk, .string (S xd)]) :=
        ⟨HI.out.below (below_box _ _), hxb ▸ Arr.new wr _ _⟩
      have hC := sclone_any xd hxd (wr.alloc (.cells #[.int .u64 (xt : Nat), .int .i64 xk, .string (S xd)] 70))
      clear HI C0 e2 hb
      go_wp2_with fail
      refine hC.mono ?_
      clear hC c0 c1 c2
      rintro e w5 ⟨rfl, b5⟩
      have H5 := Lib.hid (And.intro (HB.out.1.below b5) (HB.out.2.below b5))
      clear b5 HB hxb
      obtain ⟨x0, x1, x2, f2⟩ : w5.cell? ⟨xb, 0, none⟩ = some (.int .u64 (xt : Nat)) ∧ w5.cell? ⟨xb, 1, none⟩ = some (.int .i64 xk) ∧ w5.cell? ⟨xb, 2, none⟩ = some (.string (S xd)) ∧ w5.frozen? ⟨xb, 2, none⟩ = false := ⟨H5.out.2.cell rfl, H5.out.2.cell rfl, H5.out.2.cell rfl, H5.out.2.frozen 2⟩
      have kb : But xb w5 (w5.setCell ⟨xb, 2, none⟩ (.string (S xd))) := (But.refl xb w5).set 2 _
      have H6 := Lib.hid (And.intro (H5.out.1.far hgx hwx kb) (H5.out.2.set 2 (.string (S xd))))
      clear kb H5
      go_upto_region 6 with (fail)
      clear x0 x1 x2 f2
      generalize w5.setCell ⟨xb, 2, none⟩ (.string (S xd)) = w6 at *
      obtain ⟨x0, x1, x2⟩ : w6.cell? ⟨xb, 0, none⟩ = some (.int .u64 (xt : Nat)) ∧ w6.cell? ⟨xb, 1, none⟩ = some (.int .i64 xk) ∧ w6.cell? ⟨xb, 2, none⟩ = some (.string (S xd)) := ⟨H6.out.2.cell rfl, H6.out.2.cell rfl, H6.out.2.cell rfl⟩
      obtain ⟨y0, z0⟩ := H6.out.1.cell hlt (j := 0) (by decide)
      obtain ⟨y1, z1⟩ := H6.out.1.cell hlt (j := 1) (by decide)
      obtain ⟨y2, z2⟩ := H6.out.1.cell hlt (j := 2) (by decide)
      have f0 := H6.out.1.frozen (k * 3)
      have f1 := H6.out.1.frozen (k * 3 + 1)
      have f2 := H6.out.1.frozen (k * 3 + 2)
      rw [Nat.add_zero] at z0
      have HN := Lib.hid (H6.out.1.store rfl hlt)
      rw [hx] at HN
      clear H6
      go_wp2_with fail
      exact ⟨⟨k + 1, by rw [Int.natCast_add]; rfl, by omega, HN⟩, by simp only [intOf]; omega⟩
    · obtain rfl : k = l.length := by omega
      have hki : ¬ (l.length : Int) < (l.length : Int) := by omega
      go_wp2_with fail
      go_ret
      have ho := HI.out.own hl
      have hb := HI.out.b
      rw [hg] at ho hb
      exact ⟨_, rfl, ho, hb⟩
end Go.Proofs.YteeeakbgofjinaaGreat.jr
/-! JrAp -/
namespace Go.Proofs.YteeeakbgofjinaaGreat.jr
set_option linter.unusedVariables false
open Go.RowKit
open fl (S S_size S_append)
open rw (Arr But below_box bnext below_drew below_drewN Fr)
open dk (PD Step Nu Inv)

theorem ens_in {l : List EnIn} (h : ∀ e ∈ l, MayIn e) : ens (l.map toEn) = l := by
  unfold ens
  rw [List.map_map]
  conv => rhs; rw [← List.map_id l]
  refine List.map_congr_left fun x hx => ?_
  obtain ⟨t, k, d⟩ := x
  have h1 : 1 ≤ k := (h _ hx).1
  show (⟨t, ((k.toNat : Nat) : Int), d⟩ : EnIn) = ⟨t, k, d⟩
  rw [Int.toNat_of_nonneg (by omega)]
theorem Jn.laid {W W' : World} {F : Nat → Prop} {jb p : Nat} {d : dk.Dk} {s : St} {cv ev : Value} (h : Jn W F jb p d s cv ev) {e : Ending} {l' : List En} (k : LaidOut jb 93 (jC p s cv ev) 0 ev (ens l') W e W') :
    e = .returned (.tuple #[]) ∧ JStep W F jb p cv ev d { s with l := l' } W' := by
  obtain ⟨he, v', hA, hO, hF, hN, hf⟩ := k
  have hj : ¬ F jb := away_of h.d (by unfold Away; decide) h.a
  have hev : ∀ i, ev.ownBlock = some i → ¬ F i := fun i hi hFi => by
    obtain ⟨cs, hc⟩ := own_typed h.l hi
    exact away_of h.d away_enSh hc hFi
  refine ⟨he, F, cv, v', ⟨?_, hA, ?_, hO⟩, hF.mono fun i _ hi => hi.elim (fun e => .inr (.inl e)) fun e => .inr (.inr e), Nu.refl _ _, .inl rfl, ?_⟩
  · refine h.d.fr hF (fun i hi => ?_) fun i hi st hst => ?_
    · rintro (e | e)
      · exact hj (e ▸ hi)
      · exact hev i e hi
    · change W.heap[i]? = some (.cells #[.string (S st)] 9 (0, 0)) at hst
      rcases hi with e | e
      · have ha := h.a
        unfold Arr at ha
        rw [e, ha] at hst
        injection hst with h1
        injection h1 with _ h2 _
        exact absurd h2 (by decide)
      · obtain ⟨cs, hc⟩ := own_typed h.l e
        rw [hc] at hst
        injection hst with h1
        injection h1 with _ h2 _
        exact absurd h2 (by decide)
  · refine own_of h.c fun q hq => hF.block q (own_lt h.c hq) ?_
    rintro (e | e)
    · exact own_ne h.c h.a (by decide) (e ▸ hq)
    · exact own_apart h.c h.l (by decide) hq e
  · exact hN
theorem JStep.after {w W W' : World} {F F' : Nat → Prop} {jb p : Nat} {cv ev : Value} {d : dk.Dk} {s : St} (hF : Fr (JG F jb ev) w W) (hN : Nu w F F') (h : JStep W F' jb p cv ev d s W') : JStep w F jb p cv ev d s W' := by
  obtain ⟨F2, c2, e2, g1, g2, g3, g4, g5⟩ := h
  refine ⟨F2, c2, e2, g1, hF.trans g2 fun i hi hk => ?_, hN.trans g3 hF.size, ?_, ?_⟩
  · rcases hk with hk | hk | hk
    · rcases hN i hk with h | h
      · exact .inl h
      · omega
    · exact .inr (.inl hk)
    · exact .inr (.inr hk)
  · exact g4.imp id fun h q hq => Nat.le_trans hF.size (h q hq)
  · exact g5.imp id fun h q hq => Nat.le_trans hF.size (h q hq)
theorem own_some {α : Type} {sh : rw.Sh α} {w : World} {B : Nat} {v : Value} {l : List α} (h : rw.Own sh w B v l) (hne : l ≠ []) : ∃ g c, v = .slice (some ⟨g, 0, none⟩) l.length c := by
  obtain ⟨_, ⟨_, h0⟩ | ⟨g, cap, cur, h1, _⟩⟩ := h
  · exact absurd (List.length_eq_zero_iff.1 h0) hne
  · exact ⟨g, cap, h1⟩
theorem ens_cat (a b : List En) : ens a ++ ens b = ens (a ++ b) := by unfold ens; rw [List.map_append]
theorem ens_take (a : List En) (n : Nat) : (ens a).take n = ens (a.take n) := by unfold ens; rw [List.map_take]
set_option maxHeartbeats 8000000 in
set_option maxRecDepth 100000 in
theorem append_any (F : Nat → Prop) (jb p j : Nat) (d : dk.Dk) (s : St) (cv ev : Value) (f : Nat) (v : Value) (l : List EnIn) (hd : Inv j d) (hj : j ≤ 980) (ho : Ok s) (hsl : s.l.length ≤ 1000000) (hf : f < 18446744073709551616) (hll : l.length ≤ 1000000) (hlt : ∀ e ∈ l, e.term < 18446744073709551616) (w : World) (h : Jn w F jb p d s cv ev) (hv : rw.Sl enSh w v l) (hap : rw.Apt F v l) :
    Calls Tryz.prog 25 #[.pointer (some ⟨jb, 0, none⟩), .int .u64 (f : Nat), v] w fun e w' => e = .returned (.int .i64 ((append s d f l).1 : Nat)) ∧ JStep w F jb p cv ev (append s d f l).2.2 (append s d f l).2.1 w' := by
  have hap := Lib.hid hap
  obtain ⟨va, vc, rfl⟩ := sl_form hv
  obtain ⟨ea, ec, rfl⟩ : ∃ a c, ev = .slice a (ens s.l).length c := h.l.form
  have hb := ho.base
  have hel := ens_length s.l
  obtain ⟨R, hR⟩ : ∃ R, append s d f l = R := ⟨_, rfl⟩
  rw [hR]
  unfold append at hR
  have hT := takes_any jb 1 s.base (ens s.l).length f ea ec (by omega) (by omega) w (h.a.cell rfl) (h.a.cell rfl)
  have hNx := fun W (k : Jn W F jb p d s cv (.slice ea (ens s.l).length ec)) => next_any jb 1 s.base (ens s.l).length ea ec (by omega) (by omega) W (k.a.cell rfl) (k.a.cell rfl)
  have hRt := fun W (k : rw.Sl enSh W (.slice va l.length vc) l) => right_any (.slice va l.length vc) l (by omega) W k
  have HNx := Lib.hid hNx
  have HRt := Lib.hid hRt
  have HH := Lib.hid (And.intro h hv)
  have hlast : s.last = s.base + (ens s.l).length := by unfold St.last; rw [hel]
  clear hNx hRt h hv
  obtain ⟨n, hn⟩ : ∃ n, (ens s.l).length = n := ⟨_, rfl⟩
  have HEN : Hid ((ens s.l).length = n) := hn
  rw [hn] at hel hT HNx HH hlast
  obtain ⟨nx, hnx⟩ : ∃ nx, s.base + 1 + n = nx := ⟨_, rfl⟩
  rw [hnx] at hT HNx
  rw [hn]
  clear hn
  have hl1 : s.last + 1 = nx := by omega
  have hns : s.l.length = n := hel.symm
  rw [hl1] at hR
  clear hlast hel
  by_cases c1 : s.base < f ∧ f ≤ nx
  · rw [decide_eq_true c1] at hT
    by_cases c2 : ∀ x ∈ l, MayIn x
    · rw [if_neg (fun h => h.elim (fun h => by omega) fun h => h.elim (fun h => by omega) fun h => h c2)] at hR
      have HRy : Hid (∀ W, rw.Sl enSh W (.slice va l.length vc) l → Calls Tryz.prog 70 #[.slice va l.length vc] W fun e w' => e = .returned (.bool true) ∧ Below W.heap.size W w') := fun W k => by
        have := HRt.out W k
        rwa [decide_eq_true c2] at this
      clear HRt
      by_cases c3 : l = []
      · rw [if_pos c3] at hR
        subst c3
        by_cases c4 : f = nx
        · rw [if_pos c4] at hR
          have HR := Lib.hid hR
          subst c4
          clear hR c1 c2 hl1 hns hnx hb
          go_enter Tryz.func25, Tryz.ntmps25
          go_wp2_with fail
          refine hT.mono ?_
          rintro e w2 ⟨rfl, q, rfl⟩
          clear hT
          have H2 := Lib.hid (And.intro (HH.out.1.below (below_drewN (Below.refl _ _) q)) (And.intro (HH.out.2.later _ (below_drewN (Below.refl _ _) q)) (below_drewN (Below.refl w.heap.size w) q)))
          have hY := HRy.out _ H2.out.2.1
          go_wp2_with fail
          refine hY.mono ?_
          rintro e w3 ⟨rfl, b3⟩
          have H3 : Hid (Jn w3 F jb p d s cv (.slice ea n ec) ∧ rw.Sl enSh w3 (.slice va ([] : List EnIn).length vc) [] ∧ Below w.heap.size w w3) := ⟨H2.out.1.below b3, H2.out.2.1.later _ b3, H2.out.2.2.trans (b3.mono (by simp))⟩
          clear hY b3 H2 HRy
          have hN := HNx.out _ H3.out.1
          go_wp2_with fail
          refine hN.mono ?_
          rintro e w4 ⟨rfl, q4, rfl⟩
          have HE : Hid (∀ r, (r, s, d) = R → (Value.int .i64 (r : Nat)) = .int .i64 (R.1 : Nat) ∧ JStep w F jb p cv (.slice ea n ec) R.2.2 R.2.1 (w3.drewN q4)) := fun r e => by
            rw [← e]
            exact ⟨rfl, HH.out.1.same (below_drewN H3.out.2.2 q4)⟩
          clear hN H3
          go_wp2_with fail
          go_ret
          exact ⟨by rw [← (HE.out 0 HR.out).1]; rfl, (HE.out 0 HR.out).2⟩
        · rw [if_neg c4] at hR
          have HR := Lib.hid hR
          have hfi : ¬ (f : Int) = (nx : Int) := by omega
          have hfb : ((f : Int) != (nx : Int)) = true := by simp; omega
          clear hR c1 c2 hl1 hns hnx hb c4
          go_enter Tryz.func25, Tryz.ntmps25
          go_wp2_with fail
          refine hT.mono ?_
          rintro e w2 ⟨rfl, q, rfl⟩
          clear hT
          have H2 := Lib.hid (And.intro (HH.out.1.below (below_drewN (Below.refl _ _) q)) (And.intro (HH.out.2.later _ (below_drewN (Below.refl _ _) q)) (below_drewN (Below.refl w.heap.size w) q)))
          have hY := HRy.out _ H2.out.2.1
          go_wp2_with fail
          refine hY.mono ?_
          rintro e w3 ⟨rfl, b3⟩
          have H3 : Hid (Jn w3 F jb p d s cv (.slice ea n ec) ∧ rw.Sl enSh w3 (.slice va ([] : List EnIn).length vc) [] ∧ Below w.heap.size w w3) := ⟨H2.out.1.below b3, H2.out.2.1.later _ b3, H2.out.2.2.trans (b3.mono (by simp))⟩
          clear hY b3 H2 HRy
          have hN := HNx.out _ H3.out.1
          go_wp2_with fail
          refine hN.mono ?_
          rintro e w4 ⟨rfl, q4, rfl⟩
          have HE : Hid (∀ r, (r, s, d) = R → (Value.int .i64 (r : Nat)) = .int .i64 (R.1 : Nat) ∧ JStep w F jb p cv (.slice ea n ec) R.2.2 R.2.1 (w3.drewN q4)) := fun r e => by
            rw [← e]
            exact ⟨rfl, HH.out.1.same (below_drewN H3.out.2.2 q4)⟩
          clear hN H3
          go_wp2_with fail
          go_ret
          exact ⟨by rw [← (HE.out 1 HR.out).1]; rfl, (HE.out 1 HR.out).2⟩
      · rw [if_neg c3] at hR
        have HR := Lib.hid hR
        have hl0 : ¬ (l.length : Int) = 0 := by
          intro e
          exact c3 (List.length_eq_zero_iff.1 (by omega))
        have HC := Lib.hid (And.intro c1 (And.intro c2 (And.intro c3 (And.intro hb (And.intro hns hnx)))))
        clear hR c1 c2 hl1 hns hnx hb
        go_enter Tryz.func25, Tryz.ntmps25
        go_wp2_with fail
        refine hT.mono ?_
        rintro e w2 ⟨rfl, q, rfl⟩
        clear hT
        have H2 := Lib.hid (And.intro (HH.out.1.below (below_drewN (Below.refl _ _) q)) (And.intro (HH.out.2.later _ (below_drewN (Below.refl _ _) q)) (below_drewN (Below.refl w.heap.size w) q)))
        have hY := HRy.out _ H2.out.2.1
        go_wp2_with fail
        refine hY.mono ?_
        rintro e w3 ⟨rfl, b3⟩
        have H3 : Hid (Jn w3 F jb p d s cv (.slice ea n ec) ∧ rw.Sl enSh w3 (.slice va l.length vc) l ∧ Below w.heap.size w w3) := ⟨H2.out.1.below b3, H2.out.2.1.later _ b3, H2.out.2.2.trans (b3.mono (by simp))⟩
        clear hY b3 H2 HRy
        clear HNx
        have HEF : Hid (∀ W, Jn W F jb p d s cv (.slice ea n ec) ∧ rw.Sl enSh W (.slice va l.length vc) l ∧ Below w.heap.size w W → Calls Tryz.prog 72 #[.int .u64 (f : Nat), .slice va l.length vc] W fun e w' => ∃ q, e = .returned (.string (S q)) ∧ Cutt q (entRecs f (l.map toEn)) ∧ Jn w' F jb p d s cv (.slice ea n ec) ∧ rw.Sl enSh w' (.slice va l.length vc) l ∧ Below w.heap.size w w') := fun W hW =>
          (entryFrames_any f (.slice va l.length vc) l HC.out.2.2.1 (fun e he => ⟨HC.out.2.1 e he, hlt e he⟩) (by have := HC.out; omega) (by omega) W hW.2.1).mono fun e w' ⟨q, h1, h2, h3⟩ => ⟨q, h1, h2, hW.1.below h3, hW.2.1.later _ h3, hW.2.2.trans (h3.mono hW.2.2.size)⟩
        have HAd : Hid (∀ W q, Cutt q (entRecs f (l.map toEn)) → Jn W F jb p d s cv (.slice ea n ec) ∧ rw.Sl enSh W (.slice va l.length vc) l ∧ Below w.heap.size w W → Calls Tryz.prog 36 #[.pointer (some ⟨p, 0, none⟩), .string (S q)] W fun e w' => e = .returned (.int .i64 ((jput d 1 (entRecs f (l.map toEn))).1 : Nat)) ∧
            ∃ F', Jn w' F' jb p (jput d 1 (entRecs f (l.map toEn))).2 s cv (.slice ea n ec) ∧ rw.Sl enSh w' (.slice va l.length vc) l ∧ Fr (JG F jb (.slice ea n ec)) w w' ∧ Nu w F F') := fun W q hq hW => by
          have hj2 := jput_cut (d := d) hd.r (k := 1) (.inl rfl) hq
          refine (add_any F p j d q hd (by omega) (by have := hq.1; omega) W hW.1.d).mono ?_
          rintro e w' ⟨rfl, F', g1, g2, g3⟩
          rw [hj2] at g1 ⊢
          exact ⟨rfl, F', ⟨g1, arr_step hW.1.d g2 (by unfold Away; decide) hW.1.a, own_step hW.1.d g2 away_noSh hW.1.c, own_step hW.1.d g2 away_enSh hW.1.l⟩, sl_step g2 hap.out hW.2.1,
            ((Fr.of_below hW.2.2).trans g2 fun _ _ hF => hF).mono fun _ _ hF => .inl hF, fun k hk => (g3 k hk).imp id fun hh => Nat.le_trans hW.2.2.size hh⟩
        clear hd ho
        generalize jput d 1 (entRecs f (l.map toEn)) = J at *
        obtain ⟨je, jd⟩ := J
        simp only at HAd HR
        clear HH
        go_upto_region 7 with (fail)
        have X1 : Hid (Jn w3.drew F jb p d s cv (.slice ea n ec) ∧ rw.Sl enSh w3.drew (.slice va l.length vc) l ∧ Below w.heap.size w w3.drew) := by
          have k := below_drew (Below.refl w3.heap.size w3)
          exact ⟨H3.out.1.below k, H3.out.2.1.later _ k, below_drew H3.out.2.2⟩
        clear H3
        have k0 : w3.drew.cell? ⟨jb, 0, none⟩ = some (.pointer (some ⟨p, 0, none⟩)) := X1.out.1.a.cell rfl
        go_region_law
          (first | (go_simp; go_at_call 72; refine (HEF.out _ X1.out).mono ?_; rintro e w4 ⟨q4, rfl, hq4, g4⟩; replace X1 := Lib.hid g4; have HQ := Lib.hid hq4; clear k0 g4 hq4; have k0 : w4.cell? ⟨jb, 0, none⟩ = some (.pointer (some ⟨p, 0, none⟩)) := X1.out.1.a.cell rfl) | (go_simp; go_at_call 36; refine (HAd.out _ _ HQ.out X1.out).mono ?_; rintro e w5 ⟨rfl, g5⟩; have X5 := Lib.hid g5; clear k0 g5 X1 HQ))
        all_goals (
          have HX := X5
          clear X5 HAd HEF
          by_cases h0 : je = 0
          · subst h0
            have HR5 : Hid ((0, { s with l := s.l.take (f - s.base - 1) ++ l.map toEn }, jd) = R) := by
              have h := HR.out
              rw [if_neg (fun h => h rfl)] at h
              exact h
            obtain ⟨F', a1, a2, a3, a4⟩ := HX.out
            have hCp := copy_any (.slice va l.length vc) l (by omega) (fun e he => by have := (HC.out.2.1 e he).2.2; omega) _ (a2.later _ (below_drew (Below.refl _ _)))
            have HLy : Hid (∀ W g c, Jn W F' jb p jd s cv (.slice ea n ec) → rw.Sl enSh W (.slice (some ⟨g, 0, none⟩) l.length c) l → Calls Tryz.prog 73 #[.pointer (some ⟨jb, 1, none⟩), .int .u64 (f : Nat), .slice (some ⟨g, 0, none⟩) l.length c] W fun e w' => e = .returned (.tuple #[]) ∧ JStep W F' jb p cv (.slice ea n ec) jd { s with l := s.l.take (f - s.base - 1) ++ l.map toEn } w') := fun W g c h1 h2 => by
              have hy := lay_any jb 93 (by decide) (jC p s cv (.slice ea n ec)) 0 (.slice ea n ec) s.base f (ens s.l) l (by rw [HEN.out]; exact ⟨HC.out.1.1, by rw [HC.out.2.2.2.2.2]; exact HC.out.1.2⟩) HC.out.2.2.2.1 (by rw [ens_length]; omega) ⟨g, 0, none⟩ c HC.out.2.2.1 (by omega) W h1.a rfl rfl h1.l h2 (Nat.zero_le _)
              refine hy.mono fun e w' hh => ?_
              have e1 : (ens s.l).take (f - s.base - 1) ++ l = ens (s.l.take (f - s.base - 1) ++ l.map toEn) := by rw [← ens_cat, ens_in HC.out.2.1, ens_take]
              rw [e1] at hh
              exact h1.laid hh
            have HA := Lib.hid (And.intro a1 (And.intro a3 a4))
            clear HX a1 a2 a3 a4 HR
            go_upto_region 10 with (fail)
            go_region_law
              (first | (go_simp; go_at_call 74; refine hCp.mono ?_; rintro e w6 ⟨v6, rfl, o6, b6⟩; obtain ⟨g6, c6, rfl⟩ := own_some o6 c3; have b56 : Below w5.heap.size w5 w6 := (below_drew (Below.refl _ _)).trans b6; have hLy := HLy.out w6 g6 c6 (HA.out.1.below b56) o6.sl; have B6 := Lib.hid b56; clear o6 b6 b56 hCp) | (go_simp; go_at_call 73; refine hLy.mono ?_; rintro e w7 ⟨rfl, s7⟩; have S7 := Lib.hid s7; clear s7 hLy))
            all_goals (
              have HE : Hid (JStep w F jb p cv (.slice ea n ec) jd { s with l := s.l.take (f - s.base - 1) ++ l.map toEn } w7) := JStep.after (HA.out.2.1.then_below B6.out) HA.out.2.2 S7.out
              clear S7 B6 HA HLy
              go_wp2_with fail
              go_ret
              rw [← HR5.out]
              exact ⟨rfl, HE.out⟩)
          · have h0i : ¬ (je : Int) = 0 := by omega
            have HR5 : Hid ((je, s, jd) = R) := by
              have h := HR.out
              rw [if_pos h0] at h
              exact h
            have HE : Hid (JStep w F jb p cv (.slice ea n ec) jd s w5) := by
              obtain ⟨F', a1, a2, a3, a4⟩ := HX.out
              exact ⟨F', cv, .slice ea n ec, a1, a3, a4, .inl rfl, .inl rfl⟩
            clear HX HR
            go_wp2_with fail
            go_ret
            rw [← HR5.out]
            exact ⟨rfl, HE.out⟩)
    · rw [if_pos (.inr (.inr c2))] at hR
      have HR := Lib.hid hR
      have HRn : Hid (∀ W, rw.Sl enSh W (.slice va l.length vc) l → Calls Tryz.prog 70 #[.slice va l.length vc] W fun e w' => e = .returned (.bool false) ∧ Below W.heap.size W w') := fun W k => by
        have := HRt.out W k
        rwa [decide_eq_false c2] at this
      clear HRt HNx hR c1 c2 hl1 hns hnx hb
      go_enter Tryz.func25, Tryz.ntmps25
      go_wp2_with fail
      refine hT.mono ?_
      rintro e w2 ⟨rfl, q, rfl⟩
      clear hT
      have H2 := Lib.hid (And.intro (HH.out.1.below (below_drewN (Below.refl _ _) q)) (And.intro (HH.out.2.later _ (below_drewN (Below.refl _ _) q)) (below_drewN (Below.refl w.heap.size w) q)))
      have hY := HRn.out _ H2.out.2.1
      go_wp2_with fail
      refine hY.mono ?_
      rintro e w3 ⟨rfl, b3⟩
      have HE : Hid ((1, s, d) = R ∧ JStep w F jb p cv (.slice ea n ec) d s w3) := ⟨HR.out, HH.out.1.same (H2.out.2.2.trans (b3.mono (by simp)))⟩
      clear hY b3 H2 HRn HR
      go_wp2_with fail
      go_ret
      rw [← HE.out.1]
      exact ⟨rfl, HE.out.2⟩
  · rw [decide_eq_false c1] at hT
    rw [if_pos ((Nat.lt_or_ge s.base f).elim (fun h => .inr (.inl (by omega))) fun h => .inl h)] at hR
    have HR := Lib.hid hR
    clear HRt HNx hR c1 hl1 hns hnx hb
    go_enter Tryz.func25, Tryz.ntmps25
    go_wp2_with fail
    refine hT.mono ?_
    rintro e w2 ⟨rfl, q, rfl⟩
    clear hT
    have H2 := Lib.hid (And.intro (HH.out.1.below (below_drewN (Below.refl _ _) q)) (And.intro (HH.out.2.later _ (below_drewN (Below.refl _ _) q)) (below_drewN (Below.refl w.heap.size w) q)))
    have HE : Hid ((1, s, d) = R ∧ JStep w F jb p cv (.slice ea n ec) d s (w.drewN q)) := ⟨HR.out, HH.out.1.same H2.out.2.2⟩
    clear H2 HR
    go_wp2_with fail
    go_ret
    rw [← HE.out.1]
    exact ⟨rfl, HE.out.2⟩
end Go.Proofs.YteeeakbgofjinaaGreat.jr
/-! JrLg -/
namespace Go.Proofs.YteeeakbgofjinaaGreat.jr
set_option linter.unusedVariables false
open Go.RowKit
open fl (S S_size S_append)
open rw (Arr But below_box bnext below_drew below_drewN Fr)
open dk (PD Step Nu Inv)

theorem own_empty (w : World) : rw.Own noSh (w.alloc (.cells #[] 3)) w.heap.size (.slice (some ⟨w.heap.size, 0, none⟩) 0 0) [] :=
  ⟨rfl, .inr ⟨w.heap.size, 0, #[], rfl, Nat.le_refl _, Arr.new w _ _, Nat.le_refl _, Nat.zero_le _, rfl, rfl⟩⟩
set_option maxHeartbeats 4000000 in
set_option maxRecDepth 100000 in
theorem iclone_any (v : Value) (l : List Int) (hl : l.length ≤ 1000000000) (w : World) (h : rw.Sl noSh w v l) :
    Calls Tryz.prog 104 #[v] w fun e w' => ∃ v', e = .returned v' ∧ rw.Own noSh w' w.heap.size v' l ∧ Below w.heap.size w w' := by
  have h0 := h
  obtain ⟨a, c, rfl, hc, hr, hn⟩ := h
  have heq := run_eql_slice_nil (P := Tryz.prog) w 42 3 a l.length c Tryz.underlying42
  cases a with
  | none =>
    have hc0 := hn rfl
    subst hc0
    have hl0 : l = [] := List.length_eq_zero_iff.1 (by omega)
    subst hl0
    have heq2 : (binOp .eql 42 (.slice none 0 0) (.slice none 0 0)).run Tryz.prog w = .ok (.bool true) w := heq
    clear h0 hr hn heq
    go_enter Tryz.func104, Tryz.ntmps104
    go_wp2_with fail
    exact bodyPost_ret (v := .slice none 0 0) (by simp [results, Tryz.results104]) rfl ⟨_, rfl, rw.Own.nil _ _ _, Below.refl _ _⟩
  | some ad =>
    have k := below_box w (.cells #[] 3)
    obtain ⟨v', w', g1, g2, g3, g4⟩ := rw.append_own noSh w.heap.size _ [] l _ (by simp; omega) _ (own_empty w) k.size (h0.later _ k)
    rw [List.nil_append] at g2
    have HE : Hid (rw.Own noSh w' w.heap.size v' l ∧ Below w.heap.size w w') := ⟨g2, k.trans g3⟩
    have HR := Lib.hid g1
    clear h0 hr hn g1 g2 g3 g4 k
    go_enter Tryz.func104, Tryz.ntmps104
    go_wp2_with (at_builtin; refine rw.wpList_append_at _ _ _ rfl rfl _ _ _ _ rfl rfl HR.out ?_)
    go_ret
    exact ⟨_, rfl, HE.out.1, HE.out.2⟩

def lgC (base bterm : Nat) (cv ev : Value) : Array Value := #[.int .u64 (base : Nat), .int .u64 (bterm : Nat), cv, ev]
theorem results_lg {w : World} {fn : Func} {tmps : Array Value} {rb : Nat} {base bterm : Nat} {cv ev : Value} (h : fn.results = #[.cell 2 45]) (h2 : tmps[2]? = some (.pointer (some ⟨rb, 0, none⟩)))
    (hC : Arr w rb 45 (lgC base bterm cv ev)) :
    (results fn tmps).run Tryz.prog w = .ok (.agg (lgC base bterm cv ev)) w := by
  have z0 := hC.cell (j := 0) rfl
  have z1 := hC.cell (j := 1) rfl
  have z2 := hC.cell (j := 2) rfl
  have z3 := hC.cell (j := 3) rfl
  simp [results, h, h2, go_sem, z0, z1, z2, z3, lgC]
/-- A log handed out: its rows are new. -/
def LogOut (w : World) (base bterm : Nat) (c : List Int) (l : List EnIn) (e : Ending) (w' : World) : Prop :=
  ∃ cv ev, e = .returned (.agg (lgC base bterm cv ev)) ∧ rw.Own noSh w' w.heap.size cv c ∧ rw.Own enSh w' w.heap.size ev l ∧ Below w.heap.size w w'
def layL (W : World) (rb : Nat) (base bterm : Nat) (cv ev : Value) : World := (((W.setCell ⟨rb, 0, none⟩ (.int .u64 (base : Nat))).setCell ⟨rb, 1, none⟩ (.int .u64 (bterm : Nat))).setCell ⟨rb, 2, none⟩ cv).setCell ⟨rb, 3, none⟩ ev
theorem layL_but (W : World) (rb : Nat) (base bterm : Nat) (cv ev : Value) : But rb W (layL W rb base bterm cv ev) := ((((But.refl rb W).set 0 _).set 1 _).set 2 _).set 3 _
theorem layL_arr {W : World} {rb : Nat} {t : TypeId} {a0 a1 a2 a3 cv ev : Value} {base bterm : Nat} (h : Arr W rb t #[a0, a1, a2, a3]) : Arr (layL W rb base bterm cv ev) rb t (lgC base bterm cv ev) := (((h.set 0 _).set 1 _).set 2 _).set 3 _
/-- The copy of a log under way: the box of what came in, the result's. -/
structure Lo (w W : World) (base bterm : Nat) (cv ev : Value) (c : List Int) (l : List EnIn) : Prop where
  o : rw.Off w.heap.size ev l
  g : Arr W w.heap.size 45 (lgC base bterm cv ev)
  r : Arr W (w.heap.size + 1) 45 #[.int .u64 0, .int .u64 0, .slice none 0 0, .slice none 0 0]
  c : rw.Sl noSh W cv c
  l : rw.Sl enSh W ev l
  b : Below w.heap.size w W
theorem Lo.below {w W W' : World} {base bterm : Nat} {cv ev : Value} {c : List Int} {l : List EnIn} (h : Lo w W base bterm cv ev c l) (k : Below W.heap.size W W') : Lo w W' base bterm cv ev c l := ⟨h.o, h.g.below k, h.r.below k, h.c.later _ k, h.l.later _ k, h.b.trans (k.mono h.b.size)⟩
/-- .. its members are copied. -/
structure Lo2 (w W : World) (base bterm : Nat) (cv ev : Value) (c : List Int) (l : List EnIn) : Prop where
  g : Arr W w.heap.size 45 (lgC base bterm cv ev)
  r : Arr W (w.heap.size + 1) 45 #[.int .u64 0, .int .u64 0, .slice none 0 0, .slice none 0 0]
  c : rw.Own noSh W w.heap.size cv c
  l : rw.Sl enSh W ev l
  b : Below w.heap.size w W
theorem Lo2.below {w W W' : World} {base bterm : Nat} {cv ev : Value} {c : List Int} {l : List EnIn} (h : Lo2 w W base bterm cv ev c l) (k : Below W.heap.size W W') : Lo2 w W' base bterm cv ev c l := ⟨h.g.below k, h.r.below k, h.c.below _ k, h.l.later _ k, h.b.trans (k.mono h.b.size)⟩
theorem Lo.two {w W : World} {base bterm : Nat} {cv ev u : Value} {c : List Int} {l : List EnIn} (h : Lo w W base bterm cv ev c l) (o : rw.Own noSh W w.heap.size u c) : Lo2 w (W.setCell ⟨w.heap.size, 2, none⟩ u) base bterm u ev c l := by
  have k : But w.heap.size W (W.setCell ⟨w.heap.size, 2, none⟩ u) := (But.refl _ W).set 2 u
  exact ⟨h.g.set 2 u, k.arr h.r (by omega), own_but o h.g (by decide) k, rw.Sl.but enSh h.l k h.o, h.b.trans (k.below h.b.size (Nat.le_refl _))⟩
/-- .. its entries, too. -/
structure Lo3 (w W : World) (base bterm : Nat) (cv ev : Value) (c : List Int) (l : List EnIn) : Prop where
  g : Arr W w.heap.size 45 (lgC base bterm cv ev)
  r : Arr W (w.heap.size + 1) 45 #[.int .u64 0, .int .u64 0, .slice none 0 0, .slice none 0 0]
  c : rw.Own noSh W w.heap.size cv c
  l : rw.Own enSh W w.heap.size ev l
  b : Below w.heap.size w W
theorem Lo2.three {w W : World} {base bterm : Nat} {cv ev u : Value} {c : List Int} {l : List EnIn} (h : Lo2 w W base bterm cv ev c l) (o : rw.Own enSh W w.heap.size u l) : Lo3 w (W.setCell ⟨w.heap.size, 3, none⟩ u) base bterm cv u c l := by
  have k : But w.heap.size W (W.setCell ⟨w.heap.size, 3, none⟩ u) := (But.refl _ W).set 3 u
  exact ⟨h.g.set 3 u, k.arr h.r (by omega), own_but h.c h.g (by decide) k, own_but o h.g (by decide) k, h.b.trans (k.below h.b.size (Nat.le_refl _))⟩
theorem Lo3.done {w W : World} {base bterm : Nat} {cv ev : Value} {c : List Int} {l : List EnIn} (h : Lo3 w W base bterm cv ev c l) :
    Arr (layL W (w.heap.size + 1) base bterm cv ev) (w.heap.size + 1) 45 (lgC base bterm cv ev) ∧ LogOut w base bterm c l (.returned (.agg (lgC base bterm cv ev))) (layL W (w.heap.size + 1) base bterm cv ev) := by
  have k := layL_but W (w.heap.size + 1) base bterm cv ev
  exact ⟨layL_arr h.r, _, _, rfl, own_but h.c h.r (by decide) k, own_but h.l h.r (by decide) k, h.b.trans (k.below h.b.size (by omega))⟩
set_option maxHeartbeats 8000000 in
set_option maxRecDepth 100000 in
theorem copyLog_any (base bterm : Nat) (cv ev : Value) (c : List Int) (l : List EnIn) (hc : c.length ≤ 1000000000) (hl : l.length ≤ 1000000000) (hd : ∀ e ∈ l, e.data.length ≤ 281474976710656) (w : World) (h1 : rw.Sl noSh w cv c) (h2 : rw.Sl enSh w ev l) :
    Calls Tryz.prog 78 #[.agg #[.int .u64 (base : Nat), .int .u64 (bterm : Nat), cv, ev]] w (LogOut w base bterm c l) := by
  obtain ⟨ca, cc, rfl⟩ := sl_form h1
  obtain ⟨ea, ec, rfl⟩ := sl_form h2
  have H0 : Hid (Lo w ((w.alloc (.cells #[.int .u64 (base : Nat), .int .u64 (bterm : Nat), .slice ca c.length cc, .slice ea l.length ec] 45)).alloc (.cells #[.int .u64 0, .int .u64 0, .slice none 0 0, .slice none 0 0] 45)) base bterm (.slice ca c.length cc) (.slice ea l.length ec) c l) := by
    have k1 := below_box w (.cells #[.int .u64 (base : Nat), .int .u64 (bterm : Nat), .slice ca c.length cc, .slice ea l.length ec] 45)
    have ho : rw.Off w.heap.size (.slice ea l.length ec) l := rw.Off.new enSh h2 (Nat.le_refl _)
    have a1 := Arr.new w 45 #[.int .u64 (base : Nat), .int .u64 (bterm : Nat), .slice ca c.length cc, .slice ea l.length ec]
    have hs : (w.alloc (.cells #[.int .u64 (base : Nat), .int .u64 (bterm : Nat), .slice ca c.length cc, .slice ea l.length ec] 45)).heap.size = w.heap.size + 1 := by simp
    have h1' := h1.later _ k1
    have h2' := h2.later _ k1
    generalize w.alloc (.cells #[.int .u64 (base : Nat), .int .u64 (bterm : Nat), .slice ca c.length cc, .slice ea l.length ec] 45) = W at *
    have k2 := below_box W (.cells #[.int .u64 0, .int .u64 0, .slice none 0 0, .slice none 0 0] 45)
    have a2 := Arr.new W 45 #[.int .u64 0, .int .u64 0, .slice none 0 0, .slice none 0 0]
    rw [hs] at a2
    exact ⟨ho, a1.below k2, a2, h1'.later _ k2, h2'.later _ k2, k1.trans (k2.mono k1.size)⟩
  have HD := Lib.hid hd
  clear h1 h2 hd
  obtain ⟨n1, hn1⟩ : ∃ n, c.length = n := ⟨_, rfl⟩
  obtain ⟨n2, hn2⟩ : ∃ n, l.length = n := ⟨_, rfl⟩
  have HN : Hid (c.length = n1 ∧ l.length = n2) := ⟨hn1, hn2⟩
  rw [hn1, hn2] at H0 ⊢
  clear hn1 hn2
  go_enter Tryz.func78, Tryz.ntmps78
  go_upto_region 1 with (fail)
  generalize (w.alloc (.cells #[.int .u64 (base : Nat), .int .u64 (bterm : Nat), .slice ca n1 cc, .slice ea n2 ec] 45)).alloc (.cells #[.int .u64 0, .int .u64 0, .slice none 0 0, .slice none 0 0] 45) = W0 at *
  have hC := iclone_any (.slice ca n1 cc) c hc W0 H0.out.c
  obtain ⟨k2, f2⟩ : W0.cell? ⟨w.heap.size, 2, none⟩ = some (.slice ca n1 cc) ∧ W0.frozen? ⟨w.heap.size, 2, none⟩ = false := ⟨H0.out.g.cell rfl, H0.out.g.frozen 2⟩
  go_wp2_with fail
  refine hC.mono ?_
  clear hC k2 f2
  rintro e w2 ⟨u2, rfl, o2, b2⟩
  have H2 := Lib.hid (H0.out.below b2)
  have O2 := own_lower o2 H0.out.b.size
  obtain ⟨k2, f2⟩ : w2.cell? ⟨w.heap.size, 2, none⟩ = some (.slice ca n1 cc) ∧ w2.frozen? ⟨w.heap.size, 2, none⟩ = false := ⟨H2.out.g.cell rfl, H2.out.g.frozen 2⟩
  have H3 := Lib.hid (H2.out.two O2)
  obtain ⟨ca2, cc2, rfl⟩ : ∃ a c', u2 = .slice a c.length c' := o2.form
  rw [HN.out.1] at H3 ⊢
  clear o2 b2 O2 H2 H0
  go_upto_region 2 with (fail)
  clear k2 f2
  generalize w2.setCell ⟨w.heap.size, 2, none⟩ (.slice ca2 n1 cc2) = W3 at *
  have hE := copy_any (.slice ea n2 ec) l hl HD.out W3 H3.out.l
  obtain ⟨k3, f3⟩ : W3.cell? ⟨w.heap.size, 3, none⟩ = some (.slice ea n2 ec) ∧ W3.frozen? ⟨w.heap.size, 3, none⟩ = false := ⟨H3.out.g.cell rfl, H3.out.g.frozen 3⟩
  go_wp2_with fail
  refine hE.mono ?_
  clear hE k3 f3
  rintro e w4 ⟨u4, rfl, o4, b4⟩
  have H4 := Lib.hid (H3.out.below b4)
  have O4 := own_lower o4 H3.out.b.size
  obtain ⟨k3, f3⟩ : w4.cell? ⟨w.heap.size, 3, none⟩ = some (.slice ea n2 ec) ∧ w4.frozen? ⟨w.heap.size, 3, none⟩ = false := ⟨H4.out.g.cell rfl, H4.out.g.frozen 3⟩
  have H5 := Lib.hid (H4.out.three O4)
  obtain ⟨ea4, ec4, rfl⟩ : ∃ a c', u4 = .slice a l.length c' := o4.form
  rw [HN.out.2] at H5 ⊢
  clear o4 b4 O4 H4 H3
  go_upto_region 3 with (fail)
  clear k3 f3
  generalize w4.setCell ⟨w.heap.size, 3, none⟩ (.slice ea4 n2 ec4) = W5 at *
  obtain ⟨x0, x1, x2, x3⟩ : W5.cell? ⟨w.heap.size, 0, none⟩ = some (.int .u64 (base : Nat)) ∧ W5.cell? ⟨w.heap.size, 1, none⟩ = some (.int .u64 (bterm : Nat)) ∧ W5.cell? ⟨w.heap.size, 2, none⟩ = some (.slice ca2 n1 cc2) ∧ W5.cell? ⟨w.heap.size, 3, none⟩ = some (.slice ea4 n2 ec4) := ⟨H5.out.g.cell rfl, H5.out.g.cell rfl, H5.out.g.cell rfl, H5.out.g.cell rfl⟩
  obtain ⟨y0, y1, y2, y3⟩ : W5.cell? ⟨w.heap.size + 1, 0, none⟩ = some (.int .u64 0) ∧ W5.cell? ⟨w.heap.size + 1, 1, none⟩ = some (.int .u64 0) ∧ W5.cell? ⟨w.heap.size + 1, 2, none⟩ = some (.slice none 0 0) ∧ W5.cell? ⟨w.heap.size + 1, 3, none⟩ = some (.slice none 0 0) := ⟨H5.out.r.cell rfl, H5.out.r.cell rfl, H5.out.r.cell rfl, H5.out.r.cell rfl⟩
  obtain ⟨f0, f1, f2, f3⟩ : W5.frozen? ⟨w.heap.size + 1, 0, none⟩ = false ∧ W5.frozen? ⟨w.heap.size + 1, 1, none⟩ = false ∧ W5.frozen? ⟨w.heap.size + 1, 2, none⟩ = false ∧ W5.frozen? ⟨w.heap.size + 1, 3, none⟩ = false := ⟨H5.out.r.frozen 0, H5.out.r.frozen 1, H5.out.r.frozen 2, H5.out.r.frozen 3⟩
  have HE := Lib.hid H5.out.done
  clear H5
  go_wp2_with fail
  exact bodyPost_ret (results_lg rfl rfl HE.out.1) rfl HE.out.2
end Go.Proofs.YteeeakbgofjinaaGreat.jr
/-! JrTe -/
namespace Go.Proofs.YteeeakbgofjinaaGreat.jr
set_option linter.unusedVariables false
open Go.RowKit
open fl (S S_size S_append)
open rw (Arr But below_box bnext below_drew below_drewN Fr)
open dk (PD Step Nu Inv)

theorem results_hd {w : World} {fn : Func} {tmps : Array Value} {rb : Nat} {a b c : Value} (h : fn.results = #[.cell 2 41]) (h2 : tmps[2]? = some (.pointer (some ⟨rb, 0, none⟩)))
    (hC : Arr w rb 41 #[a, b, c]) : (results fn tmps).run Tryz.prog w = .ok (.agg #[a, b, c]) w := by
  have z0 := hC.cell (j := 0) rfl
  have z1 := hC.cell (j := 1) rfl
  have z2 := hC.cell (j := 2) rfl
  simp [results, h, h2, go_sem, z0, z1, z2]
set_option maxHeartbeats 4000000 in
set_option maxRecDepth 100000 in
theorem hard_get (F : Nat → Prop) (jb p : Nat) (d : dk.Dk) (s : St) (cv ev : Value) (w : World) (h : Jn w F jb p d s cv ev) :
    Calls Tryz.prog 31 #[.pointer (some ⟨jb, 0, none⟩)] w fun e w' => e = .returned (.agg #[.int .u64 (s.h.term : Nat), .int .i64 (s.h.vote : Nat), .int .u64 (s.h.life : Nat)]) ∧ Below w.heap.size w w' := by
  have h1 := h.below (below_box w (.cells #[.int .u64 0, .int .i64 0, .int .u64 0] 41))
  obtain ⟨k1, k2, k3⟩ : (w.alloc (.cells #[.int .u64 0, .int .i64 0, .int .u64 0] 41)).cell? ⟨jb, 1, none⟩ = some (.int .u64 (s.h.term : Nat)) ∧ (w.alloc (.cells #[.int .u64 0, .int .i64 0, .int .u64 0] 41)).cell? ⟨jb, 2, none⟩ = some (.int .i64 (s.h.vote : Nat)) ∧ (w.alloc (.cells #[.int .u64 0, .int .i64 0, .int .u64 0] 41)).cell? ⟨jb, 3, none⟩ = some (.int .u64 (s.h.life : Nat)) := ⟨h1.a.cell rfl, h1.a.cell rfl, h1.a.cell rfl⟩
  clear h h1
  go_enter Tryz.func31, Tryz.ntmps31
  go_wp2_with fail
  exact bodyPost_ret (results_hd rfl rfl (Arr.new w _ _)) rfl ⟨rfl, below_box _ _⟩
set_option maxHeartbeats 4000000 in
set_option maxRecDepth 100000 in
theorem hard_nil (w : World) :
    Calls Tryz.prog 31 #[.pointer none] w fun e w' => e = .returned (.agg #[.int .u64 0, .int .i64 0, .int .u64 0]) ∧ Below w.heap.size w w' := by
  go_enter Tryz.func31, Tryz.ntmps31
  go_wp2_with fail
  exact bodyPost_ret (results_hd rfl rfl (Arr.new w _ _)) rfl ⟨rfl, below_box _ _⟩
set_option maxHeartbeats 4000000 in
set_option maxRecDepth 100000 in
theorem image_get (F : Nat → Prop) (jb p : Nat) (d : dk.Dk) (s : St) (cv ev : Value) (hi : s.image.length ≤ 281474976710656) (w : World) (h : Jn w F jb p d s cv ev) :
    Calls Tryz.prog 33 #[.pointer (some ⟨jb, 0, none⟩)] w fun e w' => e = .returned (.string (S s.image)) ∧ Below w.heap.size w w' := by
  have k8 : w.cell? ⟨jb, 8, none⟩ = some (.string (S s.image)) := h.a.cell rfl
  have hC := sclone_any s.image hi w
  clear h
  go_enter Tryz.func33, Tryz.ntmps33
  go_wp2_with fail
  refine hC.mono ?_
  rintro e w2 ⟨rfl, b2⟩
  have B2 := Lib.hid b2
  clear hC b2 k8
  go_wp2_with fail
  go_ret
  exact ⟨rfl, B2.out⟩
set_option maxHeartbeats 4000000 in
set_option maxRecDepth 100000 in
theorem image_nil (w : World) : Calls Tryz.prog 33 #[.pointer none] w fun e w' => e = .returned (.string (S [])) ∧ Below w.heap.size w w' := by
  go_enter Tryz.func33, Tryz.ntmps33
  go_wp2_with fail
  go_ret
  exact ⟨rfl, Below.refl _ _⟩
set_option maxHeartbeats 4000000 in
set_option maxRecDepth 100000 in
theorem log_get (F : Nat → Prop) (jb p : Nat) (d : dk.Dk) (s : St) (cv ev : Value) (ho : Ok s) (hsl : s.l.length ≤ 1000000000) (hcl : s.conf.length ≤ 1000000000) (w : World) (h : Jn w F jb p d s cv ev) :
    Calls Tryz.prog 28 #[.pointer (some ⟨jb, 0, none⟩)] w (LogOut w s.base s.bterm (ints s.conf) (ens s.l)) := by
  have k := below_box w (.cells #[.int .u64 0, .int .u64 0, .slice none 0 0, .slice none 0 0] 45)
  have h1 := h.below k
  obtain ⟨ca, cc, rfl⟩ : ∃ a c, cv = .slice a (ints s.conf).length c := h.c.form
  obtain ⟨ea, ec, rfl⟩ : ∃ a c, ev = .slice a (ens s.l).length c := h.l.form
  have hG := ens_good ho
  have hCp := copyLog_any s.base s.bterm _ _ (ints s.conf) (ens s.l) (by rw [ints_length]; exact hcl) (by rw [ens_length]; exact hsl) (fun e he => by have := (hG e he).may.2.2; omega) _ (rw.Own.sl noSh h1.c) (rw.Own.sl enSh h1.l)
  obtain ⟨n1, hn1⟩ : ∃ n, (ints s.conf).length = n := ⟨_, rfl⟩
  obtain ⟨n2, hn2⟩ : ∃ n, (ens s.l).length = n := ⟨_, rfl⟩
  rw [hn1, hn2] at h1 hCp
  obtain ⟨rb, hrb⟩ : ∃ rb, w.heap.size = rb := ⟨_, rfl⟩
  have a2 := Arr.new w 45 #[.int .u64 0, .int .u64 0, .slice none 0 0, .slice none 0 0]
  obtain ⟨k4, k5, k6, k7⟩ : (w.alloc (.cells #[.int .u64 0, .int .u64 0, .slice none 0 0, .slice none 0 0] 45)).cell? ⟨jb, 4, none⟩ = some (.int .u64 (s.base : Nat)) ∧ (w.alloc (.cells #[.int .u64 0, .int .u64 0, .slice none 0 0, .slice none 0 0] 45)).cell? ⟨jb, 5, none⟩ = some (.int .u64 (s.bterm : Nat)) ∧ (w.alloc (.cells #[.int .u64 0, .int .u64 0, .slice none 0 0, .slice none 0 0] 45)).cell? ⟨jb, 6, none⟩ = some (.slice ca n1 cc) ∧ (w.alloc (.cells #[.int .u64 0, .int .u64 0, .slice none 0 0, .slice none 0 0] 45)).cell? ⟨jb, 7, none⟩ = some (.slice ea n2 ec) := ⟨h1.a.cell rfl, h1.a.cell rfl, h1.a.cell rfl, h1.a.cell rfl⟩
  have HK : Hid (Below w.heap.size w (w.alloc (.cells #[.int .u64 0, .int .u64 0, .slice none 0 0, .slice none 0 0] 45)) ∧ Arr (w.alloc (.cells #[.int .u64 0, .int .u64 0, .slice none 0 0, .slice none 0 0] 45)) w.heap.size 45 #[.int .u64 0, .int .u64 0, .slice none 0 0, .slice none 0 0]) := ⟨k, a2⟩
  clear h h1 hG a2 k hn1 hn2 hrb
  go_enter Tryz.func28, Tryz.ntmps28
  go_wp2_with fail
  refine hCp.mono ?_
  clear hCp k4 k5 k6 k7
  rintro e w2 ⟨c2, e2, rfl, o1, o2, b2⟩
  have A2 := HK.out.2.below b2
  have B2 := HK.out.1.trans (b2.mono HK.out.1.size)
  have hkk := HK.out.1.size
  have kk := layL_but w2 w.heap.size s.base s.bterm c2 e2
  have HE : Hid (Arr (layL w2 w.heap.size s.base s.bterm c2 e2) w.heap.size 45 (lgC s.base s.bterm c2 e2) ∧ LogOut w s.base s.bterm (ints s.conf) (ens s.l) (.returned (.agg (lgC s.base s.bterm c2 e2))) (layL w2 w.heap.size s.base s.bterm c2 e2)) :=
    ⟨layL_arr A2, _, _, rfl, own_but (own_lower o1 hkk) A2 (by decide) kk, own_but (own_lower o2 hkk) A2 (by decide) kk, B2.trans (kk.below B2.size (Nat.le_refl _))⟩
  obtain ⟨y0, y1, y2, y3⟩ : w2.cell? ⟨w.heap.size, 0, none⟩ = some (.int .u64 0) ∧ w2.cell? ⟨w.heap.size, 1, none⟩ = some (.int .u64 0) ∧ w2.cell? ⟨w.heap.size, 2, none⟩ = some (.slice none 0 0) ∧ w2.cell? ⟨w.heap.size, 3, none⟩ = some (.slice none 0 0) := ⟨A2.cell rfl, A2.cell rfl, A2.cell rfl, A2.cell rfl⟩
  obtain ⟨f0, f1, f2, f3⟩ : w2.frozen? ⟨w.heap.size, 0, none⟩ = false ∧ w2.frozen? ⟨w.heap.size, 1, none⟩ = false ∧ w2.frozen? ⟨w.heap.size, 2, none⟩ = false ∧ w2.frozen? ⟨w.heap.size, 3, none⟩ = false := ⟨A2.frozen 0, A2.frozen 1, A2.frozen 2, A2.frozen 3⟩
  obtain ⟨ca2, cc2, rfl⟩ : ∃ a c', c2 = .slice a (ints s.conf).length c' := o1.form
  obtain ⟨ea2, ec2, rfl⟩ : ∃ a c', e2 = .slice a (ens s.l).length c' := o2.form
  clear A2 B2 kk o1 o2 b2 HK hkk
  unfold lgC
  go_wp2_with fail
  exact bodyPost_ret (results_lg rfl rfl HE.out.1) rfl HE.out.2
set_option maxHeartbeats 4000000 in
set_option maxRecDepth 100000 in
theorem log_nil (w : World) : Calls Tryz.prog 28 #[.pointer none] w (LogOut w 0 0 [] []) := by
  go_enter Tryz.func28, Tryz.ntmps28
  go_wp2_with fail
  exact bodyPost_ret (results_lg (base := 0) (bterm := 0) rfl rfl (Arr.new w _ _)) rfl ⟨_, _, rfl, rw.Own.nil _ _ _, rw.Own.nil _ _ _, below_box _ _⟩
end Go.Proofs.YteeeakbgofjinaaGreat.jr
/-! JrRb -/
namespace Go.Proofs.YteeeakbgofjinaaGreat.jr
set_option linter.unusedVariables false
open Go.RowKit
open fl (S S_size S_append)
open rw (Arr But below_box bnext below_drew below_drewN Fr)
open dk (PD Step Nu Inv)

theorem ints_in {c : List Int} (h : ∀ x ∈ c, 1 ≤ x) : ints (c.map Int.toNat) = c := by
  unfold ints
  rw [List.map_map]
  conv => rhs; rw [← List.map_id c]
  refine List.map_congr_left fun x hx => ?_
  have := h x hx
  show ((x.toNat : Nat) : Int) = x
  omega
theorem rebased_ok {s : St} (h : Ok s) {g : LogIn} {im : Bs} (h1 : MembersIn g.conf) (h2 : g.base ≤ 4611686018427387904) (h3 : im.length ≤ 262144) (h4 : ∀ e ∈ g.l, MayIn e) (h5 : g.bterm < 18446744073709551616) (h6 : ∀ e ∈ g.l, e.term < 18446744073709551616) : Ok (rebased s g im) := by
  refine ⟨h.term, h.vote, h.life, h2, h5, membersIn_nat h1, fun e he => ?_, h3⟩
  obtain ⟨x, hx, rfl⟩ := List.mem_map.1 he
  exact ⟨mayIn_en (h4 x hx), h6 x hx⟩
section
variable {w W W' : World} {F : Nat → Prop} {jb p q : Nat} {d : dk.Dk} {s : St} {cv ev : Value} {t : TypeId} {cs : Array Value}
theorem pd_far (h : PD W F p d) (hq : Arr W q t cs) (ht : Away t) (hs : t ≠ 9) (k : But q W W') : PD W' F p d := by
  have hn : ¬ F q := away_of h ht hq
  refine h.fr (Fr.but k (F := fun i => i = q) rfl) (fun i hi e => hn (e ▸ hi)) fun i e st hst => ?_
  change W.heap[i]? = some (.cells #[.string (S st)] 9 (0, 0)) at hst
  unfold Arr at hq
  rw [e, hq] at hst
  injection hst with h1
  injection h1 with _ h2 _
  exact hs h2
theorem Jn.far (h : Jn W F jb p d s cv ev) (hq : Arr W q t cs) (ht : Away t) (hs : t ≠ 9) (h1 : t ≠ 93) (h2 : t ≠ 3) (h3 : t ≠ 70) (k : But q W W') : Jn W' F jb p d s cv ev := by
  have hne : jb ≠ q := fun e => by
    have ha := h.a
    unfold Arr at ha hq
    rw [e, hq] at ha
    injection ha with g1
    injection g1 with _ g2 _
    exact h1 g2
  exact ⟨pd_far h.d hq ht hs k, k.arr h.a hne, own_but h.c hq h2 k, own_but h.l hq h3 k⟩
end
/-- A Rebase under way. -/
structure Rbs (w W : World) (F F' : Nat → Prop) (jb p gb sb : Nat) (d : dk.Dk) (s s' : St) (cv ev cu eu : Value) (base bterm : Nat) (c : List Int) (l : List EnIn) : Prop where
  ac : rw.Apt F' cu c
  al : rw.Apt F' eu l
  j : Jn W F' jb p d s cv ev
  g : Arr W gb 45 (lgC base bterm cu eu)
  sa : Arr W sb 87 (stC s' cu eu)
  c : rw.Sl noSh W cu c
  l : rw.Sl enSh W eu l
  f : Fr (JG F jb ev) w W
  n : Nu w F F'
  ns : w.heap.size ≤ sb
section
variable {w W W' : World} {F F' : Nat → Prop} {jb p gb sb : Nat} {d d' : dk.Dk} {s s' : St} {cv ev cu eu : Value} {base bterm : Nat} {c : List Int} {l : List EnIn}
theorem Rbs.below (h : Rbs w W F F' jb p gb sb d s s' cv ev cu eu base bterm c l) (k : Below W.heap.size W W') : Rbs w W' F F' jb p gb sb d s s' cv ev cu eu base bterm c l :=
  ⟨h.ac, h.al, h.j.below k, h.g.below k, h.sa.below k, h.c.later _ k, h.l.later _ k, h.f.then_below k, h.n, h.ns⟩
theorem Rbs.step (h : Rbs w W F F' jb p gb sb d s s' cv ev cu eu base bterm c l) (k : Step W F' p d' W') : ∃ F2, Rbs w W' F F2 jb p gb sb d' s s' cv ev cu eu base bterm c l := by
  obtain ⟨F2, h1, h2, h3⟩ := k
  have hd := h.j.d
  have ac : rw.Apt F2 cu c := fun hl q hq hF => (h3 q hF).elim (h.ac hl q hq) fun hge => by have := rw.Sl.lt noSh h.c hl hq; omega
  have al : rw.Apt F2 eu l := fun hl q hq hF => (h3 q hF).elim (h.al hl q hq) fun hge => by have := rw.Sl.lt enSh h.l hl hq; omega
  refine ⟨F2, ac, al, ⟨h1, arr_step hd h2 (by unfold Away; decide) h.j.a, own_step hd h2 away_noSh h.j.c, own_step hd h2 away_enSh h.j.l⟩, arr_step hd h2 (by unfold Away; decide) h.g, arr_step hd h2 (by unfold Away; decide) h.sa, sl_step h2 h.ac h.c, sl_step h2 h.al h.l, h.f.trans h2 fun i hi hk => ?_, h.n.trans h3 h.f.size, h.ns⟩
  rcases h.n i hk with h | h
  · exact .inl h
  · omega
theorem Rbs.jstep (h : Rbs w W F F' jb p gb sb d s s' cv ev cu eu base bterm c l) : JStep w F jb p cv ev d s W := ⟨F', cv, ev, h.j, h.f, h.n, .inl rfl, .inl rfl⟩
end
/-- The new log and image laid into the box. -/
def layG (W : World) (sb : Nat) (base bterm : Nat) (cu eu : Value) (im : Bs) : World := ((((W.setCell ⟨sb, 3, none⟩ (.int .u64 (base : Nat))).setCell ⟨sb, 4, none⟩ (.int .u64 (bterm : Nat))).setCell ⟨sb, 5, none⟩ cu).setCell ⟨sb, 6, none⟩ eu).setCell ⟨sb, 7, none⟩ (.string (S im))
/-- The state laid into the journal. -/
def layJ (W : World) (jb : Nat) (s : St) (cv ev : Value) : World := (((((((W.setCell ⟨jb, 1, none⟩ (.int .u64 (s.h.term : Nat))).setCell ⟨jb, 2, none⟩ (.int .i64 (s.h.vote : Nat))).setCell ⟨jb, 3, none⟩ (.int .u64 (s.h.life : Nat))).setCell ⟨jb, 4, none⟩ (.int .u64 (s.base : Nat))).setCell ⟨jb, 5, none⟩ (.int .u64 (s.bterm : Nat))).setCell ⟨jb, 6, none⟩ cv).setCell ⟨jb, 7, none⟩ ev).setCell ⟨jb, 8, none⟩ (.string (S s.image))
theorem layJ_arr {W : World} {jb p : Nat} {s s' : St} {cv ev cu eu : Value} (h : Arr W jb 93 (jC p s cv ev)) : Arr (layJ W jb s' cu eu) jb 93 (jC p s' cu eu) := by
  have e : ((((((((jC p s cv ev).setIfInBounds 1 (.int .u64 (s'.h.term : Nat))).setIfInBounds 2 (.int .i64 (s'.h.vote : Nat))).setIfInBounds 3 (.int .u64 (s'.h.life : Nat))).setIfInBounds 4 (.int .u64 (s'.base : Nat))).setIfInBounds 5 (.int .u64 (s'.bterm : Nat))).setIfInBounds 6 cu).setIfInBounds 7 eu).setIfInBounds 8 (.string (S s'.image)) = jC p s' cu eu := by simp [jC]
  rw [← e]
  unfold layJ
  exact (((((((h.set 1 _).set 2 _).set 3 _).set 4 _).set 5 _).set 6 _).set 7 _).set 8 _
theorem layJ_but (W : World) (jb : Nat) (s : St) (cv ev : Value) : But jb W (layJ W jb s cv ev) := ((((((((But.refl jb W).set 1 _).set 2 _).set 3 _).set 4 _).set 5 _).set 6 _).set 7 _).set 8 _
theorem layG_but (W : World) (sb : Nat) (base bterm : Nat) (cu eu : Value) (im : Bs) : But sb W (layG W sb base bterm cu eu im) := (((((But.refl sb W).set 3 _).set 4 _).set 5 _).set 6 _).set 7 _
theorem layG_arr {W : World} {sb : Nat} {s' : St} {cu eu c2 e2 : Value} (h : Arr W sb 87 (stC s' cu eu)) : Arr (layG W sb s'.base s'.bterm c2 e2 s'.image) sb 87 (stC s' c2 e2) := by
  have e : (((((stC s' cu eu).setIfInBounds 3 (.int .u64 (s'.base : Nat))).setIfInBounds 4 (.int .u64 (s'.bterm : Nat))).setIfInBounds 5 c2).setIfInBounds 6 e2).setIfInBounds 7 (.string (S s'.image)) = stC s' c2 e2 := by simp [stC]
  rw [← e]
  unfold layG
  exact ((((h.set 3 _).set 4 _).set 5 _).set 6 _).set 7 _
/-- .. behind the copies: the new rows stand in the box. -/
structure Rd3 (w W : World) (F F' : Nat → Prop) (jb p sb : Nat) (d : dk.Dk) (s s' : St) (cv ev c2 e2 : Value) : Prop where
  j : Jn W F' jb p d s cv ev
  sa : Arr W sb 87 (stC s' c2 e2)
  c : rw.Own noSh W w.heap.size c2 (ints s'.conf)
  l : rw.Own enSh W w.heap.size e2 (ens s'.l)
  f : Fr (JG F jb ev) w W
  n : Nu w F F'
section
variable {w W W' : World} {F F' : Nat → Prop} {jb p gb sb : Nat} {d d' : dk.Dk} {s s' : St} {cv ev cu eu c2 e2 : Value} {base bterm : Nat} {c : List Int} {l : List EnIn}
theorem Rbs.lay (h : Rbs w W F F' jb p gb sb d s s' cv ev cu eu base bterm c l) (hc : rw.Own noSh W w.heap.size c2 (ints s'.conf)) (hl : rw.Own enSh W w.heap.size e2 (ens s'.l)) : Rd3 w (layG W sb s'.base s'.bterm c2 e2 s'.image) F F' jb p sb d s s' cv ev c2 e2 := by
  have k := layG_but W sb s'.base s'.bterm c2 e2 s'.image
  exact ⟨h.j.far h.sa (by unfold Away; decide) (by decide) (by decide) (by decide) (by decide) k, layG_arr h.sa, own_but hc h.sa (by decide) k, own_but hl h.sa (by decide) k,
    ⟨k.os.trans h.f.os, k.tape.trans h.f.tape, k.output.trans h.f.output, Nat.le_trans h.f.size k.size, fun i hi hn => (k.block i (Nat.lt_of_lt_of_le hi h.f.size) (by have := h.ns; omega)).trans (h.f.block i hi hn)⟩, h.n⟩
theorem Rd3.done (h : Rd3 w W F F' jb p sb d s s' cv ev c2 e2) : JStep w F jb p cv ev d s' (layJ W jb s' c2 e2) := by
  have k := layJ_but W jb s' c2 e2
  have hn : ¬ F' jb := away_of h.j.d (by unfold Away; decide) h.j.a
  exact ⟨F', c2, e2, ⟨pd_far h.j.d h.j.a (by unfold Away; decide) (by decide) k, layJ_arr h.j.a, own_lower (own_but h.c h.j.a (by decide) k) (Nat.zero_le _), own_lower (own_but h.l h.j.a (by decide) k) (Nat.zero_le _)⟩,
    h.f.trans (Fr.but k (F := fun i => i = jb) rfl) fun i _ e => .inr (.inl e), h.n, .inr fun q hq => (h.c.lt q hq).1, .inr fun q hq => (h.l.lt q hq).1⟩
end
end Go.Proofs.YteeeakbgofjinaaGreat.jr
/-! JrRc -/
namespace Go.Proofs.YteeeakbgofjinaaGreat.jr
set_option linter.unusedVariables false
open Go.RowKit
open fl (S S_size S_append)
open rw (Arr But below_box bnext below_drew below_drewN Fr)
open dk (PD Step Nu Inv)

/-- What came in, in its box. -/
structure Ri (w W : World) (F : Nat → Prop) (jb p gb : Nat) (d : dk.Dk) (s : St) (cv ev cu eu : Value) (base bterm : Nat) (c : List Int) (l : List EnIn) : Prop where
  j : Jn W F jb p d s cv ev
  g : Arr W gb 45 (lgC base bterm cu eu)
  c : rw.Sl noSh W cu c
  l : rw.Sl enSh W eu l
  b : Below w.heap.size w W
theorem Ri.below {w W W' : World} {F : Nat → Prop} {jb p gb : Nat} {d : dk.Dk} {s : St} {cv ev cu eu : Value} {base bterm : Nat} {c : List Int} {l : List EnIn} (h : Ri w W F jb p gb d s cv ev cu eu base bterm c l) (k : Below W.heap.size W W') : Ri w W' F jb p gb d s cv ev cu eu base bterm c l :=
  ⟨h.j.below k, h.g.below k, h.c.later _ k, h.l.later _ k, h.b.trans (k.mono h.b.size)⟩
theorem Ri.cells {w W : World} {F : Nat → Prop} {jb p gb : Nat} {d : dk.Dk} {s : St} {cv ev cu eu : Value} {base bterm : Nat} {c : List Int} {l : List EnIn} (h : Ri w W F jb p gb d s cv ev cu eu base bterm c l) :
    W.cell? ⟨gb, 0, none⟩ = some (.int .u64 (base : Nat)) ∧ W.cell? ⟨gb, 1, none⟩ = some (.int .u64 (bterm : Nat)) ∧ W.cell? ⟨gb, 2, none⟩ = some cu ∧ W.cell? ⟨gb, 3, none⟩ = some eu := ⟨h.g.cell rfl, h.g.cell rfl, h.g.cell rfl, h.g.cell rfl⟩
theorem Ri.hard {w W : World} {F : Nat → Prop} {jb p gb : Nat} {d : dk.Dk} {s : St} {cv ev cu eu : Value} {base bterm : Nat} {c : List Int} {l : List EnIn} (h : Ri w W F jb p gb d s cv ev cu eu base bterm c l) :
    W.cell? ⟨jb, 1, none⟩ = some (.int .u64 (s.h.term : Nat)) ∧ W.cell? ⟨jb, 2, none⟩ = some (.int .i64 (s.h.vote : Nat)) ∧ W.cell? ⟨jb, 3, none⟩ = some (.int .u64 (s.h.life : Nat)) := ⟨h.j.a.cell rfl, h.j.a.cell rfl, h.j.a.cell rfl⟩
set_option maxHeartbeats 8000000 in
set_option maxRecDepth 100000 in
theorem rebase_any (F : Nat → Prop) (jb p j : Nat) (d : dk.Dk) (s : St) (cv ev : Value) (g : LogIn) (im : Bs) (cu eu : Value) (hd : Inv j d) (hj : j ≤ 980) (ho : Ok s) (hcl : g.conf.length ≤ 1000000) (hll : g.l.length ≤ 1000000) (hlt : ∀ e ∈ g.l, e.term < 18446744073709551616) (hbt : g.bterm < 18446744073709551616) (hil : im.length ≤ 281474976710656) (w : World) (h : Jn w F jb p d s cv ev) (hc : rw.Sl noSh w cu g.conf) (hl : rw.Sl enSh w eu g.l) (hac : rw.Apt F cu g.conf) (hal : rw.Apt F eu g.l) :
    Calls Tryz.prog 26 #[.pointer (some ⟨jb, 0, none⟩), .agg #[.int .u64 (g.base : Nat), .int .u64 (g.bterm : Nat), cu, eu], .string (S im)] w fun e w' => e = .returned (.int .i64 ((rebase s d g im).1 : Nat)) ∧ JStep w F jb p cv ev (rebase s d g im).2.2 (rebase s d g im).2.1 w' := by
  obtain ⟨ua, uc, rfl⟩ := sl_form hc
  obtain ⟨ta, tc, rfl⟩ := sl_form hl
  obtain ⟨R, hR⟩ : ∃ R, rebase s d g im = R := ⟨_, rfl⟩
  rw [hR]
  have hisz := S_size im
  have HRok : Hid (MembersIn g.conf → g.base ≤ 4611686018427387904 → im.length ≤ 262144 → (∀ e ∈ g.l, MayIn e) → Ok (rebased s g im) ∧ ints (rebased s g im).conf = g.conf ∧ ens (rebased s g im).l = g.l ∧ (rebased s g im).h = s.h ∧ (rebased s g im).base = g.base ∧ (rebased s g im).bterm = g.bterm ∧ (rebased s g im).image = im) := fun h1 h2 h3 h4 =>
    ⟨rebased_ok ho h1 h2 h3 h4 hbt hlt, ints_in fun x hx => (h1.1 x hx).1, ens_in h4, rfl, rfl, rfl, rfl⟩
  have HRl : Hid ((rebased s g im).l.length = g.l.length) := by show (g.l.map toEn).length = _; rw [List.length_map]
  unfold rebase at hR
  generalize rebased s g im = s' at *
  obtain ⟨base, bterm, c, l⟩ := g
  simp only at hcl hll hlt hbt hc hl hac hal hR HRok HRl ⊢
  have HAP : Hid (rw.Apt F (.slice ua c.length uc) c ∧ rw.Apt F (.slice ta l.length tc) l) := ⟨hac, hal⟩
  clear hac hal
  have H1 : Hid (Ri w (w.alloc (.cells #[.int .u64 (base : Nat), .int .u64 (bterm : Nat), .slice ua c.length uc, .slice ta l.length tc] 45)) F jb p w.heap.size d s cv ev (.slice ua c.length uc) (.slice ta l.length tc) base bterm c l) := by
    have k := below_box w (.cells #[.int .u64 (base : Nat), .int .u64 (bterm : Nat), .slice ua c.length uc, .slice ta l.length tc] 45)
    exact ⟨h.below k, Arr.new w _ _, hc.later _ k, hl.later _ k, k⟩
  have HH := Lib.hid h
  have hRB := fun W (k : rw.Sl noSh W (.slice ua c.length uc) c) => rightBase_any base bterm (.slice ua c.length uc) c ta l.length tc (by omega) W k
  have hRE := fun W (k : rw.Sl enSh W (.slice ta l.length tc) l) => right_any (.slice ta l.length tc) l (by omega) W k
  obtain ⟨un, hun⟩ : ∃ n, c.length = n := ⟨_, rfl⟩
  obtain ⟨tn, htn⟩ : ∃ n, l.length = n := ⟨_, rfl⟩
  have HNN : Hid (c.length = un ∧ l.length = tn) := ⟨hun, htn⟩
  rw [hun] at H1 hRB hcl HAP ⊢
  rw [htn] at H1 hRB hRE hll HRl HAP ⊢
  obtain ⟨gb, hgb⟩ : ∃ gb, w.heap.size = gb := ⟨_, rfl⟩
  have HGB : Hid (w.heap.size = gb) := hgb
  rw [hgb] at H1
  have hRB1 := hRB _ H1.out.c
  have HRE := Lib.hid hRE
  clear h hc hl hRB hRE hun htn
  obtain ⟨x0, x1, x2, x3⟩ := H1.out.cells
  have HR := Lib.hid hR
  clear hR
  by_cases c1 : MembersIn c ∧ base ≤ 4611686018427387904
  · rw [decide_eq_true c1] at hRB1
    by_cases c2 : ∀ e ∈ l, MayIn e
    · by_cases c3 : im.length ≤ 262144
      · have HR2 : Hid ((if (jput d 2 (fileOf s')).1 ≠ 0 then ((jput d 2 (fileOf s')).1, s, (jput d 2 (fileOf s')).2) else (0, s', (jput d 2 (fileOf s')).2)) = R) := by
          have h := HR.out
          rw [if_neg (fun h => h.elim (fun h => h c1.1) fun h => h.elim (fun h => by omega) fun h => h.elim (fun h => by omega) fun h => h c2)] at h
          exact h
        have hs3 : ¬ (im.length : Int) > 262144 := by omega
        have HO := Lib.hid (HRok.out c1.1 c1.2 c3 c2)
        clear HR HRok c1
        go_enter Tryz.func26, Tryz.ntmps26
        go_wp2_with fail
        refine hRB1.mono ?_
        clear hRB1
        rintro e w2 ⟨rfl, b2⟩
        have H2 := Lib.hid (H1.out.below b2)
        clear b2 H1
        obtain ⟨y0, y1, y2, y3⟩ := H2.out.cells
        clear x0 x1 x2 x3
        have hE := HRE.out _ H2.out.l
        rw [decide_eq_true c2] at hE
        clear c2
        go_wp2_with fail
        refine hE.mono ?_
        clear hE
        rintro e w3 ⟨rfl, b3⟩
        have H3 := Lib.hid (H2.out.below b3)
        clear b3 H2 HRE
        go_upto_region 3 with (fail)
        go_cut [7] from 27 to 34 (fun v7 wx => ∃ sb : Nat, v7 = .pointer (some ⟨sb, 0, none⟩) ∧ Hid (Rbs w wx F F jb p gb sb d s s' cv ev (.slice ua un uc) (.slice ta tn tc) base bterm c l))
        case first =>
          have X1 := Lib.hid (H3.out.below (below_drew (Below.refl _ _)))
          have X2 := Lib.hid (H3.out.below (below_box w3 (.cells #[.int .u64 0, .int .i64 0, .int .u64 0, .int .u64 0, .int .u64 0, .slice none 0 0, .slice none 0 0, .string ⟨#[]⟩] 87)))
          have kf := below_box w3.drew (.cells #[.int .u64 (s.h.term : Nat), .int .i64 (s.h.vote : Nat), .int .u64 (s.h.life : Nat), .int .u64 (base : Nat), .int .u64 (bterm : Nat), .slice ua un uc, .slice ta tn tc, .string (S im)] 87)
          have X3 := X1.out.below kf
          have aS := Arr.new w3.drew 87 #[.int .u64 (s.h.term : Nat), .int .i64 (s.h.vote : Nat), .int .u64 (s.h.life : Nat), .int .u64 (base : Nat), .int .u64 (bterm : Nat), .slice ua un uc, .slice ta tn tc, .string (S im)]
          have eS : (#[.int .u64 (s.h.term : Nat), .int .i64 (s.h.vote : Nat), .int .u64 (s.h.life : Nat), .int .u64 (base : Nat), .int .u64 (bterm : Nat), .slice ua un uc, .slice ta tn tc, .string (S im)] : Array Value) = stC s' (.slice ua un uc) (.slice ta tn tc) := by
            obtain ⟨_, _, _, o1, o2, o3, o4⟩ := HO.out
            unfold stC
            rw [o1, o2, o3, o4]
          rw [eS] at aS X3
          have HF : Hid (Rbs w (w3.drew.alloc (.cells (stC s' (.slice ua un uc) (.slice ta tn tc)) 87)) F F jb p gb w3.drew.heap.size d s s' cv ev (.slice ua un uc) (.slice ta tn tc) base bterm c l) :=
            ⟨HAP.out.1, HAP.out.2, X3.j, X3.g, aS, X3.c, X3.l, Fr.of_below X3.b, Nu.refl _ _, X1.out.b.size⟩
          rw [← eS] at HF
          change Hid (Rbs w (w3.drew.alloc (.cells #[.int .u64 (s.h.term : Nat), .int .i64 (s.h.vote : Nat), .int .u64 (s.h.life : Nat), .int .u64 (base : Nat), .int .u64 (bterm : Nat), .slice ua un uc, .slice ta tn tc, .string (S im)] 87)) F F jb p gb w3.heap.size d s s' cv ev (.slice ua un uc) (.slice ta tn tc) base bterm c l) at HF
          obtain ⟨a0, a1, a2, a3⟩ := X1.out.cells
          obtain ⟨b0, b1, b2, b3⟩ := X2.out.cells
          obtain ⟨h1, h2, h3⟩ := X1.out.hard
          obtain ⟨i1, i2, i3⟩ := X2.out.hard
          clear X1 X2 X3 kf aS eS H3 HO
          go_region_law (fail)
          all_goals (
            clear a0 a1 a2 a3 b0 b1 b2 b3 h1 h2 h3 i1 i2 i3
            go_wp2_with fail
            go_meet
            case rel => exact ⟨_, rfl, HF⟩)
        case rest =>
          obtain ⟨sb, rfl, B0⟩ := hcut
          clear H3
          have HFile : Hid (∀ W, Rbs w W F F jb p gb sb d s s' cv ev (.slice ua un uc) (.slice ta tn tc) base bterm c l → Calls Tryz.prog 77 #[.pointer (some ⟨sb, 0, none⟩)] W fun e w' => ∃ q, e = .returned (.string (S q)) ∧ Cutt q (fileOf s') ∧ Rbs w w' F F jb p gb sb d s s' cv ev (.slice ua un uc) (.slice ta tn tc) base bterm c l) := fun W h => by
            obtain ⟨o0, o1, o2, _⟩ := HO.out
            exact (file_any sb s' (.slice ua un uc) (.slice ta tn tc) o0 (by rw [HRl.out]; omega) W ⟨h.sa, by rw [o1]; exact h.c, by rw [o2]; exact h.l⟩).mono fun e w' ⟨q, h1, h2, h3⟩ => ⟨q, h1, h2, h.below h3⟩
          have HPut : Hid (∀ W q, Cutt q (fileOf s') → Rbs w W F F jb p gb sb d s s' cv ev (.slice ua un uc) (.slice ta tn tc) base bterm c l → Calls Tryz.prog 76 #[.pointer (some ⟨p, 0, none⟩), .string (S q)] W fun e w' => e = .returned (.int .i64 ((jput d 2 (fileOf s')).1 : Nat)) ∧ ∃ F2, Rbs w w' F F2 jb p gb sb (jput d 2 (fileOf s')).2 s s' cv ev (.slice ua un uc) (.slice ta tn tc) base bterm c l) := fun W q hq h => by
            have hj2 := jput_cut (d := d) hd.r (k := 2) (.inr rfl) hq
            refine (put_any F p j d q hd (by omega) (by have := hq.1; omega) W h.j.d).mono ?_
            rintro e w' ⟨rfl, h2⟩
            rw [hj2] at h2 ⊢
            exact ⟨rfl, h.step h2⟩
          clear hd ho
          generalize jput d 2 (fileOf s') = J at *
          obtain ⟨je, jd⟩ := J
          simp only at HPut HR2
          go_upto_region 4 with (fail)
          have X1 := Lib.hid (B0.out.below (below_drew (Below.refl _ _)))
          clear B0
          have k0 : wc.drew.cell? ⟨jb, 0, none⟩ = some (.pointer (some ⟨p, 0, none⟩)) := X1.out.j.a.cell rfl
          go_region_law
            (first | (go_simp; go_at_call 77; refine (HFile.out _ X1.out).mono ?_; rintro e w4 ⟨q4, rfl, hq4, g4⟩; replace X1 := Lib.hid g4; have HQ := Lib.hid hq4; clear k0 g4 hq4; have k0 : w4.cell? ⟨jb, 0, none⟩ = some (.pointer (some ⟨p, 0, none⟩)) := X1.out.j.a.cell rfl) | (go_simp; go_at_call 76; refine (HPut.out _ _ HQ.out X1.out).mono ?_; rintro e w5 ⟨rfl, g5⟩; have X5 := Lib.hid g5; clear k0 g5 X1 HQ))
          all_goals (
            have HX := X5
            clear X5 HPut HFile
            by_cases h0 : je = 0
            · subst h0
              have HR5 : Hid ((0, s', jd) = R) := by
                have h := HR2.out
                rw [if_neg (fun h => h rfl)] at h
                exact h
              clear HR2
              obtain ⟨F2, x5⟩ := HX.out
              have X5 := Lib.hid x5
              have hCp := copyLog_any base bterm (.slice ua un uc) (.slice ta tn tc) c l (by rw [HNN.out.1]; omega) (by rw [HNN.out.2]; omega) (fun e he => by
                obtain ⟨o0, _, o2, _⟩ := HO.out
                have := ens_good o0 e (by rw [o2]; exact he)
                have := this.may.2.2
                omega) w5 x5.c x5.l
              obtain ⟨x0, x1, x2, x3⟩ : w5.cell? ⟨gb, 0, none⟩ = some (.int .u64 (base : Nat)) ∧ w5.cell? ⟨gb, 1, none⟩ = some (.int .u64 (bterm : Nat)) ∧ w5.cell? ⟨gb, 2, none⟩ = some (.slice ua un uc) ∧ w5.cell? ⟨gb, 3, none⟩ = some (.slice ta tn tc) := ⟨x5.g.cell rfl, x5.g.cell rfl, x5.g.cell rfl, x5.g.cell rfl⟩
              clear HX x5
              go_wp2_with fail
              refine hCp.mono ?_
              clear hCp x0 x1 x2 x3
              rintro e w6 ⟨c2, e2, rfl, o1, o2, b6⟩
              have X6 := Lib.hid (X5.out.below b6)
              have hsz5 := X5.out.f.size
              have HO6 := Lib.hid (And.intro (own_lower o1 hsz5) (own_lower o2 hsz5))
              obtain ⟨ca2, cc2, rfl⟩ : ∃ a c', c2 = .slice a c.length c' := o1.form
              obtain ⟨ea2, ec2, rfl⟩ : ∃ a c', e2 = .slice a l.length c' := o2.form
              rw [HNN.out.1, HNN.out.2] at HO6 ⊢
              unfold lgC
              have hS := sclone_any im hil w6
              clear o1 o2 b6 X5 hsz5
              go_wp2_with fail
              refine hS.mono ?_
              clear hS
              rintro e w7 ⟨rfl, b7⟩
              have X7 := Lib.hid (X6.out.below b7)
              have HO7 := Lib.hid (And.intro (HO6.out.1.below _ b7) (HO6.out.2.below _ b7))
              have HL : Hid (Rd3 w (layG w7 sb base bterm (.slice ca2 un cc2) (.slice ea2 tn ec2) im) F F2 jb p sb jd s s' cv ev (.slice ca2 un cc2) (.slice ea2 tn ec2)) := by
                obtain ⟨_, q1, q2, _, q3, q4, q5⟩ := HO.out
                have := X7.out.lay (c2 := .slice ca2 un cc2) (e2 := .slice ea2 tn ec2) (by rw [q1]; exact HO7.out.1) (by rw [q2]; exact HO7.out.2)
                rwa [q3, q4, q5] at this
              obtain ⟨y3, y4, y5, y6, y7⟩ : w7.cell? ⟨sb, 3, none⟩ = some (.int .u64 (s'.base : Nat)) ∧ w7.cell? ⟨sb, 4, none⟩ = some (.int .u64 (s'.bterm : Nat)) ∧ w7.cell? ⟨sb, 5, none⟩ = some (.slice ua un uc) ∧ w7.cell? ⟨sb, 6, none⟩ = some (.slice ta tn tc) ∧ w7.cell? ⟨sb, 7, none⟩ = some (.string (S s'.image)) := ⟨X7.out.sa.cell rfl, X7.out.sa.cell rfl, X7.out.sa.cell rfl, X7.out.sa.cell rfl, X7.out.sa.cell rfl⟩
              obtain ⟨f3, f4, f5, f6, f7⟩ : w7.frozen? ⟨sb, 3, none⟩ = false ∧ w7.frozen? ⟨sb, 4, none⟩ = false ∧ w7.frozen? ⟨sb, 5, none⟩ = false ∧ w7.frozen? ⟨sb, 6, none⟩ = false ∧ w7.frozen? ⟨sb, 7, none⟩ = false := ⟨X7.out.sa.frozen 3, X7.out.sa.frozen 4, X7.out.sa.frozen 5, X7.out.sa.frozen 6, X7.out.sa.frozen 7⟩
              clear b7 X7 X6 HO7 HO6
              go_upto_region 8 with (fail)
              clear y3 y4 y5 y6 y7 f3 f4 f5 f6 f7
              unfold layG at HL
              generalize ((((w7.setCell ⟨sb, 3, none⟩ (.int .u64 (base : Nat))).setCell ⟨sb, 4, none⟩ (.int .u64 (bterm : Nat))).setCell ⟨sb, 5, none⟩ (.slice ca2 un cc2)).setCell ⟨sb, 6, none⟩ (.slice ea2 tn ec2)).setCell ⟨sb, 7, none⟩ (.string (S im)) = w8 at *
              obtain ⟨y0, y1, y2, y3, y4, y5, y6, y7⟩ : w8.cell? ⟨sb, 0, none⟩ = some (.int .u64 (s'.h.term : Nat)) ∧ w8.cell? ⟨sb, 1, none⟩ = some (.int .i64 (s'.h.vote : Nat)) ∧ w8.cell? ⟨sb, 2, none⟩ = some (.int .u64 (s'.h.life : Nat)) ∧ w8.cell? ⟨sb, 3, none⟩ = some (.int .u64 (s'.base : Nat)) ∧ w8.cell? ⟨sb, 4, none⟩ = some (.int .u64 (s'.bterm : Nat)) ∧ w8.cell? ⟨sb, 5, none⟩ = some (.slice ca2 un cc2) ∧ w8.cell? ⟨sb, 6, none⟩ = some (.slice ea2 tn ec2) ∧ w8.cell? ⟨sb, 7, none⟩ = some (.string (S s'.image)) := ⟨HL.out.sa.cell rfl, HL.out.sa.cell rfl, HL.out.sa.cell rfl, HL.out.sa.cell rfl, HL.out.sa.cell rfl, HL.out.sa.cell rfl, HL.out.sa.cell rfl, HL.out.sa.cell rfl⟩
              obtain ⟨z1, z2, z3, z4, z5, z6, z7, z8⟩ : w8.cell? ⟨jb, 1, none⟩ = some (.int .u64 (s.h.term : Nat)) ∧ w8.cell? ⟨jb, 2, none⟩ = some (.int .i64 (s.h.vote : Nat)) ∧ w8.cell? ⟨jb, 3, none⟩ = some (.int .u64 (s.h.life : Nat)) ∧ w8.cell? ⟨jb, 4, none⟩ = some (.int .u64 (s.base : Nat)) ∧ w8.cell? ⟨jb, 5, none⟩ = some (.int .u64 (s.bterm : Nat)) ∧ w8.cell? ⟨jb, 6, none⟩ = some (cv) ∧ w8.cell? ⟨jb, 7, none⟩ = some (ev) ∧ w8.cell? ⟨jb, 8, none⟩ = some (.string (S s.image)) := ⟨HL.out.j.a.cell rfl, HL.out.j.a.cell rfl, HL.out.j.a.cell rfl, HL.out.j.a.cell rfl, HL.out.j.a.cell rfl, HL.out.j.a.cell rfl, HL.out.j.a.cell rfl, HL.out.j.a.cell rfl⟩
              obtain ⟨f1, f2, f3, f4, f5, f6, f7, f8⟩ : w8.frozen? ⟨jb, 1, none⟩ = false ∧ w8.frozen? ⟨jb, 2, none⟩ = false ∧ w8.frozen? ⟨jb, 3, none⟩ = false ∧ w8.frozen? ⟨jb, 4, none⟩ = false ∧ w8.frozen? ⟨jb, 5, none⟩ = false ∧ w8.frozen? ⟨jb, 6, none⟩ = false ∧ w8.frozen? ⟨jb, 7, none⟩ = false ∧ w8.frozen? ⟨jb, 8, none⟩ = false := ⟨HL.out.j.a.frozen 1, HL.out.j.a.frozen 2, HL.out.j.a.frozen 3, HL.out.j.a.frozen 4, HL.out.j.a.frozen 5, HL.out.j.a.frozen 6, HL.out.j.a.frozen 7, HL.out.j.a.frozen 8⟩
              have HE := Lib.hid HL.out.done
              clear HL
              go_wp2_with fail
              go_ret
              rw [← HR5.out]
              exact ⟨rfl, HE.out⟩
            · have h0i : ¬ (je : Int) = 0 := by omega
              have HR5 : Hid ((je, s, jd) = R) := by
                have h := HR2.out
                rw [if_pos h0] at h
                exact h
              have HE : Hid (JStep w F jb p cv ev jd s w5) := by
                obtain ⟨F2, x5⟩ := HX.out
                exact x5.jstep
              clear HX HR2
              go_wp2_with fail
              go_ret
              rw [← HR5.out]
              exact ⟨rfl, HE.out⟩)
      · have HE0 : Hid ((1, s, d) = R) := by
          have h := HR.out
          rw [if_pos (.inr (.inr (.inl (by omega))))] at h
          exact h
        have hs3 : (im.length : Int) > 262144 := by omega
        clear HR HRok c1 HRl
        go_enter Tryz.func26, Tryz.ntmps26
        go_wp2_with fail
        refine hRB1.mono ?_
        clear hRB1
        rintro e w2 ⟨rfl, b2⟩
        have H2 := Lib.hid (H1.out.below b2)
        clear b2 H1
        obtain ⟨y0, y1, y2, y3⟩ := H2.out.cells
        clear x0 x1 x2 x3
        have hE := HRE.out _ H2.out.l
        rw [decide_eq_true c2] at hE
        clear c2
        go_wp2_with fail
        refine hE.mono ?_
        clear hE
        rintro e w3 ⟨rfl, b3⟩
        have HE : Hid (JStep w F jb p cv ev d s w3) := HH.out.same (H2.out.below b3).b
        clear b3 H2 HRE
        go_wp2_with fail
        go_ret
        rw [← HE0.out]
        exact ⟨rfl, HE.out⟩
    · have HE0 : Hid ((1, s, d) = R) := by
        have h := HR.out
        rw [if_pos (.inr (.inr (.inr c2)))] at h
        exact h
      clear HR HRok c1 HRl
      go_enter Tryz.func26, Tryz.ntmps26
      go_wp2_with fail
      refine hRB1.mono ?_
      clear hRB1
      rintro e w2 ⟨rfl, b2⟩
      have H2 := Lib.hid (H1.out.below b2)
      clear b2 H1
      obtain ⟨y0, y1, y2, y3⟩ := H2.out.cells
      clear x0 x1 x2 x3
      have hE := HRE.out _ H2.out.l
      rw [decide_eq_false c2] at hE
      clear c2
      go_wp2_with fail
      refine hE.mono ?_
      clear hE
      rintro e w3 ⟨rfl, b3⟩
      have HE : Hid (JStep w F jb p cv ev d s w3) := HH.out.same (H2.out.below b3).b
      clear b3 H2 HRE
      go_wp2_with fail
      go_ret
      rw [← HE0.out]
      exact ⟨rfl, HE.out⟩
  · rw [decide_eq_false c1] at hRB1
    have HE0 : Hid ((1, s, d) = R) := by
      have h := HR.out
      rw [if_pos (by
        by_cases hm : MembersIn c
        · exact .inr (.inl (Nat.lt_of_not_le fun hle => c1 ⟨hm, hle⟩))
        · exact .inl hm)] at h
      exact h
    clear HR HRok c1 HRl HRE
    go_enter Tryz.func26, Tryz.ntmps26
    go_wp2_with fail
    refine hRB1.mono ?_
    clear hRB1
    rintro e w2 ⟨rfl, b2⟩
    have H2 := Lib.hid (H1.out.below b2)
    clear b2 H1
    obtain ⟨y0, y1, y2, y3⟩ := H2.out.cells
    have HE : Hid (JStep w F jb p cv ev d s w2) := HH.out.same H2.out.b
    clear H2 x0 x1 x2 x3
    go_wp2_with fail
    go_ret
    rw [← HE0.out]
    exact ⟨rfl, HE.out⟩
end Go.Proofs.YteeeakbgofjinaaGreat.jr
/-! JrNi -/
namespace Go.Proofs.YteeeakbgofjinaaGreat.jr
set_option linter.unusedVariables false
open Go.RowKit
open fl (S S_size S_append)
open rw (Arr But below_box bnext below_drew below_drewN Fr)
open dk (PD Step Nu Inv)

set_option maxHeartbeats 4000000 in
set_option maxRecDepth 100000 in
theorem save_nil (a b c : Value) (w : World) : Calls Tryz.prog 24 #[.pointer none, .agg #[a, b, c]] w fun e w' => e = .returned (.int .i64 1) ∧ Below w.heap.size w w' := by
  go_enter Tryz.func24, Tryz.ntmps24
  go_wp2_with fail
  go_ret
  exact ⟨rfl, below_box _ _⟩
set_option maxHeartbeats 4000000 in
set_option maxRecDepth 100000 in
theorem append_nil (a v : Value) (w : World) : Calls Tryz.prog 25 #[.pointer none, a, v] w fun e w' => e = .returned (.int .i64 1) ∧ Below w.heap.size w w' := by
  go_enter Tryz.func25, Tryz.ntmps25
  go_wp2_with fail
  go_ret
  exact ⟨rfl, Below.refl _ _⟩
set_option maxHeartbeats 4000000 in
set_option maxRecDepth 100000 in
theorem rebase_nil (a b c e0 : Value) (im : Bs) (w : World) : Calls Tryz.prog 26 #[.pointer none, .agg #[a, b, c, e0], .string (S im)] w fun e w' => e = .returned (.int .i64 1) ∧ Below w.heap.size w w' := by
  go_enter Tryz.func26, Tryz.ntmps26
  go_wp2_with fail
  go_ret
  exact ⟨rfl, below_box _ _⟩
set_option maxRecDepth 100000 in
theorem nil_read (n : Bs) (w : World) : Calls Tryz.prog 43 #[.pointer none, .string (S n)] w fun e w' => e = .returned (.tuple #[.string ⟨#[]⟩, .int .i64 1]) ∧ Below w.heap.size w w' := by
  go_enter Tryz.func43, Tryz.ntmps43
  go_wp2_with fail
  go_ret2
  exact ⟨rfl, Below.refl _ _⟩
set_option maxHeartbeats 4000000 in
set_option maxRecDepth 100000 in
theorem load_nil (w : World) : Calls Tryz.prog 35 #[.pointer none] w fun e w' => e = .returned (.tuple #[.agg (stC zero (.slice none 0 0) (.slice none 0 0)), .int .i64 1]) ∧ Below w.heap.size w w' := by
  have hR := nil_read log (w.alloc (.cells zeroS 87))
  rw [log_S] at hR
  have HA : Hid (∀ W, Below (w.alloc (.cells zeroS 87)).heap.size (w.alloc (.cells zeroS 87)) W → Arr W w.heap.size 87 (stC zero (.slice none 0 0) (.slice none 0 0)) ∧ Below w.heap.size w W) := fun W k =>
    ⟨(show Arr (w.alloc (.cells zeroS 87)) w.heap.size 87 (stC zero (.slice none 0 0) (.slice none 0 0)) from Arr.new w _ _).below k, (below_box w _).trans (k.mono (below_box w _).size)⟩
  unfold zeroS at hR HA
  go_enter Tryz.func35, Tryz.ntmps35
  go_wp2_with fail
  refine hR.mono ?_
  clear hR
  rintro e w2 ⟨rfl, b2⟩
  have H2 := Lib.hid (HA.out w2 b2)
  clear b2 HA
  obtain ⟨x0, x1, x2, x3, x4, x5, x6, x7⟩ : w2.cell? ⟨w.heap.size, 0, none⟩ = some (.int .u64 0) ∧ w2.cell? ⟨w.heap.size, 1, none⟩ = some (.int .i64 0) ∧ w2.cell? ⟨w.heap.size, 2, none⟩ = some (.int .u64 0) ∧ w2.cell? ⟨w.heap.size, 3, none⟩ = some (.int .u64 0) ∧ w2.cell? ⟨w.heap.size, 4, none⟩ = some (.int .u64 0) ∧ w2.cell? ⟨w.heap.size, 5, none⟩ = some (.slice none 0 0) ∧ w2.cell? ⟨w.heap.size, 6, none⟩ = some (.slice none 0 0) ∧ w2.cell? ⟨w.heap.size, 7, none⟩ = some (.string ⟨#[]⟩) := ⟨H2.out.1.cell rfl, H2.out.1.cell rfl, H2.out.1.cell rfl, H2.out.1.cell rfl, H2.out.1.cell rfl, H2.out.1.cell rfl, H2.out.1.cell rfl, H2.out.1.cell rfl⟩
  obtain ⟨y0, y1, y2, y3, y4, y5, y6, y7⟩ : w2.frozen? ⟨w.heap.size, 0, none⟩ = false ∧ w2.frozen? ⟨w.heap.size, 1, none⟩ = false ∧ w2.frozen? ⟨w.heap.size, 2, none⟩ = false ∧ w2.frozen? ⟨w.heap.size, 3, none⟩ = false ∧ w2.frozen? ⟨w.heap.size, 4, none⟩ = false ∧ w2.frozen? ⟨w.heap.size, 5, none⟩ = false ∧ w2.frozen? ⟨w.heap.size, 6, none⟩ = false ∧ w2.frozen? ⟨w.heap.size, 7, none⟩ = false := ⟨H2.out.1.frozen 0, H2.out.1.frozen 1, H2.out.1.frozen 2, H2.out.1.frozen 3, H2.out.1.frozen 4, H2.out.1.frozen 5, H2.out.1.frozen 6, H2.out.1.frozen 7⟩
  have HE : Hid (Arr (layS w2 w.heap.size zero (.slice none 0 0) (.slice none 0 0)) w.heap.size 87 (stC zero (.slice none 0 0) (.slice none 0 0)) ∧ Below w.heap.size w (layS w2 w.heap.size zero (.slice none 0 0) (.slice none 0 0))) :=
    ⟨layS_arr H2.out.1, H2.out.2.trans ((layS_but _ _ _ _ _).below H2.out.2.size (Nat.le_refl _))⟩
  clear H2
  go_wp2_with fail
  exact bodyPost_ret (results_ld (s := zero) rfl rfl rfl HE.out.1) rfl ⟨rfl, HE.out.2⟩
set_option maxHeartbeats 4000000 in
set_option maxRecDepth 100000 in
theorem open_nil (w : World) : Calls Tryz.prog 10 #[.pointer none] w fun e w' => e = .returned (.tuple #[.pointer none, .int .i64 1]) ∧ Below w.heap.size w w' := by
  have hL := load_nil w
  go_enter Tryz.func10, Tryz.ntmps10
  go_wp2_with fail
  refine hL.mono ?_
  clear hL
  rintro e w2 ⟨he, b2⟩
  change e = .returned (.tuple #[.agg #[.int .u64 0, .int .i64 0, .int .u64 0, .int .u64 0, .int .u64 0, .slice none 0 0, .slice none 0 0, .string ⟨#[]⟩], .int .i64 1]) at he
  subst he
  have B2 := Lib.hid (b2.trans ((below_box w2 (.cells #[.int .u64 0, .int .i64 0, .int .u64 0, .int .u64 0, .int .u64 0, .slice none 0 0, .slice none 0 0, .string ⟨#[]⟩] 87)).mono b2.size))
  clear b2
  go_wp2_with fail
  go_ret2
  exact ⟨rfl, B2.out⟩
end Go.Proofs.YteeeakbgofjinaaGreat.jr
/-! JrSa -/
namespace Go.Proofs.YteeeakbgofjinaaGreat.jr
set_option linter.unusedVariables false
set_option linter.unusedSimpArgs false
open Go.RowKit
open fl (S S_size S_append S_inj)
open rw (Arr But below_box bnext below_drew below_drewN Fr)
open dk (PD Step Nu Inv)

def sameE (x y : EnIn) : Prop := x.term = y.term ∧ x.kind = y.kind ∧ x.data = y.data
instance (x y : EnIn) : Decidable (sameE x y) := by unfold sameE; infer_instance
theorem sameE_iff (x y : EnIn) : sameE x y ↔ x = y := by
  cases x; cases y
  simp [sameE]
instance : DecidableEq EnIn := fun x y => decidable_of_iff (sameE x y) (sameE_iff x y)
theorem S_toList_eq (a b : Bs) : ((S a).toList == (S b).toList) = decide (a = b) := by
  rw [Bool.eq_iff_iff, beq_iff_eq, decide_eq_true_eq]
  constructor
  · intro h
    rw [ByteArray.toList_eq, ByteArray.toList_eq] at h
    exact S_inj (ByteArray.ext (Array.toList_inj.1 h))
  · rintro rfl; rfl
theorem eq_ent (x y : EnIn) (w : World) : (Op.equalIn 10000 70 (.agg #[.int .u64 (x.term : Nat), .int .i64 x.kind, .string (S x.data)]) (.agg #[.int .u64 (y.term : Nat), .int .i64 y.kind, .string (S y.data)])).run Tryz.prog w = .ok (decide (sameE x y)) w := by
  obtain ⟨t1, v1, l1⟩ := x
  obtain ⟨t2, v2, l2⟩ := y
  unfold sameE
  have e1 : Tryz.prog.underlying 70 = some (.struct (Tryz.prog.fieldsOf 70)) := by kernel_rfl
  have e2 : Tryz.prog.stoodInHeld 70 = false := by kernel_rfl
  have e3 : (Tryz.prog.fieldsOf 70).toList = [⟨"Term", 39, 0, false, "", "", 0⟩, ⟨"Kind", 3, 1, false, "", "", 8⟩, ⟨"Data", 9, 2, false, "", "", 16⟩] := by kernel_rfl
  have u1 : Tryz.prog.underlying 39 = some (.int .u64) := by kernel_rfl
  have u2 : Tryz.prog.underlying 3 = some (.int .i64) := by kernel_rfl
  have u3 : Tryz.prog.underlying 9 = some .string := by kernel_rfl
  rw [run_equalIn_agg _ 9999 _ _ _ e1 e2, e3]
  have p1 : ∀ (xs : Array Value) (j : Nat) (v : Value) (w : World), xs[j]? = some v → (part 39 xs j).run Tryz.prog w = .ok v w := fun xs j v w h => run_part_plain w (by kernel_rfl) h
  have p2 : ∀ (xs : Array Value) (j : Nat) (v : Value) (w : World), xs[j]? = some v → (part 3 xs j).run Tryz.prog w = .ok v w := fun xs j v w h => run_part_plain w (by kernel_rfl) h
  have p3 : ∀ (xs : Array Value) (j : Nat) (v : Value) (w : World), xs[j]? = some v → (part 9 xs j).run Tryz.prog w = .ok v w := fun xs j v w h => run_part_plain w (by kernel_rfl) h
  simp only [Op.eqFields, ne_eq, String.reduceEq, not_false_eq_true, if_true, Sem.run_bind]
  have a0 := fun w => p1 #[.int .u64 (t1 : Nat), .int .i64 v1, .string (S l1)] 0 (.int .u64 (t1 : Nat)) w rfl
  have a1 := fun w => p2 #[.int .u64 (t1 : Nat), .int .i64 v1, .string (S l1)] 1 (.int .i64 v1) w rfl
  have a2 := fun w => p3 #[.int .u64 (t1 : Nat), .int .i64 v1, .string (S l1)] 2 (.string (S l1)) w rfl
  have b0 := fun w => p1 #[.int .u64 (t2 : Nat), .int .i64 v2, .string (S l2)] 0 (.int .u64 (t2 : Nat)) w rfl
  have b1 := fun w => p2 #[.int .u64 (t2 : Nat), .int .i64 v2, .string (S l2)] 1 (.int .i64 v2) w rfl
  have b2 := fun w => p3 #[.int .u64 (t2 : Nat), .int .i64 v2, .string (S l2)] 2 (.string (S l2)) w rfl
  have q1 := fun (a b : Int) (w : World) => run_equalIn_int (P := Tryz.prog) w 9998 39 .u64 .u64 a b u1
  have q2 := fun (a b : Int) (w : World) => run_equalIn_int (P := Tryz.prog) w 9998 3 .i64 .i64 a b u2
  have q3 := fun (a b : ByteArray) (w : World) => run_equalIn_string (P := Tryz.prog) w 9998 9 a b u3
  have hcast : ∀ a b : Nat, ((a : Int) == (b : Int)) = decide (a = b) := fun a b => by rw [Bool.eq_iff_iff, beq_iff_eq, decide_eq_true_eq]; omega
  have hci : ∀ a b : Int, (a == b) = decide (a = b) := fun a b => by rw [Bool.eq_iff_iff, beq_iff_eq, decide_eq_true_eq]
  simp only [Nat.reduceAdd] at q1 q2 q3
  simp only [a0, b0, a1, b1, a2, b2, Result.andThen_ok, q1, q2, q3, hcast, S_toList_eq]
  by_cases h1 : t1 = t2
  · subst h1
    by_cases h2 : v1 = v2
    · subst h2
      by_cases h3 : l1 = l2
      · subst h3
        simp [a0, b0, a1, b1, a2, b2, q1, q2, q3, hcast, S_toList_eq]
      · simp [h3, a0, b0, a1, b1, a2, b2, q1, q2, q3, hcast, S_toList_eq]
    · simp [h2, a0, b0, a1, b1, a2, b2, q1, q2, q3, hcast, S_toList_eq]
  · simp [h1, a0, b0, a1, b1, a2, b2, q1, q2, q3, hcast, S_toList_eq]
theorem neq_ent (x y : EnIn) (w : World) : (binOp .neq 70 (.agg #[.int .u64 (x.term : Nat), .int .i64 x.kind, .string (S x.data)]) (.agg #[.int .u64 (y.term : Nat), .int .i64 y.kind, .string (S y.data)])).run Tryz.prog w = .ok (.bool (!decide (sameE x y))) w := by
  rw [run_neq_struct, eq_ent]
  rfl
set_option maxHeartbeats 4000000 in
set_option maxRecDepth 100000 in
theorem sameEntries_any (u v : Value) (a b : List EnIn) (hl : a.length ≤ 1000000000) (w : World) (h1 : rw.Sl enSh w u a) (h2 : rw.Sl enSh w v b) :
    Calls Tryz.prog 32 #[u, v] w fun e w' => e = .returned (.bool (decide (a = b))) ∧ Below w.heap.size w w' := by
  obtain ⟨r, hr⟩ : ∃ r, decide (a = b) = r := ⟨_, rfl⟩
  rw [hr]
  have HR := Lib.hid hr
  clear hr
  obtain ⟨ua, uc, rfl⟩ := sl_form h1
  obtain ⟨va, vc, rfl⟩ := sl_form h2
  obtain ⟨na, hna⟩ : ∃ n, a.length = n := ⟨_, rfl⟩
  obtain ⟨nb, hnb⟩ : ∃ n, b.length = n := ⟨_, rfl⟩
  have HN : Hid (a.length = na ∧ b.length = nb) := ⟨hna, hnb⟩
  have H1 := Lib.hid h1
  have H2 := Lib.hid h2
  rw [hna] at H1 hl ⊢
  rw [hnb] at H2 ⊢
  clear h1 h2 hna hnb
  by_cases hn : na = nb
  · have hni : (na : Int) = (nb : Int) := by omega
    subst hn
    clear hni
    go_enter Tryz.func32, Tryz.ntmps32
    go_wp2_with fail
    go_loopw [5] (fun i wr => ∃ k : Nat, i = .int .i64 (k : Nat) ∧ k ≤ na ∧ Hid (Below w.heap.size w wr ∧ a.take k = b.take k))
      (fun i _ => na - (intOf i).toNat)
    case atStart => exact ⟨0, rfl, Nat.zero_le _, Below.refl _ _, rfl⟩
    case round =>
      obtain ⟨k, rfl, hk, HI⟩ := hrel
      by_cases hlt : k < na
      · have hki : (k : Int) < (na : Int) := by omega
        have hka : k < a.length := by rw [HN.out.1]; exact hlt
        have hkb : k < b.length := by rw [HN.out.2]; exact hlt
        obtain ⟨p1, o1, d1, e1, g1, c10, c11, c12⟩ := slE_at (H1.out.later _ HI.out.1) hka
        obtain ⟨p2, o2, d2, e2, g2, c20, c21, c22⟩ := slE_at (H2.out.later _ HI.out.1) hkb
        injection e1 with e11 e12 e13
        injection e2 with e21 e22 e23
        subst e11 e13 e21 e23
        clear e12 e22
        obtain ⟨x, hx⟩ : ∃ x, a[k]'hka = x := ⟨_, rfl⟩
        obtain ⟨y, hy⟩ : ∃ y, b[k]'hkb = y := ⟨_, rfl⟩
        rw [hx] at c10 c11 c12
        rw [hy] at c20 c21 c22
        have hs1 : a.take (k + 1) = a.take k ++ [x] := by rw [List.take_succ_eq_append_getElem hka, hx]
        have hs2 : b.take (k + 1) = b.take k ++ [y] := by rw [List.take_succ_eq_append_getElem hkb, hy]
        have HB : Hid (∀ n, Below w.heap.size w (wr.drewN n)) := fun n => below_drewN HI.out.1 n
        have hq := fun W => neq_ent x y W
        obtain ⟨xt, xk, xd⟩ := x
        obtain ⟨yt, yk, yd⟩ := y
        simp only at c10 c11 c12 c20 c21 c22 hq
        by_cases hxy : (⟨xt, xk, xd⟩ : EnIn) = ⟨yt, yk, yd⟩
        · rw [decide_eq_true ((sameE_iff _ _).2 hxy)] at hq
          have HT : Hid (a.take (k + 1) = b.take (k + 1)) := by
            rw [hs1, hs2, HI.out.2, hxy]
            exact rfl
          clear HI hs1 hs2 hx hy hxy g1 g2 hka hkb
          go_upto_region 6 with (fail)
          go_quiet (fail)
          go_wp2_with fail
          exact ⟨⟨k + 1, by rw [Int.natCast_add]; rfl, by omega, HB.out _, HT.out⟩, by simp only [intOf]; omega⟩
        · rw [decide_eq_false (fun h => hxy ((sameE_iff _ _).1 h))] at hq
          have HT : Hid (¬ a = b) := fun e => hxy (by
            subst e
            rw [← hx, ← hy])
          clear HI hs1 hs2 hx hy hxy g1 g2 hka hkb
          go_upto_region 6 with (fail)
          go_quiet (fail)
          go_wp2_with fail
          go_ret
          rw [← HR.out, decide_eq_false HT.out]
          exact ⟨rfl, HB.out _⟩
      · obtain rfl : k = na := by omega
        have hki : ¬ (k : Int) < (k : Int) := by omega
        have HT : Hid (a = b ∧ Below w.heap.size w wr) := by
          have h := HI.out.2
          rw [List.take_of_length_le (by rw [HN.out.1]; exact Nat.le_refl _), List.take_of_length_le (by rw [HN.out.2]; exact Nat.le_refl _)] at h
          exact ⟨h, HI.out.1⟩
        clear HI
        go_wp2_with fail
        go_ret
        rw [← HR.out, decide_eq_true HT.out.1]
        exact ⟨rfl, HT.out.2⟩
  · have hni : ¬ (na : Int) = (nb : Int) := by omega
    have hnb2 : ((na : Int) != (nb : Int)) = true := bne_iff_ne.2 (by omega)
    have HT : Hid (¬ a = b) := fun e => hn (by rw [← HN.out.1, ← HN.out.2, e])
    go_enter Tryz.func32, Tryz.ntmps32
    go_wp2_with fail
    go_ret
    rw [← HR.out, decide_eq_false HT.out]
    exact ⟨rfl, Below.refl _ _⟩
set_option maxHeartbeats 4000000 in
set_option maxRecDepth 100000 in
theorem sameInts_any (u v : Value) (a b : List Int) (hl : a.length ≤ 1000000000) (w : World) (h1 : rw.Sl noSh w u a) (h2 : rw.Sl noSh w v b) :
    Calls Tryz.prog 92 #[u, v] w fun e w' => e = .returned (.bool (decide (a = b))) ∧ Below w.heap.size w w' := by
  obtain ⟨r, hr⟩ : ∃ r, decide (a = b) = r := ⟨_, rfl⟩
  rw [hr]
  have HR := Lib.hid hr
  clear hr
  obtain ⟨ua, uc, rfl⟩ := sl_form h1
  obtain ⟨va, vc, rfl⟩ := sl_form h2
  obtain ⟨na, hna⟩ : ∃ n, a.length = n := ⟨_, rfl⟩
  obtain ⟨nb, hnb⟩ : ∃ n, b.length = n := ⟨_, rfl⟩
  have HN : Hid (a.length = na ∧ b.length = nb) := ⟨hna, hnb⟩
  have H1 := Lib.hid h1
  have H2 := Lib.hid h2
  rw [hna] at H1 hl ⊢
  rw [hnb] at H2 ⊢
  clear h1 h2 hna hnb
  by_cases hn : na = nb
  · have hni : (na : Int) = (nb : Int) := by omega
    subst hn
    clear hni
    go_enter Tryz.func92, Tryz.ntmps92
    go_wp2_with fail
    go_loopw [5] (fun i wr => ∃ k : Nat, i = .int .i64 (k : Nat) ∧ k ≤ na ∧ Hid (Below w.heap.size w wr ∧ a.take k = b.take k))
      (fun i _ => na - (intOf i).toNat)
    case atStart => exact ⟨0, rfl, Nat.zero_le _, Below.refl _ _, rfl⟩
    case round =>
      obtain ⟨k, rfl, hk, HI⟩ := hrel
      by_cases hlt : k < na
      · have hki : (k : Int) < (na : Int) := by omega
        have hka : k < a.length := by rw [HN.out.1]; exact hlt
        have hkb : k < b.length := by rw [HN.out.2]; exact hlt
        obtain ⟨p1, o1, d1, e1, g1, c10⟩ := slN_at (H1.out.later _ HI.out.1) hka
        obtain ⟨p2, o2, d2, e2, g2, c20⟩ := slN_at (H2.out.later _ HI.out.1) hkb
        injection e1 with e11 e12 e13
        injection e2 with e21 e22 e23
        subst e11 e13 e21 e23
        clear e12 e22
        obtain ⟨x, hx⟩ : ∃ x, a[k]'hka = x := ⟨_, rfl⟩
        obtain ⟨y, hy⟩ : ∃ y, b[k]'hkb = y := ⟨_, rfl⟩
        rw [hx] at c10
        rw [hy] at c20
        have hs1 : a.take (k + 1) = a.take k ++ [x] := by rw [List.take_succ_eq_append_getElem hka, hx]
        have hs2 : b.take (k + 1) = b.take k ++ [y] := by rw [List.take_succ_eq_append_getElem hkb, hy]
        have HB : Hid (∀ n, Below w.heap.size w (wr.drewN n)) := fun n => below_drewN HI.out.1 n
        by_cases hxy : x = y
        · have hq : (x != y) = false := by simpa using hxy
          have HT : Hid (a.take (k + 1) = b.take (k + 1)) := by
            rw [hs1, hs2, HI.out.2, hxy]
            exact rfl
          clear HI hs1 hs2 hx hy hxy g1 g2 hka hkb
          go_upto_region 6 with (fail)
          go_quiet (fail)
          go_wp2_with fail
          exact ⟨⟨k + 1, by rw [Int.natCast_add]; rfl, by omega, HB.out _, HT.out⟩, by simp only [intOf]; omega⟩
        · have hq : (x != y) = true := by simpa using hxy
          have HT : Hid (¬ a = b) := fun e => hxy (by
            subst e
            rw [← hx, ← hy])
          clear HI hs1 hs2 hx hy hxy g1 g2 hka hkb
          go_upto_region 6 with (fail)
          go_quiet (fail)
          go_wp2_with fail
          go_ret
          rw [← HR.out, decide_eq_false HT.out]
          exact ⟨rfl, HB.out _⟩
      · obtain rfl : k = na := by omega
        have hki : ¬ (k : Int) < (k : Int) := by omega
        have HT : Hid (a = b ∧ Below w.heap.size w wr) := by
          have h := HI.out.2
          rw [List.take_of_length_le (by rw [HN.out.1]; exact Nat.le_refl _), List.take_of_length_le (by rw [HN.out.2]; exact Nat.le_refl _)] at h
          exact ⟨h, HI.out.1⟩
        clear HI
        go_wp2_with fail
        go_ret
        rw [← HR.out, decide_eq_true HT.out.1]
        exact ⟨rfl, HT.out.2⟩
  · have hni : ¬ (na : Int) = (nb : Int) := by omega
    have hnb2 : ((na : Int) != (nb : Int)) = true := bne_iff_ne.2 (by omega)
    have HT : Hid (¬ a = b) := fun e => hn (by rw [← HN.out.1, ← HN.out.2, e])
    go_enter Tryz.func92, Tryz.ntmps92
    go_wp2_with fail
    go_ret
    rw [← HR.out, decide_eq_false HT.out]
    exact ⟨rfl, Below.refl _ _⟩
end Go.Proofs.YteeeakbgofjinaaGreat.jr
/-! JrSl -/
namespace Go.Proofs.YteeeakbgofjinaaGreat.jr
set_option linter.unusedVariables false
open Go.RowKit
open fl (S S_size S_append S_inj)
open rw (Arr But below_box bnext below_drew below_drewN Fr)
open dk (PD Step Nu Inv)

/-- Two logs in their boxes. -/
structure Lb (w W : World) (x y : Nat) (b1 t1 b2 t2 : Nat) (cu eu cv ev : Value) (c1 c2 : List Int) (l1 l2 : List EnIn) : Prop where
  x : Arr W x 45 (lgC b1 t1 cu eu)
  y : Arr W y 45 (lgC b2 t2 cv ev)
  c1 : rw.Sl noSh W cu c1
  c2 : rw.Sl noSh W cv c2
  l1 : rw.Sl enSh W eu l1
  l2 : rw.Sl enSh W ev l2
  b : Below w.heap.size w W
theorem Lb.below {w W W' : World} {x y : Nat} {b1 t1 b2 t2 : Nat} {cu eu cv ev : Value} {c1 c2 : List Int} {l1 l2 : List EnIn} (h : Lb w W x y b1 t1 b2 t2 cu eu cv ev c1 c2 l1 l2) (k : Below W.heap.size W W') : Lb w W' x y b1 t1 b2 t2 cu eu cv ev c1 c2 l1 l2 :=
  ⟨h.x.below k, h.y.below k, h.c1.later _ k, h.c2.later _ k, h.l1.later _ k, h.l2.later _ k, h.b.trans (k.mono h.b.size)⟩
set_option maxHeartbeats 8000000 in
set_option maxRecDepth 100000 in
theorem sameLogs_any (b1 t1 b2 t2 : Nat) (cu eu cv ev : Value) (c1 c2 : List Int) (l1 l2 : List EnIn) (hc : c1.length ≤ 1000000000) (hl : l1.length ≤ 1000000000) (w : World) (h1 : rw.Sl noSh w cu c1) (h2 : rw.Sl noSh w cv c2) (h3 : rw.Sl enSh w eu l1) (h4 : rw.Sl enSh w ev l2) :
    Calls Tryz.prog 48 #[.agg #[.int .u64 (b1 : Nat), .int .u64 (t1 : Nat), cu, eu], .agg #[.int .u64 (b2 : Nat), .int .u64 (t2 : Nat), cv, ev]] w fun e w' => e = .returned (.bool (decide (b1 = b2 ∧ t1 = t2 ∧ c1 = c2 ∧ l1 = l2))) ∧ Below w.heap.size w w' := by
  obtain ⟨a1, k1, rfl⟩ := sl_form h1
  obtain ⟨a2, k2, rfl⟩ := sl_form h2
  obtain ⟨a3, k3, rfl⟩ := sl_form h3
  obtain ⟨a4, k4, rfl⟩ := sl_form h4
  obtain ⟨n1, hn1⟩ : ∃ n, c1.length = n := ⟨_, rfl⟩
  obtain ⟨n2, hn2⟩ : ∃ n, c2.length = n := ⟨_, rfl⟩
  obtain ⟨n3, hn3⟩ : ∃ n, l1.length = n := ⟨_, rfl⟩
  obtain ⟨n4, hn4⟩ : ∃ n, l2.length = n := ⟨_, rfl⟩
  rw [hn1] at h1
  rw [hn2] at h2
  rw [hn3] at h3
  rw [hn4] at h4
  rw [hn1, hn2, hn3, hn4]
  obtain ⟨r, hr⟩ : ∃ r, decide (b1 = b2 ∧ t1 = t2 ∧ c1 = c2 ∧ l1 = l2) = r := ⟨_, rfl⟩
  rw [hr]
  have HR := Lib.hid hr
  have HI := Lib.hid fun W (x : rw.Sl noSh W (.slice a1 n1 k1) c1) (y : rw.Sl noSh W (.slice a2 n2 k2) c2) => sameInts_any _ _ c1 c2 hc W x y
  have HE := Lib.hid fun W (x : rw.Sl enSh W (.slice a3 n3 k3) l1) (y : rw.Sl enSh W (.slice a4 n4 k4) l2) => sameEntries_any _ _ l1 l2 hl W x y
  obtain ⟨q, hq⟩ : ∃ q, w.heap.size = q := ⟨_, rfl⟩
  have H0 : Hid (Lb w ((w.alloc (.cells #[.int .u64 (b1 : Nat), .int .u64 (t1 : Nat), .slice a1 n1 k1, .slice a3 n3 k3] 45)).alloc (.cells #[.int .u64 (b2 : Nat), .int .u64 (t2 : Nat), .slice a2 n2 k2, .slice a4 n4 k4] 45)) w.heap.size (w.heap.size + 1) b1 t1 b2 t2 (.slice a1 n1 k1) (.slice a3 n3 k3) (.slice a2 n2 k2) (.slice a4 n4 k4) c1 c2 l1 l2) := by
    have j1 := below_box w (.cells #[.int .u64 (b1 : Nat), .int .u64 (t1 : Nat), .slice a1 n1 k1, .slice a3 n3 k3] 45)
    have x1 := Arr.new w 45 #[.int .u64 (b1 : Nat), .int .u64 (t1 : Nat), .slice a1 n1 k1, .slice a3 n3 k3]
    have hs : (w.alloc (.cells #[.int .u64 (b1 : Nat), .int .u64 (t1 : Nat), .slice a1 n1 k1, .slice a3 n3 k3] 45)).heap.size = w.heap.size + 1 := by simp
    have g1 := h1.later _ j1
    have g2 := h2.later _ j1
    have g3 := h3.later _ j1
    have g4 := h4.later _ j1
    generalize w.alloc (.cells #[.int .u64 (b1 : Nat), .int .u64 (t1 : Nat), .slice a1 n1 k1, .slice a3 n3 k3] 45) = W at *
    have j2 := below_box W (.cells #[.int .u64 (b2 : Nat), .int .u64 (t2 : Nat), .slice a2 n2 k2, .slice a4 n4 k4] 45)
    have x2 := Arr.new W 45 #[.int .u64 (b2 : Nat), .int .u64 (t2 : Nat), .slice a2 n2 k2, .slice a4 n4 k4]
    rw [hs] at x2
    exact ⟨x1.below j2, x2, g1.later _ j2, g2.later _ j2, g3.later _ j2, g4.later _ j2, j1.trans (j2.mono j1.size)⟩
  clear h1 h2 h3 h4 hr hn1 hn2 hn3 hn4 hq hc hl
  go_enter Tryz.func48, Tryz.ntmps48
  go_upto_region 1 with (fail)
  generalize (w.alloc (.cells #[.int .u64 (b1 : Nat), .int .u64 (t1 : Nat), .slice a1 n1 k1, .slice a3 n3 k3] 45)).alloc (.cells #[.int .u64 (b2 : Nat), .int .u64 (t2 : Nat), .slice a2 n2 k2, .slice a4 n4 k4] 45) = W0 at *
  obtain ⟨x0, x1, x2, x3⟩ : W0.cell? ⟨w.heap.size, 0, none⟩ = some (.int .u64 (b1 : Nat)) ∧ W0.cell? ⟨w.heap.size, 1, none⟩ = some (.int .u64 (t1 : Nat)) ∧ W0.cell? ⟨w.heap.size, 2, none⟩ = some (.slice a1 n1 k1) ∧ W0.cell? ⟨w.heap.size, 3, none⟩ = some (.slice a3 n3 k3) := ⟨H0.out.x.cell rfl, H0.out.x.cell rfl, H0.out.x.cell rfl, H0.out.x.cell rfl⟩
  obtain ⟨y0, y1, y2, y3⟩ : W0.cell? ⟨w.heap.size + 1, 0, none⟩ = some (.int .u64 (b2 : Nat)) ∧ W0.cell? ⟨w.heap.size + 1, 1, none⟩ = some (.int .u64 (t2 : Nat)) ∧ W0.cell? ⟨w.heap.size + 1, 2, none⟩ = some (.slice a2 n2 k2) ∧ W0.cell? ⟨w.heap.size + 1, 3, none⟩ = some (.slice a4 n4 k4) := ⟨H0.out.y.cell rfl, H0.out.y.cell rfl, H0.out.y.cell rfl, H0.out.y.cell rfl⟩
  by_cases e1 : b1 = b2
  · have e1i : ((b1 : Int) == (b2 : Int)) = true := beq_iff_eq.2 (by omega)
    by_cases e2 : t1 = t2
    · have e2i : ((t1 : Int) == (t2 : Int)) = true := beq_iff_eq.2 (by omega)
      have hI := HI.out W0 H0.out.c1 H0.out.c2
      by_cases e3 : c1 = c2
      · rw [decide_eq_true e3] at hI
        have HT : Hid (decide (l1 = l2) = r) := Lib.hid (by rw [← HR.out]; simp [e1, e2, e3])
        clear HR e1 e2 e3
        go_wp2_with fail
        refine hI.mono ?_
        clear hI x0 x1 x2 x3 y0 y1 y2 y3
        rintro e w2 ⟨rfl, b2'⟩
        have H2 := Lib.hid (H0.out.below b2')
        have hE := HE.out w2 H2.out.l1 H2.out.l2
        rw [HT.out] at hE
        have x3 : w2.cell? ⟨w.heap.size, 3, none⟩ = some (.slice a3 n3 k3) := H2.out.x.cell rfl
        have y3 : w2.cell? ⟨w.heap.size + 1, 3, none⟩ = some (.slice a4 n4 k4) := H2.out.y.cell rfl
        clear b2' H0
        go_wp2_with fail
        refine hE.mono ?_
        clear hE x3 y3
        rintro e w3 ⟨rfl, b3'⟩
        have B3 := Lib.hid (H2.out.below b3').b
        clear b3' H2 HT
        go_wp2_with fail
        go_ret
        exact ⟨rfl, B3.out⟩
      · rw [decide_eq_false e3] at hI
        have HT : Hid (false = r) := Lib.hid (by rw [← HR.out]; simp [e3])
        clear HR e1 e2 e3
        go_wp2_with fail
        refine hI.mono ?_
        clear hI x0 x1 x2 x3 y0 y1 y2 y3
        rintro e w2 ⟨rfl, b2'⟩
        have B2 := Lib.hid (H0.out.below b2').b
        clear b2' H0
        go_wp2_with fail
        go_ret
        rw [← HT.out]
        exact ⟨rfl, B2.out⟩
    · have e2i : ((t1 : Int) == (t2 : Int)) = false := beq_eq_false_iff_ne.2 (by omega)
      have HT : Hid (false = r) := Lib.hid (by rw [← HR.out]; simp [e2])
      clear HR e1 e2
      go_wp2_with fail
      go_ret
      rw [← HT.out]
      exact ⟨rfl, H0.out.b⟩
  · have e1i : ((b1 : Int) == (b2 : Int)) = false := beq_eq_false_iff_ne.2 (by omega)
    have HT : Hid (false = r) := Lib.hid (by rw [← HR.out]; simp [e1])
    clear HR e1
    go_wp2_with fail
    go_ret
    rw [← HT.out]
    exact ⟨rfl, H0.out.b⟩
end Go.Proofs.YteeeakbgofjinaaGreat.jr
