/-
  What the program's Parse answers.
-/
import Derived.Test.YtbaeillecojilaaDoorSeqParseP
namespace Go.Proofs.YtbaeillecojilaaDoor.sq
open Go.RowKit

set_option maxHeartbeats 4000000 in
set_option maxRecDepth 100000 in
theorem parse_any (l : List UInt8) (hl : l.length ≤ 140737488355328) (w : World) (hE : Errs w) :
    Calls Tryd.prog 10 #[.string (S l)] w fun e w' => (∃ a2 c2, e = .returned (.tuple #[.slice a2 (parseOf l).length c2, .bool (parseOk l)]) ∧ RowR w' a2 (parseOf l)) ∧ Below w.heap.size w w' := by
  obtain ⟨i0, hi, hz0, hz1, hz2⟩ := info_parts infoR
  have hC := Tryd.strings_Count_one (S l) 44 w
  rw [S_data] at hC
  unfold Lib.countByte at hC
  have hcnt := split_count 44 _ l (Nat.le_refl _)
  have fin : Hid (parseOk l = false → parseOf l = [] ∧ parseOk l = false) := fun h => ⟨by unfold parseOf; rw [h]; rfl, h⟩
  by_cases h64 : 64 ≤ l.count 44
  · have HF := Lib.hid (fin.out (parse_bad_len (by omega)))
    have hg : (64 : Int) ≤ ((l.count 44 : Nat) : Int) := by omega
    clear fin hcnt hE
    generalize l.count 44 = n at *
    go_enter Tryd.func10, Tryd.ntmps10
    go_wp2_with fail
    refine hC.mono ?_
    rintro e w1 ⟨rfl, rfl⟩
    clear hC
    go_wp2_with fail
    refine bodyPost_ret (results_tmp2 rfl _ _ _) rfl ⟨⟨none, 0, ?_, ?_⟩, Below.refl _ _⟩
    · rw [HF.out.1, HF.out.2]; rfl
    · rw [HF.out.1]; exact .inl rfl
  have hg : ¬ (64 : Int) ≤ ((l.count 44 : Nat) : Int) := by omega
  have hsp := split_any 44 l hl (by omega) w
  have hp64 : (split 44 l).length ≤ 64 := by omega
  have hpart : Hid (∀ p ∈ split 44 l, p.length ≤ 140737488355328) := fun p hp => Nat.le_trans (split_part hp) hl
  have hpos := split_pos 44 l
  have hbad : Hid (∀ k (h : k < (split 44 l).length), rangeOk (split 44 l)[k] = false → parseOk l = false) := fun k h hf => parse_bad h hf
  have hgood : Hid ((∀ j (h : j < (split 44 l).length), j < (split 44 l).length → rangeOk (split 44 l)[j] = true) → parseOf l = (split 44 l).map rangeOf ∧ parseOk l = true) := fun h2 =>
    ⟨by unfold parseOf; rw [if_pos (parse_good hp64 h2)], parse_good hp64 h2⟩
  have HE := Lib.hid hE
  clear hE hcnt h64
  generalize l.count 44 = n at *
  go_enter Tryd.func10, Tryd.ntmps10
  go_wp2_with fail
  refine hC.mono ?_
  rintro e w0 ⟨rfl, rfl⟩
  clear hC
  go_wp2_with fail
  refine hsp.mono ?_
  rintro e w1 ⟨⟨a1, rfl, hrow⟩, b1⟩
  have HROW := Lib.hid hrow
  have HE1 := Lib.hid (HE.out.later b1)
  clear hsp hrow HE
  generalize split 44 l = parts at *
  go_wp2_with fail
  go_loopw [4, 15] (fun v i wr => ∃ k : Nat, i = .int .i64 k ∧ k ≤ parts.length ∧ Hid (∀ j (h : j < parts.length), j < k → rangeOk parts[j] = true) ∧ Hid (wr.ownsRow w1.heap.size 41 2 v k (cellsR ((parts.take k).map rangeOf))) ∧ Below w1.heap.size w1 wr)
    (fun _ i _ => parts.length - (intOf i).toNat)
  case atStart => exact ⟨0, rfl, Nat.zero_le _, Lib.hid (fun j _ h => absurd h (by omega)), Lib.hid (World.ownsRow_nil _ _ _ _), Below.refl _ _⟩
  case round =>
    obtain ⟨k, rfl, hk, HN, HO, hB⟩ := hrel
    have hBs := hB.size
    have hBw : Hid (∀ W, Below w1.heap.size w1 W → Below w0.heap.size w0 W) := fun W h => b1.trans (h.mono b1.size)
    by_cases hlt : k < parts.length
    · obtain ⟨b, off, rfl, hb, hc⟩ := row_cell (HROW.out.later hB) hpos
      have ck := hc k hlt
      have hki : (k : Int) < (parts.length : Int) := by omega
      obtain ⟨p, hp⟩ : ∃ p, parts[k]'hlt = p := ⟨_, rfl⟩
      rw [hp] at ck
      have hpl := hpart.out p (by rw [← hp]; exact List.getElem_mem hlt)
      have hcall := prange_any p hpl wr (HE1.out.later hB)
      cases hrk : rangeOk p with
      | false =>
        have HF := Lib.hid (fin.out (hbad.out k hlt (by rw [hp]; exact hrk)))
        have hok : okRange p = .agg #[.int .u64 0, .int .u64 0] := by unfold okRange; rw [hrk]; rfl
        rw [hok, hrk] at hcall
        have HBW := hBw
        clear hc hp HN fin hbad hgood hpart HE1 hrk hok hBw HO
        go_wp2_with fail
        refine hcall.mono ?_
        rintro e w2 ⟨rfl, b2⟩
        have hB2 : Below w1.heap.size w1 (w2.alloc (.cells #[.int .u64 0, .int .u64 0] 41)) := (hB.trans (b2.mono hBs)).alloc (Nat.le_trans hBs b2.size) _
        have hBB := HBW.out _ hB2
        clear b2 hB2 HBW hB hcall ck hb
        go_wp2_with fail
        refine bodyPost_ret (results_tmp2 rfl _ _ _) rfl ⟨⟨none, 0, ?_, ?_⟩, hBB⟩
        · rw [HF.out.1, HF.out.2]; rfl
        · rw [HF.out.1]; exact .inl rfl
      | true =>
        have HG : Hid (∀ j (h : j < parts.length), j < k + 1 → rangeOk parts[j] = true) := fun j h hj => by
          by_cases h2 : j < k
          · exact HN.out j h h2
          · obtain rfl : j = k := by omega
            rw [hp]; exact hrk
        have hok : okRange p = .agg #[.int .u64 ((rangeOf p).1 : Nat), .int .u64 ((rangeOf p).2 : Nat)] := by unfold okRange; rw [if_pos hrk]
        have HNX : Hid (cellsR ((parts.take (k + 1)).map rangeOf) = cellsR ((parts.take k).map rangeOf) ++ [.int .u64 ((rangeOf p).1 : Int), .int .u64 ((rangeOf p).2 : Int)]) := by
          show _ = _
          rw [List.take_succ_eq_append_getElem hlt, List.map_append, hp, ← cellsR_snoc]; rfl
        rw [hok, hrk] at hcall
        clear hc hp HN hrk hok
        generalize (rangeOf p).1 = x at *
        generalize (rangeOf p).2 = y at *
        go_wp2_with fail
        refine hcall.mono ?_
        rintro e w2 ⟨rfl, b2⟩
        have hB2 := hB.trans (b2.mono hBs)
        have HO2 := Lib.hid (ownsRow_below HO.out b2)
        clear b2 hB HO hcall ck hb hBs
        have hBs2 := hB2.size
        go_wp2_with (at_builtin; refine wpList_append_own _ rfl _ _ 22 rfl w1.heap.size 41 i0 (.agg #[.int .u64 0, .int .u64 0]) 2 16 Tryd.underlying22 hi hz0 hz1 hz2 rfl (by decide) _ _ _ rfl ((HO2.out.alloc _).alloc _) ⟨w2.heap.size + 1, 0, none⟩ 1 1 [.int .u64 (x : Nat), .int .u64 (y : Nat)] rfl rfl ?c1 ?c2 ?c3 ?c4 ?c5 ?_)
        case c1 =>
          intro j u hj
          match j, hj with
          | 0, hj => simp at hj; subst hj; simp [Addr.add]
          | 1, hj => simp at hj; subst hj; simp [Addr.add]
        case c2 => intro u hu; simp at hu; rcases hu with rfl | rfl <;> rfl
        case c3 => unfold maxLen; omega
        case c4 => omega
        case c5 => simp; omega
        intro v5 w5 hown' hgrow hnil
        have hB5 : Below w1.heap.size w1 w5 := ((hB2.alloc hBs2 _).alloc (by simp; omega) _).grown hgrow (by simp; omega) (fun k hk => (HO2.out.lt k hk).1)
        have HO5 : Hid (w5.ownsRow w1.heap.size 41 2 v5 (k + 1) (cellsR ((parts.take (k + 1)).map rangeOf))) := by
          refine Lib.hid ?_
          rw [HNX.out]
          first | exact hown' | (rw [List.map_take]; exact hown')
        clear hown' hgrow hnil HO2 hB2 hBs2 HNX
        go_wp2_with fail
        go_roundw
        case rel => exact ⟨k + 1, by go_num, by omega, HG, HO5, hB5⟩
        case measure => simp [intOf]; omega
    · obtain rfl : k = parts.length := by omega
      obtain ⟨g1, g2⟩ := hgood.out HN.out
      have hoo := HO.out
      rw [List.take_length, ← g1] at hoo
      have hle : parts.length = (parseOf l).length := by rw [g1, List.length_map]
      obtain ⟨a2, c2, hv, hrow⟩ := rowR_of_own hle hoo
      subst hv
      have HROW2 := Lib.hid hrow
      have hBB := hBw.out wr hB
      have HG := Lib.hid g2
      clear hbad hgood HN HO hoo hrow g1 g2 hpart HROW HE1
      go_wp2_with fail
      refine bodyPost_ret (results_tmp2 rfl _ _ _) rfl ⟨⟨a2, c2, ?_, HROW2.out⟩, hBB⟩
      rw [HG.out]
      rfl
end Go.Proofs.YtbaeillecojilaaDoor.sq
