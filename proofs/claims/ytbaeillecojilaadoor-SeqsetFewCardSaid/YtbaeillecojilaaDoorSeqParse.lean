/-
  What the reference's Parse answers.
-/
import Derived.Test.YtbaeillecojilaaDoorSeqSplit
namespace Go.Proofs.YtbaeillecojilaaDoor.sq
open Go.RowKit

def rangeOk (p : List UInt8) : Bool := decide ((split 58 p).length ≤ 2) && endOk ((split 58 p).getD 0 []) && endOk ((split 58 p).getD ((split 58 p).length - 1) [])
def rangeOf (p : List UInt8) : Nat × Nat := (endOf ((split 58 p).getD 0 []), endOf ((split 58 p).getD ((split 58 p).length - 1) []))
def parseOk (l : List UInt8) : Bool := decide ((split 44 l).length ≤ 64) && (split 44 l).all rangeOk
def parseOf (l : List UInt8) : List (Nat × Nat) := if parseOk l = true then (split 44 l).map rangeOf else []

theorem infoR : (Tryd.prog.info? 41).map (fun i => (i.zero, i.size, i.bytes)) = some (some (.agg #[.int .u64 0, .int .u64 0]), 2, 16) := by kernel_rfl
def cellsR (l : List (Nat × Nat)) : List Value := l.flatMap fun r => [Value.int .u64 (r.1 : Int), Value.int .u64 (r.2 : Int)]
theorem cellsR_snoc (l : List (Nat × Nat)) (r : Nat × Nat) : cellsR (l ++ [r]) = cellsR l ++ [.int .u64 (r.1 : Int), .int .u64 (r.2 : Int)] := by simp [cellsR]
theorem cellsR_cons (r : Nat × Nat) (l : List (Nat × Nat)) : cellsR (r :: l) = .int .u64 (r.1 : Int) :: .int .u64 (r.2 : Int) :: cellsR l := by simp [cellsR]
theorem cellsR_get : ∀ (l : List (Nat × Nat)) (j : Nat) (h : j < l.length), (cellsR l)[j * 2]? = some (.int .u64 (l[j].1 : Int)) ∧ (cellsR l)[j * 2 + 1]? = some (.int .u64 (l[j].2 : Int))
  | r :: l, 0, _ => by rw [cellsR_cons]; exact ⟨rfl, rfl⟩
  | r :: l, j + 1, h => by
    have ih := cellsR_get l j (by simpa using h)
    rw [cellsR_cons, show (j + 1) * 2 = j * 2 + 2 by omega, show j * 2 + 2 + 1 = (j * 2 + 1) + 2 by omega]
    simpa using ih
theorem rowR_of_own {w : World} {base n : Nat} {v : Value} {l : List (Nat × Nat)} (hn : n = l.length) (h : w.ownsRow base 41 2 v n (cellsR l)) :
    ∃ a' cap', v = .slice a' l.length cap' ∧ RowR w a' l := by
  subst hn
  rcases h.2 with ⟨rfl, h0⟩ | ⟨g, cap, cur, rfl, hg, hh, hn, hcap, hsz, htake⟩
  · have : l = [] := List.length_eq_zero_iff.1 h0
    subst this
    exact ⟨none, 0, rfl, Or.inl rfl⟩
  · refine ⟨_, _, rfl, Or.inr ⟨g, 0, rfl, (Array.getElem?_eq_some_iff.1 hh).1, fun j hj => ?_⟩⟩
    have hg := cellsR_get l j hj
    exact ⟨by rw [Nat.zero_add, h.cellAt _ (by omega)]; exact hg.1, by rw [Nat.zero_add, h.cellAt _ (by omega)]; exact hg.2⟩
theorem row_cell {w : World} {a : Option Addr} {l : List (List UInt8)} (h : RowS w a l) (hp : 0 < l.length) : ∃ b off, a = some ⟨b, off, none⟩ ∧ b < w.heap.size ∧ ∀ j (h : j < l.length), w.cell? ⟨b, off + j, none⟩ = some (.string (S l[j])) := by
  rcases h with h | h
  · rw [h] at hp; simp at hp
  · exact h
theorem endOf_lt (l : List UInt8) : endOf l < 18446744073709551616 := by
  unfold endOf
  split
  · decide
  · split
    · rename_i h1 h2
      unfold endOk at h2
      rw [decide_eq_false h1, Bool.false_or, Bool.and_eq_true, decide_eq_true_eq] at h2
      omega
    · decide
theorem parse_bad_len {l : List UInt8} (h : 64 < (split 44 l).length) : parseOk l = false := by
  unfold parseOk; rw [decide_eq_false (by omega)]; rfl
theorem parse_bad {l : List UInt8} {k : Nat} (h : k < (split 44 l).length) (hf : rangeOk (split 44 l)[k] = false) : parseOk l = false := by
  have : (split 44 l).all rangeOk = false := by
    rw [List.all_eq_false]
    exact ⟨_, List.getElem_mem h, by rw [hf]; decide⟩
  unfold parseOk; rw [this, Bool.and_false]
theorem parse_good {l : List UInt8} (h1 : (split 44 l).length ≤ 64) (H : ∀ j (h : j < (split 44 l).length), j < (split 44 l).length → rangeOk (split 44 l)[j] = true) : parseOk l = true := by
  have : (split 44 l).all rangeOk = true := by
    rw [List.all_eq_true]
    intro x hx
    obtain ⟨j, hj, e⟩ := List.getElem_of_mem hx
    rw [← e]; exact H j hj hj
  unfold parseOk; rw [this, decide_eq_true h1]; rfl

set_option maxHeartbeats 4000000 in
set_option maxRecDepth 100000 in
theorem refparse_any (l : List UInt8) (hl : l.length ≤ 8796093022000) (w : World) :
    Calls Tryd.prog 11 #[.string (S l)] w fun e w' => (∃ a2 c2, e = .returned (.tuple #[.slice a2 (parseOf l).length c2, .bool (parseOk l)]) ∧ RowR w' a2 (parseOf l)) ∧ Below w.heap.size w w' := by
  obtain ⟨i0, hi, hz0, hz1, hz2⟩ := info_parts infoR
  have hsp := refsplit_any l 44 hl w
  have hpart : Hid (∀ p ∈ split 44 l, p.length ≤ 8796093022000) := fun p hp => Nat.le_trans (split_part hp) hl
  have hpos := split_pos 44 l
  have fin : Hid (parseOk l = false) → parseOf l = [] ∧ parseOk l = false := fun h => ⟨by unfold parseOf; rw [h.out]; rfl, h.out⟩
  have hbadl : Hid (64 < (split 44 l).length → parseOk l = false) := parse_bad_len
  have hbad : Hid (∀ k (h : k < (split 44 l).length), rangeOk (split 44 l)[k] = false → parseOk l = false) := fun k h hf => parse_bad h hf
  have hgood : Hid ((split 44 l).length ≤ 64 → (∀ j (h : j < (split 44 l).length), j < (split 44 l).length → rangeOk (split 44 l)[j] = true) → parseOf l = (split 44 l).map rangeOf ∧ parseOk l = true) := fun h1 h2 =>
    ⟨by unfold parseOf; rw [if_pos (parse_good h1 h2)], parse_good h1 h2⟩
  go_enter Tryd.func11, Tryd.ntmps11
  go_wp2_with fail
  refine hsp.mono ?_
  rintro e w1 ⟨⟨a1, c1, rfl, hrow⟩, b1⟩
  have HROW := Lib.hid hrow
  clear hsp hrow
  generalize split 44 l = parts at *
  go_wp2_with fail
  go_loopw [4, 6] (fun v i wr => ∃ k : Nat, i = .int .i64 k ∧ k ≤ parts.length ∧ k ≤ 64 ∧ (0 < k → parts.length ≤ 64) ∧ Hid (∀ j (h : j < parts.length), j < k → rangeOk parts[j] = true) ∧ Hid (wr.ownsRow w1.heap.size 41 2 v k (cellsR ((parts.take k).map rangeOf))) ∧ Below w1.heap.size w1 wr)
    (fun _ i _ => parts.length - (intOf i).toNat)
  case atStart => exact ⟨0, rfl, Nat.zero_le _, by omega, fun h => absurd h (by omega), Lib.hid (fun j _ h => absurd h (by omega)), Lib.hid (World.ownsRow_nil _ _ _ _), Below.refl _ _⟩
  case round =>
    obtain ⟨k, rfl, hk, hk64, hkl, HN, HO, hB⟩ := hrel
    have hBs := hB.size
    have hBw : Hid (∀ W, Below w1.heap.size w1 W → Below w.heap.size w W) := fun W h => b1.trans (h.mono b1.size)
    by_cases hlt : k < parts.length
    · obtain ⟨b, off, rfl, hb, hc⟩ := row_cell (HROW.out.later hB) hpos
      have ck := hc k hlt
      have hki : (k : Int) < (parts.length : Int) := by omega
      obtain ⟨p, hp⟩ : ∃ p, parts[k]'hlt = p := ⟨_, rfl⟩
      rw [hp] at ck
      have hpl := hpart.out p (by rw [← hp]; exact List.getElem_mem hlt)
      have hsp2 := refsplit_any p 58 hpl wr
      have hep := split_pos 58 p
      have hepart : Hid (∀ x ∈ split 58 p, x.length ≤ 140737488355328) := fun x hx => Nat.le_trans (split_part hx) (by omega)
      have hbk : Hid (rangeOk p = false → parseOk l = false) := fun h => hbad.out k hlt (by rw [hp]; exact h)
      have hgk : Hid (rangeOk p = true → ∀ j (h : j < parts.length), j < k + 1 → rangeOk parts[j] = true) := fun hf j h hj => by
        by_cases h2 : j < k
        · exact HN.out j h h2
        · obtain rfl : j = k := by omega
          rw [hp]; exact hf
      have hnext : Hid ((parts.take (k + 1)).map rangeOf = (parts.take k).map rangeOf ++ [rangeOf p]) := by
        show _ = _
        rw [List.take_succ_eq_append_getElem hlt, List.map_append, hp]; rfl
      have hdef : Hid (rangeOk p = (decide ((split 58 p).length ≤ 2) && endOk ((split 58 p).getD 0 []) && endOk ((split 58 p).getD ((split 58 p).length - 1) []))) := rfl
      have hof : Hid (rangeOf p = (endOf ((split 58 p).getD 0 []), endOf ((split 58 p).getD ((split 58 p).length - 1) []))) := rfl
      clear hc hp HN
      generalize rangeOk p = rok at *
      generalize rangeOf p = rof at *
      generalize split 58 p = ends at *
      go_wp2_with fail
      refine hsp2.mono ?_
      rintro e w2 ⟨⟨a2, c2, rfl, hrow2⟩, b2⟩
      have hB2 := hB.trans (b2.mono hBs)
      have HO2 := Lib.hid (ownsRow_below HO.out b2)
      have HR2 := Lib.hid hrow2
      clear hsp2 hrow2 b2 hB HO ck hb hBs
      have hBs2 := hB2.size
      by_cases he2 : 2 < ends.length
      · have hF := fin (Lib.hid (hbk.out (by rw [hdef.out, decide_eq_false (by omega)]; rfl)))
        have hi2 : (2 : Int) < (ends.length : Int) := by omega
        have HF := Lib.hid hF
        have hBB := hBw.out w2 hB2
        clear hF hbad hbadl hgood hbk hgk hnext hdef hof HO2 HR2 hepart
        go_wp2_with fail
        refine bodyPost_ret (results_tmp2 rfl _ _ _) rfl ⟨⟨none, 0, ?_, ?_⟩, hBB⟩
        · rw [HF.out.1, HF.out.2]; rfl
        · rw [HF.out.1]; exact .inl rfl
      · have hi2 : ¬ (2 : Int) < (ends.length : Int) := by omega
        by_cases h64 : 64 < parts.length
        · have hF := fin (Lib.hid (hbadl.out h64))
          have hi3 : (64 : Int) < (parts.length : Int) := by omega
          have HF := Lib.hid hF
          have hBB := hBw.out w2 hB2
          clear hF hbad hbadl hgood hbk hgk hnext hdef hof HO2 HR2 hepart
          go_wp2_with fail
          refine bodyPost_ret (results_tmp2 rfl _ _ _) rfl ⟨⟨none, 0, ?_, ?_⟩, hBB⟩
          · rw [HF.out.1, HF.out.2]; rfl
          · rw [HF.out.1]; exact .inl rfl
        · have hi3 : ¬ (64 : Int) < (parts.length : Int) := by omega
          obtain ⟨b', off', rfl, hb', hc'⟩ := row_cell HR2.out hep
          have hel : ends.length - 1 < ends.length := by omega
          have d0 := hc' 0 hep
          have d1 := hc' (ends.length - 1) hel
          rw [Nat.add_zero] at d0
          obtain ⟨x, hx⟩ : ∃ x, ends[0]'hep = x := ⟨_, rfl⟩
          obtain ⟨y, hy⟩ : ∃ y, ends[ends.length - 1]'hel = y := ⟨_, rfl⟩
          have gx : ends.getD 0 [] = x := by rw [List.getD_eq_getElem?_getD, List.getElem?_eq_getElem hep, hx]; rfl
          have gy : ends.getD (ends.length - 1) [] = y := by rw [List.getD_eq_getElem?_getD, List.getElem?_eq_getElem hel, hy]; rfl
          have lx := hepart.out x (by rw [← hx]; exact List.getElem_mem hep)
          have ly := hepart.out y (by rw [← hy]; exact List.getElem_mem hel)
          rw [hx] at d0
          rw [hy] at d1
          have hdef2 : Hid (rok = (endOk x && endOk y)) := by
            show rok = _
            rw [hdef.out, decide_eq_true (show ends.length ≤ 2 by omega), gx, gy]; rfl
          have hof2 : Hid (rof = (endOf x, endOf y)) := by
            show rof = _
            rw [hof.out, gx, gy]
          have hnx := refnumberr_any x lx
          have hny := refnumberr_any y ly
          have hi0 : (0 : Int) < (ends.length : Int) := by omega
          have w1i : IntKind.i64.wrap ((ends.length : Int) - 1) = (ends.length : Int) - 1 := IntWalk.i64_in _ (by omega)
          have t1 : ((ends.length : Int) - 1).toNat = ends.length - 1 := by omega
          have vx : endOf x < 18446744073709551616 := endOf_lt x
          have vy : endOf y < 18446744073709551616 := endOf_lt y
          clear hdef hof gx gy hx hy hc' hepart HR2 lx ly
          generalize endOk x = okx at *
          generalize endOk y = oky at *
          generalize endOf x = ex at *
          generalize endOf y = ey at *
          go_wp2_with fail
          refine (hnx _).mono ?_
          rintro e w3 ⟨rfl, b3⟩
          have d2 := (b3.cell (p := ⟨b', _, none⟩) hb').trans d1
          have hB3 := hB2.trans (b3.mono hBs2)
          have HO3 := Lib.hid (ownsRow_below HO2.out b3)
          have hb3 : b' < w3.heap.size := Nat.lt_of_lt_of_le hb' b3.size
          clear d0 d1 b3 hB2 HO2 hb' hBs2
          have hBs3 := hB3.size
          go_wp2_with fail
          refine (hny _).mono ?_
          rintro e w4 ⟨rfl, b4⟩
          have hB4 := hB3.trans (b4.mono hBs3)
          have HO4 := Lib.hid (ownsRow_below HO3.out b4)
          clear d2 b4 hB3 HO3 hb3 hBs3 hnx hny
          have hBs4 := hB4.size
          cases okx with
          | false =>
            have hF := fin (Lib.hid (hbk.out (by rw [hdef2.out]; rfl)))
            have HF := Lib.hid hF
            have hBB := hBw.out w4 hB4
            clear hF hbad hbadl hgood hbk hgk hnext hdef2 hof2 HO4
            go_wp2_with fail
            refine bodyPost_ret (results_tmp2 rfl _ _ _) rfl ⟨⟨none, 0, ?_, ?_⟩, hBB⟩
            · rw [HF.out.1, HF.out.2]; rfl
            · rw [HF.out.1]; exact .inl rfl
          | true =>
            cases oky with
            | false =>
              have hF := fin (Lib.hid (hbk.out (by rw [hdef2.out]; rfl)))
              have HF := Lib.hid hF
              have hBB := hBw.out w4 hB4
              clear hF hbad hbadl hgood hbk hgk hnext hdef2 hof2 HO4
              go_wp2_with fail
              refine bodyPost_ret (results_tmp2 rfl _ _ _) rfl ⟨⟨none, 0, ?_, ?_⟩, hBB⟩
              · rw [HF.out.1, HF.out.2]; rfl
              · rw [HF.out.1]; exact .inl rfl
            | true =>
              have HG := Lib.hid (hgk.out (by rw [hdef2.out]; rfl))
              have HNX : Hid (cellsR ((parts.take (k + 1)).map rangeOf) = cellsR ((parts.take k).map rangeOf) ++ [.int .u64 (ex : Int), .int .u64 (ey : Int)]) := by
                show _ = _
                rw [hnext.out, hof2.out, cellsR_snoc]
              clear hgk hbk hdef2 hof2 hnext
              go_wp2_with (at_builtin; refine wpList_append_own _ rfl _ _ 22 rfl w1.heap.size 41 i0 (.agg #[.int .u64 0, .int .u64 0]) 2 16 Tryd.underlying22 hi hz0 hz1 hz2 rfl (by decide) _ _ _ rfl (HO4.out.alloc _) ⟨w4.heap.size, 0, none⟩ 1 1 [.int .u64 (ex : Nat), .int .u64 (ey : Nat)] rfl rfl ?c1 ?c2 ?c3 ?c4 ?c5 ?_)
              case c1 =>
                intro j u hj
                match j, hj with
                | 0, hj => simp at hj; subst hj; simp [Addr.add]
                | 1, hj => simp at hj; subst hj; simp [Addr.add]
              case c2 => intro u hu; simp at hu; rcases hu with rfl | rfl <;> rfl
              case c3 => unfold maxLen; omega
              case c4 => omega
              case c5 => simp; omega
              intro v5 w5 hown' hgrow hnil
              have hB5 : Below w1.heap.size w1 w5 := (hB4.alloc hBs4 _).grown hgrow (by simp; omega) (fun k hk => (HO4.out.lt k hk).1)
              have HO5 : Hid (w5.ownsRow w1.heap.size 41 2 v5 (k + 1) (cellsR ((parts.take (k + 1)).map rangeOf))) := by
                refine Lib.hid ?_
                rw [HNX.out]
                first | exact hown' | (rw [List.map_take]; exact hown')
              clear hown' hgrow hnil HO4 hB4 hBs4 HNX
              go_wp2_with fail
              go_roundw
              case rel => exact ⟨k + 1, by go_num, by omega, by omega, fun _ => by omega, HG, HO5, hB5⟩
              case measure => simp [intOf]; omega
    · obtain rfl : k = parts.length := by omega
      obtain ⟨g1, g2⟩ := hgood.out (hkl hpos) HN.out
      have hoo := HO.out
      rw [List.take_length, ← g1] at hoo
      have hle : parts.length = (parseOf l).length := by rw [g1, List.length_map]
      obtain ⟨a2, c2, hv, hrow⟩ := rowR_of_own hle hoo
      subst hv
      have HROW2 := Lib.hid hrow
      have hBB := hBw.out wr hB
      have HG := Lib.hid g2
      clear hbad hbadl hgood HN HO hoo hrow g1 g2 hpart HROW
      go_wp2_with fail
      refine bodyPost_ret (results_tmp2 rfl _ _ _) rfl ⟨⟨a2, c2, ?_, HROW2.out⟩, hBB⟩
      rw [HG.out]
      rfl
end Go.Proofs.YtbaeillecojilaaDoor.sq
