/-
  What the program's Quote answers.
-/
import Derived.Test.YtgmopbgcimekhaaDoorWordSmall
import Derived.Lib.VarintMem
import Derived.Lib.Varint
import Derived.Lib.BufferWrite
import Derived.Laws.BytesArg
import Derived.Deep.CutRange
namespace Go.Proofs.YtgmopbgcimekhaaDoor.wo
open Go.RowKit

theorem infoU8 : (Tryd.prog.info? 5).map (fun i => (i.zero, i.size, i.bytes)) = some (some (.int .u8 0), 1, 1) := by kernel_rfl

/-- A row of bytes that the call owns, not empty, is turned into its string. -/
theorem conv_own (w : World) (B : Nat) (v : Value) (l : List UInt8) (hl : l ≠ []) (hown : w.ownsRow B 5 1 v l.length (Lib.byteCells l)) :
    (convert 37 9 v).run Tryd.prog w = .ok (.string (S l)) w := by
  obtain ⟨_, hcase⟩ := id hown
  rcases hcase with ⟨_, h0⟩ | ⟨g, cap, cur, rfl, hg, hh, hn, hcap, hsz, htake⟩
  · exact absurd (List.length_eq_zero_iff.1 h0) hl
  · have h := run_convert_bytes_arg (P := Tryd.prog) w 37 5 Tryd.underlying37 Tryd.underlying5 g 0 l.length cap (l.map fun b => (b.toNat : Int)) (by simp) (fun i hi => by
      rw [Nat.zero_add, hown.cellAt i (by omega)]
      simp [Lib.byteCells, List.getElem?_eq_getElem hi]) 9 Tryd.underlying9
    rw [h]
    congr 2
    apply ByteArray.ext
    apply Array.toList_inj.1
    rw [strOfNums_data, List.map_map, S_data]
    conv => rhs; rw [← List.map_id l]
    apply List.map_congr_left
    intro x _
    simp
theorem ownsRow_below {w w' : World} {b : Nat} {e : TypeId} {size : Nat} {v : Value} {n : Nat} {xs : List Value} (h : w.ownsRow b e size v n xs) (hb : Below w.heap.size w w') : w'.ownsRow b e size v n xs := by
  obtain ⟨h1, h2 | ⟨g, cap, cur, h3, h4, h5, h6⟩⟩ := h
  · exact ⟨h1, .inl h2⟩
  · exact ⟨h1, .inr ⟨g, cap, cur, h3, h4, (hb.block g (Array.getElem?_eq_some_iff.1 h5).1).trans h5, h6⟩⟩
theorem cells_one (c : UInt8) : Lib.byteCells [c] = [.int .u8 (c.toNat : Nat)] := by simp [Lib.byteCells]
/-- One byte more. -/
theorem own_snoc {w : World} {B : Nat} {v : Value} {t : List UInt8} {c : UInt8} (h : w.ownsRow B 5 1 v (t.length + 1) (Lib.byteCells t ++ [.int .u8 (c.toNat : Nat)])) :
    w.ownsRow B 5 1 v (t ++ [c]).length (Lib.byteCells (t ++ [c])) := by
  rw [List.length_append, List.length_singleton, Lib.byteCells_append, cells_one]
  exact h

set_option maxHeartbeats 4000000 in
set_option maxRecDepth 100000 in
theorem quote_good (l : List UInt8) (h512 : l.length ≤ 512) (hok : Hid (quoteOk l = true)) (hall : l.all (mayb 1 127 [13, 10]) = true) (w : World) :
    Calls Tryd.prog 18 #[.string (S l)] w fun e w' => e = .returned (.tuple #[.string (S (quoteOf l)), .bool (quoteOk l)]) ∧ Below w.heap.size w w' := by
  obtain ⟨i0, hi, hz0, hz1, hz2⟩ := info_parts infoU8
  have hz := S_size l
  have h5 : ¬ (512 : Int) < (l.length : Int) := by omega
  have ha := fun B1 B2 b1 b2 b3 W hA => all_any 1 127 [13, 10] B1 B2 b1 b2 b3 l (by omega) W hA
  rw [hall] at ha
  have hq := inQuotes_any w
  have hm := behind_any
  have HA := Lib.hid ha
  clear ha hall
  go_enter Tryd.func18, Tryd.ntmps18
  go_wp2_with fail
  refine hq.mono ?_
  rintro e w1 ⟨B1, B2, b1, b2, b3, rfl, hA, hb1⟩
  have h2 := HA.out B1 B2 b1 b2 b3 w1 hA
  clear HA hA hq
  go_wp2_with fail
  refine h2.mono ?_
  rintro e w2 ⟨rfl, hb2⟩
  have hB2 := hb1.trans (hb2.mono hb1.size)
  clear hb1 hb2 h2
  go_wp2_with fail
  refine (hm w2).mono ?_
  rintro e w3 ⟨g, rfl, hI, hb3⟩
  have hB3 := hB2.trans (hb3.mono hB2.size)
  clear hB2 hb3 hm
  obtain ⟨B, hB0⟩ : ∃ B, B = w3.heap.size := ⟨_, rfl⟩
  have hlit : (w3.alloc (.cells #[.int .u8 34] 5)).ownsRow B 5 1 (.slice (some ⟨w3.heap.size, 0, none⟩) 1 1) 1 [.int .u8 34] := World.ownsRow_lit w3 #[.int .u8 34] 1 (by omega) (by decide) rfl
  have hb0 : Below B w3 (w3.alloc (.cells #[.int .u8 34] 5)) := (Below.refl _ _).alloc (by omega) _
  have HB0 := Lib.hid hB0
  have hBs0 : B ≤ (w3.alloc (.cells #[.int .u8 34] 5)).heap.size := by simp; omega
  clear hB0
  go_upto_region 5 with (fail)
  change Code.wp _ _ _ _ (w3.alloc (.cells #[.int .u8 34] 5))
  generalize w3.alloc (.cells #[.int .u8 34] 5) = w4 at *
  have H0 : Hid (w4.ownsRow B 5 1 (.slice (some ⟨w3.heap.size, 0, none⟩) 1 1) ((34 : UInt8) :: (l.take 0).flatMap esc).length (Lib.byteCells (34 :: (l.take 0).flatMap esc))) := hlit
  clear hlit
  have hcl := fun c W (hb : Below B w3 W) => in1_any marks g c W (hI.later (by rw [← HB0.out]; exact hb))
  have HC := Lib.hid hcl
  clear hcl hI
  go_wp2_with fail
  go_loopw [5, 20] (fun v i wr => ∃ k : Nat, i = .int .i64 k ∧ k ≤ l.length ∧ Hid (wr.ownsRow B 5 1 v ((34 : UInt8) :: (l.take k).flatMap esc).length (Lib.byteCells (34 :: (l.take k).flatMap esc))) ∧ Below B w3 wr)
    (fun _ i _ => l.length - (intOf i).toNat)
  case atStart => exact ⟨0, rfl, Nat.zero_le _, H0, hb0⟩
  case round =>
    clear H0 hb0 hBs0
    obtain ⟨k, rfl, hk, HO, hB⟩ := hrel
    have hBs : B ≤ wr.heap.size := by have := hB.size; have := HB0.out; omega
    have hel := esc_len (l.take k)
    rw [List.length_take] at hel
    by_cases hlt : k < l.length
    · have hlt' : k < (S l).size := by rw [S_size]; exact hlt
      have het := esc_take l k hlt
      obtain ⟨d, hd⟩ : ∃ d, l[k]'hlt = d := ⟨_, rfl⟩
      rw [hd] at het
      have hx : ((S l)[k]'hlt').toNat = d.toNat := by rw [S_get l k hlt hlt', hd]
      have hki : (k : Int) < (l.length : Int) := by omega
      have hc := HC.out d wr hB
      obtain ⟨t, ht⟩ : ∃ t, t = (l.take k).flatMap esc := ⟨_, rfl⟩
      rw [← ht] at het hel HO
      have htl : t.length ≤ 1024 := by omega
      clear hd ht HC
      by_cases hsp : d = 34 ∨ d = 92
      · have hes : esc d = [92, d] := by unfold esc; rw [if_pos hsp]
        have hmk : decide (d ∈ marks) = true := by rw [decide_eq_true_iff]; rcases hsp with rfl | rfl <;> decide
        rw [hes] at het
        rw [hmk] at hc
        have HT := Lib.hid het
        clear het hes hmk hsp
        go_wp2_with fail
        refine hc.mono ?_
        rintro e w5 ⟨rfl, b5⟩
        have HO5 := Lib.hid (ownsRow_below HO.out b5)
        have hB5 := hB.trans (b5.mono hBs)
        have hBs5 : B ≤ w5.heap.size := Nat.le_trans hBs b5.size
        clear hc HO hB hBs b5
        go_wp2_with (at_builtin; refine wpList_append_own _ rfl _ _ 37 rfl B 5 i0 (.int .u8 0) 1 1 Tryd.underlying37 hi hz0 hz1 hz2 rfl (by decide) _ _ _ rfl (HO5.out.alloc _) ⟨w5.heap.size, 0, none⟩ 1 1 [.int .u8 92] rfl rfl ?c1 ?c2 ?c3 ?c4 ?c5 ?_)
        case c1 =>
          intro j u hj
          match j, hj with
          | 0, hj => simp at hj; subst hj; simp [Addr.add]
        case c2 => intro u hu; simp at hu; subst hu; rfl
        case c3 => unfold maxLen; simp; omega
        case c4 => simp; omega
        case c5 => simp; omega
        intro v6 w6 hown' hgrow hnil
        have hB6 : Below B w3 w6 := (hB5.alloc hBs5 _).grown hgrow (by simp; omega) (fun k hk => (HO5.out.lt k hk).1)
        have HO6 := Lib.hid (own_snoc (c := 92) hown')
        have hBs6 : B ≤ w6.heap.size := by have := hB6.size; have := HB0.out; omega
        clear hown' hgrow hnil HO5 hB5 hBs5
        go_wp2_with (at_builtin; refine wpList_append_own _ rfl _ _ 37 rfl B 5 i0 (.int .u8 0) 1 1 Tryd.underlying37 hi hz0 hz1 hz2 rfl (by decide) _ _ _ rfl (HO6.out.alloc _) ⟨w6.heap.size, 0, none⟩ 1 1 [.int .u8 (d.toNat : Nat)] rfl rfl ?d1 ?d2 ?d3 ?d4 ?d5 ?_)
        case d1 =>
          intro j u hj
          match j, hj with
          | 0, hj => simp at hj; subst hj; simp [Addr.add]
        case d2 => intro u hu; simp at hu; subst hu; rfl
        case d3 => unfold maxLen; simp; omega
        case d4 => simp; omega
        case d5 => simp; omega
        intro v7 w7 hown' hgrow hnil
        have hB7 : Below B w3 w7 := (hB6.alloc hBs6 _).grown hgrow (by simp; omega) (fun k hk => (HO6.out.lt k hk).1)
        have HO7 := Lib.hid (own_snoc (t := 34 :: (t ++ [92])) (c := d) (by simpa using hown'))
        clear hown' hgrow hnil HO6 hB6 hBs6
        go_wp2_with fail
        go_roundw
        case rel =>
          refine ⟨k + 1, by go_num, by omega, ?_, hB7⟩
          rw [HT.out, show (34 : UInt8) :: (t ++ [92, d]) = 34 :: (t ++ [92]) ++ [d] by simp]
          exact HO7
        case measure => simp [intOf]; omega
      · have hes : esc d = [d] := by unfold esc; rw [if_neg hsp]
        have hmk : decide (d ∈ marks) = false := by rw [decide_eq_false_iff_not]; intro h; apply hsp; simpa [marks] using h
        rw [hes] at het
        rw [hmk] at hc
        have HT := Lib.hid het
        clear het hes hmk hsp
        go_wp2_with fail
        refine hc.mono ?_
        rintro e w5 ⟨rfl, b5⟩
        have HO5 := Lib.hid (ownsRow_below HO.out b5)
        have hB5 := hB.trans (b5.mono hBs)
        have hBs5 : B ≤ w5.heap.size := Nat.le_trans hBs b5.size
        clear hc HO hB hBs b5
        go_wp2_with (at_builtin; refine wpList_append_own _ rfl _ _ 37 rfl B 5 i0 (.int .u8 0) 1 1 Tryd.underlying37 hi hz0 hz1 hz2 rfl (by decide) _ _ _ rfl (HO5.out.alloc _) ⟨w5.heap.size, 0, none⟩ 1 1 [.int .u8 (d.toNat : Nat)] rfl rfl ?f1 ?f2 ?f3 ?f4 ?f5 ?_)
        case f1 =>
          intro j u hj
          match j, hj with
          | 0, hj => simp at hj; subst hj; simp [Addr.add]
        case f2 => intro u hu; simp at hu; subst hu; rfl
        case f3 => unfold maxLen; simp; omega
        case f4 => simp; omega
        case f5 => simp; omega
        intro v6 w6 hown' hgrow hnil
        have hB6 : Below B w3 w6 := (hB5.alloc hBs5 _).grown hgrow (by simp; omega) (fun k hk => (HO5.out.lt k hk).1)
        have HO6 := Lib.hid (own_snoc (c := d) hown')
        clear hown' hgrow hnil HO5 hB5 hBs5
        go_wp2_with fail
        go_roundw
        case rel =>
          refine ⟨k + 1, by go_num, by omega, ?_, hB6⟩
          rw [HT.out, show (34 : UInt8) :: (t ++ [d]) = 34 :: t ++ [d] by simp]
          exact HO6
        case measure => simp [intOf]; omega
    · obtain rfl : k = l.length := by omega
      rw [List.take_length] at *
      have hfin : Hid (quoteOf l = 34 :: l.flatMap esc ++ [34] ∧ quoteOk l = true) := ⟨by unfold quoteOf; rw [hok.out]; rfl, hok.out⟩
      obtain ⟨t, ht⟩ : ∃ t, t = l.flatMap esc := ⟨_, rfl⟩
      rw [← ht] at hfin hel HO
      have htl : t.length ≤ 1024 := by omega
      clear ht HC hok
      go_wp2_with (at_builtin; refine wpList_append_own _ rfl _ _ 37 rfl B 5 i0 (.int .u8 0) 1 1 Tryd.underlying37 hi hz0 hz1 hz2 rfl (by decide) _ _ _ rfl (HO.out.alloc _) ⟨wr.heap.size, 0, none⟩ 1 1 [.int .u8 34] rfl rfl ?g1 ?g2 ?g3 ?g4 ?g5 ?_)
      case g1 =>
        intro j u hj
        match j, hj with
        | 0, hj => simp at hj; subst hj; simp [Addr.add]
      case g2 => intro u hu; simp at hu; subst hu; rfl
      case g3 => unfold maxLen; simp; omega
      case g4 => simp; omega
      case g5 => simp; omega
      intro v6 w6 hown' hgrow hnil
      have hB6 : Below B w3 w6 := (hB.alloc hBs _).grown hgrow (by simp; omega) (fun k hk => (HO.out.lt k hk).1)
      have HO6 := own_snoc (c := 34) hown'
      have hcv := conv_own w6 B v6 (34 :: t ++ [34]) (by simp) HO6
      have hBB : Below w.heap.size w w6 := hB3.trans (hB6.mono (by have := HB0.out; have := hB3.size; omega))
      clear hown' hgrow hnil HO HO6 hB hB6
      go_wp2_with fail
      refine bodyPost_ret (results_tmp2 rfl _ _ _) rfl ⟨?_, hBB⟩
      rw [hfin.out.1, hfin.out.2]
      rfl

set_option maxRecDepth 100000 in
theorem quote_any (l : List UInt8) (hl : l.length ≤ 140737488355328) (w : World) :
    Calls Tryd.prog 18 #[.string (S l)] w fun e w' => e = .returned (.tuple #[.string (S (quoteOf l)), .bool (quoteOk l)]) ∧ Below w.heap.size w w' := by
  have hz := S_size l
  have hmq : mayb 1 127 [13, 10] = quotable := funext mayb_quotes
  have fin : Hid (quoteOk l = false) → Ending.returned (Value.tuple #[.string ⟨#[]⟩, .bool false]) = Ending.returned (.tuple #[.string (S (quoteOf l)), .bool (quoteOk l)]) := fun h => by unfold quoteOf; rw [h.out]; rfl
  by_cases hlong : 512 < l.length
  · have HB : Hid (quoteOk l = false) := by unfold quoteOk; rw [decide_eq_false (by omega)]; rfl
    have hi : (512 : Int) < (l.length : Int) := by omega
    go_enter Tryd.func18, Tryd.ntmps18
    go_wp2_with fail
    refine bodyPost_ret (results_tmp2 rfl _ _ _) rfl ⟨?_, Below.refl _ _⟩
    exact fin HB
  · cases hall : l.all (mayb 1 127 [13, 10]) with
    | true =>
      refine quote_good l (by omega) ?_ hall w
      refine Lib.hid ?_
      unfold quoteOk
      rw [hmq] at hall
      rw [hall, decide_eq_true (by omega)]
      rfl
    | false =>
      have hi : ¬ (512 : Int) < (l.length : Int) := by omega
      have HB : Hid (quoteOk l = false) := by
        rw [hmq] at hall
        unfold quoteOk
        rw [hall, Bool.and_false]
        rfl
      have ha := fun B1 B2 b1 b2 b3 W hA => all_any 1 127 [13, 10] B1 B2 b1 b2 b3 l hl W hA
      rw [hall] at ha
      have hq := inQuotes_any w
      have HA := Lib.hid ha
      clear ha hall hmq
      go_enter Tryd.func18, Tryd.ntmps18
      go_wp2_with fail
      refine hq.mono ?_
      rintro e w1 ⟨B1, B2, b1, b2, b3, rfl, hA, hb1⟩
      have h2 := HA.out B1 B2 b1 b2 b3 w1 hA
      clear HA hA hq
      go_wp2_with fail
      refine h2.mono ?_
      rintro e w2 ⟨rfl, hb2⟩
      have hB2 := hb1.trans (hb2.mono hb1.size)
      go_wp2_with fail
      refine bodyPost_ret (results_tmp2 rfl _ _ _) rfl ⟨?_, hB2⟩
      exact fin HB
end Go.Proofs.YtgmopbgcimekhaaDoor.wo
