/-
  What the reference's Hear answers: the same.
-/
import Derived.Test.YtnpikjobjmffgaaDoorLinSame
import Derived.Test.YtnpikjobjmffgaaDoorLinEnd
import Derived.Maps.AppendAt
import Derived.BigRegion
namespace Go.Proofs.YtnpikjobjmffgaaDoor.li
open Go.RowKit

theorem news_heardR (X : World) (x y : Value) : ∀ j u, ([x, y] : List Value)[j]? = some u → (X.alloc (.cells #[x, y] 45)).cell? ((⟨X.heap.size, 0, none⟩ : Addr).add j) = some u := by
  intro j u hj
  match j, hj with
  | 0, hj => simp at hj; subst hj; simp [Addr.add]
  | 1, hj => simp at hj; subst hj; simp [Addr.add]
theorem ones_heardR (x : Int) (t : ByteArray) : ∀ u ∈ ([.int .i64 x, .string t] : List Value), u.oneCell' = true := by intro u hu; simp at hu; rcases hu with rfl | rfl <;> rfl
/-- How a feeder stands, in three parts. -/
def stv (st : St) : Value := .agg #[.int .i64 ((st.part - st.text.length : Nat) : Nat), .int .i64 (st.text.length : Nat), .bool st.deaf]

/- A piece of the text, from a place on. -/
theorem take_drop_succ (s : List UInt8) (b k : Nat) (hb : b ≤ k) (hk : k < s.length) : (s.take (k + 1)).drop b = (s.take k).drop b ++ [s[k]] := by
  rw [List.take_succ_eq_append_getElem hk, List.drop_append_of_le_length (by rw [List.length_take]; omega)]
theorem drop_part (s : List UInt8) (b q k : Nat) (hbq : b ≤ q) : ((s.take k).drop b).drop (q - b) = (s.take k).drop q := by
  rw [List.drop_drop]; congr 1; omega
theorem ends_at {s : List UInt8} {q k : Nat} (hk : k < s.length) (hq : q ≤ k) : ends ((s.take (k + 1)).drop q) = (decide (2 ≤ k + 1 - q) && (decide (s.getD (k - 1) 0 = 13) && decide (s.getD k 0 = 10))) := by
  unfold ends
  have hl : ((s.take (k + 1)).drop q).length = k + 1 - q := by rw [List.length_drop, List.length_take]; omega
  rw [hl]
  by_cases h2 : 2 ≤ k + 1 - q
  · have g : ∀ j, j < k + 1 - q → ((s.take (k + 1)).drop q).getD j 0 = s.getD (q + j) 0 := fun j hj => by
      rw [List.getD_eq_getElem?_getD, List.getD_eq_getElem?_getD, List.getElem?_drop, List.getElem?_take_of_lt (by omega)]
    rw [g _ (by omega), g _ (by omega)]
    congr 4 <;> (congr 2; omega)
  · rw [decide_eq_false h2, Bool.false_and, Bool.false_and]
--H
theorem run_stopR {st : St} {l : List UInt8} {k : Nat} {H : List Hd} (h : run st (l.take k) = (H, stD)) : run st l = (H, stD) := by
  rw [← List.take_append_drop k l, run_append, h, run_deaf (st := stD) rfl]
  simp
theorem res_append {W W' : World} {B r : Nat} {lv x y : Value} {cs : Array Value} {H : List Hd} (hR : Arr W r 29 cs) (hO : HOwn W B lv H) (hg : (W.alloc (.cells #[x, y] 45)).grownBy W' lv.ownBlock) : Arr W' r 29 cs := by
  have h1 : (W.alloc (.cells #[x, y] 45)).heap[r]? = W.heap[r]? := Below.heap_alloc W _ r hR.lt
  refine (hg.block r (by have := hR.lt; simp; omega) (fun e => ?_)).trans (h1.trans hR)
  obtain ⟨cur, hc⟩ := ownsRow_type hO e.symm
  exact absurd (types_apart hc hR) (by decide)
theorem own_heard {W W' : World} {B : Nat} {lv v5 : Value} {H : List Hd} {kk : Nat} {tt : List UInt8} (_ : HOwn W B lv H) (h : W'.ownsRow B 45 2 v5 (H.length + 1) (cellsH H ++ [.int .i64 (kk : Nat), .string (S tt)])) : HOwn W' B v5 (H ++ [⟨kk, tt⟩]) := by
  unfold HOwn
  rw [cellsH_snoc, List.length_append, List.length_singleton]
  exact h
theorem res_set {w W : World} {B r : Nat} {v x0 y0 z0 : Value} {H : List Hd} (hA : Arr W r 29 #[x0, y0, z0]) (hO : HOwn W B v H) (hB : Below B w W) (hr : B ≤ r) (x y z : Value) :
    Arr (((W.setCell ⟨r, 0, none⟩ x).setCell ⟨r, 1, none⟩ y).setCell ⟨r, 2, none⟩ z) r 29 #[x, y, z] ∧ HOwn (((W.setCell ⟨r, 0, none⟩ x).setCell ⟨r, 1, none⟩ y).setCell ⟨r, 2, none⟩ z) B v H ∧ Below B w (((W.setCell ⟨r, 0, none⟩ x).setCell ⟨r, 1, none⟩ y).setCell ⟨r, 2, none⟩ z) := by
  have a1 := hA.set 0 x
  have a2 := a1.set 1 y
  have a3 := a2.set 2 z
  have e : (((#[x0, y0, z0] : Array Value).setIfInBounds 0 x).setIfInBounds 1 y).setIfInBounds 2 z = #[x, y, z] := by simp
  rw [e] at a3
  exact ⟨a3, own_other (own_other (own_other hO hA (by decide) 0 x) a1 (by decide) 1 y) a2 (by decide) 2 z, ((hB.setCell hr _).setCell hr _).setCell hr _⟩
theorem ret_pair {fn : Func} {t p : Tmp} (hf : fn.results = #[.tmp t, .cell p 29]) (tmps : Array Value) (W : World) (b : Nat) (x y z : Value) (hp : tmps.getD p undef = .pointer (some ⟨b, 0, none⟩)) (h : Arr W b 29 #[x, y, z]) :
    (results fn tmps).run Tryd.prog W = .ok (.tuple #[tmps.getD t undef, .agg #[x, y, z]]) W := by
  have hp' : tmps[p]?.getD undef = .pointer (some ⟨b, 0, none⟩) := by simpa using hp
  have hl := run_loadVar_row (P := Tryd.prog) W b 29 29 #[x, y, z] (0, 0) _ h Tryd.underlying29 rfl (by kernel_rfl)
  simp [results, hf, hp', asAddr, hl, Result.andThen]
theorem st_step {s : List UInt8} {k b q : Nat} (hk : k < s.length) (hb : b ≤ k) : St.mk ((s.take (k + 1)).drop b) (q - b) false = ⟨(s.take k).drop b ++ [s[k]], q - b, false⟩ := by rw [take_drop_succ s b k hb hk]
theorem cut_text {s : List UInt8} {k b : Nat} (hk : k < s.length) (hb : b + 1 ≤ k) : ((s.take (k + 1)).drop b).take (((s.take (k + 1)).drop b).length - 2) = (s.drop b).take (k - 1 - b) := by
  have hl : ((s.take (k + 1)).drop b).length = k + 1 - b := by rw [List.length_drop, List.length_take]; omega
  rw [hl, List.drop_take, List.take_take]
  congr 1
  omega
theorem cut_part {s : List UInt8} {k b q : Nat} (hq : b ≤ q) : ((s.drop b).take (k - 1 - b)).drop (q - b) = (s.drop q).take (k - 1 - q) := by
  rw [List.drop_take, List.drop_drop]
  congr 1
  · omega
  · congr 1; omega

set_option maxHeartbeats 8000000 in
set_option maxRecDepth 100000 in
theorem hear_any (s : List UInt8) (hs : s.length ≤ 1000000000) (w : World) :
    Calls Tryd.prog 11 #[.string (S s)] w fun e w' => (∃ ov, e = .returned (.tuple #[ov, stv (run st0 s).2]) ∧ HOwn w' w.heap.size ov (run st0 s).1) ∧ Below w.heap.size w w' := by
  obtain ⟨j0, hj, hy0, hy1, hy2⟩ := info_parts infoH
  have hz := S_size s
  have hb1 : Below w.heap.size w (w.alloc (.cells #[.int .i64 0, .int .i64 0, .bool false] 29)) := (Below.refl _ _).alloc (Nat.le_refl _) _
  have hR1 := Arr.new w 29 #[.int .i64 0, .int .i64 0, .bool false]
  have HR0 := Lib.hid hR1
  have HB0 := Lib.hid hb1
  clear hb1 hR1
  go_enter Tryd.func11, Tryd.ntmps11
  go_wp2_with fail
  go_loopw [4, 5, 6, 7] (fun ov bv qv iv wr => ∃ (k b q : Nat) (H : List Hd), iv = .int .i64 k ∧ bv = .int .i64 b ∧ qv = .int .i64 q ∧ k ≤ s.length ∧ b ≤ k ∧ b ≤ q ∧ Hid (run st0 (s.take k) = (H, ⟨(s.take k).drop b, q - b, false⟩)) ∧ Hid (HOwn wr w.heap.size ov H) ∧ Hid (Arr wr w.heap.size 29 #[.int .i64 0, .int .i64 0, .bool false]) ∧ Hid (Below w.heap.size w wr))
    (fun _ _ _ iv _ => s.length - (intOf iv).toNat)
  case atStart => exact ⟨0, 0, 0, [], rfl, rfl, rfl, Nat.zero_le _, Nat.le_refl _, Nat.le_refl _, Lib.hid rfl, Lib.hid (World.ownsRow_nil _ _ _ _), HR0, HB0⟩
  case round =>
    clear HR0 HB0
    obtain ⟨k, b, q, H, rfl, rfl, rfl, hk, hbk, hbq, HH, HOa, HRa, HBa⟩ := hrel
    have hsa := HBa.out.size
    have HLa := Lib.hid HOa.out.lt
    have hok := run_ok st0_ok (s.take k)
    have hfew : H.length ≤ (s.take k).length := by have := run_few st0 (s.take k); rw [HH.out] at this; exact this
    rw [HH.out] at hok
    rw [List.length_take] at hfew
    have hq8 : q - b ≤ 8192 := hok.p
    have hk8 : ((s.take k).drop b).length ≤ 8192 := hok.t
    rw [List.length_drop, List.length_take] at hk8
    have hH9 : H.length ≤ 1000000000 := by omega
    clear hok hfew
    rename World => wa
    by_cases hlt : k < s.length
    · have hrt := run_take st0 s k hlt
      rw [HH.out] at hrt
      have htx := take_drop_succ s b k hbk hlt
      have htl : ((s.take (k + 1)).drop b).length = k + 1 - b := by rw [List.length_drop, List.length_take]; omega
      have hpt := drop_part s b q (k + 1) hbq
      have hpl : ((s.take (k + 1)).drop q).length = k + 1 - q := by rw [List.length_drop, List.length_take]; omega
      have hkc := kind_cases ((s.take (k + 1)).drop b) (q - b)
      rw [hpt, hpl, htl] at hkc
      have hst0 := step_zero (st := ⟨(s.take k).drop b, q - b, false⟩) (c := s[k]) rfl
      have hst1 := step_end (st := ⟨(s.take k).drop b, q - b, false⟩) (c := s[k]) rfl
      have hst2 := step_long (st := ⟨(s.take k).drop b, q - b, false⟩) (c := s[k]) rfl
      have htx2 : (St.mk ((s.take k).drop b) (q - b) false).text ++ [s[k]] = (s.take (k + 1)).drop b := htx.symm
      rw [htx2] at hst0 hst1 hst2
      have hki : (k : Int) < (s.length : Int) := by omega
      have hw1 : IntKind.i64.wrap ((k : Int) + 1) = (k : Int) + 1 := IntWalk.i64_in _ (by omega)
      rcases hkc with ⟨e0, hk0⟩ | ⟨e0, he, hk1⟩ | ⟨e0, he, e1, hk2⟩ | ⟨e0, he, e1, e2, hk0⟩
      · have HR := Lib.hid (hrt.trans (by rw [hst0 hk0, List.append_nil]))
        have hkq : (k : Int) < (q : Int) := by omega
        clear hrt htx htl hpt hpl hst0 hst1 hst2 htx2 hk0 HH
        go_wp2_with fail
        go_roundw
        case rel => exact ⟨k + 1, b, q, H, by go_num, rfl, rfl, by omega, by omega, hbq, HR, HOa, HRa, HBa⟩
        case measure => simp [intOf]; omega
      · have HRT : Hid (run st0 (s.take (k + 1)) = (H ++ [endH ((s.take (k + 1)).drop b) (q - b)], endS ((s.take (k + 1)).drop b) (q - b))) := Lib.hid (hrt.trans (by rw [hst1 hk1]))
        have hqk : q ≤ k := by omega
        have hkq : ¬ (k : Int) < (q : Int) := by omega
        have hw2 : IntKind.i64.wrap ((k : Int) + 1 - (q : Int)) = ((k + 1 - q : Nat) : Int) := by rw [show (k : Int) + 1 - (q : Int) = ((k + 1 - q : Nat) : Int) by omega]; exact IntWalk.i64_in _ (by omega)
        have hw4 : IntKind.i64.wrap ((k : Int) + 1 - (b : Int)) = ((k + 1 - b : Nat) : Int) := by rw [show (k : Int) + 1 - (b : Int) = ((k + 1 - b : Nat) : Int) by omega]; exact IntWalk.i64_in _ (by omega)
        have hlt' : k < (S s).size := by rw [S_size]; exact hlt
        obtain ⟨y, hy⟩ : ∃ y, s[k]'hlt = y := ⟨_, rfl⟩
        have hx : ((S s)[k]'hlt').toNat = y.toNat := by rw [S_get s k hlt hlt', hy]
        have hgy : s.getD k 0 = y := by rw [List.getD_eq_getElem?_getD, List.getElem?_eq_getElem hlt, hy]; rfl
        have hen := ends_at hlt hqk
        rw [he, hgy] at hen
        have h2 : 2 ≤ k + 1 - q := by
          by_cases h : 2 ≤ k + 1 - q
          · exact h
          · rw [decide_eq_false h, Bool.false_and] at hen; cases hen
        rw [decide_eq_true h2, Bool.true_and] at hen
        have hw3 : IntKind.i64.wrap ((k : Int) - 1) = ((k - 1 : Nat) : Int) := by rw [show (k : Int) - 1 = ((k - 1 : Nat) : Int) by omega]; exact IntWalk.i64_in _ (by omega)
        have hlm : k - 1 < s.length := by omega
        have hlm' : k - 1 < (S s).size := by rw [S_size]; exact hlm
        obtain ⟨x, hxx⟩ : ∃ x, s[k - 1]'hlm = x := ⟨_, rfl⟩
        have hx1 : ((S s)[k - 1]'hlm').toNat = x.toNat := by rw [S_get s (k - 1) hlm hlm', hxx]
        have hgx : s.getD (k - 1) 0 = x := by rw [List.getD_eq_getElem?_getD, List.getElem?_eq_getElem hlm, hxx]; rfl
        have hkm : ((k - 1 : Nat) : Int) < (s.length : Int) := by omega
        rw [hgx] at hen
        have hxy : x = 13 ∧ y = 10 := by simpa using hen.symm
        have hq13 : ((x.toNat : Int) == 13) = true := by rw [hxy.1]; rfl
        have hq10 : ((y.toNat : Int) == 10) = true := by rw [hxy.2]; rfl
        have h2i : (2 : Int) ≤ ((k + 1 - q : Nat) : Int) := by omega
        have hct := cut_text hlt (show b + 1 ≤ k by omega)
        have hcp := cut_part (s := s) (k := k) hbq
        have hec := end_cases ((s.take (k + 1)).drop b) (q - b)
        rw [hct, hcp, htl] at hec
        have hsl1 := fun W => run_slice_string (P := Tryd.prog) W 9 (S s) .i64 .i64 (b : Int) ((k - 1 : Nat) : Int) Tryd.underlying9 (by omega) (by omega) (by rw [hz]; omega)
        have hsl2 := fun W => run_slice_string (P := Tryd.prog) W 9 (S s) .i64 .i64 (q : Int) ((k - 1 : Nat) : Int) Tryd.underlying9 (by omega) (by omega) (by rw [hz]; omega)
        simp only [Int.toNat_natCast, S_mid] at hsl1 hsl2
        have haw := fun W => awaited_any ((s.drop q).take (k - 1 - q)) (by rw [List.length_take]; omega) W
        have hnl := litN_le ((s.drop q).take (k - 1 - q))
        have HST : Hid (st0 = ⟨(s.take (k + 1)).drop (k + 1), (k + 1) - (k + 1), false⟩) := Lib.hid (by
          rw [List.drop_of_length_le (by rw [List.length_take]; omega), Nat.sub_self]; rfl)
        have hbm : (b : Int) ≤ ((k - 1 : Nat) : Int) := by omega
        have hqm : (q : Int) ≤ ((k - 1 : Nat) : Int) := by omega
        clear hrt htx htl hpt hpl hst0 hst1 hst2 htx2 hk1 HH he hen hxy hy hxx hgx hgy hct hcp e0 h2
        generalize x.toNat = xn at *
        generalize y.toNat = yn at *
        generalize k + 1 - q = n at *
        generalize k - 1 = m at *
        generalize (s.drop q).take (m - q) = P at *
        generalize (s.drop b).take (m - b) = T at *
        generalize litN P = nn at *
        generalize litB P = bb at *
        go_wp2_with fail
        refine (haw _).mono ?_
        rintro e w1 ⟨rfl, b1⟩
        have HBb := Lib.hid (HBa.out.trans (b1.mono hsa))
        have HRb := Lib.hid (HRa.out.of (b1.block _ HRa.out.lt))
        have HOb := Lib.hid (HOa.out.later b1)
        have HLb := Lib.hid HOb.out.lt
        have hsb := HBb.out.size
        clear HBa HRa HOa HLa hsa b1 haw hsl1 hsl2 hx hx1 hq13 hq10
        rcases hec with ⟨rfl, h4, h8, eH, eS⟩ | ⟨rfl, h48, eH, eS⟩ | ⟨rfl, eH, eS⟩
        · have HR : Hid (run st0 (s.take (k + 1)) = (H ++ [⟨2, []⟩], ⟨(s.take (k + 1)).drop b, (k + 1 + nn) - b, false⟩)) := Lib.hid (by
            rw [HRT.out, eH, eS]; congr 2; omega)
          have i4 : (nn : Int) ≤ 4096 := by omega
          have i8 : ((k + 1 - b : Nat) : Int) + (nn : Int) ≤ 8192 := by omega
          have v1 : IntKind.i64.wrap (nn : Int) = (nn : Int) := IntWalk.i64_in _ (by omega)
          have v2 : IntKind.i64.wrap (((k + 1 - b : Nat) : Int) + (nn : Int)) = ((k + 1 - b : Nat) : Int) + (nn : Int) := IntWalk.i64_in _ (by omega)
          have v3 : IntKind.i64.wrap ((k : Int) + 1 + (nn : Int)) = ((k + 1 + nn : Nat) : Int) := by rw [show (k : Int) + 1 + (nn : Int) = ((k + 1 + nn : Nat) : Int) by omega]; exact IntWalk.i64_in _ (by omega)
          have HQ := Lib.hid (show b ≤ k + 1 + nn by omega)
          clear HRT HST eH eS h4 h8
          generalize k + 1 - b = kb at *
          generalize k + 1 + nn = q2 at *
          go_wp2_with (at_builtin; refine wpList_append_own _ rfl _ _ 26 rfl w.heap.size 45 j0 (.agg #[.int .i64 0, .string ⟨#[]⟩]) 2 24 Tryd.underlying26 hj hy0 hy1 hy2 rfl (by decide) _ _ _ rfl (HOb.out.alloc _) ⟨w1.heap.size, 0, none⟩ 1 1 [.int .i64 2, .string ⟨#[]⟩] rfl rfl (news_heardR _ _ _) (ones_heardR _ _) ?g1 ?g2 ?g3 ?_)
          case g1 => unfold maxLen; omega
          case g2 => omega
          case g3 => first | (simp; omega) | omega
          intro v5 w5 hown' hgrow hnil
          have HB5 := Lib.hid ((HBb.out.alloc hsb _).grown hgrow (by simp; omega) (fun j h => (HLb.out j h).1))
          have HR5 := Lib.hid (res_append HRb.out HOb.out hgrow)
          have HO5 := Lib.hid (own_heard (kk := 2) (tt := []) HOb.out hown')
          clear hown' hgrow hnil HBb HRb HOb HLb
          go_wp2_with fail
          go_roundw
          case rel => exact ⟨k + 1, b, q2, _, by go_num, rfl, rfl, by omega, by omega, HQ.out, HR, HO5, HR5, HB5⟩
          case measure => simp [intOf]; omega
        · have HR : Hid (run st0 (s.take (k + 1)) = (H ++ [⟨3, T⟩], ⟨(s.take (k + 1)).drop (k + 1), (k + 1) - (k + 1), false⟩)) := Lib.hid (by
            rw [HRT.out, eH, eS, HST.out])
          clear HRT HST eH eS
          by_cases h4 : nn ≤ 4096
          · have i4 : (nn : Int) ≤ 4096 := by omega
            have i8 : (8192 : Int) < ((k + 1 - b : Nat) : Int) + (nn : Int) := by omega
            have v1 : IntKind.i64.wrap (nn : Int) = (nn : Int) := IntWalk.i64_in _ (by omega)
            have v2 : IntKind.i64.wrap (((k + 1 - b : Nat) : Int) + (nn : Int)) = ((k + 1 - b : Nat) : Int) + (nn : Int) := IntWalk.i64_in _ (by omega)
            clear h48 h4
            generalize k + 1 - b = kb at *
            go_wp2_with (at_builtin; refine wpList_append_own _ rfl _ _ 26 rfl w.heap.size 45 j0 (.agg #[.int .i64 0, .string ⟨#[]⟩]) 2 24 Tryd.underlying26 hj hy0 hy1 hy2 rfl (by decide) _ _ _ rfl (HOb.out.alloc _) ⟨w1.heap.size, 0, none⟩ 1 1 [.int .i64 3, .string (S T)] rfl rfl (news_heardR _ _ _) (ones_heardR _ _) ?h1 ?h2 ?h3 ?_)
            case h1 => unfold maxLen; omega
            case h2 => omega
            case h3 => first | (simp; omega) | omega
            intro v5 w5 hown' hgrow hnil
            have HB5 := Lib.hid ((HBb.out.alloc hsb _).grown hgrow (by simp; omega) (fun j h => (HLb.out j h).1))
            have HR5 := Lib.hid (res_append HRb.out HOb.out hgrow)
            have HO5 := Lib.hid (own_heard (kk := 3) (tt := T) HOb.out hown')
            clear hown' hgrow hnil HBb HRb HOb HLb
            go_wp2_with fail
            go_roundw
            case rel => exact ⟨k + 1, k + 1, k + 1, _, by go_num, by go_num, by go_num, by omega, by omega, Nat.le_refl _, HR, HO5, HR5, HB5⟩
            case measure => simp [intOf]; omega
          · have i4 : (4096 : Int) < (nn : Int) := by omega
            clear h48 h4
            go_wp2_with (at_builtin; refine wpList_append_own _ rfl _ _ 26 rfl w.heap.size 45 j0 (.agg #[.int .i64 0, .string ⟨#[]⟩]) 2 24 Tryd.underlying26 hj hy0 hy1 hy2 rfl (by decide) _ _ _ rfl (HOb.out.alloc _) ⟨w1.heap.size, 0, none⟩ 1 1 [.int .i64 3, .string (S T)] rfl rfl (news_heardR _ _ _) (ones_heardR _ _) ?i1 ?i2 ?i3 ?_)
            case i1 => unfold maxLen; omega
            case i2 => omega
            case i3 => first | (simp; omega) | omega
            intro v5 w5 hown' hgrow hnil
            have HB5 := Lib.hid ((HBb.out.alloc hsb _).grown hgrow (by simp; omega) (fun j h => (HLb.out j h).1))
            have HR5 := Lib.hid (res_append HRb.out HOb.out hgrow)
            have HO5 := Lib.hid (own_heard (kk := 3) (tt := T) HOb.out hown')
            clear hown' hgrow hnil HBb HRb HOb HLb
            go_wp2_with fail
            go_roundw
            case rel => exact ⟨k + 1, k + 1, k + 1, _, by go_num, by go_num, by go_num, by omega, by omega, Nat.le_refl _, HR, HO5, HR5, HB5⟩
            case measure => simp [intOf]; omega
        · have HR : Hid (run st0 (s.take (k + 1)) = (H ++ [⟨1, T⟩], ⟨(s.take (k + 1)).drop (k + 1), (k + 1) - (k + 1), false⟩)) := Lib.hid (by
            rw [HRT.out, eH, eS, HST.out])
          clear HRT HST eH eS
          go_wp2_with (at_builtin; refine wpList_append_own _ rfl _ _ 26 rfl w.heap.size 45 j0 (.agg #[.int .i64 0, .string ⟨#[]⟩]) 2 24 Tryd.underlying26 hj hy0 hy1 hy2 rfl (by decide) _ _ _ rfl (HOb.out.alloc _) ⟨w1.heap.size, 0, none⟩ 1 1 [.int .i64 1, .string (S T)] rfl rfl (news_heardR _ _ _) (ones_heardR _ _) ?l1 ?l2 ?l3 ?_)
          case l1 => unfold maxLen; omega
          case l2 => omega
          case l3 => first | (simp; omega) | omega
          intro v5 w5 hown' hgrow hnil
          have HB5 := Lib.hid ((HBb.out.alloc hsb _).grown hgrow (by simp; omega) (fun j h => (HLb.out j h).1))
          have HR5 := Lib.hid (res_append HRb.out HOb.out hgrow)
          have HO5 := Lib.hid (own_heard (kk := 1) (tt := T) HOb.out hown')
          clear hown' hgrow hnil HBb HRb HOb HLb
          go_wp2_with fail
          go_roundw
          case rel => exact ⟨k + 1, k + 1, k + 1, _, by go_num, by go_num, by go_num, by omega, by omega, Nat.le_refl _, HR, HO5, HR5, HB5⟩
          case measure => simp [intOf]; omega
      · have HR : Hid (run st0 (s.take (k + 1)) = (H ++ [⟨4, []⟩], stD)) := Lib.hid (hrt.trans (by rw [hst2 hk2]))
        have hqk : q ≤ k := by omega
        have hkq : ¬ (k : Int) < (q : Int) := by omega
        have hw2 : IntKind.i64.wrap ((k : Int) + 1 - (q : Int)) = ((k + 1 - q : Nat) : Int) := by rw [show (k : Int) + 1 - (q : Int) = ((k + 1 - q : Nat) : Int) by omega]; exact IntWalk.i64_in _ (by omega)
        have hw4 : IntKind.i64.wrap ((k : Int) + 1 - (b : Int)) = ((k + 1 - b : Nat) : Int) := by rw [show (k : Int) + 1 - (b : Int) = ((k + 1 - b : Nat) : Int) by omega]; exact IntWalk.i64_in _ (by omega)
        have hlt' : k < (S s).size := by rw [S_size]; exact hlt
        obtain ⟨y, hy⟩ : ∃ y, s[k]'hlt = y := ⟨_, rfl⟩
        have hx : ((S s)[k]'hlt').toNat = y.toNat := by rw [S_get s k hlt hlt', hy]
        have hgy : s.getD k 0 = y := by rw [List.getD_eq_getElem?_getD, List.getElem?_eq_getElem hlt, hy]; rfl
        have hen := ends_at hlt hqk
        rw [he, hgy] at hen
        by_cases h2 : 2 ≤ k + 1 - q
        · have h2i : (2 : Int) ≤ ((k + 1 - q : Nat) : Int) := by omega
          rw [decide_eq_true h2, Bool.true_and] at hen
          have hw3 : IntKind.i64.wrap ((k : Int) - 1) = ((k - 1 : Nat) : Int) := by rw [show (k : Int) - 1 = ((k - 1 : Nat) : Int) by omega]; exact IntWalk.i64_in _ (by omega)
          have hlm : k - 1 < s.length := by omega
          have hlm' : k - 1 < (S s).size := by rw [S_size]; exact hlm
          obtain ⟨x, hxx⟩ : ∃ x, s[k - 1]'hlm = x := ⟨_, rfl⟩
          have hx1 : ((S s)[k - 1]'hlm').toNat = x.toNat := by rw [S_get s (k - 1) hlm hlm', hxx]
          have hgx : s.getD (k - 1) 0 = x := by rw [List.getD_eq_getElem?_getD, List.getElem?_eq_getElem hlm, hxx]; rfl
          have hkm : ((k - 1 : Nat) : Int) < (s.length : Int) := by omega
          rw [hgx] at hen
          by_cases h13 : x = 13
          · have h10 : y ≠ 10 := by intro h; rw [h13, h] at hen; exact absurd hen (by decide)
            have hq13 : ((x.toNat : Int) == 13) = true := by rw [h13]; rfl
            have hq10 : ((y.toNat : Int) == 10) = false := by
              rw [beq_eq_false_iff_ne]
              intro h
              exact h10 (UInt8.toNat_inj.1 (by show y.toNat = 10; omega))
            clear hrt htx htl hpt hpl hst0 hst1 hst2 htx2 HH he hen hgy hy hxx hgx h13 h10 e0 h2 hk2
            generalize x.toNat = xn at *
            generalize y.toNat = yn at *
            by_cases e2 : 1000 ≤ k + 1 - q
            · have i1 : (1000 : Int) ≤ ((k + 1 - q : Nat) : Int) := by omega
              clear e1 e2
              generalize k + 1 - q = n at *
              generalize k + 1 - b = kb at *
              go_wp2_with (at_builtin; refine wpList_append_own _ rfl _ _ 26 rfl w.heap.size 45 j0 (.agg #[.int .i64 0, .string ⟨#[]⟩]) 2 24 Tryd.underlying26 hj hy0 hy1 hy2 rfl (by decide) _ _ _ rfl (HOa.out.alloc _) ⟨wa.heap.size, 0, none⟩ 1 1 [.int .i64 4, .string ⟨#[]⟩] rfl rfl (news_heardR _ _ _) (ones_heardR _ _) ?n01 ?n02 ?n03 ?_)
              case n01 => unfold maxLen; omega
              case n02 => omega
              case n03 => first | (simp; omega) | omega
              intro v5 w5 hown' hgrow hnil
              have HB5 := Lib.hid ((HBa.out.alloc hsa _).grown hgrow (by simp; omega) (fun j h => (HLa.out j h).1))
              have HR5 := Lib.hid (res_append HRa.out HOa.out hgrow)
              have HO5 := Lib.hid (own_heard (kk := 4) (tt := []) HOa.out hown')
              clear hown' hgrow hnil HBa HRa HOa HLa
              have r0 := HR5.out.cell (j := 0) rfl
              have r1 := HR5.out.cell (j := 1) rfl
              have r2 := HR5.out.cell (j := 2) rfl
              have f0 := HR5.out.frozen 0
              have f1 := HR5.out.frozen 1
              have f2 := HR5.out.frozen 2
              have HS := Lib.hid (res_set HR5.out HO5.out HB5.out (Nat.le_refl _) (.int .i64 0) (.int .i64 0) (.bool true))
              clear HR5 HO5 HB5
              go_wp2_with fail
              obtain ⟨k1, k2, k3⟩ := HS.out
              refine bodyPost_ret (ret_pair rfl _ _ _ _ _ _ rfl k1) rfl ⟨⟨v5, ?_, ?_⟩, k3⟩
              · rw [run_stopR HR.out]; rfl
              · rw [run_stopR HR.out]; exact k2
            · have i2 : (8192 : Int) ≤ ((k + 1 - b : Nat) : Int) := by omega
              have i1 : ((k + 1 - q : Nat) : Int) < 1000 := by omega
              clear e1 e2
              generalize k + 1 - q = n at *
              generalize k + 1 - b = kb at *
              go_wp2_with (at_builtin; refine wpList_append_own _ rfl _ _ 26 rfl w.heap.size 45 j0 (.agg #[.int .i64 0, .string ⟨#[]⟩]) 2 24 Tryd.underlying26 hj hy0 hy1 hy2 rfl (by decide) _ _ _ rfl (HOa.out.alloc _) ⟨wa.heap.size, 0, none⟩ 1 1 [.int .i64 4, .string ⟨#[]⟩] rfl rfl (news_heardR _ _ _) (ones_heardR _ _) ?o01 ?o02 ?o03 ?_)
              case o01 => unfold maxLen; omega
              case o02 => omega
              case o03 => first | (simp; omega) | omega
              intro v5 w5 hown' hgrow hnil
              have HB5 := Lib.hid ((HBa.out.alloc hsa _).grown hgrow (by simp; omega) (fun j h => (HLa.out j h).1))
              have HR5 := Lib.hid (res_append HRa.out HOa.out hgrow)
              have HO5 := Lib.hid (own_heard (kk := 4) (tt := []) HOa.out hown')
              clear hown' hgrow hnil HBa HRa HOa HLa
              have r0 := HR5.out.cell (j := 0) rfl
              have r1 := HR5.out.cell (j := 1) rfl
              have r2 := HR5.out.cell (j := 2) rfl
              have f0 := HR5.out.frozen 0
              have f1 := HR5.out.frozen 1
              have f2 := HR5.out.frozen 2
              have HS := Lib.hid (res_set HR5.out HO5.out HB5.out (Nat.le_refl _) (.int .i64 0) (.int .i64 0) (.bool true))
              clear HR5 HO5 HB5
              go_wp2_with fail
              obtain ⟨k1, k2, k3⟩ := HS.out
              refine bodyPost_ret (ret_pair rfl _ _ _ _ _ _ rfl k1) rfl ⟨⟨v5, ?_, ?_⟩, k3⟩
              · rw [run_stopR HR.out]; rfl
              · rw [run_stopR HR.out]; exact k2
          · have hq13 : ((x.toNat : Int) == 13) = false := by
              rw [beq_eq_false_iff_ne]
              intro h
              exact h13 (UInt8.toNat_inj.1 (by show x.toNat = 13; omega))
            clear hrt htx htl hpt hpl hst0 hst1 hst2 htx2 HH he hen hgy hy hxx hgx h13 e0 h2 hk2
            generalize x.toNat = xn at *
            generalize y.toNat = yn at *
            by_cases e2 : 1000 ≤ k + 1 - q
            · have i1 : (1000 : Int) ≤ ((k + 1 - q : Nat) : Int) := by omega
              clear e1 e2
              generalize k + 1 - q = n at *
              generalize k + 1 - b = kb at *
              go_wp2_with (at_builtin; refine wpList_append_own _ rfl _ _ 26 rfl w.heap.size 45 j0 (.agg #[.int .i64 0, .string ⟨#[]⟩]) 2 24 Tryd.underlying26 hj hy0 hy1 hy2 rfl (by decide) _ _ _ rfl (HOa.out.alloc _) ⟨wa.heap.size, 0, none⟩ 1 1 [.int .i64 4, .string ⟨#[]⟩] rfl rfl (news_heardR _ _ _) (ones_heardR _ _) ?n11 ?n12 ?n13 ?_)
              case n11 => unfold maxLen; omega
              case n12 => omega
              case n13 => first | (simp; omega) | omega
              intro v5 w5 hown' hgrow hnil
              have HB5 := Lib.hid ((HBa.out.alloc hsa _).grown hgrow (by simp; omega) (fun j h => (HLa.out j h).1))
              have HR5 := Lib.hid (res_append HRa.out HOa.out hgrow)
              have HO5 := Lib.hid (own_heard (kk := 4) (tt := []) HOa.out hown')
              clear hown' hgrow hnil HBa HRa HOa HLa
              have r0 := HR5.out.cell (j := 0) rfl
              have r1 := HR5.out.cell (j := 1) rfl
              have r2 := HR5.out.cell (j := 2) rfl
              have f0 := HR5.out.frozen 0
              have f1 := HR5.out.frozen 1
              have f2 := HR5.out.frozen 2
              have HS := Lib.hid (res_set HR5.out HO5.out HB5.out (Nat.le_refl _) (.int .i64 0) (.int .i64 0) (.bool true))
              clear HR5 HO5 HB5
              go_wp2_with fail
              obtain ⟨k1, k2, k3⟩ := HS.out
              refine bodyPost_ret (ret_pair rfl _ _ _ _ _ _ rfl k1) rfl ⟨⟨v5, ?_, ?_⟩, k3⟩
              · rw [run_stopR HR.out]; rfl
              · rw [run_stopR HR.out]; exact k2
            · have i2 : (8192 : Int) ≤ ((k + 1 - b : Nat) : Int) := by omega
              have i1 : ((k + 1 - q : Nat) : Int) < 1000 := by omega
              clear e1 e2
              generalize k + 1 - q = n at *
              generalize k + 1 - b = kb at *
              go_wp2_with (at_builtin; refine wpList_append_own _ rfl _ _ 26 rfl w.heap.size 45 j0 (.agg #[.int .i64 0, .string ⟨#[]⟩]) 2 24 Tryd.underlying26 hj hy0 hy1 hy2 rfl (by decide) _ _ _ rfl (HOa.out.alloc _) ⟨wa.heap.size, 0, none⟩ 1 1 [.int .i64 4, .string ⟨#[]⟩] rfl rfl (news_heardR _ _ _) (ones_heardR _ _) ?o11 ?o12 ?o13 ?_)
              case o11 => unfold maxLen; omega
              case o12 => omega
              case o13 => first | (simp; omega) | omega
              intro v5 w5 hown' hgrow hnil
              have HB5 := Lib.hid ((HBa.out.alloc hsa _).grown hgrow (by simp; omega) (fun j h => (HLa.out j h).1))
              have HR5 := Lib.hid (res_append HRa.out HOa.out hgrow)
              have HO5 := Lib.hid (own_heard (kk := 4) (tt := []) HOa.out hown')
              clear hown' hgrow hnil HBa HRa HOa HLa
              have r0 := HR5.out.cell (j := 0) rfl
              have r1 := HR5.out.cell (j := 1) rfl
              have r2 := HR5.out.cell (j := 2) rfl
              have f0 := HR5.out.frozen 0
              have f1 := HR5.out.frozen 1
              have f2 := HR5.out.frozen 2
              have HS := Lib.hid (res_set HR5.out HO5.out HB5.out (Nat.le_refl _) (.int .i64 0) (.int .i64 0) (.bool true))
              clear HR5 HO5 HB5
              go_wp2_with fail
              obtain ⟨k1, k2, k3⟩ := HS.out
              refine bodyPost_ret (ret_pair rfl _ _ _ _ _ _ rfl k1) rfl ⟨⟨v5, ?_, ?_⟩, k3⟩
              · rw [run_stopR HR.out]; rfl
              · rw [run_stopR HR.out]; exact k2
        · have h2i : ((k + 1 - q : Nat) : Int) < 2 := by omega
          clear hrt htx htl hpt hpl hst0 hst1 hst2 htx2 HH he hen hgy hy e0 h2 hk2
          generalize y.toNat = yn at *
          have e2 : k + 1 - q < 1000 := by omega
          have i2 : (8192 : Int) ≤ ((k + 1 - b : Nat) : Int) := by omega
          have i1 : ((k + 1 - q : Nat) : Int) < 1000 := by omega
          clear e1 e2
          generalize k + 1 - q = n at *
          generalize k + 1 - b = kb at *
          go_wp2_with (at_builtin; refine wpList_append_own _ rfl _ _ 26 rfl w.heap.size 45 j0 (.agg #[.int .i64 0, .string ⟨#[]⟩]) 2 24 Tryd.underlying26 hj hy0 hy1 hy2 rfl (by decide) _ _ _ rfl (HOa.out.alloc _) ⟨wa.heap.size, 0, none⟩ 1 1 [.int .i64 4, .string ⟨#[]⟩] rfl rfl (news_heardR _ _ _) (ones_heardR _ _) ?m21 ?m22 ?m23 ?_)
          case m21 => unfold maxLen; omega
          case m22 => omega
          case m23 => first | (simp; omega) | omega
          intro v5 w5 hown' hgrow hnil
          have HB5 := Lib.hid ((HBa.out.alloc hsa _).grown hgrow (by simp; omega) (fun j h => (HLa.out j h).1))
          have HR5 := Lib.hid (res_append HRa.out HOa.out hgrow)
          have HO5 := Lib.hid (own_heard (kk := 4) (tt := []) HOa.out hown')
          clear hown' hgrow hnil HBa HRa HOa HLa
          have r0 := HR5.out.cell (j := 0) rfl
          have r1 := HR5.out.cell (j := 1) rfl
          have r2 := HR5.out.cell (j := 2) rfl
          have f0 := HR5.out.frozen 0
          have f1 := HR5.out.frozen 1
          have f2 := HR5.out.frozen 2
          have HS := Lib.hid (res_set HR5.out HO5.out HB5.out (Nat.le_refl _) (.int .i64 0) (.int .i64 0) (.bool true))
          clear HR5 HO5 HB5
          go_wp2_with fail
          obtain ⟨k1, k2, k3⟩ := HS.out
          refine bodyPost_ret (ret_pair rfl _ _ _ _ _ _ rfl k1) rfl ⟨⟨v5, ?_, ?_⟩, k3⟩
          · rw [run_stopR HR.out]; rfl
          · rw [run_stopR HR.out]; exact k2
      · have HR : Hid (run st0 (s.take (k + 1)) = (H, ⟨(s.take (k + 1)).drop b, q - b, false⟩)) := Lib.hid (hrt.trans (by rw [hst0 hk0, List.append_nil]))
        have hqk : q ≤ k := by omega
        have hkq : ¬ (k : Int) < (q : Int) := by omega
        have hw2 : IntKind.i64.wrap ((k : Int) + 1 - (q : Int)) = ((k + 1 - q : Nat) : Int) := by rw [show (k : Int) + 1 - (q : Int) = ((k + 1 - q : Nat) : Int) by omega]; exact IntWalk.i64_in _ (by omega)
        have hw4 : IntKind.i64.wrap ((k : Int) + 1 - (b : Int)) = ((k + 1 - b : Nat) : Int) := by rw [show (k : Int) + 1 - (b : Int) = ((k + 1 - b : Nat) : Int) by omega]; exact IntWalk.i64_in _ (by omega)
        have hlt' : k < (S s).size := by rw [S_size]; exact hlt
        obtain ⟨y, hy⟩ : ∃ y, s[k]'hlt = y := ⟨_, rfl⟩
        have hx : ((S s)[k]'hlt').toNat = y.toNat := by rw [S_get s k hlt hlt', hy]
        have hgy : s.getD k 0 = y := by rw [List.getD_eq_getElem?_getD, List.getElem?_eq_getElem hlt, hy]; rfl
        have hen := ends_at hlt hqk
        rw [he, hgy] at hen
        by_cases h2 : 2 ≤ k + 1 - q
        · have h2i : (2 : Int) ≤ ((k + 1 - q : Nat) : Int) := by omega
          rw [decide_eq_true h2, Bool.true_and] at hen
          have hw3 : IntKind.i64.wrap ((k : Int) - 1) = ((k - 1 : Nat) : Int) := by rw [show (k : Int) - 1 = ((k - 1 : Nat) : Int) by omega]; exact IntWalk.i64_in _ (by omega)
          have hlm : k - 1 < s.length := by omega
          have hlm' : k - 1 < (S s).size := by rw [S_size]; exact hlm
          obtain ⟨x, hxx⟩ : ∃ x, s[k - 1]'hlm = x := ⟨_, rfl⟩
          have hx1 : ((S s)[k - 1]'hlm').toNat = x.toNat := by rw [S_get s (k - 1) hlm hlm', hxx]
          have hgx : s.getD (k - 1) 0 = x := by rw [List.getD_eq_getElem?_getD, List.getElem?_eq_getElem hlm, hxx]; rfl
          have hkm : ((k - 1 : Nat) : Int) < (s.length : Int) := by omega
          rw [hgx] at hen
          by_cases h13 : x = 13
          · have h10 : y ≠ 10 := by intro h; rw [h13, h] at hen; exact absurd hen (by decide)
            have hq13 : ((x.toNat : Int) == 13) = true := by rw [h13]; rfl
            have hq10 : ((y.toNat : Int) == 10) = false := by
              rw [beq_eq_false_iff_ne]
              intro h
              exact h10 (UInt8.toNat_inj.1 (by show y.toNat = 10; omega))
            clear hrt htx htl hpt hpl hst0 hst1 hst2 htx2 HH he hen hgy hy hxx hgx h13 h10 e0 h2 hk0
            generalize x.toNat = xn at *
            generalize y.toNat = yn at *
            have i1 : ((k + 1 - q : Nat) : Int) < 1000 := by omega
            have i2 : ((k + 1 - b : Nat) : Int) < 8192 := by omega
            clear e1 e2
            generalize k + 1 - q = n at *
            generalize k + 1 - b = kb at *
            go_wp2_with fail
            go_roundw
            case rel => exact ⟨k + 1, b, q, H, by go_num, rfl, rfl, by omega, by omega, hbq, HR, HOa, HRa, HBa⟩
            case measure => simp [intOf]; omega
          · have hq13 : ((x.toNat : Int) == 13) = false := by
              rw [beq_eq_false_iff_ne]
              intro h
              exact h13 (UInt8.toNat_inj.1 (by show x.toNat = 13; omega))
            clear hrt htx htl hpt hpl hst0 hst1 hst2 htx2 HH he hen hgy hy hxx hgx h13 e0 h2 hk0
            generalize x.toNat = xn at *
            generalize y.toNat = yn at *
            have i1 : ((k + 1 - q : Nat) : Int) < 1000 := by omega
            have i2 : ((k + 1 - b : Nat) : Int) < 8192 := by omega
            clear e1 e2
            generalize k + 1 - q = n at *
            generalize k + 1 - b = kb at *
            go_wp2_with fail
            go_roundw
            case rel => exact ⟨k + 1, b, q, H, by go_num, rfl, rfl, by omega, by omega, hbq, HR, HOa, HRa, HBa⟩
            case measure => simp [intOf]; omega
        · have h2i : ((k + 1 - q : Nat) : Int) < 2 := by omega
          clear hrt htx htl hpt hpl hst0 hst1 hst2 htx2 HH he hen hgy hy e0 h2 hk0
          generalize y.toNat = yn at *
          have i1 : ((k + 1 - q : Nat) : Int) < 1000 := by omega
          have i2 : ((k + 1 - b : Nat) : Int) < 8192 := by omega
          clear e1 e2
          generalize k + 1 - q = n at *
          generalize k + 1 - b = kb at *
          go_wp2_with fail
          go_roundw
          case rel => exact ⟨k + 1, b, q, H, by go_num, rfl, rfl, by omega, by omega, hbq, HR, HOa, HRa, HBa⟩
          case measure => simp [intOf]; omega
    · obtain rfl : k = s.length := by omega
      rw [List.take_length] at HH
      have hw1 : IntKind.i64.wrap ((s.length : Int) - (b : Int)) = ((s.length - b : Nat) : Int) := by rw [show (s.length : Int) - (b : Int) = ((s.length - b : Nat) : Int) by omega]; exact IntWalk.i64_in _ (by omega)
      by_cases hq : s.length < q
      · have hqi : (s.length : Int) < (q : Int) := by omega
        have hw2 : IntKind.i64.wrap ((q : Int) - (s.length : Int)) = ((q - s.length : Nat) : Int) := by rw [show (q : Int) - (s.length : Int) = ((q - s.length : Nat) : Int) by omega]; exact IntWalk.i64_in _ (by omega)
        go_upto_region 26 with (fail)
        generalize hw2' : wa.alloc (Obj.cells #[Value.int IntKind.i64 ((q - s.length : Nat) : Int), Value.int IntKind.i64 ((s.length - b : Nat) : Int), Value.bool false] 29) = w2 at *
        have hb2 : Below wa.heap.size wa w2 := by rw [← hw2']; exact (Below.refl _ _).alloc (Nat.le_refl _) _
        have hA2 : Arr w2 wa.heap.size 29 #[.int .i64 ((q - s.length : Nat) : Int), .int .i64 ((s.length - b : Nat) : Int), .bool false] := by rw [← hw2']; exact Arr.new wa 29 _
        have hR2 : Arr w2 w.heap.size 29 #[.int .i64 0, .int .i64 0, .bool false] := HRa.out.of (hb2.block _ HRa.out.lt)
        have hO2 := HOa.out.later hb2
        have hB2 := HBa.out.trans (hb2.mono hsa)
        have hS2 := res_set hR2 hO2 hB2 (Nat.le_refl _) (.int .i64 ((q - s.length : Nat) : Int)) (.int .i64 ((s.length - b : Nat) : Int)) (.bool false)
        have x0 := hA2.cell (j := 0) rfl
        have x1 := hA2.cell (j := 1) rfl
        have x2 := hA2.cell (j := 2) rfl
        have r0 := hR2.cell (j := 0) rfl
        have r1 := hR2.cell (j := 1) rfl
        have r2 := hR2.cell (j := 2) rfl
        have f0 := hR2.frozen 0
        have f1 := hR2.frozen 1
        have f2 := hR2.frozen 2
        have HS := Lib.hid hS2
        have HST : Hid (stv (run st0 s).2 = .agg #[.int .i64 ((q - s.length : Nat) : Int), .int .i64 ((s.length - b : Nat) : Int), .bool false]) := Lib.hid (by
          rw [HH.out]
          unfold stv
          simp only [List.length_drop]
          congr 4
          omega)
        have HR : Hid ((run st0 s).1 = H) := Lib.hid (by rw [HH.out])
        clear hb2 hA2 hR2 hO2 hB2 hS2 HH HOa HRa HBa HLa hw2' hk8
        generalize (q - s.length : Nat) = x at *
        generalize s.length - b = y at *
        go_region
        all_goals go_wp2_with fail
        all_goals obtain ⟨k1, k2, k3⟩ := HS.out
        all_goals refine bodyPost_ret (ret_pair rfl _ _ _ _ _ _ rfl k1) rfl ⟨⟨u4, ?_, ?_⟩, k3.drew⟩
        all_goals first
          | (rw [HST.out]; rfl)
          | (rw [HR.out]; exact k2)
      · have hqi : ¬ (s.length : Int) < (q : Int) := by omega
        have hq0 : q - s.length = 0 := by omega
        go_upto_region 26 with (fail)
        generalize hw2' : wa.alloc (Obj.cells #[Value.int IntKind.i64 (0 : Int), Value.int IntKind.i64 ((s.length - b : Nat) : Int), Value.bool false] 29) = w2 at *
        have hb2 : Below wa.heap.size wa w2 := by rw [← hw2']; exact (Below.refl _ _).alloc (Nat.le_refl _) _
        have hA2 : Arr w2 wa.heap.size 29 #[.int .i64 (0 : Int), .int .i64 ((s.length - b : Nat) : Int), .bool false] := by rw [← hw2']; exact Arr.new wa 29 _
        have hR2 : Arr w2 w.heap.size 29 #[.int .i64 0, .int .i64 0, .bool false] := HRa.out.of (hb2.block _ HRa.out.lt)
        have hO2 := HOa.out.later hb2
        have hB2 := HBa.out.trans (hb2.mono hsa)
        have hS2 := res_set hR2 hO2 hB2 (Nat.le_refl _) (.int .i64 (0 : Int)) (.int .i64 ((s.length - b : Nat) : Int)) (.bool false)
        have x0 := hA2.cell (j := 0) rfl
        have x1 := hA2.cell (j := 1) rfl
        have x2 := hA2.cell (j := 2) rfl
        have r0 := hR2.cell (j := 0) rfl
        have r1 := hR2.cell (j := 1) rfl
        have r2 := hR2.cell (j := 2) rfl
        have f0 := hR2.frozen 0
        have f1 := hR2.frozen 1
        have f2 := hR2.frozen 2
        have HS := Lib.hid hS2
        have HST : Hid (stv (run st0 s).2 = .agg #[.int .i64 (0 : Int), .int .i64 ((s.length - b : Nat) : Int), .bool false]) := Lib.hid (by
          rw [HH.out]
          unfold stv
          simp only [List.length_drop]
          congr 4
          omega)
        have HR : Hid ((run st0 s).1 = H) := Lib.hid (by rw [HH.out])
        clear hb2 hA2 hR2 hO2 hB2 hS2 HH HOa HRa HBa HLa hw2' hk8
        generalize s.length - b = y at *
        go_region
        all_goals go_wp2_with fail
        all_goals obtain ⟨k1, k2, k3⟩ := HS.out
        all_goals refine bodyPost_ret (ret_pair rfl _ _ _ _ _ _ rfl k1) rfl ⟨⟨u4, ?_, ?_⟩, k3.drew⟩
        all_goals first
          | (rw [HST.out]; rfl)
          | (rw [HR.out]; exact k2)
end Go.Proofs.YtnpikjobjmffgaaDoor.li
