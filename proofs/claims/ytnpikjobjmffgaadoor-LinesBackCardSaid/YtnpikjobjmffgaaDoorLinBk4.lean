/-
  The law LinesBack: the call answers true. (The walk.)
-/
import Derived.Test.YtnpikjobjmffgaaDoorLinBk2
import Derived.Test.YtnpikjobjmffgaaDoorLinBk3
import Derived.Test.YtnpikjobjmffgaaDoorLinTwins
import Derived.Test.YtnpikjobjmffgaaDoorLinBnd
namespace Go.Proofs.YtnpikjobjmffgaaDoor.li
open Go.RowKit

theorem few_mono {a b : Nat} {l : List (List UInt8 × List UInt8)} (h : Few a l) (hb : a ≤ b) : Few b l := ⟨Nat.le_trans h.1 hb, fun y hy => ⟨Nat.le_trans (h.2 y hy).1 hb, Nat.le_trans (h.2 y hy).2 hb⟩⟩
theorem cat1 (t p : List UInt8) : S t ++ S p = S (t ++ p) := S_append t p
theorem cat_open (t : List UInt8) : S t ++ { data := #[123] } = S (t ++ [123]) := S_append t [123]
theorem cat_close (t : List UInt8) : S t ++ { data := #[125, 13, 10] } = S (t ++ [125, 13, 10]) := S_append t [125, 13, 10]
theorem cat_end (t : List UInt8) : S t ++ { data := #[13, 10] } = S (t ++ [13, 10]) := S_append t [13, 10]
theorem seg_cat (t : List UInt8) (x : List UInt8 × List UInt8) : ((((t ++ plain x.1) ++ [123]) ++ dec x.2.length) ++ [125, 13, 10]) ++ x.2 = t ++ seg x := by unfold seg; simp
/-- What is heard of a request. -/
def heardOf (n : Nat) (T : List UInt8) : List Hd := List.replicate (n - 1) ⟨2, []⟩ ++ [⟨1, T⟩]
theorem heardOf_len (n : Nat) (T : List UInt8) : (heardOf n T).length = n - 1 + 1 := by simp [heardOf]
theorem heardOf_go {n : Nat} {T : List UInt8} {j : Nat} (h : j < n - 1) (hj : j < (heardOf n T).length) : (heardOf n T)[j] = ⟨2, []⟩ := by
  have e : (heardOf n T)[j]? = some ⟨2, []⟩ := by
    unfold heardOf
    rw [List.getElem?_append_left (by simp; exact h)]
    simp [h]
  rw [List.getElem?_eq_getElem hj] at e
  exact Option.some.inj e
theorem heardOf_last {n : Nat} {T : List UInt8} (hj : n - 1 < (heardOf n T).length) : (heardOf n T)[n - 1] = ⟨1, T⟩ := by
  have e : (heardOf n T)[n - 1]? = some ⟨1, T⟩ := by
    unfold heardOf
    rw [List.getElem?_append_right (by simp)]
    simp
  rw [List.getElem?_eq_getElem hj] at e
  exact Option.some.inj e

set_option maxHeartbeats 8000000 in
set_option maxRecDepth 100000 in
theorem back_walk (a : Option Addr) (cap : Nat) (L : List (List (List UInt8 × List UInt8))) (hl : L.length ≤ 140737488351232) (hfw : ∀ l ∈ L, Few 140737488351232 l) (w : World) (hr0 : RowQ w a L) (hE : Errs w) :
    Calls Tryd.prog 5 #[.slice a L.length cap] w fun e w' => e = .returned (.bool true) ∧ Below w.heap.size w w' := by
  have hal := alive_any w hE
  have HNW := Lib.hid new_law
  have HFL := Lib.hid feed_law
  have HSZ := Lib.hid size_any
  have HDF := Lib.hid deaf_any
  have HPL := Lib.hid plain_any
  have HDG := Lib.hid digits_any
  have HES := Lib.hid hE
  have HR := Lib.hid hr0
  have HFW := Lib.hid hfw
  clear hE hr0 hfw
  go_enter Tryd.func5, Tryd.ntmps5
  go_wp2_with fail
  refine hal.mono ?_
  rintro e w1 ⟨rfl, b1⟩
  have HE1 := Lib.hid (HES.out.later b1)
  have hn := HNW.out w1 HE1.out.lt
  have HB1 := Lib.hid b1
  clear hal HNW b1
  go_wp2_with fail
  refine hn.mono ?_
  rintro e w2 ⟨rfl, f2, b2⟩
  have HB2 := Lib.hid (HB1.out.trans (b2.mono HB1.out.size))
  have HF2 := Lib.hid (f2.mono HB1.out.size)
  have HQ : Hid (w.heap.size ≤ w1.heap.size) := Lib.hid HB1.out.size
  clear hn HB1 HE1 f2 b2
  generalize w1.heap.size = q at *
  go_wp2_with fail
  go_loopw [4] (fun iv wr => ∃ (k : Nat) (v : Value), iv = .int .i64 k ∧ k ≤ L.length ∧ Hid (Fdb w.heap.size wr q v st0) ∧ Hid (Below w.heap.size w wr))
    (fun iv _ => L.length - (intOf iv).toNat)
  case atStart => exact ⟨0, .slice none 0 0, rfl, Nat.zero_le _, HF2, HB2⟩
  case round =>
    clear HF2 HB2
    obtain ⟨k, v, rfl, hk, HF, HB⟩ := hrel
    rename World => wr
    have hBs := HB.out.size
    by_cases hlt : k < L.length
    · obtain ⟨b, off, rfl, hb, ai, ci, cx0, hrp⟩ := rowQ_cell HR.out hlt
      have hki : (k : Int) < (L.length : Int) := by omega
      obtain ⟨hRn, hRx⟩ := HFW.out _ (List.getElem_mem hlt)
      generalize L[k]'hlt = R at *
      have HRP := Lib.hid hrp
      have HRX := Lib.hid hRx
      clear hrp hRx
      have HCX : Hid (∀ W, Below w.heap.size w W → W.cell? ⟨b, off + k, none⟩ = some (.slice ai R.length ci)) := Lib.hid (fun W h => (h.cell (p := ⟨b, off + k, none⟩) hb).trans cx0)
      have cx := HCX.out wr HB.out
      obtain ⟨n, hn⟩ : ∃ n, n = R.length := ⟨_, rfl⟩
      have HN := Lib.hid (And.intro hn trivial)
      rw [← hn] at cx hRn
      clear hn cx0
      go_wp2_with fail
      go_loopw [5, 6] (fun tv jv wi => ∃ (j : Nat) (t : List UInt8), jv = .int .i64 j ∧ tv = .string (S t) ∧ j ≤ n ∧ t.length ≤ 5100 * j ∧ Hid (t = textAt R j) ∧ Hid (∀ i (hi : i < R.length), i < j → (plain R[i].1).length ≤ 900 ∧ R[i].2.length ≤ 4096) ∧ Hid (Below w.heap.size w wi) ∧ Hid (Fdb w.heap.size wi q v st0))
        (fun _ jv _ => n - (intOf jv).toNat)
      case atStart => exact ⟨0, [], rfl, rfl, Nat.zero_le _, by simp, Lib.hid (textAt_zero R).symm, Lib.hid (fun i _ h => absurd h (by omega)), HB, HF⟩
      case round =>
        clear cx HB HF hBs
        obtain ⟨j, t, rfl, rfl, hj, htl, HT, HPB, HBi, HFi⟩ := hrel
        rename World => wi
        have cx := HCX.out wi HBi.out
        rw [← HN.out.1] at cx
        have hzt := S_size t
        have hBs := HBi.out.size
        by_cases hjl : j < n
        · have hjR : j < R.length := by have := HN.out.1; omega
          obtain ⟨bp, op, rfl, hbp, y1, y2⟩ := rowP_cell HRP.out hjR
          have z1 := (HBi.out.cell (p := ⟨bp, op + j * 2, none⟩) hbp).trans y1
          have z2 : Hid (∀ W, Below w.heap.size w W → W.cell? ⟨bp, op + j * 2 + 1, none⟩ = some (.string (S R[j].2))) := Lib.hid (fun W h => (h.cell (p := ⟨bp, op + j * 2 + 1, none⟩) hbp).trans y2)
          have hlen := HRX.out _ (List.getElem_mem hjR)
          have hji : (j : Int) < (n : Int) := by omega
          have HMID := Lib.hid (fun h => textAt_mid R (k := j) h)
          have HLAST := Lib.hid (fun h => textAt_last R (k := j) h)
          obtain ⟨x, hx⟩ : ∃ x, R[j]'hjR = x := ⟨_, rfl⟩
          have HX := Lib.hid hx
          rw [hx] at z1 hlen
          unfold Hid at z2
          rw [hx] at z2
          have Z2 := Lib.hid z2
          clear hx y1 y2 z2
          have hpa := HPL.out x.1 (by omega) wi
          have hple := plain_le x.1
          have hpB : (plain x.1).length ≤ 140737488351232 := by omega
          have htB : t.length ≤ 717761190591283200 := by omega
          have hpz := S_size (plain x.1)
          have hlz := S_size x.2
          have hap1 := cat1 t (plain x.1)
          have hsc := Lib.hid (seg_cat t x)
          have hwl : IntKind.i64.wrap ((n : Int) - 1) = ((n - 1 : Nat) : Int) := by rw [show (n : Int) - 1 = ((n - 1 : Nat) : Int) by omega]; exact IntWalk.i64_in _ (by omega)
          go_wp2_with fail
          refine hpa.mono ?_
          rintro e w3 ⟨rfl, b3⟩
          have HB3 := Lib.hid (HBi.out.trans (b3.mono hBs))
          have HF3 := Lib.hid (HFi.out.later b3)
          have hs3 := HB3.out.size
          have cx3 := HCX.out w3 HB3.out
          rw [← HN.out.1] at cx3
          have z3 := Z2.out w3 HB3.out
          clear hpa b3 z1 cx HBi HFi hBs
          have HP : Hid (∀ h : (plain x.1).length ≤ 900 ∧ x.2.length ≤ 4096, ∀ i (hi : i < R.length), i < j + 1 → (plain R[i].1).length ≤ 900 ∧ R[i].2.length ≤ 4096) := Lib.hid (fun h i hi hij => by
            by_cases h2 : i < j
            · exact HPB.out i hi h2
            · obtain rfl : i = j := by omega
              rw [HX.out]; exact h)
          have HPX := Lib.hid (rfl : plain x.1 = plain x.1)
          by_cases hp9 : (plain x.1).length ≤ 900
          · by_cases hl4 : x.2.length ≤ 4096
            · have HP2 := Lib.hid (HP.out ⟨hp9, hl4⟩)
              have i1 : ((plain x.1).length : Int) ≤ 900 := by omega
              have i2 : (x.2.length : Int) ≤ 4096 := by omega
              by_cases hjm : j + 1 < n
              · have hT1 := HMID.out (by have := HN.out.1; omega)
                rw [HX.out, ← HT.out] at hT1
                have hdl := dec_short hl4
                have hsl : (t ++ seg x).length ≤ 5100 * (j + 1) := by
                  rw [← seg_cat]
                  simp only [List.length_append, List.length_cons, List.length_nil]
                  omega
                have HT1 := Lib.hid hT1.symm
                have hjn1 : (j : Int) < ((n - 1 : Nat) : Int) := by omega
                have hdg := HDG.out x.2.length (by omega) w3
                have hap2 := cat_open (t ++ plain x.1)
                have hap3 := cat1 ((t ++ plain x.1) ++ [123]) (dec x.2.length)
                have hap4 := cat_close (((t ++ plain x.1) ++ [123]) ++ dec x.2.length)
                have hap5 := cat1 ((((t ++ plain x.1) ++ [123]) ++ dec x.2.length) ++ [125, 13, 10]) x.2
                rw [seg_cat] at hap5
                have r1 : (t ++ plain x.1).length ≤ 717901928079634432 := by rw [List.length_append]; omega
                have r2 : ((t ++ plain x.1) ++ [123]).length ≤ 717901928079634433 := by rw [List.length_append, List.length_singleton]; omega
                have r3 : (((t ++ plain x.1) ++ [123]) ++ dec x.2.length).length ≤ 717901928079634437 := by rw [List.length_append]; omega
                have r4 : ((((t ++ plain x.1) ++ [123]) ++ dec x.2.length) ++ [125, 13, 10]).length ≤ 717901928079634440 := by
                  rw [List.length_append]
                  show _ + 3 ≤ _
                  omega
                have hdz := S_size (dec x.2.length)
                have q1 := S_size (t ++ plain x.1)
                have q2 := S_size ((t ++ plain x.1) ++ [123])
                have q3 := S_size (((t ++ plain x.1) ++ [123]) ++ dec x.2.length)
                have q4 := S_size ((((t ++ plain x.1) ++ [123]) ++ dec x.2.length) ++ [125, 13, 10])
                clear hT1 HMID HLAST HT HP hsc HX HRP hple
                generalize t ++ seg x = t5 at *
                generalize (((t ++ plain x.1) ++ [123]) ++ dec x.2.length) ++ [125, 13, 10] = t4 at *
                generalize ((t ++ plain x.1) ++ [123]) ++ dec x.2.length = t3 at *
                generalize (t ++ plain x.1) ++ [123] = t2 at *
                generalize t ++ plain x.1 = t1 at *
                generalize plain x.1 = p at *
                generalize dec x.2.length = dd at *
                generalize x.2 = lx at *
                go_wp2_with fail
                refine hdg.mono ?_
                rintro e w4 ⟨rfl, b4⟩
                have HB4 := Lib.hid (HB3.out.trans (b4.mono hs3))
                have HF4 := Lib.hid (HF3.out.later b4)
                clear hdg b4 HB3 HF3 cx3 z3
                go_wp2_with fail
                go_roundw
                case rel => exact ⟨j + 1, t5, by go_num, rfl, by omega, hsl, HT1, HP2, HB4, HF4⟩
                case measure => simp [intOf]; omega
              · have hT1 := HLAST.out (by have := HN.out.1; omega)
                rw [HX.out, ← HT.out] at hT1
                have hsl : (t ++ plain x.1).length ≤ 5100 * (j + 1) := by rw [List.length_append]; omega
                have HT1 := Lib.hid hT1.symm
                have hjn1 : ¬ (j : Int) < ((n - 1 : Nat) : Int) := by omega
                clear hT1 HMID HLAST HT HP hsc HX HRP hple
                generalize t ++ plain x.1 = t1 at *
                generalize plain x.1 = p at *
                generalize x.2 = lx at *
                go_wp2_with fail
                go_roundw
                case rel => exact ⟨j + 1, t1, by go_num, rfl, by omega, hsl, HT1, HP2, HB3, HF3⟩
                case measure => simp [intOf]; omega
            · have i1 : ((plain x.1).length : Int) ≤ 900 := by omega
              have i2 : (4096 : Int) < (x.2.length : Int) := by omega
              clear HMID HLAST HP HX hsc HRP hple HT HPX
              generalize t ++ plain x.1 = t1 at *
              generalize plain x.1 = p at *
              generalize x.2 = lx at *
              go_wp2_with fail
              go_ret
              exact ⟨rfl, HB3.out⟩
          · have i1 : (900 : Int) < ((plain x.1).length : Int) := by omega
            clear HMID HLAST HP HX hsc HRP hple HT HPX
            generalize t ++ plain x.1 = t1 at *
            generalize plain x.1 = p at *
            generalize x.2 = lx at *
            go_wp2_with fail
            go_ret
            exact ⟨rfl, HB3.out⟩
        · obtain rfl : j = n := by omega
          have hTR : t = textAt R R.length := by rw [HT.out, HN.out.1]
          have htB : t.length ≤ 717761190591283200 := by omega
          by_cases ht8 : t.length ≤ 8000
          · have hrun := run_request R (fun y hy => by
              obtain ⟨i, hi, e⟩ := List.getElem_of_mem hy
              rw [← e]
              exact HPB.out i hi (by have := HN.out.1; omega)) (by rw [← hTR]; exact ht8)
            rw [← hTR, ← HN.out.1] at hrun
            have hrun2 : run st0 (t ++ [13, 10]) = (heardOf j t, st0) := hrun
            have i1 : (t.length : Int) ≤ 8000 := by omega
            have hce := cat_end t
            have htz : (t ++ [13, 10]).length ≤ 8002 := by
              rw [List.length_append]
              show t.length + 2 ≤ 8002
              omega
            have hfd := HFL.out w.heap.size q v st0 st0_ok (t ++ [13, 10]) (by omega) wi HFi.out (HES.out.below (HBi.out.mono HES.out.lt)) hBs
            have HRUN := Lib.hid hrun2
            clear hrun hrun2 hTR HT HPB HRP
            generalize t ++ [13, 10] = tz at *
            go_wp2_with fail
            refine hfd.mono ?_
            rintro e w5 ⟨lv, v5, rfl, h5⟩
            have hF5 := h5.f
            have hO5 := h5.o
            rw [HRUN.out] at hF5 hO5
            have HF5 : Hid (Fdb w.heap.size w5 q v5 st0) := hF5
            have HB5 := Lib.hid (HBi.out.trans h5.b)
            have cx5 := HCX.out w5 HB5.out
            rw [← HN.out.1] at cx5
            have hO6 : HOwn w5 wi.heap.size lv (heardOf j t) := hO5
            have hlen := heardOf_len j t
            obtain ⟨g, c, rfl, hcell⟩ := rowH_own hO6 (by omega)
            have hlast := hcell (j - 1) (by omega)
            rw [heardOf_last (by omega)] at hlast
            have HGO : Hid (∀ i, i < j - 1 → w5.cell? ⟨g, i * 2, none⟩ = some (.int .i64 2) ∧ w5.cell? ⟨g, i * 2 + 1, none⟩ = some (.string { data := #[] })) := Lib.hid (fun i hi => by
              have := hcell i (by omega)
              rw [heardOf_go hi (by omega)] at this
              exact this)
            have l1 : w5.cell? ⟨g, (j - 1) * 2, none⟩ = some (.int .i64 1) := hlast.1
            have l2 : w5.cell? ⟨g, (j - 1) * 2 + 1, none⟩ = some (.string (S t)) := hlast.2
            rw [hlen]
            obtain ⟨m, hm⟩ : ∃ m, m = j - 1 + 1 := ⟨_, rfl⟩
            obtain ⟨z, hz⟩ : ∃ z, z = j - 1 := ⟨_, rfl⟩
            rw [← hz] at hm l1 l2 HGO
            have hmx : max (j : Int) 1 = (m : Int) := by omega
            have hmw : IntKind.i64.wrap ((m : Int) - 1) = (z : Int) := by rw [show (m : Int) - 1 = (z : Int) by omega]; exact IntWalk.i64_in _ (by omega)
            have hzm : (z : Int) < (m : Int) := by omega
            have hz9 : z ≤ 140737488351232 := by omega
            rw [← hz, ← hm]
            have hself : ((S t).toList == (S t).toList) = true := by simp
            clear hlast hcell hO5 hO6 hF5 h5 hfd hlen hz hm cx HRUN HBi HFi htB htz hce
            go_wp2_with fail
            go_loopw [10] (fun iv wl => ∃ i : Nat, iv = .int .i64 i ∧ i ≤ z ∧ wl = w5)
              (fun iv _ => z - (intOf iv).toNat)
            case atStart => exact ⟨0, rfl, Nat.zero_le _, rfl⟩
            case round =>
              obtain ⟨i, rfl, hi, hwl⟩ := hrel
              have hwl2 := hwl.symm
              clear hwl
              subst hwl2
              by_cases hiz : i < z
              · have hizi : (i : Int) < (z : Int) := by omega
                have him : (i : Int) < (m : Int) := by omega
                obtain ⟨g1, g2⟩ := HGO.out i hiz
                clear l1 l2
                go_wp2_with fail
                go_roundw
                case rel => exact ⟨i + 1, by go_num, by omega, by first | rfl | trivial⟩
                case measure => simp [intOf]; omega
              · obtain rfl : i = z := by omega
                go_wp2_with fail
                go_roundw
                case rel => exact ⟨k + 1, v5, by go_num, by omega, HF5, HB5⟩
                case measure => simp [intOf]; omega
          · have i1 : (8000 : Int) < (t.length : Int) := by omega
            clear HT HPB HRP hTR
            go_wp2_with fail
            go_ret
            exact ⟨rfl, HBi.out⟩
    · obtain rfl : k = L.length := by omega
      have hsz := HSZ.out q v st0 wr HF.out.f
      rw [show ((st0.text.length : Nat) : Int) = 0 from rfl] at hsz
      go_wp2_with fail
      refine hsz.mono ?_
      rintro e w3 ⟨rfl, b3⟩
      have HB3 := Lib.hid (HB.out.trans (b3.mono hBs))
      have hdf := HDF.out q v st0 w3 (HF.out.later b3).f
      rw [show st0.deaf = false from rfl] at hdf
      have hs3 := HB3.out.size
      clear hsz b3 HF HB
      go_wp2_with fail
      refine hdf.mono ?_
      rintro e w4 ⟨rfl, b4⟩
      have HB4 := Lib.hid (HB3.out.trans (b4.mono hs3))
      clear hdf b4
      go_wp2_with fail
      go_ret
      exact ⟨rfl, HB4.out⟩
end Go.Proofs.YtnpikjobjmffgaaDoor.li
