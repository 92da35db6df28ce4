/-
  The law LinesBound: the call answers true. (The walk.)
-/
import Derived.Test.YtnpikjobjmffgaaDoorLinBound
namespace Go.Proofs.YtnpikjobjmffgaaDoor.li
open Go.RowKit

theorem last_of {st S2 : St} {H : List Hd} (h : Ends st (H, S2)) {k : Nat} (hk : k < H.length) (h4 : H[k].kind = 4) : ¬ (k < H.length - 1) := by
  intro hl
  cases hd : S2.deaf with
  | false => exact h.n hd _ (List.getElem_mem hk) h4
  | true =>
    rcases h.y hd with ⟨_, h2⟩ | ⟨_, pre, h2, h3⟩
    · have h2' : H = [] := h2
      subst h2'; simp at hk
    · have h2' : H = pre ++ [⟨4, []⟩] := h2
      subst h2'
      have hkp : k < pre.length := by rw [List.length_append, List.length_singleton] at hl; omega
      rw [List.getElem_append_left hkp] at h4
      exact h3 _ (List.getElem_mem hkp) h4
theorem deaf_of {st S2 : St} {H : List Hd} (h : Ends st (H, S2)) (hdf : st.deaf = true → H = []) :
    (st.deaf = true ∧ S2.deaf = true ∧ H = []) ∨ (st.deaf = false ∧ H = [] ∧ S2.deaf = false) ∨
    (st.deaf = false ∧ ∃ h0 : H.length - 1 < H.length, (H[H.length - 1].kind = 4 ∧ S2.deaf = true) ∨ (H[H.length - 1].kind ≠ 4 ∧ S2.deaf = false)) := by
  cases hs : st.deaf with
  | true => exact .inl ⟨rfl, h.b hs, hdf hs⟩
  | false =>
    cases hd : S2.deaf with
    | true =>
      rcases h.y hd with ⟨h2, _⟩ | ⟨_, pre, h2, h3⟩
      · rw [hs] at h2; cases h2
      · have h2' : H = pre ++ [⟨4, []⟩] := h2
        subst h2'
        exact .inr (.inr ⟨rfl, by simp, .inl ⟨by simp, rfl⟩⟩)
    | false =>
      by_cases h0 : H = []
      · exact .inr (.inl ⟨rfl, h0, rfl⟩)
      · have hp : 0 < H.length := List.length_pos_iff.2 h0
        exact .inr (.inr ⟨rfl, by omega, .inr ⟨h.n hd _ (List.getElem_mem _), rfl⟩⟩)
theorem rowH_own {w : World} {B : Nat} {v : Value} {l : List Hd} (h : HOwn w B v l) (hl : 0 < l.length) : ∃ g c, v = .slice (some ⟨g, 0, none⟩) l.length c ∧ ∀ j (hj : j < l.length), w.cell? ⟨g, j * 2, none⟩ = some (.int .i64 (l[j].kind : Nat)) ∧ w.cell? ⟨g, j * 2 + 1, none⟩ = some (.string (S l[j].text)) := by
  rcases h.2 with ⟨_, h0⟩ | ⟨g, cap, cur, rfl, hg, hh, hn, hcap, hsz, htake⟩
  · omega
  · refine ⟨g, cap, rfl, fun j hj => ?_⟩
    have h' : w.ownsRow B 45 2 (.slice (some ⟨g, 0, none⟩) l.length cap) l.length (cellsH l) := h
    have h1 := cellsH_at l j hj
    rw [h'.cellAt (j * 2) (by omega), h'.cellAt (j * 2 + 1) (by omega)]
    exact h1
theorem cell_of {w : World} {b off : Nat} {l : List Hd} (h : RowH w (some ⟨b, off, none⟩) l) {k : Nat} (hk : k < l.length) : w.cell? ⟨b, off + k * 2, none⟩ = some (.int .i64 (l[k].kind : Nat)) ∧ w.cell? ⟨b, off + k * 2 + 1, none⟩ = some (.string (S l[k].text)) := by
  rcases h with rfl | ⟨b', off', e, hb, hc⟩
  · simp at hk
  · cases e
    exact hc k hk
theorem waits_le {st : St} (h : st.ok) : waits st ≤ 4096 := by have := h.a; unfold waits; omega

set_option maxHeartbeats 8000000 in
set_option maxRecDepth 100000 in
theorem bound_walk (a : Option Addr) (cap : Nat) (L : List (List UInt8)) (hl : L.length ≤ 100000000) (hf : L.flatten.length ≤ 100000000) (w : World) (hr0 : Sl w (.slice a L.length cap) L) (hE : Errs w) :
    Calls Tryd.prog 6 #[.slice a L.length cap] w fun e w' => e = .returned (.bool true) ∧ Below w.heap.size w w' := by
  have hr : RowS w a L := by
    obtain ⟨a', c', e, h, _⟩ := hr0
    cases e
    exact h
  have hal := alive_any w hE
  have HNW := Lib.hid new_law
  have HFL := Lib.hid feed_law
  have HSZ := Lib.hid size_any
  have HQT := Lib.hid waits_any
  have HDF := Lib.hid deaf_any
  have HES := Lib.hid hE
  have HR := Lib.hid hr
  clear hE hr hr0
  go_enter Tryd.func6, Tryd.ntmps6
  go_wp2_with fail
  refine hal.mono ?_
  rintro e w1 ⟨rfl, b1⟩
  have HE1 := Lib.hid (HES.out.later b1)
  have hn := HNW.out w1 HE1.out.lt
  have HB1 := Lib.hid b1
  clear hal HNW b1
  go_wp2_with fail
  refine hn.mono ?_
  rintro e w2 ⟨rfl, f2, b2⟩
  have HB2 := Lib.hid (HB1.out.trans (b2.mono HB1.out.size))
  have HF2 := Lib.hid (f2.mono HB1.out.size)
  have HQ : Hid (w.heap.size ≤ w1.heap.size) := Lib.hid HB1.out.size
  clear hn HB1 HE1 f2 b2
  generalize w1.heap.size = q at *
  go_wp2_with fail
  go_loopw [4] (fun iv wr => ∃ (k : Nat) (st : St) (v : Value), iv = .int .i64 k ∧ k ≤ L.length ∧ Hid st.ok ∧ Hid (Fdb w.heap.size wr q v st) ∧ Hid (Below w.heap.size w wr))
    (fun iv _ => L.length - (intOf iv).toNat)
  case atStart => exact ⟨0, st0, .slice none 0 0, rfl, Nat.zero_le _, Lib.hid st0_ok, HF2, HB2⟩
  case round =>
    clear HF2 HB2
    obtain ⟨k, st, v, rfl, hk, HOK, HF, HB⟩ := hrel
    rename World => wr
    have hBs := HB.out.size
    by_cases hlt : k < L.length
    · obtain ⟨b, off, rfl, hb, cx0⟩ := rowS_cell HR.out hlt
      have hki : (k : Int) < (L.length : Int) := by omega
      have hpl := piece_le hlt
      obtain ⟨x, hx⟩ : ∃ x, L[k]'hlt = x := ⟨_, rfl⟩
      rw [hx] at cx0 hpl
      have hxl : x.length ≤ 100000000 := by omega
      clear hx hpl
      have hdf := HDF.out q v st wr HF.out.f
      obtain ⟨d0, hd0⟩ : ∃ d, d = st.deaf := ⟨_, rfl⟩
      have HD0 := Lib.hid hd0
      rw [← hd0] at hdf
      clear hd0
      go_wp2_with fail
      refine hdf.mono ?_
      rintro e w3 ⟨rfl, b3⟩
      have HB3 := Lib.hid (HB.out.trans (b3.mono hBs))
      have HF3 := Lib.hid (HF.out.later b3)
      have hs3 := HB3.out.size
      have cx := (HB3.out.cell (p := ⟨b, off + k, none⟩) hb).trans cx0
      have hfd := HFL.out w.heap.size q v st HOK.out x (by omega) w3 HF3.out (HES.out.below (HB3.out.mono HES.out.lt)) hs3
      clear hdf b3 HF HB
      go_wp2_with fail
      refine hfd.mono ?_
      rintro e w4 ⟨lv, v4, rfl, h4⟩
      have hen := run_ends HOK.out x
      have hok2 := run_ok HOK.out x
      have hnil : st.deaf = true → (run st x).1 = [] := fun h => by rw [run_deaf h]
      have hfew := run_few st x
      have hF4 := h4.f
      have hO4 := h4.o
      have hB4 := HB3.out.trans h4.b
      clear h4 hfd HB3 HF3 HOK cx cx0
      generalize run st x = r at *
      obtain ⟨H, S2⟩ := r
      have HEH : Hid (∀ y ∈ H, y.ok) := Lib.hid hen.h
      have HDD := Lib.hid (deaf_of hen hnil)
      have HLS := Lib.hid (fun j (hj : j < H.length) h => last_of hen (k := j) hj h)
      have hH9 : H.length ≤ 100000000 := by
        have : H.length ≤ x.length := hfew
        omega
      have HOK2 : Hid S2.ok := hok2
      have HF4 : Hid (Fdb w.heap.size w4 q v4 S2) := hF4
      have HO4 : Hid (HOwn w4 w3.heap.size lv H) := hO4
      have HB4 := Lib.hid hB4
      have hsz2 := HSZ.out q v4 S2 w4 HF4.out.f
      have ht8 := HOK2.out.t
      have hwl := waits_le HOK2.out
      have hs4 := HB4.out.size
      rw [← HD0.out] at HDD
      clear hen hok2 hnil hfew hF4 hO4 hB4 HD0
      obtain ⟨sz, hsz⟩ : ∃ z, z = S2.text.length := ⟨_, rfl⟩
      rw [← hsz] at hsz2 ht8
      clear hsz
      have i1 : (sz : Int) ≤ 8192 := by omega
      -- Size
      go_wp2_with fail
      refine hsz2.mono ?_
      rintro e w5 ⟨rfl, b5⟩
      have HB5 := Lib.hid (HB4.out.trans (b5.mono hs4))
      have HF5 := Lib.hid (HF4.out.later b5)
      have HO5 := Lib.hid (HO4.out.later b5)
      have hs5 := HB5.out.size
      have hwt := HQT.out q v4 S2 HOK2.out w5 HF5.out.f
      obtain ⟨wt, hwt2⟩ : ∃ z, z = waits S2 := ⟨_, rfl⟩
      rw [← hwt2] at hwt hwl
      clear hwt2 hsz2 b5 HB4 HF4 HO4 hs4
      have i2 : (wt : Int) ≤ 4096 := by omega
      go_wp2_with fail
      refine hwt.mono ?_
      rintro e w6 ⟨rfl, b6⟩
      have HB6 := Lib.hid (HB5.out.trans (b6.mono hs5))
      have HF6 := Lib.hid (HF5.out.later b6)
      have HO6 := Lib.hid (HO5.out.later b6)
      have hs6 := HB6.out.size
      have hdf2 := HDF.out q v4 S2 w6 HF6.out.f
      obtain ⟨D2, hD2⟩ : ∃ z, z = S2.deaf := ⟨_, rfl⟩
      rw [← hD2] at hdf2 HDD
      have HD2 := Lib.hid hD2
      clear hD2 hwt b6 HB5 HF5 HO5 hs5
      --L
      obtain ⟨al, cl, hlv, hrow, _⟩ := HO6.out.row
      subst hlv
      have HROW := Lib.hid hrow
      obtain ⟨n, hn⟩ : ∃ n, n = H.length := ⟨_, rfl⟩
      rw [← hn]
      have hn9 : n ≤ 100000000 := by omega
      have HNE : Hid (n = H.length ∧ True) := Lib.hid ⟨hn, trivial⟩
      clear HO6 hrow
      rcases HDD.out with ⟨e1, e2, e3⟩ | ⟨e1, e3, e2⟩ | ⟨e1, hlast0, hlk⟩
      · have hnn : n = 0 := by rw [hn, e3]; rfl
        clear HDD hn e3
        have hn0 : ¬ (0 : Int) < (n : Int) := by omega
        subst e1 e2
        clear HLS HEH HROW HD2
        go_wp2_with fail
        go_loopw [7] (fun iv wl => ∃ j : Nat, iv = .int .i64 j ∧ j ≤ n ∧ wl = w6)
          (fun iv _ => n - (intOf iv).toNat)
        case atStart => exact ⟨0, rfl, Nat.zero_le _, rfl⟩
        case round =>
          obtain ⟨j, rfl, hj, hwl⟩ := hrel
          have hwl2 := hwl.symm
          clear hwl
          subst hwl2
          obtain rfl : j = 0 := by omega
          have hdf3 := hdf2
          clear hdf2
          go_wp2_with fail
          refine hdf3.mono ?_
          rintro e w7 ⟨rfl, b7⟩
          have HB7 := Lib.hid (HB6.out.trans (b7.mono hs6))
          have HF7 := Lib.hid (HF6.out.later b7)
          clear hdf3 b7 HB6 HF6
          go_wp2_with fail
          go_roundw
          case rel => exact ⟨k + 1, S2, v4, by go_num, by omega, HOK2, HF7, HB7⟩
          case measure => simp [intOf]; omega
      · have hnn : n = 0 := by rw [hn, e3]; rfl
        clear HDD hn e3
        have hn0 : ¬ (0 : Int) < (n : Int) := by omega
        subst e1 e2
        clear HLS HEH HROW HD2
        go_wp2_with fail
        go_loopw [7] (fun iv wl => ∃ j : Nat, iv = .int .i64 j ∧ j ≤ n ∧ wl = w6)
          (fun iv _ => n - (intOf iv).toNat)
        case atStart => exact ⟨0, rfl, Nat.zero_le _, rfl⟩
        case round =>
          obtain ⟨j, rfl, hj, hwl⟩ := hrel
          have hwl2 := hwl.symm
          clear hwl
          subst hwl2
          obtain rfl : j = 0 := by omega
          have hdf3 := hdf2
          clear hdf2
          go_wp2_with fail
          refine hdf3.mono ?_
          rintro e w7 ⟨rfl, b7⟩
          have HB7 := Lib.hid (HB6.out.trans (b7.mono hs6))
          have HF7 := Lib.hid (HF6.out.later b7)
          clear hdf3 b7 HB6 HF6
          go_wp2_with fail
          go_roundw
          case rel => exact ⟨k + 1, S2, v4, by go_num, by omega, HOK2, HF7, HB7⟩
          case measure => simp [intOf]; omega
      · have hnp : 0 < n := by omega
        clear HDD hn
        have hn0 : (0 : Int) < (n : Int) := by have := HNE.out; omega
        have hwn : IntKind.i64.wrap ((n : Int) - 1) = ((n - 1 : Nat) : Int) := by rw [show (n : Int) - 1 = ((n - 1 : Nat) : Int) by omega]; exact IntWalk.i64_in _ (by omega)
        obtain ⟨gb, go, rfl, hgb, l1, l2⟩ := rowH_cell HROW.out hlast0
        have HC := Lib.hid (fun j (hj : j < H.length) => cell_of HROW.out hj)
        subst e1
        clear HD2
        go_wp2_with fail
        go_loopw [7] (fun iv wl => ∃ j : Nat, iv = .int .i64 j ∧ j ≤ n ∧ wl = w6)
          (fun iv _ => n - (intOf iv).toNat)
        case atStart => exact ⟨0, rfl, Nat.zero_le _, rfl⟩
        case round =>
          obtain ⟨j, rfl, hj, hwl⟩ := hrel
          have hwl2 := hwl.symm
          clear hwl
          subst hwl2
          by_cases hjl : j < n
          · have hji : (j : Int) < (n : Int) := by omega
            have hjn : j < H.length := by have := HNE.out; omega
            obtain ⟨c1, c2⟩ := HC.out j hjn
            have hyo := HEH.out _ (List.getElem_mem hjn)
            have hls := HLS.out j hjn
            generalize H[j]'hjn = y at *
            obtain ⟨kk, tt⟩ := y
            have hk5 : kk ≤ 4 := hyo.l
            have HY := Lib.hid hyo
            have HLJ := Lib.hid hls
            clear hyo hls l1 l2 HC HEH HLS HROW
            rcases (show kk = 0 ∨ kk = 1 ∨ kk = 2 ∨ kk = 3 ∨ kk = 4 by omega) with rfl | rfl | rfl | rfl | rfl
            · have c1k : w6.cell? ⟨gb, go + j * 2, none⟩ = some (.int .i64 0) := c1
              clear c1
              have ht0 : tt = [] := by
                rcases HY.out.k with h | h | h
                · cases h
                · cases h
                · exact h
              subst ht0
              have ce : w6.cell? ⟨gb, go + j * 2 + 1, none⟩ = some (.string { data := #[] }) := c2
              clear c2
              clear HY HLJ
              go_wp2_with fail
              go_roundw
              case rel => exact ⟨j + 1, by go_num, by omega, by first | rfl | trivial⟩
              case measure => simp [intOf]; omega
            · have c1k : w6.cell? ⟨gb, go + j * 2, none⟩ = some (.int .i64 1) := c1
              clear c1
              have hz8 : (((S tt).size : Nat) : Int) ≤ 8192 := by
                have h8 : tt.length ≤ 8192 := HY.out.t
                rw [S_size]; omega
              clear HY HLJ
              go_wp2_with fail
              go_roundw
              case rel => exact ⟨j + 1, by go_num, by omega, by first | rfl | trivial⟩
              case measure => simp [intOf]; omega
            · have c1k : w6.cell? ⟨gb, go + j * 2, none⟩ = some (.int .i64 2) := c1
              clear c1
              have ht0 : tt = [] := by
                rcases HY.out.k with h | h | h
                · cases h
                · cases h
                · exact h
              subst ht0
              have ce : w6.cell? ⟨gb, go + j * 2 + 1, none⟩ = some (.string { data := #[] }) := c2
              clear c2
              clear HY HLJ
              go_wp2_with fail
              go_roundw
              case rel => exact ⟨j + 1, by go_num, by omega, by first | rfl | trivial⟩
              case measure => simp [intOf]; omega
            · have c1k : w6.cell? ⟨gb, go + j * 2, none⟩ = some (.int .i64 3) := c1
              clear c1
              have hz8 : (((S tt).size : Nat) : Int) ≤ 8192 := by
                have h8 : tt.length ≤ 8192 := HY.out.t
                rw [S_size]; omega
              clear HY HLJ
              go_wp2_with fail
              go_roundw
              case rel => exact ⟨j + 1, by go_num, by omega, by first | rfl | trivial⟩
              case measure => simp [intOf]; omega
            · have c1k : w6.cell? ⟨gb, go + j * 2, none⟩ = some (.int .i64 4) := c1
              clear c1
              have hlst := HLJ.out rfl
              have hl2 : ¬ (j : Int) < ((n - 1 : Nat) : Int) := by have := HNE.out; omega
              have ht0 : tt = [] := by
                rcases HY.out.k with h | h | h
                · cases h
                · cases h
                · exact h
              subst ht0
              have ce : w6.cell? ⟨gb, go + j * 2 + 1, none⟩ = some (.string { data := #[] }) := c2
              clear c2
              clear HY HLJ
              go_wp2_with fail
              go_roundw
              case rel => exact ⟨j + 1, by go_num, by omega, by first | rfl | trivial⟩
              case measure => simp [intOf]; omega
          · obtain rfl : j = n := by omega
            have HL1 : Hid (w6.cell? ⟨gb, go + (j - 1) * 2, none⟩ = some (.int .i64 (H[H.length - 1].kind : Nat))) := Lib.hid (by
              rw [← l1]
              congr 2
              rw [HNE.out.1])
            clear l1 l2 HC HEH HLS
            have hm1 : ((j - 1 : Nat) : Int) < (j : Int) := by omega
            rcases hlk with ⟨h4, e2⟩ | ⟨h4, e2⟩
            · subst e2
              have hL1 := HL1.out
              rw [h4] at hL1
              have HCL : Hid (∀ W, Below w6.heap.size w6 W → W.cell? ⟨gb, go + (j - 1) * 2, none⟩ = some (.int .i64 4)) := Lib.hid (fun W hb => (hb.cell (p := ⟨gb, go + (j - 1) * 2, none⟩) hgb).trans hL1)
              clear HL1 hL1 h4 HROW
              have hdf3 := hdf2
              clear hdf2
              go_wp2_with fail
              refine hdf3.mono ?_
              rintro e w7 ⟨rfl, b7⟩
              have HB7 := Lib.hid (HB6.out.trans (b7.mono hs6))
              have HF7 := Lib.hid (HF6.out.later b7)
              have hcl := HCL.out w7 b7
              clear HCL
              clear hdf3 b7 HB6 HF6
              go_wp2_with fail
              go_roundw
              case rel => exact ⟨k + 1, S2, v4, by go_num, by omega, HOK2, HF7, HB7⟩
              case measure => simp [intOf]; omega
            · subst e2
              have hL1 := HL1.out
              have hq4 : (((H[H.length - 1].kind : Nat) : Int) == 4) = false := by rw [beq_eq_false_iff_ne]; omega
              have HCL : Hid (∀ W, Below w6.heap.size w6 W → W.cell? ⟨gb, go + (j - 1) * 2, none⟩ = some (.int .i64 (H[H.length - 1].kind : Nat))) := Lib.hid (fun W hb => (hb.cell (p := ⟨gb, go + (j - 1) * 2, none⟩) hgb).trans hL1)
              clear HL1 hL1 h4 HROW
              generalize H[H.length - 1].kind = kl at *
              have hdf3 := hdf2
              clear hdf2
              go_wp2_with fail
              refine hdf3.mono ?_
              rintro e w7 ⟨rfl, b7⟩
              have HB7 := Lib.hid (HB6.out.trans (b7.mono hs6))
              have HF7 := Lib.hid (HF6.out.later b7)
              have hcl := HCL.out w7 b7
              clear HCL
              clear hdf3 b7 HB6 HF6
              go_wp2_with fail
              go_roundw
              case rel => exact ⟨k + 1, S2, v4, by go_num, by omega, HOK2, HF7, HB7⟩
              case measure => simp [intOf]; omega
    · obtain rfl : k = L.length := by omega
      go_wp2_with fail
      go_ret
      exact ⟨rfl, HB.out⟩
end Go.Proofs.YtnpikjobjmffgaaDoor.li
