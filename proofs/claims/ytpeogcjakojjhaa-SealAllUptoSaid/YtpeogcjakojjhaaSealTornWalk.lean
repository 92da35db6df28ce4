/-
  The law SealTorn: the call answers true. (The walk.)
-/
import Derived.Test.YtpeogcjakojjhaaSealBackWalk
namespace Go.Proofs.Ytpeogcjakojjhaa.sl
open Go.RowKit

/-- The value u is a slice of the numbers E. -/
def NV (w : World) (u : Value) (E : List Nat) : Prop :=
  ∃ a cap, u = .slice a E.length cap ∧ (E = [] ∨ ∃ b off, a = some ⟨b, off, none⟩ ∧ b < w.heap.size ∧ ∀ j (h : j < E.length), w.cell? ⟨b, off + j, none⟩ = some (.int .i64 (E[j] : Nat)))
theorem NV.of_row {w : World} {B n : Nat} {v : Value} {E : List Nat} (hn : n = E.length) (h : w.ownsRow B 3 1 v n (nums E)) : NV w v E := by
  subst hn
  have h' := h
  obtain ⟨h1, ⟨h2, h3⟩ | ⟨g, cap, cur, h3, h4, h5, h6⟩⟩ := h
  · exact ⟨none, 0, by rw [h2, h3], .inl (List.length_eq_zero_iff.1 h3)⟩
  · refine ⟨_, _, h3, .inr ⟨g, 0, rfl, (Array.getElem?_eq_some_iff.1 h5).1, fun j hj => ?_⟩⟩
    subst h3
    have := h'.cellAt j (by omega)
    rw [Nat.zero_add, this]
    simp [nums, List.getElem?_eq_getElem hj]

/-- The value v is a slice of the texts K, with room for them. -/
def SC (w : World) (v : Value) (K : List (List UInt8)) : Prop :=
  ∃ a cap, v = .slice a K.length cap ∧ K.length ≤ cap ∧ (K = [] ∨ ∃ b off, a = some ⟨b, off, none⟩ ∧ b < w.heap.size ∧ ∀ j (h : j < K.length), w.cell? ⟨b, off + j, none⟩ = some (.string (S K[j])))
theorem SC.of_row {w : World} {B n : Nat} {v : Value} {l : List (List UInt8)} (hn : n = l.length) (h : w.ownsRow B 9 1 v n (strs l)) : SC w v l := by
  obtain ⟨a, cap, h1, h2⟩ := SV.of_row hn h
  refine ⟨a, cap, h1, ?_, h2⟩
  subst hn
  obtain ⟨_, ⟨h3, h4⟩ | ⟨g, cap', cur, h3, _, _, h6, _⟩⟩ := h
  · omega
  · rw [h3] at h1
    injection h1 with _ _ h7
    omega
theorem sv_take {w : World} {a : Option Addr} {cap : Nat} {K : List (List UInt8)} (h : K = [] ∨ ∃ b off, a = some ⟨b, off, none⟩ ∧ b < w.heap.size ∧ ∀ j (h : j < K.length), w.cell? ⟨b, off + j, none⟩ = some (.string (S K[j]))) (k : Nat) (hk : k ≤ K.length) :
    SV w (.slice a k cap) (K.take k) := by
  have hl : (K.take k).length = k := by rw [List.length_take]; omega
  refine ⟨a, cap, by rw [hl], ?_⟩
  rcases h with h | ⟨b, off, h1, h2, h3⟩
  · left; rw [h]; simp
  · right
    refine ⟨b, off, h1, h2, fun j hj => ?_⟩
    rw [h3 j (by omega), List.getElem_take]

theorem slice_to (W : World) (a : Option Addr) (n cap k : Nat) (hk : k ≤ cap) :
    (Instr.slice 35 (.slice a n cap) none (some (.int .i64 k)) none).run Try.prog W = .ok (.slice a k cap) W := by
  have hz : (sizeOf (Try.prog.elem 35)).run Try.prog W = .ok 1 W := Try.sizeOf9 W
  rw [run_slice_h (P := Try.prog) W 35 a n cap Try.underlying35 .i64 (k : Int) (by omega) (by omega), hz]
  cases a with
  | none => simp [Result.andThen, sliced]
  | some p => cases p; simp [Result.andThen, sliced, Addr.add]

set_option maxHeartbeats 1000000 in
set_option maxRecDepth 100000 in
theorem sealtorn_any (L : List (List UInt8)) (hL : total L ≤ 16777216) (v0 : Value) (at0 : Int) (w : World) (h0 : SV w v0 L) :
    Calls Try.prog 7 #[v0, .int .i64 at0] w fun e w' => e = .returned (.bool true) ∧ Below w.heap.size w w' := by
  have ht := total_short L
  have hjl := joined_length (short L)
  have hc := count_total (short L)
  have hsh := short_short L
  have hR := row_any L hL v0 w h0
  have hz := S_size (joined (short L))
  rw [hjl] at hz
  generalize short L = K at *
  obtain ⟨J, hJ⟩ : ∃ J, J = joined K := ⟨_, rfl⟩
  rw [← hJ] at hR hz hjl
  obtain ⟨q, hq⟩ : ∃ q, q = total K := ⟨_, rfl⟩
  rw [← hq] at ht hjl hc hz
  have hU : 0 ≤ IntKind.u64.wrap at0 := by
    simp only [IntKind.wrap, IntKind.bits, IntKind.signed]
    simp
    omega
  obtain ⟨x, hx⟩ : ∃ x : Nat, IntKind.u64.wrap at0 % ((q : Int) + 1) = (x : Int) := ⟨_, (Int.toNat_of_nonneg (Int.emod_nonneg _ (by omega))).symm⟩
  have hxq : x ≤ q := by
    have := Int.emod_lt_of_pos (IntKind.u64.wrap at0) (b := (q : Int) + 1) (by omega)
    omega
  have hx' : (IntKind.u64.wrap at0).tmod ((q : Int) + 1) = (x : Int) := by rw [Int.tmod_eq_emod_of_nonneg hU, hx]
  clear hx hU
  have HTORN : Hid (∀ k, k ≤ K.length → total (K.take k) ≤ x → (k < K.length → x < total (K.take (k + 1))) →
      (scan 0 (J.take x)).map (·.2) = K.take k ∧ fin 0 (J.take x) = 0 + total (K.take k) ∧ (x = total (K.take k) ∨ (cut ((J.take x).drop (total (K.take k)))).2.2 = 3)) := by
    intro k hk h1 h2
    rw [hJ]
    exact torn K 0 k x hsh hk (by omega) h1 h2
  have hxJ : (J.take x).length = x := by rw [List.length_take]; omega
  have hd : (S J).extract 0 x = S (J.take x) := by rw [S_slice, List.drop_zero]
  obtain ⟨E, hE⟩ : ∃ E, E = endsFrom 0 K := ⟨_, rfl⟩
  have hEl : E.length = K.length := by rw [hE, endsFrom_length]
  have HEG : Hid (∀ j (h : j < E.length), E[j] = total (K.take (j + 1))) := by
    intro j h
    subst hE
    rw [endsFrom_get, Nat.zero_add]
  rw [← hE] at hR
  obtain ⟨n, hn⟩ : ∃ n, n = K.length := ⟨_, rfl⟩
  have HTL : Hid (∀ k, total (K.take k) ≤ q) := by
    intro k
    rw [hq]
    exact total_take K k
  clear hE hJ hsh hq
  have HA := Lib.hid (all_any (J.take x) (by omega))
  have HSA := Lib.hid (fun k => same_any (K.take k) (by rw [List.length_take]; omega))
  go_enter Try.func7, Try.ntmps7
  go_wp2_with fail
  refine hR.mono ?_
  rintro e w1 ⟨v, u, rfl, hv, hu, hb1⟩
  obtain ⟨av, cv, rfl, hcv, hvc⟩ := SC.of_row rfl hv
  obtain ⟨au, cu, rfl, huc⟩ := NV.of_row hEl.symm hu
  have HV := Lib.hid hvc
  have HU := Lib.hid huc
  rw [hEl]
  rw [← hn] at hEl hc hcv ⊢
  have HN := Lib.hid hn
  have HEL := Lib.hid hEl
  clear hv hu hvc huc hR hn hEl
  go_wp2_with fail
  refine (alive_any _).mono ?_
  rintro e w2 ⟨rfl, hb2⟩
  have hB2 : Below w.heap.size w w2 := hb1.trans (hb2.mono hb1.size)
  have hs2 := hb2.size
  have hb2' := Lib.hid hb2
  clear hb2
  go_wp2_with fail
  go_loopw [9] (fun i wr => ∃ k : Nat, i = .int .i64 k ∧ k ≤ n ∧ total (K.take k) ≤ x ∧ wr = w2)
    (fun i _ => n - (intOf i).toNat)
  case atStart => exact ⟨0, rfl, Nat.zero_le _, by simp [total], rfl⟩
  case round =>
    obtain ⟨k, rfl, hk, htk, rfl⟩ := hrel
    by_cases hlt : k < n
    · have hkE : k < E.length := by have := HEL.out; omega
      rcases HU.out with h0 | ⟨b, off, rfl, hbl, hcell⟩
      · rw [h0] at hkE; simp at hkE
      · have c1 : wr.cell? ⟨b, off + k, none⟩ = some (.int .i64 (total (K.take (k + 1)) : Nat)) := by
          rw [hb2'.out.cell (p := ⟨b, off + k, none⟩) hbl, hcell k hkE, HEG.out k hkE]
        have HCELL := Lib.hid hcell
        have hki : (k : Int) < (n : Int) := by omega
        clear hcell
        have htb := HTL.out (k + 1)
        obtain ⟨t, htt⟩ : ∃ t, t = total (K.take (k + 1)) := ⟨_, rfl⟩
        rw [← htt] at c1 htb
        by_cases hle : t ≤ x
        · have HT1 := Lib.hid htt
          clear htt
          have hli : (t : Int) ≤ (x : Int) := by omega
          go_wp2
          go_roundw
          case rel => exact ⟨k + 1, by go_num, by omega, by rw [← HT1.out]; exact hle, trivial⟩
          case measure => simp [intOf]; omega
        · have htorn := HTORN.out k (by have := HN.out; omega) htk (fun _ => by omega)
          have HTT := Lib.hid htt
          clear htt
          have hli : (x : Int) < (t : Int) := by omega
          obtain ⟨T, hT⟩ : ∃ T, T = total (K.take k) := ⟨_, rfl⟩
          rw [← hT] at htk htorn
          obtain ⟨m1, m2, m3⟩ := htorn
          rw [Nat.zero_add] at m2
          have hx2 := texts_of m1
          have hkl : (K.take k).length = k := by rw [List.length_take]; have := HN.out; omega
          have hnl : (scan 0 (J.take x)).length = k := by rw [← List.length_map (f := (·.2)), m1, hkl]
          have hA := HA.out
          rw [m2, hx2, hnl] at hA
          have hS := HSA.out k
          have hsl := fun W => slice_to W av n cv k (by omega)
          have hsv := sv_take (a := av) (cap := cv) HV.out k (by have := HN.out; omega)
          by_cases heq : x = T
          · have herr : err (J.take x) = 0 := err_end (by rw [m2, hxJ]; omega)
            rw [herr] at hA
            have hAH := Lib.hid hA
            have hSH := Lib.hid hS
            obtain rfl : T = x := heq.symm
            clear herr hA hS m1 m2 m3 hx2 hnl
            by_cases hk0 : 0 < k
            · have hkE : k - 1 < E.length := by have := HEL.out; omega
              have hkp : k - 1 + 1 = k := by omega
              have c3 : wr.cell? ⟨b, off + (k - 1), none⟩ = some (.int .i64 (T : Nat)) := by
                rw [hb2'.out.cell (p := ⟨b, off + (k - 1), none⟩) hbl, HCELL.out (k - 1) hkE, HEG.out (k - 1) hkE, hkp, ← hT]
              obtain ⟨r, rfl⟩ : ∃ r, k = r + 1 := ⟨k - 1, hkp.symm⟩
              simp only [Nat.add_sub_cancel] at c3
              clear hkp hkE
              have HTE := Lib.hid hT
              clear hT
              go_wp2_with fail
              refine (hAH.out _).mono ?_
              rintro e w3 ⟨v', rfl, hv', hb3⟩
              have c4 := (hb3.cell (p := ⟨b, off + r, none⟩) (Nat.lt_of_lt_of_le hbl hs2)).trans c3
              go_wp2_with fail
              refine (hSH.out v' _ w3 (SV.of_row hkl.symm hv') ((hsv.below hb2'.out).below hb3)).mono ?_
              rintro e w4 ⟨rfl, hb4⟩
              have hB4 : Below w.heap.size w w4 := (hB2.trans (hb3.mono hB2.size)).trans (hb4.mono (Nat.le_trans hB2.size hb3.size))
              clear hb3 hb4 hv' hsv hSH hAH
              go_wp2
              go_ret
              exact ⟨rfl, hB4⟩
            · obtain rfl : k = 0 := by omega
              have hT0 : T = 0 := by rw [hT]; simp [total]
              subst hT0
              simp only [Nat.add_zero] at c1
              have HTE := Lib.hid hT
              clear hT
              go_wp2_with fail
              refine (hAH.out _).mono ?_
              rintro e w3 ⟨v', rfl, hv', hb3⟩
              go_wp2_with fail
              refine (hSH.out v' _ w3 (SV.of_row hkl.symm hv') ((hsv.below hb2'.out).below hb3)).mono ?_
              rintro e w4 ⟨rfl, hb4⟩
              have hB4 : Below w.heap.size w w4 := (hB2.trans (hb3.mono hB2.size)).trans (hb4.mono (Nat.le_trans hB2.size hb3.size))
              clear hb3 hb4 hv' hsv hSH hAH
              go_wp2
              go_ret
              exact ⟨rfl, hB4⟩
          · have herr : err (J.take x) = 3 := by
              rw [err_eq, m2]
              unfold errAt
              rw [if_neg (by omega)]
              exact m3.resolve_left heq
            rw [herr] at hA
            have hAH := Lib.hid hA
            have hSH := Lib.hid hS
            have hxT : ((x : Int) == (T : Int)) = false := by simp; omega
            clear herr hA hS m1 m2 m3 hx2 hnl
            by_cases hk0 : 0 < k
            · have hkE : k - 1 < E.length := by have := HEL.out; omega
              have hkp : k - 1 + 1 = k := by omega
              have c3 : wr.cell? ⟨b, off + (k - 1), none⟩ = some (.int .i64 (T : Nat)) := by
                rw [hb2'.out.cell (p := ⟨b, off + (k - 1), none⟩) hbl, HCELL.out (k - 1) hkE, HEG.out (k - 1) hkE, hkp, ← hT]
              obtain ⟨r, rfl⟩ : ∃ r, k = r + 1 := ⟨k - 1, hkp.symm⟩
              simp only [Nat.add_sub_cancel] at c3
              clear hkp hkE
              have HTE := Lib.hid hT
              clear hT
              go_wp2_with fail
              refine (hAH.out _).mono ?_
              rintro e w3 ⟨v', rfl, hv', hb3⟩
              have c4 := (hb3.cell (p := ⟨b, off + r, none⟩) (Nat.lt_of_lt_of_le hbl hs2)).trans c3
              go_wp2_with fail
              refine (hSH.out v' _ w3 (SV.of_row hkl.symm hv') ((hsv.below hb2'.out).below hb3)).mono ?_
              rintro e w4 ⟨rfl, hb4⟩
              have hB4 : Below w.heap.size w w4 := (hB2.trans (hb3.mono hB2.size)).trans (hb4.mono (Nat.le_trans hB2.size hb3.size))
              clear hb3 hb4 hv' hsv hSH hAH
              go_wp2
              go_ret
              exact ⟨rfl, hB4⟩
            · obtain rfl : k = 0 := by omega
              have hT0 : T = 0 := by rw [hT]; simp [total]
              subst hT0
              have hx0 : ((x : Int) == 0) = false := by simp; omega
              simp only [Nat.add_zero] at c1
              have HTE := Lib.hid hT
              clear hT
              go_wp2_with fail
              refine (hAH.out _).mono ?_
              rintro e w3 ⟨v', rfl, hv', hb3⟩
              go_wp2_with fail
              refine (hSH.out v' _ w3 (SV.of_row hkl.symm hv') ((hsv.below hb2'.out).below hb3)).mono ?_
              rintro e w4 ⟨rfl, hb4⟩
              have hB4 : Below w.heap.size w w4 := (hB2.trans (hb3.mono hB2.size)).trans (hb4.mono (Nat.le_trans hB2.size hb3.size))
              clear hb3 hb4 hv' hsv hSH hAH
              go_wp2
              go_ret
              exact ⟨rfl, hB4⟩
    · have htorn := HTORN.out k (by have := HN.out; omega) htk (fun h => absurd h (by have := HN.out; omega))
      obtain ⟨T, hT⟩ : ∃ T, T = total (K.take k) := ⟨_, rfl⟩
      rw [← hT] at htk htorn
      obtain ⟨m1, m2, m3⟩ := htorn
      rw [Nat.zero_add] at m2
      have hx2 := texts_of m1
      have hkl : (K.take k).length = k := by rw [List.length_take]; have := HN.out; omega
      have hnl : (scan 0 (J.take x)).length = k := by rw [← List.length_map (f := (·.2)), m1, hkl]
      have hA := HA.out
      rw [m2, hx2, hnl] at hA
      have hS := HSA.out k
      have hsl := fun W => slice_to W av n cv k (by omega)
      have hsv := sv_take (a := av) (cap := cv) HV.out k (by have := HN.out; omega)
      by_cases heq : x = T
      · have herr : err (J.take x) = 0 := err_end (by rw [m2, hxJ]; omega)
        rw [herr] at hA
        have hAH := Lib.hid hA
        have hSH := Lib.hid hS
        obtain rfl : T = x := heq.symm
        clear herr hA hS m1 m2 m3 hx2 hnl
        by_cases hk0 : 0 < k
        · have hkE : k - 1 < E.length := by have := HEL.out; omega
          have hkp : k - 1 + 1 = k := by omega
          rcases HU.out with h0 | ⟨b, off, rfl, hbl, hcell⟩
          · rw [h0] at hkE; simp at hkE
          have c3 : wr.cell? ⟨b, off + (k - 1), none⟩ = some (.int .i64 (T : Nat)) := by
            rw [hb2'.out.cell (p := ⟨b, off + (k - 1), none⟩) hbl, hcell (k - 1) hkE, HEG.out (k - 1) hkE, hkp, ← hT]
          clear hcell
          obtain ⟨r, rfl⟩ : ∃ r, k = r + 1 := ⟨k - 1, hkp.symm⟩
          simp only [Nat.add_sub_cancel] at c3
          clear hkp hkE
          have HTE := Lib.hid hT
          clear hT
          go_wp2_with fail
          refine (hAH.out _).mono ?_
          rintro e w3 ⟨v', rfl, hv', hb3⟩
          have c4 := (hb3.cell (p := ⟨b, off + r, none⟩) (Nat.lt_of_lt_of_le hbl hs2)).trans c3
          go_wp2_with fail
          refine (hSH.out v' _ w3 (SV.of_row hkl.symm hv') ((hsv.below hb2'.out).below hb3)).mono ?_
          rintro e w4 ⟨rfl, hb4⟩
          have hB4 : Below w.heap.size w w4 := (hB2.trans (hb3.mono hB2.size)).trans (hb4.mono (Nat.le_trans hB2.size hb3.size))
          clear hb3 hb4 hv' hsv hSH hAH
          go_wp2
          go_ret
          exact ⟨rfl, hB4⟩
        · obtain rfl : k = 0 := by omega
          have hT0 : T = 0 := by rw [hT]; simp [total]
          subst hT0
          have HTE := Lib.hid hT
          clear hT
          go_wp2_with fail
          refine (hAH.out _).mono ?_
          rintro e w3 ⟨v', rfl, hv', hb3⟩
          go_wp2_with fail
          refine (hSH.out v' _ w3 (SV.of_row hkl.symm hv') ((hsv.below hb2'.out).below hb3)).mono ?_
          rintro e w4 ⟨rfl, hb4⟩
          have hB4 : Below w.heap.size w w4 := (hB2.trans (hb3.mono hB2.size)).trans (hb4.mono (Nat.le_trans hB2.size hb3.size))
          clear hb3 hb4 hv' hsv hSH hAH
          go_wp2
          go_ret
          exact ⟨rfl, hB4⟩
      · have herr : err (J.take x) = 3 := by
          rw [err_eq, m2]
          unfold errAt
          rw [if_neg (by omega)]
          exact m3.resolve_left heq
        rw [herr] at hA
        have hAH := Lib.hid hA
        have hSH := Lib.hid hS
        have hxT : ((x : Int) == (T : Int)) = false := by simp; omega
        clear herr hA hS m1 m2 m3 hx2 hnl
        by_cases hk0 : 0 < k
        · have hkE : k - 1 < E.length := by have := HEL.out; omega
          have hkp : k - 1 + 1 = k := by omega
          rcases HU.out with h0 | ⟨b, off, rfl, hbl, hcell⟩
          · rw [h0] at hkE; simp at hkE
          have c3 : wr.cell? ⟨b, off + (k - 1), none⟩ = some (.int .i64 (T : Nat)) := by
            rw [hb2'.out.cell (p := ⟨b, off + (k - 1), none⟩) hbl, hcell (k - 1) hkE, HEG.out (k - 1) hkE, hkp, ← hT]
          clear hcell
          obtain ⟨r, rfl⟩ : ∃ r, k = r + 1 := ⟨k - 1, hkp.symm⟩
          simp only [Nat.add_sub_cancel] at c3
          clear hkp hkE
          have HTE := Lib.hid hT
          clear hT
          go_wp2_with fail
          refine (hAH.out _).mono ?_
          rintro e w3 ⟨v', rfl, hv', hb3⟩
          have c4 := (hb3.cell (p := ⟨b, off + r, none⟩) (Nat.lt_of_lt_of_le hbl hs2)).trans c3
          go_wp2_with fail
          refine (hSH.out v' _ w3 (SV.of_row hkl.symm hv') ((hsv.below hb2'.out).below hb3)).mono ?_
          rintro e w4 ⟨rfl, hb4⟩
          have hB4 : Below w.heap.size w w4 := (hB2.trans (hb3.mono hB2.size)).trans (hb4.mono (Nat.le_trans hB2.size hb3.size))
          clear hb3 hb4 hv' hsv hSH hAH
          go_wp2
          go_ret
          exact ⟨rfl, hB4⟩
        · obtain rfl : k = 0 := by omega
          have hT0 : T = 0 := by rw [hT]; simp [total]
          subst hT0
          have hx0 : ((x : Int) == 0) = false := by simp; omega
          have HTE := Lib.hid hT
          clear hT
          go_wp2_with fail
          refine (hAH.out _).mono ?_
          rintro e w3 ⟨v', rfl, hv', hb3⟩
          go_wp2_with fail
          refine (hSH.out v' _ w3 (SV.of_row hkl.symm hv') ((hsv.below hb2'.out).below hb3)).mono ?_
          rintro e w4 ⟨rfl, hb4⟩
          have hB4 : Below w.heap.size w w4 := (hB2.trans (hb3.mono hB2.size)).trans (hb4.mono (Nat.le_trans hB2.size hb3.size))
          clear hb3 hb4 hv' hsv hSH hAH
          go_wp2
          go_ret
          exact ⟨rfl, hB4⟩
end Go.Proofs.Ytpeogcjakojjhaa.sl
