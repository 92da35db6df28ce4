/-
  Members as text: the document's Read.
-/
import Derived.Test.YtmgmhnohocamfaaGreatQmR7
namespace Go.Proofs.YtmgmhnohocamfaaGreat.qm
set_option linter.unusedVariables false
open Go.RowKit
open rw (Arr But Own bnext below_box below_drew below_drewN)
open pk (RD At dec S S_size S_data)

theorem pS_get (l : Bs) (k : Nat) (h : k < l.length) (h' : k < (S l).size) : (S l)[k]'h' = l[k]'h := rfl
theorem pS_inj {a b : Bs} (h : S a = S b) : a = b := by rw [← S_data a, h, S_data]
theorem pS_beq (a b : Bs) : ((S a).toList == (S b).toList) = decide (a = b) := by
  rw [Bool.eq_iff_iff, beq_iff_eq, decide_eq_true_eq]
  constructor
  · intro h
    rw [ByteArray.toList_eq, ByteArray.toList_eq] at h
    exact pS_inj (ByteArray.ext (Array.toList_inj.1 h))
  · rintro rfl; rfl
theorem pS_bne (a b : Bs) : ((S a).toList != (S b).toList) = !decide (a = b) := by rw [bne, pS_beq]
/-- A row told beside an error's number. -/
def RdOut (w w' : World) (r : List Int × Nat) (e : Ending) : Prop := ∃ u, e = .returned (.tuple #[u, .int .i64 (r.2 : Nat)]) ∧ NewN w w' u r.1
theorem rd_no {w w' : World} {r : List Int × Nat} (h : r = ([], 4)) (b : Below w.heap.size w w') : RdOut w w' r (.returned (.tuple #[.slice none 0 0, .int .i64 4])) := by
  subst h; exact ⟨_, rfl, Own.nil _ _ _, b⟩
theorem rd_yes {w w' : World} {r : List Int × Nat} {u : Value} {l : List Int} (h : r = (l, 0)) (k : NewN w w' u l) : RdOut w w' r (.returned (.tuple #[u, .int .i64 0])) := by
  subst h; exact ⟨_, rfl, k⟩
set_option maxHeartbeats 4000000 in
set_option maxRecDepth 100000 in
theorem rread_any (s : Bs) (hs : s.length ≤ 1000000000) (w : World) :
    Calls Tryz.prog 49 #[.string (S s)] w fun e w' => RdOut w w' (readS s) e := by
  obtain ⟨N, hN⟩ : ∃ n, s.length = n := ⟨_, rfl⟩
  have hz := S_size s
  rw [hN] at hz hs
  have HN := Lib.hid hN
  clear hN
  obtain ⟨M, hM⟩ : ∃ m, N - 1 = m := ⟨_, rfl⟩
  have HM : Hid (s.tail.length = M) := by show _ = _; rw [List.length_tail, HN.out, hM]
  have HMN := Lib.hid hM
  clear hM
  go_enter Tryz.func49, Tryz.ntmps49
  go_wp2
  go_loopw [4, 5] (fun o i wr => ∃ (k z : Nat), i = .int .i64 z ∧ z = k + 1 ∧ k ≤ M ∧ Hid (NewN w wr o ((s.tail.take k).map toI)))
    (fun _ i _ => N + 1 - (intOf i).toNat)
  case atStart => exact ⟨0, 1, rfl, rfl, Nat.zero_le _, ⟨Own.nil _ _ _, Below.refl _ _⟩⟩
  case round =>
    obtain ⟨k, z, rfl, hzk, hk, HO⟩ := hrel
    have HZ := Lib.hid hzk
    by_cases hlt : k < M
    · have hzN : z < N := by have := HMN.out; omega
      have hki : (z : Int) < (N : Int) := by omega
      have hlt' : z < (S s).size := by rw [hz]; exact hzN
      have hzl : z < s.length := by rw [HN.out]; exact hzN
      have hkl : k < s.tail.length := by rw [HM.out]; exact hlt
      have hnx : (s.tail.take (k + 1)).map toI = (s.tail.take k).map toI ++ [toI (s[z]'hzl)] := by
        rw [List.take_succ_eq_append_getElem hkl, List.map_append]
        have : s.tail[k]'hkl = s[z]'hzl := by
          subst hzk
          rw [List.getElem_tail]
        rw [this]; rfl
      obtain ⟨x, hx2⟩ : ∃ x : Nat, (s[z]'hzl).toNat = x := ⟨_, rfl⟩
      have hx : ((S s)[z]'hlt').toNat = x := by rw [pS_get s z hzl hlt']; exact hx2
      have hxl : x < 256 := hx2 ▸ UInt8.toNat_lt _
      have htx : toI (s[z]'hzl) = (x : Int) := by simp only [toI, hx2]
      rw [htx] at hnx
      obtain ⟨o', w', h1, h2, h3⟩ := rw.append_one noSh w.heap.size _ _ (x : Int) (by rw [List.length_map, List.length_take]; omega) wr HO.out.1 HO.out.2.size
      rw [← hnx] at h2
      have HR1 := Lib.hid h1
      have HO3 : Hid (NewN w w' o' ((s.tail.take (k + 1)).map toI)) := ⟨h2, HO.out.2.trans h3⟩
      have f1 : IntKind.i64.wrap (x : Int) = (x : Int) := IntWalk.i64_in _ (by omega)
      clear HO h1 h2 h3 hnx hx2 htx hkl hzk hzl
      go_wp2_with (at_builtin; refine rw.wpList_append_at _ _ _ rfl rfl _ _ _ _ rfl rfl HR1.out ?_)
      exact ⟨⟨k + 1, z + 1, by rw [Int.natCast_add]; rfl, by rw [HZ.out], by omega, HO3.out⟩, by simp only [intOf]; omega⟩
    · obtain rfl : k = M := by omega
      have hzN : ¬ (z : Int) < (N : Int) := by have := HMN.out; omega
      have HO2 : Hid (NewN w wr u4 (s.tail.map toI)) := by
        have h := HO.out
        rw [← HM.out, List.take_length] at h
        exact h
      have hT := rtext_any u4 (s.tail.map toI) (by rw [List.length_map, HM.out]; have := HMN.out; omega) wr HO2.out.1.sl
      clear HO hzk
      by_cases h2 : N < 2
      · have h2i : (N : Int) < 2 := by omega
        have HX : Hid (readS s = ([], 4)) := readS_no (by rw [HN.out]; omega)
        clear hT
        go_wp2_with fail
        go_ret2
        exact rd_no HX.out HO2.out.2
      · have h2i : ¬ (N : Int) < 2 := by omega
        have HB0 := pS_beq (textL (s.tail.map toI)) s
        obtain ⟨q, hq⟩ : ∃ q, decide (textL (s.tail.map toI) = s) = q := ⟨_, rfl⟩
        rw [hq] at HB0
        obtain ⟨T, hTT⟩ : ∃ T, textL (s.tail.map toI) = T := ⟨_, rfl⟩
        rw [hTT] at hT HB0 hq
        have HTT := Lib.hid hTT
        obtain ⟨ua, uc, hu⟩ := HO2.out.1.form
        have HU := Lib.hid hu
        clear hTT hu
        cases q with
        | true =>
          have HX : Hid (readS s = (s.tail.map toI, 0)) := readS_yes ⟨by rw [HN.out]; omega, by rw [HTT.out]; exact of_decide_eq_true hq⟩
          have hb0 : ((S T).toList == (S s).toList) = true := HB0
          clear HB0 hq
          go_wp2_with fail
          with_reducible refine hT.mono ?_
          clear hT
          rintro e w3 ⟨rfl, b3⟩
          have HK := Lib.hid (HO2.out.2.trans (b3.mono HO2.out.2.size))
          have HO3 : Hid (NewN w w3 u4 (s.tail.map toI)) := ⟨HO2.out.1.below _ b3, HK.out⟩
          clear b3
          go_wp2_with fail
          go_ret2
          exact rd_yes HX.out HO3.out
        | false =>
          have HX : Hid (readS s = ([], 4)) := readS_no (fun h => by rw [HTT.out] at h; exact (of_decide_eq_false hq) h.2)
          have hb0 : ((S T).toList == (S s).toList) = false := HB0
          clear HB0 hq
          go_wp2_with fail
          with_reducible refine hT.mono ?_
          clear hT
          rintro e w3 ⟨rfl, b3⟩
          have HK := Lib.hid (HO2.out.2.trans (b3.mono HO2.out.2.size))
          clear b3
          go_wp2_with fail
          go_ret2
          exact rd_no HX.out HK.out
end Go.Proofs.YtmgmhnohocamfaaGreat.qm
