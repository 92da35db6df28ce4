/-
  The laws' walks: QuorumMost; what QuorumMeets makes of bits; what QuorumHas makes of indices.
-/
import Derived.Test.YtnodgpbahlaccaaQmAl
namespace Go.Proofs.Ytnodgpbahlaccaa.qm
set_option linter.unusedVariables false
open Go.RowKit
open rw (Arr But Own bnext below_box below_drew below_drewN)
open pk (S S_size S_data)

set_option maxHeartbeats 4000000 in
set_option maxRecDepth 100000 in
theorem most_walk (u v : Value) (l who : List Int) (hl : l.length ≤ 140737488355328) (hw : who.length ≤ 140737488355328) (w : World) (h : Ns w u l) (h2 : Ns w v who) :
    Calls Try.prog 3 #[u, v] w fun e w' => e = .returned (.bool true) ∧ Below w.heap.size w w' := by
  have HA := alive_any w
  have HR := Lib.hid fun W (x : Below w.heap.size w W) => right_any u l hl W (h.later _ x)
  have HR2 := Lib.hid fun W (x : Below w.heap.size w W) => rright_any u l hl W (h.later _ x)
  have HM := Lib.hid fun W (x : Below w.heap.size w W) => most_any u v l who hl hw W (h.later _ x) (h2.later _ x)
  have HM2 := Lib.hid fun W (x : Below w.heap.size w W) => rmost_any u v l who hl hw W (h.later _ x) (h2.later _ x)
  generalize right l = r at *
  generalize most l who = m at *
  obtain ⟨a, c, rfl⟩ := sl_form h
  obtain ⟨a2, c2, rfl⟩ := sl_form h2
  obtain ⟨N, hN⟩ : ∃ n, l.length = n := ⟨_, rfl⟩
  obtain ⟨M, hM⟩ : ∃ n, who.length = n := ⟨_, rfl⟩
  rw [hN] at HR HR2 HM HM2 ⊢
  rw [hM] at HM HM2 ⊢
  clear h h2 hl hw hN hM
  go_enter Try.func3, Try.ntmps3
  go_wp2_with fail
  with_reducible refine HA.mono ?_
  clear HA
  rintro e w1 ⟨rfl, b1⟩
  have hr := HR.out w1 b1
  have B1 := Lib.hid b1
  clear b1
  go_wp2_with fail
  with_reducible refine hr.mono ?_
  clear hr
  rintro e w2 ⟨rfl, rfl⟩
  have hr := HR2.out w1 B1.out
  go_wp2_with fail
  with_reducible refine hr.mono ?_
  clear hr
  rintro e w3 ⟨rfl, b3⟩
  have B3 := Lib.hid (B1.out.trans (b3.mono B1.out.size))
  have hm := HM.out w3 B3.out
  have hm2 := Lib.hid (HM2.out w3 B3.out)
  have q1 : (r == r) = true := beq_self_eq_true r
  clear b3 B1 HR HR2 HM HM2
  go_wp2_with fail
  with_reducible refine hm.mono ?_
  clear hm
  rintro e w4 ⟨rfl, rfl⟩
  have hm := hm2.out
  go_wp2_with fail
  with_reducible refine hm.mono ?_
  clear hm hm2
  rintro e w5 ⟨rfl, b5⟩
  have B5 := Lib.hid (B3.out.trans (b5.mono B3.out.size))
  clear b5 B3
  go_wp2_with fail
  go_ret
  exact ⟨by simp, B5.out⟩
set_option maxHeartbeats 1000000 in
set_option maxRecDepth 100000 in
theorem members_any (b : Int) (w : World) :
    Calls Try.prog 26 #[.int .i64 b] w fun e w' => ∃ u, e = .returned u ∧ ∃ l, NewN w w' u l ∧ l.length ≤ 5 := by
  go_enter Try.func26, Try.ntmps26
  go_wp2
  go_loopw [3, 4] (fun o i wr => ∃ (k z : Nat), i = .int .i64 z ∧ z = k + 1 ∧ k ≤ 5 ∧ Hid (∃ l, NewN w wr o l ∧ l.length ≤ k))
    (fun _ i _ => 6 - (intOf i).toNat)
  case atStart => exact ⟨0, 1, rfl, rfl, by omega, [], ⟨Own.nil _ _ _, Below.refl _ _⟩, by simp⟩
  case round =>
    obtain ⟨k, z, rfl, hz, hk, HO⟩ := hrel
    have HZ := Lib.hid hz
    by_cases hlt : k < 5
    · have hki : (z : Int) ≤ 5 := by omega
      have hz5 : z ≤ 5 := by omega
      have f1 : IntKind.i64.wrap ((z : Int) - 1) = (k : Int) := by
        rw [show (z : Int) - 1 = (k : Int) by omega]; exact IntWalk.i64_in _ (by omega)
      clear hz
      obtain ⟨l, h0, hlk⟩ := HO.out
      clear HO
      cases hq : (bits BinOp.and IntKind.i64 (b / 2 ^ k) 1 == 1) with
      | true =>
        obtain ⟨o', w', h1, h2, h3⟩ := rw.append_one noSh w.heap.size _ _ (z : Int) (by omega) wr h0.1 h0.2.size
        have HR1 := Lib.hid h1
        have HO3 : Hid (∃ l, NewN w w' o' l ∧ l.length ≤ k + 1) := ⟨_, ⟨h2, h0.2.trans h3⟩, by rw [List.length_append]; simp; exact hlk⟩
        clear h0 h1 h2 h3 hlk
        go_wp2_with (at_builtin; refine rw.wpList_append_at _ _ _ rfl rfl _ _ _ _ rfl rfl HR1.out ?_)
        exact ⟨⟨k + 1, z + 1, by rw [Int.natCast_add]; rfl, by rw [HZ.out], by omega, HO3.out⟩, by simp only [intOf]; omega⟩
      | false =>
        have HO3 : Hid (∃ l, NewN w wr u3 l ∧ l.length ≤ k + 1) := ⟨l, h0, by omega⟩
        clear h0 hlk
        go_wp2_with fail
        exact ⟨⟨k + 1, z + 1, by rw [Int.natCast_add]; rfl, by rw [HZ.out], by omega, HO3.out⟩, by simp only [intOf]; omega⟩
    · obtain rfl : k = 5 := by omega
      have hki : ¬ (z : Int) ≤ 5 := by omega
      clear hz
      go_wp2
      go_ret
      obtain ⟨l, h1, h2⟩ := HO.out
      exact ⟨_, rfl, l, h1, h2⟩
set_option maxHeartbeats 4000000 in
set_option maxRecDepth 100000 in
theorem has_any (v : Value) (hv : List Ix) (i : Int) (hh : hv.length ≤ 100000) (w : World) (h : Is w v hv) :
    Calls Try.prog 28 #[v, .int .u64 i] w fun e w' => ∃ u, e = .returned u ∧ NewN w w' u (has hv i) := by
  obtain ⟨a, c, rfl⟩ := sl_form h
  obtain ⟨N, hN⟩ : ∃ n, hv.length = n := ⟨_, rfl⟩
  rw [hN] at hh h ⊢
  have HN := Lib.hid hN
  have HS := Lib.hid h
  clear h hN
  go_enter Try.func28, Try.ntmps28
  go_wp2
  go_loopw [5, 6] (fun o z wr => ∃ (k : Nat), z = .int .i64 k ∧ k ≤ N ∧ Hid (NewN w wr o (has (hv.take k) i)))
    (fun _ z _ => N - (intOf z).toNat)
  case atStart => exact ⟨0, rfl, Nat.zero_le _, ⟨Own.nil _ _ _, Below.refl _ _⟩⟩
  case round =>
    obtain ⟨k, rfl, hk, HO⟩ := hrel
    by_cases hlt : k < N
    · have hki : (k : Int) < (N : Int) := by omega
      have hkl : k < hv.length := by rw [HN.out]; exact hlt
      have HS2 := HS.out.later _ HO.out.2
      rw [← HN.out] at HS2
      obtain ⟨b, off, c3, e, hb3, c0, c1⟩ := slI_at HS2 hkl
      injection e with e1 e2 e3
      subst e1 e3
      clear e2
      have hnx := has_next hkl i
      obtain ⟨y, hy⟩ : ∃ y, (hv[k]'hkl) = y := ⟨_, rfl⟩
      rw [hy] at c0 c1 hnx
      obtain ⟨yn, yi⟩ := y
      simp only at c0 c1 hnx
      clear HS2 hb3 hy hkl
      by_cases hxy : i ≤ yi
      · have hge : yi ≥ i := hxy
        rw [if_pos hxy] at hnx
        obtain ⟨o', w', h1, h2, h3⟩ := rw.append_one noSh w.heap.size _ (has (hv.take k) i) yn (by
          have := has_len (hv.take k) i
          rw [List.length_take] at this
          omega) wr HO.out.1 HO.out.2.size
        rw [← hnx] at h2
        have HR := Lib.hid h1
        have HO3 : Hid (NewN w w' o' (has (hv.take (k + 1)) i)) := ⟨h2, HO.out.2.trans h3⟩
        clear HO h1 h2 h3 hnx hxy
        go_wp2_with (at_builtin; refine rw.wpList_append_at _ _ _ rfl rfl _ _ _ _ rfl rfl HR.out ?_)
        exact ⟨⟨k + 1, by rw [Int.natCast_add]; rfl, by omega, HO3.out⟩, by simp only [intOf]; omega⟩
      · have hge : ¬ yi ≥ i := hxy
        rw [if_neg hxy] at hnx
        have HO3 := HO.out
        rw [← hnx] at HO3
        have HO3 := Lib.hid HO3
        clear HO hnx hxy
        go_wp2
        exact ⟨⟨k + 1, by rw [Int.natCast_add]; rfl, by omega, HO3.out⟩, by simp only [intOf]; omega⟩
    · obtain rfl : k = N := by omega
      have hki : ¬ (k : Int) < (k : Int) := by omega
      have HT : Hid (NewN w wr u5 (has hv i)) := by have h := HO.out; rw [← HN.out, List.take_length] at h; exact h
      clear HO
      go_wp2
      go_ret
      exact ⟨_, rfl, HT.out⟩
end Go.Proofs.Ytnodgpbahlaccaa.qm
