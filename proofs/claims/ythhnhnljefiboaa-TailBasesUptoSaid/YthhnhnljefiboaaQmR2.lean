/-
  A majority, and the same lists: the document's way.
-/
import Derived.Test.YthhnhnljefiboaaQmR1
namespace Go.Proofs.Ythhnhnljefiboaa.qm
set_option linter.unusedVariables false
open Go.RowKit
open rw (Arr But Own bnext below_box below_drew below_drewN)

set_option maxHeartbeats 4000000 in
set_option maxRecDepth 100000 in
theorem same_any (u v : Value) (a b : List Int) (hl : a.length ≤ 140737488355328) (hl2 : b.length ≤ 140737488355328) (w : World) (h1 : Ns w u a) (h2 : Ns w v b) :
    Calls Try.prog 19 #[u, v] w fun e w' => e = .returned (.bool (decide (a = b))) ∧ Below w.heap.size w w' := by
  obtain ⟨r, hr⟩ : ∃ r, decide (a = b) = r := ⟨_, rfl⟩
  rw [hr]
  have HR := Lib.hid hr
  clear hr
  obtain ⟨ua, uc, rfl⟩ := sl_form h1
  obtain ⟨va, vc, rfl⟩ := sl_form h2
  obtain ⟨na, hna⟩ : ∃ n, a.length = n := ⟨_, rfl⟩
  obtain ⟨nb, hnb⟩ : ∃ n, b.length = n := ⟨_, rfl⟩
  have HN : Hid (a.length = na ∧ b.length = nb) := ⟨hna, hnb⟩
  have H1 := Lib.hid h1
  have H2 := Lib.hid h2
  rw [hna] at H1 hl ⊢
  rw [hnb] at H2 hl2 ⊢
  clear h1 h2 hna hnb
  by_cases hn : na = nb
  · have hni : (na : Int) = (nb : Int) := by omega
    subst hn
    clear hni
    go_enter Try.func19, Try.ntmps19
    go_wp2_with fail
    go_loopw [5] (fun i wr => ∃ k : Nat, i = .int .i64 (k : Nat) ∧ k ≤ na ∧ Hid (Below w.heap.size w wr ∧ a.take k = b.take k))
      (fun i _ => na - (intOf i).toNat)
    case atStart => exact ⟨0, rfl, Nat.zero_le _, Below.refl _ _, rfl⟩
    case round =>
      obtain ⟨k, rfl, hk, HI⟩ := hrel
      by_cases hlt : k < na
      · have hki : (k : Int) < (na : Int) := by omega
        have hka : k < a.length := by rw [HN.out.1]; exact hlt
        have hkb : k < b.length := by rw [HN.out.2]; exact hlt
        have G1 := H1.out.later _ HI.out.1
        have G2 := H2.out.later _ HI.out.1
        rw [← HN.out.1] at G1
        rw [← HN.out.2] at G2
        obtain ⟨p1, o1, d1, e1, g1, c10⟩ := slN_at G1 hka
        obtain ⟨p2, o2, d2, e2, g2, c20⟩ := slN_at G2 hkb
        injection e1 with e11 e12 e13
        injection e2 with e21 e22 e23
        subst e11 e13 e21 e23
        clear e12 e22 G1 G2
        obtain ⟨x, hx⟩ : ∃ x, a[k]'hka = x := ⟨_, rfl⟩
        obtain ⟨y, hy⟩ : ∃ y, b[k]'hkb = y := ⟨_, rfl⟩
        rw [hx] at c10
        rw [hy] at c20
        have hs1 : a.take (k + 1) = a.take k ++ [x] := by rw [List.take_succ_eq_append_getElem hka, hx]
        have hs2 : b.take (k + 1) = b.take k ++ [y] := by rw [List.take_succ_eq_append_getElem hkb, hy]
        have HB : Hid (∀ n, Below w.heap.size w (wr.drewN n)) := fun n => below_drewN HI.out.1 n
        by_cases hxy : x = y
        · have hq : (x != y) = false := by simpa using hxy
          have HT : Hid (a.take (k + 1) = b.take (k + 1)) := by
            rw [hs1, hs2, HI.out.2, hxy]
            exact rfl
          clear HI hs1 hs2 hx hy hxy g1 g2 hka hkb
          go_upto_region 6 with (fail)
          go_quiet (fail)
          go_wp2_with fail
          exact ⟨⟨k + 1, by rw [Int.natCast_add]; rfl, by omega, HB.out _, HT.out⟩, by simp only [intOf]; omega⟩
        · have hq : (x != y) = true := by simpa using hxy
          have HT : Hid (r = false) := HR.out.symm.trans <| decide_eq_false fun e => hxy (by
            subst e
            rw [← hx, ← hy])
          clear HI hs1 hs2 hx hy hxy g1 g2 hka hkb
          go_upto_region 6 with (fail)
          go_quiet (fail)
          go_wp2_with fail
          go_ret
          obtain rfl := HT.out
          exact ⟨rfl, HB.out _⟩
      · obtain rfl : k = na := by omega
        have hki : ¬ (k : Int) < (k : Int) := by omega
        have HT : Hid (r = true ∧ Below w.heap.size w wr) := by
          have h := HI.out.2
          rw [List.take_of_length_le (by rw [HN.out.1]; exact Nat.le_refl _), List.take_of_length_le (by rw [HN.out.2]; exact Nat.le_refl _)] at h
          exact ⟨HR.out.symm.trans (decide_eq_true h), HI.out.1⟩
        clear HI
        go_wp2_with fail
        go_ret
        obtain rfl := HT.out.1
        exact ⟨rfl, HT.out.2⟩
  · have hni : ¬ (na : Int) = (nb : Int) := by omega
    have hnb2 : ((na : Int) != (nb : Int)) = true := bne_iff_ne.2 (by omega)
    have HT : Hid (r = false) := HR.out.symm.trans <| decide_eq_false fun e => hn (by rw [← HN.out.1, ← HN.out.2, e])
    go_enter Try.func19, Try.ntmps19
    go_wp2_with fail
    go_ret
    obtain rfl := HT.out
    exact ⟨rfl, Below.refl _ _⟩
end Go.Proofs.Ythhnhnljefiboaa.qm
