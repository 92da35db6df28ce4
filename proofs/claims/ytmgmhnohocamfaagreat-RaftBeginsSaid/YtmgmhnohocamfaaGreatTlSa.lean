/-
  The document's own comparisons: entries, members.
-/
import Derived.Test.YtmgmhnohocamfaaGreatTlBase
namespace Go.Proofs.YtmgmhnohocamfaaGreat.tl
set_option linter.unusedVariables false
set_option linter.unusedSimpArgs false
open Go.RowKit
open pk (S S_size S_data)
open qm (Bs noSh)
open rw (Arr But below_box bnext below_drew below_drewN)

def sameE (x y : EnIn) : Prop := x.term = y.term ∧ x.kind = y.kind ∧ x.data = y.data
instance (x y : EnIn) : Decidable (sameE x y) := by unfold sameE; infer_instance
theorem sameE_iff (x y : EnIn) : sameE x y ↔ x = y := by
  cases x; cases y
  simp [sameE]
instance : DecidableEq EnIn := fun x y => decidable_of_iff (sameE x y) (sameE_iff x y)
theorem S_toList_eq (a b : Bs) : ((S a).toList == (S b).toList) = decide (a = b) := by
  rw [Bool.eq_iff_iff, beq_iff_eq, decide_eq_true_eq]
  constructor
  · intro h
    rw [ByteArray.toList_eq, ByteArray.toList_eq] at h
    exact S_inj (ByteArray.ext (Array.toList_inj.1 h))
  · rintro rfl; rfl
theorem eq_ent (x y : EnIn) (w : World) : (Op.equalIn 10000 51 (.agg #[.int .u64 (x.term : Nat), .int .i64 x.kind, .string (S x.data)]) (.agg #[.int .u64 (y.term : Nat), .int .i64 y.kind, .string (S y.data)])).run Tryz.prog w = .ok (decide (sameE x y)) w := by
  obtain ⟨t1, v1, l1⟩ := x
  obtain ⟨t2, v2, l2⟩ := y
  unfold sameE
  have e1 : Tryz.prog.underlying 51 = some (.struct (Tryz.prog.fieldsOf 51)) := by kernel_rfl
  have e2 : Tryz.prog.stoodInHeld 51 = false := by kernel_rfl
  have e3 : (Tryz.prog.fieldsOf 51).toList = [⟨"Term", 34, 0, false, "", "", 0⟩, ⟨"Kind", 3, 1, false, "", "", 8⟩, ⟨"Data", 9, 2, false, "", "", 16⟩] := by kernel_rfl
  have u1 : Tryz.prog.underlying 34 = some (.int .u64) := by kernel_rfl
  have u2 : Tryz.prog.underlying 3 = some (.int .i64) := by kernel_rfl
  have u3 : Tryz.prog.underlying 9 = some .string := by kernel_rfl
  rw [run_equalIn_agg _ 9999 _ _ _ e1 e2, e3]
  have p1 : ∀ (xs : Array Value) (j : Nat) (v : Value) (w : World), xs[j]? = some v → (part 34 xs j).run Tryz.prog w = .ok v w := fun xs j v w h => run_part_plain w (by kernel_rfl) h
  have p2 : ∀ (xs : Array Value) (j : Nat) (v : Value) (w : World), xs[j]? = some v → (part 3 xs j).run Tryz.prog w = .ok v w := fun xs j v w h => run_part_plain w (by kernel_rfl) h
  have p3 : ∀ (xs : Array Value) (j : Nat) (v : Value) (w : World), xs[j]? = some v → (part 9 xs j).run Tryz.prog w = .ok v w := fun xs j v w h => run_part_plain w (by kernel_rfl) h
  simp only [Op.eqFields, ne_eq, String.reduceEq, not_false_eq_true, if_true, Sem.run_bind]
  have a0 := fun w => p1 #[.int .u64 (t1 : Nat), .int .i64 v1, .string (S l1)] 0 (.int .u64 (t1 : Nat)) w rfl
  have a1 := fun w => p2 #[.int .u64 (t1 : Nat), .int .i64 v1, .string (S l1)] 1 (.int .i64 v1) w rfl
  have a2 := fun w => p3 #[.int .u64 (t1 : Nat), .int .i64 v1, .string (S l1)] 2 (.string (S l1)) w rfl
  have b0 := fun w => p1 #[.int .u64 (t2 : Nat), .int .i64 v2, .string (S l2)] 0 (.int .u64 (t2 : Nat)) w rfl
  have b1 := fun w => p2 #[.int .u64 (t2 : Nat), .int .i64 v2, .string (S l2)] 1 (.int .i64 v2) w rfl
  have b2 := fun w => p3 #[.int .u64 (t2 : Nat), .int .i64 v2, .string (S l2)] 2 (.string (S l2)) w rfl
  have q1 := fun (a b : Int) (w : World) => run_equalIn_int (P := Tryz.prog) w 9998 34 .u64 .u64 a b u1
  have q2 := fun (a b : Int) (w : World) => run_equalIn_int (P := Tryz.prog) w 9998 3 .i64 .i64 a b u2
  have q3 := fun (a b : ByteArray) (w : World) => run_equalIn_string (P := Tryz.prog) w 9998 9 a b u3
  have hcast : ∀ a b : Nat, ((a : Int) == (b : Int)) = decide (a = b) := fun a b => by rw [Bool.eq_iff_iff, beq_iff_eq, decide_eq_true_eq]; omega
  have hci : ∀ a b : Int, (a == b) = decide (a = b) := fun a b => by rw [Bool.eq_iff_iff, beq_iff_eq, decide_eq_true_eq]
  simp only [Nat.reduceAdd] at q1 q2 q3
  simp only [a0, b0, a1, b1, a2, b2, Result.andThen_ok, q1, q2, q3, hcast, S_toList_eq]
  by_cases h1 : t1 = t2
  · subst h1
    by_cases h2 : v1 = v2
    · subst h2
      by_cases h3 : l1 = l2
      · subst h3
        simp [a0, b0, a1, b1, a2, b2, q1, q2, q3, hcast, S_toList_eq]
      · simp [h3, a0, b0, a1, b1, a2, b2, q1, q2, q3, hcast, S_toList_eq]
    · simp [h2, a0, b0, a1, b1, a2, b2, q1, q2, q3, hcast, S_toList_eq]
  · simp [h1, a0, b0, a1, b1, a2, b2, q1, q2, q3, hcast, S_toList_eq]
theorem neq_ent (x y : EnIn) (w : World) : (binOp .neq 51 (.agg #[.int .u64 (x.term : Nat), .int .i64 x.kind, .string (S x.data)]) (.agg #[.int .u64 (y.term : Nat), .int .i64 y.kind, .string (S y.data)])).run Tryz.prog w = .ok (.bool (!decide (sameE x y))) w := by
  rw [run_neq_struct, eq_ent]
  rfl
set_option maxHeartbeats 4000000 in
set_option maxRecDepth 100000 in
theorem sameEntries_any (u v : Value) (a b : List EnIn) (hl : a.length ≤ 1000000000) (w : World) (h1 : rw.Sl enSh w u a) (h2 : rw.Sl enSh w v b) :
    Calls Tryz.prog 46 #[u, v] w fun e w' => e = .returned (.bool (decide (a = b))) ∧ Below w.heap.size w w' := by
  obtain ⟨r, hr⟩ : ∃ r, decide (a = b) = r := ⟨_, rfl⟩
  rw [hr]
  have HR := Lib.hid hr
  clear hr
  obtain ⟨ua, uc, rfl⟩ := sl_form h1
  obtain ⟨va, vc, rfl⟩ := sl_form h2
  obtain ⟨na, hna⟩ : ∃ n, a.length = n := ⟨_, rfl⟩
  obtain ⟨nb, hnb⟩ : ∃ n, b.length = n := ⟨_, rfl⟩
  have HN : Hid (a.length = na ∧ b.length = nb) := ⟨hna, hnb⟩
  have H1 := Lib.hid h1
  have H2 := Lib.hid h2
  rw [hna] at H1 hl ⊢
  rw [hnb] at H2 ⊢
  clear h1 h2 hna hnb
  by_cases hn : na = nb
  · have hni : (na : Int) = (nb : Int) := by omega
    subst hn
    clear hni
    go_enter Tryz.func46, Tryz.ntmps46
    go_wp2_with fail
    go_loopw [5] (fun i wr => ∃ k : Nat, i = .int .i64 (k : Nat) ∧ k ≤ na ∧ Hid (Below w.heap.size w wr ∧ a.take k = b.take k))
      (fun i _ => na - (intOf i).toNat)
    case atStart => exact ⟨0, rfl, Nat.zero_le _, Below.refl _ _, rfl⟩
    case round =>
      obtain ⟨k, rfl, hk, HI⟩ := hrel
      by_cases hlt : k < na
      · have hki : (k : Int) < (na : Int) := by omega
        have hka : k < a.length := by rw [HN.out.1]; exact hlt
        have hkb : k < b.length := by rw [HN.out.2]; exact hlt
        obtain ⟨p1, o1, d1, e1, g1, c10, c11, c12⟩ := slE_at (H1.out.later _ HI.out.1) hka
        obtain ⟨p2, o2, d2, e2, g2, c20, c21, c22⟩ := slE_at (H2.out.later _ HI.out.1) hkb
        injection e1 with e11 e12 e13
        injection e2 with e21 e22 e23
        subst e11 e13 e21 e23
        clear e12 e22
        obtain ⟨x, hx⟩ : ∃ x, a[k]'hka = x := ⟨_, rfl⟩
        obtain ⟨y, hy⟩ : ∃ y, b[k]'hkb = y := ⟨_, rfl⟩
        rw [hx] at c10 c11 c12
        rw [hy] at c20 c21 c22
        have hs1 : a.take (k + 1) = a.take k ++ [x] := by rw [List.take_succ_eq_append_getElem hka, hx]
        have hs2 : b.take (k + 1) = b.take k ++ [y] := by rw [List.take_succ_eq_append_getElem hkb, hy]
        have HB : Hid (∀ n, Below w.heap.size w (wr.drewN n)) := fun n => below_drewN HI.out.1 n
        have hq := fun W => neq_ent x y W
        obtain ⟨xt, xk, xd⟩ := x
        obtain ⟨yt, yk, yd⟩ := y
        simp only at c10 c11 c12 c20 c21 c22 hq
        by_cases hxy : (⟨xt, xk, xd⟩ : EnIn) = ⟨yt, yk, yd⟩
        · rw [decide_eq_true ((sameE_iff _ _).2 hxy)] at hq
          have HT : Hid (a.take (k + 1) = b.take (k + 1)) := by
            rw [hs1, hs2, HI.out.2, hxy]
            exact rfl
          clear HI hs1 hs2 hx hy hxy g1 g2 hka hkb
          go_upto_region 6 with (fail)
          go_quiet (fail)
          go_wp2_with fail
          exact ⟨⟨k + 1, by rw [Int.natCast_add]; rfl, by omega, HB.out _, HT.out⟩, by simp only [intOf]; omega⟩
        · rw [decide_eq_false (fun h => hxy ((sameE_iff _ _).1 h))] at hq
          have HT : Hid (¬ a = b) := fun e => hxy (by
            subst e
            rw [← hx, ← hy])
          clear HI hs1 hs2 hx hy hxy g1 g2 hka hkb
          go_upto_region 6 with (fail)
          go_quiet (fail)
          go_wp2_with fail
          go_ret
          rw [← HR.out, decide_eq_false HT.out]
          exact ⟨rfl, HB.out _⟩
      · obtain rfl : k = na := by omega
        have hki : ¬ (k : Int) < (k : Int) := by omega
        have HT : Hid (a = b ∧ Below w.heap.size w wr) := by
          have h := HI.out.2
          rw [List.take_of_length_le (by rw [HN.out.1]; exact Nat.le_refl _), List.take_of_length_le (by rw [HN.out.2]; exact Nat.le_refl _)] at h
          exact ⟨h, HI.out.1⟩
        clear HI
        go_wp2_with fail
        go_ret
        rw [← HR.out, decide_eq_true HT.out.1]
        exact ⟨rfl, HT.out.2⟩
  · have hni : ¬ (na : Int) = (nb : Int) := by omega
    have hnb2 : ((na : Int) != (nb : Int)) = true := bne_iff_ne.2 (by omega)
    have HT : Hid (¬ a = b) := fun e => hn (by rw [← HN.out.1, ← HN.out.2, e])
    go_enter Tryz.func46, Tryz.ntmps46
    go_wp2_with fail
    go_ret
    rw [← HR.out, decide_eq_false HT.out]
    exact ⟨rfl, Below.refl _ _⟩
set_option maxHeartbeats 4000000 in
set_option maxRecDepth 100000 in
theorem sameInts_any (u v : Value) (a b : List Int) (hl : a.length ≤ 1000000000) (w : World) (h1 : rw.Sl noSh w u a) (h2 : rw.Sl noSh w v b) :
    Calls Tryz.prog 14 #[u, v] w fun e w' => e = .returned (.bool (decide (a = b))) ∧ Below w.heap.size w w' := by
  obtain ⟨r, hr⟩ : ∃ r, decide (a = b) = r := ⟨_, rfl⟩
  rw [hr]
  have HR := Lib.hid hr
  clear hr
  obtain ⟨ua, uc, rfl⟩ := sl_form h1
  obtain ⟨va, vc, rfl⟩ := sl_form h2
  obtain ⟨na, hna⟩ : ∃ n, a.length = n := ⟨_, rfl⟩
  obtain ⟨nb, hnb⟩ : ∃ n, b.length = n := ⟨_, rfl⟩
  have HN : Hid (a.length = na ∧ b.length = nb) := ⟨hna, hnb⟩
  have H1 := Lib.hid h1
  have H2 := Lib.hid h2
  rw [hna] at H1 hl ⊢
  rw [hnb] at H2 ⊢
  clear h1 h2 hna hnb
  by_cases hn : na = nb
  · have hni : (na : Int) = (nb : Int) := by omega
    subst hn
    clear hni
    go_enter Tryz.func14, Tryz.ntmps14
    go_wp2_with fail
    go_loopw [5] (fun i wr => ∃ k : Nat, i = .int .i64 (k : Nat) ∧ k ≤ na ∧ Hid (Below w.heap.size w wr ∧ a.take k = b.take k))
      (fun i _ => na - (intOf i).toNat)
    case atStart => exact ⟨0, rfl, Nat.zero_le _, Below.refl _ _, rfl⟩
    case round =>
      obtain ⟨k, rfl, hk, HI⟩ := hrel
      by_cases hlt : k < na
      · have hki : (k : Int) < (na : Int) := by omega
        have hka : k < a.length := by rw [HN.out.1]; exact hlt
        have hkb : k < b.length := by rw [HN.out.2]; exact hlt
        obtain ⟨p1, o1, d1, e1, g1, c10⟩ := slN_at (H1.out.later _ HI.out.1) hka
        obtain ⟨p2, o2, d2, e2, g2, c20⟩ := slN_at (H2.out.later _ HI.out.1) hkb
        injection e1 with e11 e12 e13
        injection e2 with e21 e22 e23
        subst e11 e13 e21 e23
        clear e12 e22
        obtain ⟨x, hx⟩ : ∃ x, a[k]'hka = x := ⟨_, rfl⟩
        obtain ⟨y, hy⟩ : ∃ y, b[k]'hkb = y := ⟨_, rfl⟩
        rw [hx] at c10
        rw [hy] at c20
        have hs1 : a.take (k + 1) = a.take k ++ [x] := by rw [List.take_succ_eq_append_getElem hka, hx]
        have hs2 : b.take (k + 1) = b.take k ++ [y] := by rw [List.take_succ_eq_append_getElem hkb, hy]
        have HB : Hid (∀ n, Below w.heap.size w (wr.drewN n)) := fun n => below_drewN HI.out.1 n
        by_cases hxy : x = y
        · have hq : (x != y) = false := by simpa using hxy
          have HT : Hid (a.take (k + 1) = b.take (k + 1)) := by
            rw [hs1, hs2, HI.out.2, hxy]
            exact rfl
          clear HI hs1 hs2 hx hy hxy g1 g2 hka hkb
          go_upto_region 6 with (fail)
          go_quiet (fail)
          go_wp2_with fail
          exact ⟨⟨k + 1, by rw [Int.natCast_add]; rfl, by omega, HB.out _, HT.out⟩, by simp only [intOf]; omega⟩
        · have hq : (x != y) = true := by simpa using hxy
          have HT : Hid (¬ a = b) := fun e => hxy (by
            subst e
            rw [← hx, ← hy])
          clear HI hs1 hs2 hx hy hxy g1 g2 hka hkb
          go_upto_region 6 with (fail)
          go_quiet (fail)
          go_wp2_with fail
          go_ret
          rw [← HR.out, decide_eq_false HT.out]
          exact ⟨rfl, HB.out _⟩
      · obtain rfl : k = na := by omega
        have hki : ¬ (k : Int) < (k : Int) := by omega
        have HT : Hid (a = b ∧ Below w.heap.size w wr) := by
          have h := HI.out.2
          rw [List.take_of_length_le (by rw [HN.out.1]; exact Nat.le_refl _), List.take_of_length_le (by rw [HN.out.2]; exact Nat.le_refl _)] at h
          exact ⟨h, HI.out.1⟩
        clear HI
        go_wp2_with fail
        go_ret
        rw [← HR.out, decide_eq_true HT.out.1]
        exact ⟨rfl, HT.out.2⟩
  · have hni : ¬ (na : Int) = (nb : Int) := by omega
    have hnb2 : ((na : Int) != (nb : Int)) = true := bne_iff_ne.2 (by omega)
    have HT : Hid (¬ a = b) := fun e => hn (by rw [← HN.out.1, ← HN.out.2, e])
    go_enter Tryz.func14, Tryz.ntmps14
    go_wp2_with fail
    go_ret
    rw [← HR.out, decide_eq_false HT.out]
    exact ⟨rfl, Below.refl _ _⟩


end Go.Proofs.YtmgmhnohocamfaaGreat.tl
