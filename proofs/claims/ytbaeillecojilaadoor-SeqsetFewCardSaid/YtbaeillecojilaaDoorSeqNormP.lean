/-
  What the program's Norm answers, where rising does.
-/
import Derived.Test.YtbaeillecojilaaDoorSeqRise
import Derived.Test.YtbaeillecojilaaDoorSeqNormR
import Derived.Deep.AppendLies
namespace Go.Proofs.YtbaeillecojilaaDoor.sq
open Go.RowKit

/-- rising tells a list's numbers but 0, rising, where the list is of at most N numbers. -/
def RiseAt (N : Nat) : Prop := ∀ (a : Option Addr) (cap : Nat) (of : List Nat), of.length ≤ N → (∀ x ∈ of, x < 18446744073709551616) → ∀ w : World, Row64 w a of →
  Calls Tryd.prog 33 #[.slice a of.length cap] w fun e w' => (∃ L a2 c2, e = .returned (.slice a2 (List.length L) c2) ∧ Row64 w' a2 L ∧ Rising of L ∧ L.length ≤ of.length) ∧ Below w.heap.size w w'

theorem own_slice {w : World} {B : Nat} {e : TypeId} {s : Nat} {a : Option Addr} {n m c : Nat} {xs : List Value} (h : w.ownsRow B e s (.slice a n c) m xs) (hn : 0 < n) (hm : n = m) : ∃ g, a = some ⟨g, 0, none⟩ ∧ B ≤ g ∧ g < w.heap.size := by
  subst hm
  rcases h.2 with ⟨h1, h0⟩ | ⟨g, cap, cur, h1, hg, hh, _⟩
  · simp at h1; omega
  · simp at h1
    exact ⟨g, h1.1, hg, (Array.getElem?_eq_some_iff.1 hh).1⟩
theorem cellsR_len : ∀ (D : List (Nat × Nat)), (cellsR D).length = D.length * 2
  | [] => rfl
  | d :: D => by rw [cellsR_cons, List.length_cons, List.length_cons, cellsR_len D, List.length_cons]; omega
theorem cellsR_put (D : List (Nat × Nat)) (p q n : Nat) : (cellsR (D ++ [(p, q)])).set (D.length * 2 + 1) (.int .u64 (n : Int)) = cellsR (D ++ [(p, n)]) := by
  rw [cellsR_snoc, cellsR_snoc, List.set_append_right _ _ (by rw [cellsR_len]; omega), cellsR_len]
  congr 1
  rw [show D.length * 2 + 1 - D.length * 2 = 1 by omega]
  rfl
theorem cellsR_last (D : List (Nat × Nat)) (p q : Nat) : (cellsR (D ++ [(p, q)]))[D.length * 2 + 1]? = some (.int .u64 (q : Int)) := by
  rw [cellsR_snoc, List.getElem?_append_right (by rw [cellsR_len]; omega), cellsR_len, show D.length * 2 + 1 - D.length * 2 = 1 by omega]
  rfl

set_option maxHeartbeats 4000000 in
set_option maxRecDepth 100000 in
theorem norm_upto (N : Nat) (hN : N ≤ 1000000) (hR : RiseAt N) (a : Option Addr) (cap : Nat) (of : List Nat) (hl : of.length ≤ N) (h64 : Hid (∀ x ∈ of, x < 18446744073709551616)) (w : World) (hr : Row64 w a of) :
    Calls Tryd.prog 21 #[.slice a of.length cap] w fun e w' => (∃ L a2 c2, e = .returned (.slice a2 (List.length L) c2) ∧ RowR w' a2 L ∧ IsNorm of L) ∧ Below w.heap.size w w' := by
  obtain ⟨i0, hi, hz0, hz1, hz2⟩ := info_parts infoR
  have hcall := hR a cap of hl h64.out w hr
  clear hr hR
  go_enter Tryd.func21, Tryd.ntmps21
  go_wp2_with fail
  refine hcall.mono ?_
  rintro e w1 ⟨⟨L, a1, c1, rfl, hrow, hris, hlen⟩, b1⟩
  have HNM : Hid (IsNorm of (ranges L)) := Lib.hid (ranges_norm hris h64.out)
  have H64 : Hid (∀ x ∈ L, x < 18446744073709551616) := Lib.hid (fun x hx => h64.out x ((hris.2 x).1 hx).1)
  have HP : Hid (L.Pairwise (· < ·)) := Lib.hid hris.1
  have HROW := Lib.hid hrow
  have hLN : L.length ≤ 1000000 := by omega
  clear hcall hrow hris h64 hl hN hlen
  go_wp2_with fail
  go_loopw [3, 10] (fun v i wr => ∃ (k n : Nat) (a : Option Addr) (c : Nat) (M : List (Nat × Nat)), i = .int .i64 k ∧ v = .slice a n c ∧ k ≤ L.length ∧ n ≤ k ∧ Hid (n = M.length) ∧ Hid (Told L k M) ∧ Hid (wr.ownsRow w1.heap.size 41 2 (.slice a n c) n (cellsR M)) ∧ Below w1.heap.size w1 wr)
    (fun _ i _ => L.length - (intOf i).toNat)
  case atStart => exact ⟨0, 0, none, 0, [], rfl, rfl, Nat.zero_le _, Nat.le_refl _, Lib.hid rfl, Lib.hid (Told.start L), Lib.hid (World.ownsRow_nil _ _ _ _), Below.refl _ _⟩
  case round =>
    obtain ⟨k, n, a, c, M, rfl, rfl, hk, hnk, HNN, HTD, HO, hB⟩ := hrel
    have hBs := hB.size
    by_cases hlt : k < L.length
    · obtain ⟨b, off, rfl, hb, ck⟩ := row64_cell (HROW.out.later hB) hlt
      have hki : (k : Int) < (L.length : Int) := by omega
      obtain ⟨x, hx⟩ : ∃ x, L[k]'hlt = x := ⟨_, rfl⟩
      have hx64 := H64.out x (by rw [← hx]; exact List.getElem_mem hlt)
      rw [hx] at ck
      -- behind the append
      have app : Hid (∀ (a2 : Option Addr) (n2 c2 : Nat) (W : World) (M2 : List (Nat × Nat)), True → True) := fun _ _ _ _ _ _ => trivial
      by_cases hn0 : n = 0
      · have hM : M = [] := List.eq_nil_of_length_eq_zero (by have := HNN.out; omega)
        subst hM
        have hk0 : k = 0 := by
          rcases HTD.out with ⟨h, _⟩ | ⟨D, p, q, h, _⟩
          · exact h
          · simp at h
        have HT2 : Hid (Told L (k + 1) ([] ++ [(x, x)])) := by
          subst hk0
          have := Told.first hlt HP.out
          rw [hx] at this
          exact Lib.hid this
        subst hn0
        clear HTD hk0 app
        go_wp2_with (at_builtin; refine wpList_append_own _ rfl _ _ 22 rfl w1.heap.size 41 i0 (.agg #[.int .u64 0, .int .u64 0]) 2 16 Tryd.underlying22 hi hz0 hz1 hz2 rfl (by decide) _ _ _ rfl (HO.out.alloc _) ⟨wr.heap.size, 0, none⟩ 1 1 [.int .u64 (x : Nat), .int .u64 (x : Nat)] rfl rfl ?c1 ?c2 ?c3 ?c4 ?c5 ?_)
        case c1 =>
          intro j u hj
          match j, hj with
          | 0, hj => simp at hj; subst hj; simp [Addr.add]
          | 1, hj => simp at hj; subst hj; simp [Addr.add]
        case c2 => intro u hu; simp at hu; subst hu; rfl
        case c3 => unfold maxLen; omega
        case c4 => omega
        case c5 => simp; omega
        intro v5 w5 hown' hgrow hnil
        have hB5 : Below w1.heap.size w1 w5 := (hB.alloc hBs _).grown hgrow (by simp; omega) (fun k hk => (HO.out.lt k hk).1)
        obtain ⟨g5, c5, hv5, _, _⟩ := hown'.form (by omega)
        subst hv5
        have HO5 : Hid (w5.ownsRow w1.heap.size 41 2 (.slice (some ⟨g5, 0, none⟩) (0 + 1) c5) (0 + 1) (cellsR ([] ++ [(x, x)]))) := by
          refine Lib.hid ?_
          rw [cellsR_snoc]
          exact hown'
        clear hown' hgrow hnil HO hB hBs ck hb
        go_wp2_with fail
        go_roundw
        case rel => exact ⟨k + 1, (0 + 1), some ⟨g5, 0, none⟩, c5, [] ++ [(x, x)], by go_num, rfl, by omega, by omega, Lib.hid rfl, HT2, HO5, hB5⟩
        case measure => simp [intOf]; omega
      · have hT := HTD.out
        rcases hT with ⟨_, h⟩ | ⟨D, p, q, rfl, h1, h2, _⟩
        · exfalso
          apply hn0
          have := HNN.out
          rw [h] at this
          exact this
        obtain ⟨t1, t2, t3⟩ := Told.next h1 h2 hlt
        rw [hx] at t1 t2 t3
        have hnD : n = D.length + 1 := by have := HNN.out; rw [List.length_append, List.length_singleton] at this; exact this
        subst hnD
        obtain ⟨g, rfl, hg1, hg2⟩ := own_slice HO.out (by omega) rfl
        have cl := HO.out.cellAt (D.length * 2 + 1) (by omega)
        rw [cellsR_last] at cl
        have hfz := HO.out.frozenAt (D.length * 2 + 1)
        have hw1 : IntKind.i64.wrap ((D.length : Int) + 1 - 1) = (D.length : Int) := by rw [show (D.length : Int) + 1 - 1 = D.length by omega]; exact IntWalk.i64_in _ (by omega)
        have hw2 : IntKind.u64.wrap ((x : Int) - (q : Int)) = ((x - q : Nat) : Int) := by rw [show (x : Int) - (q : Int) = ((x - q : Nat) : Int) by omega]; exact IntWalk.u64_in _ (by omega)
        have HST := Lib.hid (HO.out.stored (D.length * 2 + 1) (.int .u64 (x : Nat)))
        have HPUT : Hid ((cellsR (D ++ [(p, q)])).set (D.length * 2 + 1) (.int .u64 (x : Int)) = cellsR (D ++ [(p, x)])) := Lib.hid (cellsR_put D p q x)
        clear h1 h2 app HTD
        by_cases hxq : x = q + 1
        · have HT2 := Lib.hid (t2 hxq)
          have hq1 : (((x - q : Nat) : Int) == 1) = true := by rw [beq_iff_eq]; omega
          clear t2 t3 hxq
          go_wp2_with fail
          have HST2 : Hid ((wr.setCell ⟨g, D.length * 2 + 1, none⟩ (.int .u64 (x : Nat))).ownsRow w1.heap.size 41 2 (.slice (some ⟨g, 0, none⟩) (D.length + 1) c) (D.length + 1) (cellsR (D ++ [(p, x)]))) := by
            have := HST.out.1
            rw [HPUT.out] at this
            exact Lib.hid this
          go_roundw
          case rel => exact ⟨k + 1, D.length + 1, some ⟨g, 0, none⟩, c, D ++ [(p, x)], by go_num, rfl, by omega, by omega, Lib.hid (by simp), HT2, HST2, hB.setCell (by simpa using hg1) _⟩
          case measure => simp [intOf]; omega
        · have HT2 := Lib.hid (t3 hxq)
          have hq1 : (((x - q : Nat) : Int) == 1) = false := by rw [beq_eq_false_iff_ne]; omega
          clear t2 t3 hxq HST HPUT
          go_wp2_with (at_builtin; refine wpList_append_own _ rfl _ _ 22 rfl w1.heap.size 41 i0 (.agg #[.int .u64 0, .int .u64 0]) 2 16 Tryd.underlying22 hi hz0 hz1 hz2 rfl (by decide) _ _ _ rfl (HO.out.alloc _) ⟨wr.heap.size, 0, none⟩ 1 1 [.int .u64 (x : Nat), .int .u64 (x : Nat)] rfl rfl ?c1 ?c2 ?c3 ?c4 ?c5 ?_)
          case c1 =>
            intro j u hj
            match j, hj with
            | 0, hj => simp at hj; subst hj; simp [Addr.add]
            | 1, hj => simp at hj; subst hj; simp [Addr.add]
          case c2 => intro u hu; simp at hu; subst hu; rfl
          case c3 => unfold maxLen; omega
          case c4 => omega
          case c5 => simp; omega
          intro v5 w5 hown' hgrow hnil
          have hB5 : Below w1.heap.size w1 w5 := (hB.alloc hBs _).grown hgrow (by simp; omega) (fun k hk => (HO.out.lt k hk).1)
          obtain ⟨g5, c5, hv5, _, _⟩ := hown'.form (by omega)
          subst hv5
          have HO5 : Hid (w5.ownsRow w1.heap.size 41 2 (.slice (some ⟨g5, 0, none⟩) (D.length + 1 + 1) c5) (D.length + 1 + 1) (cellsR (D ++ [(p, q)] ++ [(x, x)]))) := by
            refine Lib.hid ?_
            rw [cellsR_snoc]
            exact hown'
          clear hown' hgrow hnil HO hB hBs ck hb cl hfz
          go_wp2_with fail
          go_roundw
          case rel => exact ⟨k + 1, (D.length + 1 + 1), some ⟨g5, 0, none⟩, c5, D ++ [(p, q)] ++ [(x, x)], by go_num, rfl, by omega, by omega, Lib.hid (by simp), HT2, HO5, hB5⟩
          case measure => simp [intOf]; omega
    · obtain rfl : k = L.length := by omega
      have hM := HTD.out.done
      subst hM
      have hoo := HO.out
      obtain ⟨a2, c2, hv, hrow⟩ := rowR_of_own HNN.out hoo
      have HROW2 := Lib.hid hrow
      have HV := Lib.hid hv
      have hBB := b1.trans (hB.mono b1.size)
      clear HO hoo hrow hv HTD HP H64 HROW
      go_wp2_with fail
      go_ret
      exact ⟨⟨_, a2, c2, congrArg Ending.returned HV.out, HROW2.out, HNM.out⟩, hBB⟩
end Go.Proofs.YtbaeillecojilaaDoor.sq
