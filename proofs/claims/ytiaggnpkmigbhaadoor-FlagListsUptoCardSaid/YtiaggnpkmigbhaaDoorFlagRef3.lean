/-
  What the reference's With answers.
-/
import Derived.Test.YtiaggnpkmigbhaaDoorFlagRef2
import Derived.Deep.AppendLies
namespace Go.Proofs.YtiaggnpkmigbhaaDoor.fl
open Go.RowKit

/-- What With has laid when k of the list are over. -/
def outAt (f : List UInt8) (l : List (List UInt8)) (k : Nat) : List (List UInt8) := if k ≤ cut f l then l.take k else l.take (cut f l) ++ f :: (l.take k).drop (cut f l)
theorem outAt_len {f : List UInt8} {l : List (List UInt8)} {k : Nat} (hk : k ≤ l.length) : (outAt f l k).length = if k ≤ cut f l then k else k + 1 := by
  have := cut_le f l
  unfold outAt
  split
  · rw [List.length_take]; omega
  · rw [List.length_append, List.length_cons, List.length_drop, List.length_take, List.length_take]; omega
theorem outAt_less {f : List UInt8} {l : List (List UInt8)} {k : Nat} (h : k < l.length) (hc : k < cut f l) : outAt f l (k + 1) = outAt f l k ++ [l[k]] := by
  unfold outAt
  rw [if_pos (by omega), if_pos (by omega), List.take_succ_eq_append_getElem h]
theorem outAt_here {f : List UInt8} {l : List (List UInt8)} {k : Nat} (h : k < l.length) (hc : k = cut f l) : outAt f l (k + 1) = (outAt f l k ++ [f]) ++ [l[k]] := by
  unfold outAt
  rw [if_neg (by omega), if_pos (by omega), ← hc, List.drop_take, Nat.add_sub_cancel_left, List.drop_eq_getElem_cons h, List.take_succ_cons, List.take_zero]
  simp
theorem outAt_more {f : List UInt8} {l : List (List UInt8)} {k : Nat} (h : k < l.length) (hc : cut f l < k) : outAt f l (k + 1) = outAt f l k ++ [l[k]] := by
  unfold outAt
  rw [if_neg (by omega), if_neg (by omega), List.take_succ_eq_append_getElem h, List.drop_append_of_le_length (by rw [List.length_take]; omega)]
  simp
theorem outAt_all {f : List UInt8} {l : List (List UInt8)} (hf : f ∉ l) (hc : cut f l < l.length) : outAt f l l.length = ins f l := by
  unfold outAt
  rw [if_neg (by omega), ins_new hf, List.take_length]
theorem outAt_end {f : List UInt8} {l : List (List UInt8)} (hf : f ∉ l) (hc : cut f l = l.length) : outAt f l l.length ++ [f] = ins f l := by
  unfold outAt
  rw [if_pos (by omega), ins_new hf, hc, List.take_length]
  simp

set_option maxHeartbeats 4000000 in
set_option maxRecDepth 100000 in
theorem refwith_any (a : Option Addr) (cap : Nat) (l : List (List UInt8)) (f : List UInt8) (hl : l.length ≤ 8796093022000) (hso : Sorted l) (w : World) (hr : RowS w a l) :
    Calls Tryd.prog 37 #[.slice a l.length cap, .string (S f)] w fun e w' => (∃ a2 c2, e = .returned (.slice a2 (ins f l).length c2) ∧ RowS w' a2 (ins f l)) ∧ Below w.heap.size w w' := by
  obtain ⟨i0, hi, hz0, hz1, hz2⟩ := info_parts infoS
  have hh := refhas_any a cap l f (by omega) w hr
  by_cases hf : f ∈ l
  · rw [decide_eq_true hf] at hh
    have HI := Lib.hid (ins_in hf)
    have HR := Lib.hid hr
    clear hf hr
    go_enter Tryd.func37, Tryd.ntmps37
    go_wp2_with fail
    refine hh.mono ?_
    rintro e w1 ⟨rfl, b1⟩
    go_wp2_with fail
    go_ret
    rw [HI.out]
    exact ⟨⟨a, cap, rfl, HR.out.later b1⟩, b1⟩
  · rw [decide_eq_false hf] at hh
    have HC := Lib.hid (fun j h => cut_behind hso hf j h)
    have HCL := Lib.hid (cut_le f l)
    have HF := Lib.hid hf
    have HL := Lib.hid (fun x (W : World) => refless_any f x W)
    clear hso hf
    go_enter Tryd.func37, Tryd.ntmps37
    go_wp2_with fail
    refine hh.mono ?_
    rintro e w1 ⟨rfl, b1⟩
    have hr1 := hr.later b1
    clear hh hr
    go_wp2_with fail
    go_loopw [5, 6, 7] (fun v d i wr => ∃ (k : Nat), i = .int .i64 k ∧ d = .bool (decide (cut f l < k)) ∧ k ≤ l.length ∧ Hid (wr.ownsRow w1.heap.size 9 1 v (outAt f l k).length (cellsS (outAt f l k))) ∧ Below w1.heap.size w1 wr)
      (fun _ _ i _ => l.length - (intOf i).toNat)
    case atStart => exact ⟨0, rfl, by rw [decide_eq_false (by omega)], Nat.zero_le _, Lib.hid (by
      have e : outAt f l 0 = [] := by unfold outAt; rw [if_pos (Nat.zero_le _)]; rfl
      rw [e]; exact World.ownsRow_nil _ _ _ _), Below.refl _ _⟩
    case round =>
      obtain ⟨k, rfl, rfl, hk, HO, hB⟩ := hrel
      have hs2 := hB.size
      by_cases hlt : k < l.length
      · rcases hr1.later hB with h0 | ⟨b, off, rfl, hb, hc⟩
        · rw [h0] at hlt; simp at hlt
        have hcell := hc k hlt
        have hki : (k : Int) < (l.length : Int) := by omega
        have HOL := Lib.hid (outAt_len (f := f) hk)
        rcases Nat.lt_trichotomy k (cut f l) with hkc | hkc | hkc
        · have hless := HL.out (l[k]'hlt) wr
          rw [HC.out k hlt, decide_eq_false (show ¬ cut f l ≤ k by omega)] at hless
          have HN := Lib.hid (outAt_less hlt hkc)
          have hd : decide (cut f l < k) = false := decide_eq_false (by omega)
          have HD : Hid (decide (cut f l < k + 1) = false) := Lib.hid (decide_eq_false (by omega))
          have hol := HOL.out
          rw [if_pos (by omega)] at hol
          rw [hol] at HO
          generalize l[k]'hlt = x at *
          rw [hd]
          clear hd hc hkc HOL
          go_wp2_with fail
          refine hless.mono ?_
          rintro e w2 ⟨rfl, rfl⟩
          clear hless
          go_wp2_with (at_builtin; refine wpList_append_own _ rfl _ _ 22 rfl w1.heap.size 9 i0 (.string ⟨#[]⟩) 1 16 Tryd.underlying22 hi hz0 hz1 hz2 rfl (by decide) _ _ _ rfl (HO.out.alloc _) ⟨w2.heap.size, 0, none⟩ 1 1 [.string (S x)] rfl rfl ?c11 ?c12 ?c13 ?c14 ?c15 ?_)
          case c11 =>
            intro j u hj
            match j, hj with
            | 0, hj => simp at hj; subst hj; simp [Addr.add]
          case c12 => intro u hu; simp at hu; subst hu; rfl
          case c13 => unfold maxLen; omega
          case c14 => omega
          case c15 => simp; omega
          intro vw3 w3 hown' hgrow hnil
          have hB3 : Below w1.heap.size w1 w3 := (hB.alloc hs2 _).grown hgrow (by simp; omega) (fun k hk => (HO.out.lt k hk).1)
          have HO3 : Hid (w3.ownsRow w1.heap.size 9 1 vw3 (k + 1) (cellsS (outAt f l k ++ [x]))) := by
            refine Lib.hid ?_
            rw [cellsS_snoc]
            exact hown'
          clear hown' hgrow hnil HO hB hs2
          have HO4 : Hid (w3.ownsRow w1.heap.size 9 1 vw3 (outAt f l (k + 1)).length (cellsS (outAt f l (k + 1)))) := by
            refine Lib.hid ?_
            rw [HN.out, List.length_append, List.length_singleton, hol]
            exact HO3.out
          clear HO3 HN hol
          go_wp2_with fail
          go_roundw
          case rel => exact ⟨k + 1, by go_num, by rw [HD.out], by omega, HO4, hB3⟩
          case measure => simp [intOf]; omega
        · have hless := HL.out (l[k]'hlt) wr
          rw [HC.out k hlt, decide_eq_true (show cut f l ≤ k by omega)] at hless
          have HN := Lib.hid (outAt_here hlt hkc)
          have hd : decide (cut f l < k) = false := decide_eq_false (by omega)
          have HD : Hid (decide (cut f l < k + 1) = true) := Lib.hid (decide_eq_true (by omega))
          have hol := HOL.out
          rw [if_pos (by omega)] at hol
          rw [hol] at HO
          have hcells := hr1.later hB
          generalize l[k]'hlt = x at *
          rw [hd]
          clear hd hc hkc HOL
          go_wp2_with fail
          refine hless.mono ?_
          rintro e w2 ⟨rfl, rfl⟩
          clear hless
          go_wp2_with (at_builtin; refine wpList_append_own _ rfl _ _ 22 rfl w1.heap.size 9 i0 (.string ⟨#[]⟩) 1 16 Tryd.underlying22 hi hz0 hz1 hz2 rfl (by decide) _ _ _ rfl (HO.out.alloc _) ⟨w2.heap.size, 0, none⟩ 1 1 [.string (S f)] rfl rfl ?c21 ?c22 ?c23 ?c24 ?c25 ?_)
          case c21 =>
            intro j u hj
            match j, hj with
            | 0, hj => simp at hj; subst hj; simp [Addr.add]
          case c22 => intro u hu; simp at hu; subst hu; rfl
          case c23 => unfold maxLen; omega
          case c24 => omega
          case c25 => simp; omega
          intro vw3 w3 hown' hgrow hnil
          have hB3 : Below w1.heap.size w1 w3 := (hB.alloc hs2 _).grown hgrow (by simp; omega) (fun k hk => (HO.out.lt k hk).1)
          have HO3 : Hid (w3.ownsRow w1.heap.size 9 1 vw3 (k + 1) (cellsS (outAt f l k ++ [f]))) := by
            refine Lib.hid ?_
            rw [cellsS_snoc]
            exact hown'
          have hgB : Below w1.heap.size w2 w3 := ((Below.refl _ w2).alloc hs2 _).grown hgrow (by simp; omega) (fun k hk => (HO.out.lt k hk).1)
          have hbw1 : b < w1.heap.size := by
            rcases hr1 with h0 | ⟨b0, off0, e0, hb0, _⟩
            · rw [h0] at hlt; simp at hlt
            · cases e0; exact hb0
          have hcell3 : w3.cell? ⟨b, off + k, none⟩ = some (.string (S x)) := (hgB.cell (p := ⟨b, off + k, none⟩) hbw1).trans hcell
          have hs3 := hB3.size
          clear hown' hgrow hnil HO hB hs2 hcell hgB hcells
          go_wp2_with (at_builtin; refine wpList_append_own _ rfl _ _ 22 rfl w1.heap.size 9 i0 (.string ⟨#[]⟩) 1 16 Tryd.underlying22 hi hz0 hz1 hz2 rfl (by decide) _ _ _ rfl (HO3.out.alloc _) ⟨w3.heap.size, 0, none⟩ 1 1 [.string (S x)] rfl rfl ?c31 ?c32 ?c33 ?c34 ?c35 ?_)
          case c31 =>
            intro j u hj
            match j, hj with
            | 0, hj => simp at hj; subst hj; simp [Addr.add]
          case c32 => intro u hu; simp at hu; subst hu; rfl
          case c33 => unfold maxLen; omega
          case c34 => omega
          case c35 => simp; omega
          intro vw5 w5 hown' hgrow hnil
          have hB5 : Below w1.heap.size w1 w5 := (hB3.alloc hs3 _).grown hgrow (by simp; omega) (fun k hk => (HO3.out.lt k hk).1)
          have HO5 : Hid (w5.ownsRow w1.heap.size 9 1 vw5 (k + 2) (cellsS ((outAt f l k ++ [f]) ++ [x]))) := by
            refine Lib.hid ?_
            rw [cellsS_snoc]
            exact hown'
          have HO6 : Hid (w5.ownsRow w1.heap.size 9 1 vw5 (outAt f l (k + 1)).length (cellsS (outAt f l (k + 1)))) := by
            refine Lib.hid ?_
            rw [HN.out, List.length_append, List.length_singleton, List.length_append, List.length_singleton, hol]
            exact HO5.out
          clear hown' hgrow hnil HO3 HO5 HN hol hB3 hs3 hcell3
          go_wp2_with fail
          go_roundw
          case rel => exact ⟨k + 1, by go_num, by rw [HD.out], by omega, HO6, hB5⟩
          case measure => simp [intOf]; omega
        · have HN := Lib.hid (outAt_more hlt hkc)
          have hd : decide (cut f l < k) = true := decide_eq_true (by omega)
          have HD : Hid (decide (cut f l < k + 1) = true) := Lib.hid (decide_eq_true (by omega))
          have hol := HOL.out
          rw [if_neg (by omega)] at hol
          rw [hol] at HO
          generalize l[k]'hlt = x at *
          rw [hd]
          clear hd hc hkc HOL
          go_wp2_with (at_builtin; refine wpList_append_own _ rfl _ _ 22 rfl w1.heap.size 9 i0 (.string ⟨#[]⟩) 1 16 Tryd.underlying22 hi hz0 hz1 hz2 rfl (by decide) _ _ _ rfl (HO.out.alloc _) ⟨wr.heap.size, 0, none⟩ 1 1 [.string (S x)] rfl rfl ?c41 ?c42 ?c43 ?c44 ?c45 ?_)
          case c41 =>
            intro j u hj
            match j, hj with
            | 0, hj => simp at hj; subst hj; simp [Addr.add]
          case c42 => intro u hu; simp at hu; subst hu; rfl
          case c43 => unfold maxLen; omega
          case c44 => omega
          case c45 => simp; omega
          intro vw3 w3 hown' hgrow hnil
          have hB3 : Below w1.heap.size w1 w3 := (hB.alloc hs2 _).grown hgrow (by simp; omega) (fun k hk => (HO.out.lt k hk).1)
          have HO3 : Hid (w3.ownsRow w1.heap.size 9 1 vw3 (k + 2) (cellsS (outAt f l k ++ [x]))) := by
            refine Lib.hid ?_
            rw [cellsS_snoc]
            exact hown'
          clear hown' hgrow hnil HO hB hs2
          have HO4 : Hid (w3.ownsRow w1.heap.size 9 1 vw3 (outAt f l (k + 1)).length (cellsS (outAt f l (k + 1)))) := by
            refine Lib.hid ?_
            rw [HN.out, List.length_append, List.length_singleton, hol]
            exact HO3.out
          clear HO3 HN hol
          go_wp2_with fail
          go_roundw
          case rel => exact ⟨k + 1, by go_num, by rw [HD.out], by omega, HO4, hB3⟩
          case measure => simp [intOf]; omega
      · obtain rfl : k = l.length := by omega
        have hol := outAt_len (f := f) hk
        clear hr1
        by_cases hkc : cut f l < l.length
        · have hd : decide (cut f l < l.length) = true := decide_eq_true hkc
          have HE := Lib.hid (outAt_all HF.out hkc)
          obtain ⟨a2, c2, hv, hrow⟩ := rowS_of_own rfl HO.out
          rw [HE.out] at hv hrow
          subst hv
          have HROW := Lib.hid (And.intro hrow (b1.trans (hB.mono b1.size)))
          rw [hd]
          clear hd hrow hkc hol HO hB
          go_wp2_with fail
          go_ret
          exact ⟨⟨a2, c2, rfl, HROW.out.1⟩, HROW.out.2⟩
        · have hce : cut f l = l.length := by have := HCL.out; omega
          have hd : decide (cut f l < l.length) = false := decide_eq_false hkc
          have HE := Lib.hid (outAt_end HF.out hce)
          rw [if_pos (by omega)] at hol
          rw [hol] at HO
          rw [hd]
          clear hd hkc hce
          go_wp2_with (at_builtin; refine wpList_append_own _ rfl _ _ 22 rfl w1.heap.size 9 i0 (.string ⟨#[]⟩) 1 16 Tryd.underlying22 hi hz0 hz1 hz2 rfl (by decide) _ _ _ rfl (HO.out.alloc _) ⟨wr.heap.size, 0, none⟩ 1 1 [.string (S f)] rfl rfl ?c51 ?c52 ?c53 ?c54 ?c55 ?_)
          case c51 =>
            intro j u hj
            match j, hj with
            | 0, hj => simp at hj; subst hj; simp [Addr.add]
          case c52 => intro u hu; simp at hu; subst hu; rfl
          case c53 => unfold maxLen; omega
          case c54 => omega
          case c55 => simp; omega
          intro vw3 w3 hown' hgrow hnil
          have hB3 : Below w1.heap.size w1 w3 := (hB.alloc hs2 _).grown hgrow (by simp; omega) (fun k hk => (HO.out.lt k hk).1)
          have HO3 : Hid (w3.ownsRow w1.heap.size 9 1 vw3 (l.length + 1) (cellsS (outAt f l l.length ++ [f]))) := by
            refine Lib.hid ?_
            rw [cellsS_snoc]
            exact hown'
          have HLN : Hid (l.length + 1 = (ins f l).length) := Lib.hid (by rw [← HE.out, List.length_append, List.length_singleton, hol])
          have hown3 := HO3.out
          rw [HE.out] at hown3
          obtain ⟨a2, c2, hv, hrow⟩ := rowS_of_own HLN.out hown3
          subst hv
          have HROW := Lib.hid (And.intro hrow (b1.trans (hB3.mono b1.size)))
          clear hown' hgrow hnil HO hB hs2 hown3 hrow HO3 hB3 hol
          go_wp2_with fail
          go_ret
          exact ⟨⟨a2, c2, rfl, HROW.out.1⟩, HROW.out.2⟩
end Go.Proofs.YtiaggnpkmigbhaaDoor.fl
