/-
  What the program's Atom, Literal, Box answer.
-/
import Derived.Test.YtgmopbgcimekhaaDoorWordNumP
namespace Go.Proofs.YtgmopbgcimekhaaDoor.wo
open Go.RowKit

set_option maxRecDepth 100000 in
theorem clone_any (l : List UInt8) (hl : l.length ≤ 140737488355328) (w : World) :
    Calls Tryd.prog 38 #[.string (S l)] w fun e w' => e = .returned (.string (S l)) ∧ Below w.heap.size w w' := by
  have hc := Tryd.stringslite_Clone (S l) w (by rw [S_size]; omega)
  go_enter Tryd.func38, Tryd.ntmps38
  go_wp2_with fail
  refine hc.mono ?_
  rintro e w1 ⟨rfl, b1⟩
  go_wp2_with fail
  go_ret
  exact ⟨rfl, b1⟩

set_option maxRecDepth 100000 in
theorem atom_any (l : List UInt8) (hl : l.length ≤ 140737488355328) (w : World) :
    Calls Tryd.prog 14 #[.string (S l)] w fun e w' => e = .returned (.bool (atom l)) ∧ Below w.heap.size w w' := by
  by_cases h0 : 0 < l.length
  · have hz := S_size l
    have hemp := S_empty_no h0
    have hat : Hid (atom l = l.all atomByte) := by
      unfold atom
      rw [decide_eq_true h0, Bool.and_true]
      rfl
    have ha := fun B1 B2 b1 b2 b3 W hA => all_any 33 126 atomSpecials B1 B2 b1 b2 b3 l hl W hA
    rw [show mayb 33 126 atomSpecials = atomByte from funext mayb_atom] at ha
    have hi := inAtom_any w
    go_enter Tryd.func14, Tryd.ntmps14
    go_wp2_with fail
    refine hi.mono ?_
    rintro e w1 ⟨B1, B2, b1, b2, b3, rfl, hA, hb⟩
    have h2 := ha B1 B2 b1 b2 b3 w1 hA
    clear ha hA hi
    go_wp2_with fail
    refine h2.mono ?_
    rintro e w2 ⟨rfl, hb2⟩
    go_wp2_with fail
    go_ret
    exact ⟨by rw [hat.out]; rfl, hb.trans (hb2.mono hb.size)⟩
  · have hn : l = [] := List.eq_nil_of_length_eq_zero (by omega)
    subst hn
    change Calls Tryd.prog 14 #[.string ⟨#[]⟩] w _
    go_enter Tryd.func14, Tryd.ntmps14
    go_wp2_with fail
    go_ret
    exact ⟨rfl, Below.refl _ _⟩

set_option maxRecDepth 100000 in
theorem literal_any (l : List UInt8) (hl : l.length ≤ 140737488355328) (w : World) (hT : Tab w) :
    Calls Tryd.prog 22 #[.string (S l)] w fun e w' => e = .returned (.string (S (literal l))) ∧ Below w.heap.size w w' := by
  have hz := S_size l
  have hd := digits_any l.length (by omega) w hT
  have hlen := dec_length64 (n := l.length) (by omega)
  have hfin : Hid (literal l = 123 :: dec l.length ++ [125] ++ [13, 10] ++ l) := by unfold literal; rw [List.append_assoc _ [125] [13, 10]]; rfl
  clear hT
  generalize dec l.length = d at *
  have hzd := S_size d
  have a1 : (⟨#[123]⟩ : ByteArray) ++ S d = S (123 :: d) := S_append [123] d
  have a2 : S (123 :: d) ++ (⟨#[125]⟩ : ByteArray) = S (123 :: d ++ [125]) := S_append (123 :: d) [125]
  have a3 : S (123 :: d ++ [125]) ++ (⟨#[13, 10]⟩ : ByteArray) = S (123 :: d ++ [125] ++ [13, 10]) := S_append (123 :: d ++ [125]) [13, 10]
  have a4 : S (123 :: d ++ [125] ++ [13, 10]) ++ S l = S (123 :: d ++ [125] ++ [13, 10] ++ l) := S_append _ l
  have z1 : (S (123 :: d)).size = d.length + 1 := rfl
  have z2 : (S (123 :: d ++ [125])).size = d.length + 2 := by rw [S_size]; simp
  have z3 : (S (123 :: d ++ [125] ++ [13, 10])).size = d.length + 4 := by rw [S_size]; simp
  obtain ⟨q1, h1⟩ : ∃ q, q = S (123 :: d) := ⟨_, rfl⟩
  obtain ⟨q2, h2⟩ : ∃ q, q = S (123 :: d ++ [125]) := ⟨_, rfl⟩
  obtain ⟨q3, h3⟩ : ∃ q, q = S (123 :: d ++ [125] ++ [13, 10]) := ⟨_, rfl⟩
  obtain ⟨q4, h4⟩ : ∃ q, q = S (123 :: d ++ [125] ++ [13, 10] ++ l) := ⟨_, rfl⟩
  rw [← h1] at a1 a2 z1
  rw [← h2] at a2 a3 z2
  rw [← h3] at a3 a4 z3
  rw [← h4] at a4
  have H4 := Lib.hid h4
  clear h1 h2 h3 h4
  go_enter Tryd.func22, Tryd.ntmps22
  go_wp2_with fail
  refine hd.mono ?_
  rintro e w1 ⟨rfl, hb⟩
  go_wp2_with fail
  go_ret
  refine ⟨?_, hb⟩
  rw [hfin.out, ← H4.out]
  rfl

set_option maxHeartbeats 1000000 in
set_option maxRecDepth 100000 in
theorem box_any (l : List UInt8) (hl : l.length ≤ 140737488355328) (w : World) :
    Calls Tryd.prog 24 #[.string (S l)] w fun e w' => e = .returned (.tuple #[.string (S (boxOf l)), .bool (boxOk l)]) ∧ Below w.heap.size w w' := by
  have hz := S_size l
  have fin : Hid (boxOk l = false) → Ending.returned (Value.tuple #[.string ⟨#[]⟩, .bool false]) = Ending.returned (.tuple #[.string (S (boxOf l)), .bool (boxOk l)]) := fun h => by unfold boxOf; rw [h.out]; rfl
  by_cases hb1 : l.length < 1
  · have hn : l = [] := List.eq_nil_of_length_eq_zero (by omega)
    subst hn
    change Calls Tryd.prog 24 #[.string ⟨#[]⟩] w _
    clear fin
    go_enter Tryd.func24, Tryd.ntmps24
    go_wp2_with fail
    exact bodyPost_ret (results_tmp2 rfl _ _ _) rfl ⟨rfl, Below.refl _ _⟩
  · have h0 : 0 < l.length := by omega
    have hemp := S_empty_no h0
    by_cases hb2 : 64 < l.length
    · have HB : Hid (boxOk l = false) := by unfold boxOk; rw [decide_eq_false (show ¬ l.length ≤ 64 by omega)]; exact Lib.hid (by simp)
      have hi2 : (64 : Int) < (l.length : Int) := by omega
      go_enter Tryd.func24, Tryd.ntmps24
      go_wp2_with fail
      refine bodyPost_ret (results_tmp2 rfl _ _ _) rfl ⟨?_, Below.refl _ _⟩
      exact fin HB
    · have hi2 : ¬ (64 : Int) < (l.length : Int) := by omega
      have ha := fun B1 B2 b1 b2 b3 W hA => all_any 32 126 boxSpecials B1 B2 b1 b2 b3 l hl W hA
      rw [show mayb 32 126 boxSpecials = boxByte from funext mayb_box] at ha
      have hi := inBox_any w
      have h0' : 0 < (S l).size := by rw [S_size]; exact h0
      have he : l.length - 1 < l.length := by omega
      have he' : l.length - 1 < (S l).size := by rw [S_size]; exact he
      obtain ⟨c, hc⟩ : ∃ c, l[0]'h0 = c := ⟨_, rfl⟩
      obtain ⟨d, hd⟩ : ∃ d, l[l.length - 1]'he = d := ⟨_, rfl⟩
      have hx : ((S l)[0]'h0').toNat = c.toNat := by rw [S_get l 0 h0 h0', hc]
      have hy : ((S l)[l.length - 1]'he').toNat = d.toNat := by rw [S_get l _ he he', hd]
      have hgc : l.getD 0 0 = c := by rw [List.getD_eq_getElem?_getD, List.getElem?_eq_getElem h0, hc]; rfl
      have hgd : l.getD (l.length - 1) 0 = d := by rw [List.getD_eq_getElem?_getD, List.getElem?_eq_getElem he, hd]; rfl
      have hi0 : (0 : Int) < (l.length : Int) := by omega
      have t1 : ((l.length : Int) - 1).toNat = l.length - 1 := by omega
      have w1 : IntKind.i64.wrap ((l.length : Int) - 1) = (l.length : Int) - 1 := IntWalk.i64_in _ (by omega)
      have n32 : ∀ a : UInt8, a ≠ 32 → ((a.toNat : Int) == 32) = false := fun a h => by
        rw [beq_eq_false_iff_ne]; intro e; exact h (UInt8.toNat_inj.1 (by show a.toNat = 32; omega))
      have hC : Hid (boxOk l = (decide (c ≠ 32) && decide (d ≠ 32) && l.all boxByte)) := by
        unfold boxOk
        rw [decide_eq_true (show 1 ≤ l.length by omega), decide_eq_true (show l.length ≤ 64 by omega), hgc, hgd]
        rfl
      clear hc hd hgc hgd
      cases hall : l.all boxByte with
      | false =>
        have HB : Hid (boxOk l = false) := by rw [hC.out, hall, Bool.and_false]; rfl
        rw [hall] at ha
        have HA := Lib.hid ha
        clear hC hall hx hy n32 t1 w1 ha
        go_enter Tryd.func24, Tryd.ntmps24
        go_wp2_with fail
        refine hi.mono ?_
        rintro e w1 ⟨B1, B2, b1, b2, b3, rfl, hA, hb⟩
        have h2 := HA.out B1 B2 b1 b2 b3 w1 hA
        clear HA hA hi
        go_wp2_with fail
        refine h2.mono ?_
        rintro e w2 ⟨rfl, hb2⟩
        go_wp2_with fail
        refine bodyPost_ret (results_tmp2 rfl _ _ _) rfl ⟨?_, hb.trans (hb2.mono hb.size)⟩
        exact fin HB
      | true =>
        rw [hall] at ha
        have HA := Lib.hid ha
        clear ha
        by_cases hc32 : c = 32
        · have HB : Hid (boxOk l = false) := by rw [hC.out, decide_eq_false (show ¬ c ≠ 32 from fun h => h hc32)]; rfl
          have e1 : ((c.toNat : Int) == 32) = true := by rw [hc32]; rfl
          clear hC n32 hc32 hy hall t1 w1
          generalize c.toNat = x at *
          go_enter Tryd.func24, Tryd.ntmps24
          go_wp2_with fail
          refine hi.mono ?_
          rintro e w1 ⟨B1, B2, b1, b2, b3, rfl, hA, hb⟩
          have h2 := HA.out B1 B2 b1 b2 b3 w1 hA
          clear HA hA hi
          go_wp2_with fail
          refine h2.mono ?_
          rintro e w2 ⟨rfl, hb2⟩
          go_wp2_with fail
          refine bodyPost_ret (results_tmp2 rfl _ _ _) rfl ⟨?_, hb.trans (hb2.mono hb.size)⟩
          exact fin HB
        · have e1 := n32 c hc32
          by_cases hd32 : d = 32
          · have HB : Hid (boxOk l = false) := by rw [hC.out, decide_eq_false (show ¬ d ≠ 32 from fun h => h hd32), Bool.and_false]; rfl
            have e2 : ((d.toNat : Int) == 32) = true := by rw [hd32]; rfl
            clear hC n32 hc32 hd32 hall
            generalize c.toNat = x at *
            generalize d.toNat = y at *
            go_enter Tryd.func24, Tryd.ntmps24
            go_wp2_with fail
            refine hi.mono ?_
            rintro e w1 ⟨B1, B2, b1, b2, b3, rfl, hA, hb⟩
            have h2 := HA.out B1 B2 b1 b2 b3 w1 hA
            clear HA hA hi
            go_wp2_with fail
            refine h2.mono ?_
            rintro e w2 ⟨rfl, hb2⟩
            go_wp2_with fail
            refine bodyPost_ret (results_tmp2 rfl _ _ _) rfl ⟨?_, hb.trans (hb2.mono hb.size)⟩
            exact fin HB
          · have e2 := n32 d hd32
            have hok : boxOk l = true := by rw [hC.out, decide_eq_true hc32, decide_eq_true hd32, hall]; rfl
            have hu := upper_any l hl
            have hcl := clone_any l hl
            clear hC n32 hc32 hd32 hall
            generalize c.toNat = x at *
            generalize d.toNat = y at *
            by_cases hin : upper l = inbox
            · have HF : Hid (boxOf l = inbox ∧ boxOk l = true) := Lib.hid ⟨by unfold boxOf; rw [if_pos hok, if_pos hin], hok⟩
              rw [hin, show S inbox = (⟨#[73, 78, 66, 79, 88]⟩ : ByteArray) from rfl] at hu
              clear hok hin hcl
              go_enter Tryd.func24, Tryd.ntmps24
              go_wp2_with fail
              refine hi.mono ?_
              rintro e w1 ⟨B1, B2, b1, b2, b3, rfl, hA, hb⟩
              have h2 := HA.out B1 B2 b1 b2 b3 w1 hA
              clear HA hA hi
              go_wp2_with fail
              refine h2.mono ?_
              rintro e w2 ⟨rfl, hb2⟩
              go_wp2_with fail
              refine (hu _).mono ?_
              rintro e w3 ⟨rfl, hb3⟩
              go_wp2_with fail
              have hB := hb.trans (hb2.mono hb.size)
              refine bodyPost_ret (results_tmp2 rfl _ _ _) rfl ⟨?_, hB.trans (hb3.mono hB.size)⟩
              rw [HF.out.1, HF.out.2]
              rfl
            · have HF : Hid (boxOf l = l ∧ boxOk l = true) := Lib.hid ⟨by unfold boxOf; rw [if_pos hok, if_neg hin], hok⟩
              have hne : ((S (upper l)).toList == (⟨#[73, 78, 66, 79, 88]⟩ : ByteArray).toList) = false := str_ne (fun h => hin (S_inj (a := upper l) (b := inbox) h))
              have hne2 : ((S (upper l)).toList == ([73, 78, 66, 79, 88] : List UInt8)) = false := by
                rw [show (⟨#[73, 78, 66, 79, 88]⟩ : ByteArray).toList = [73, 78, 66, 79, 88] by rw [ByteArray.toList_eq]] at hne
                exact hne
              clear hok hin hne
              generalize S (upper l) = q at *
              go_enter Tryd.func24, Tryd.ntmps24
              go_wp2_with fail
              refine hi.mono ?_
              rintro e w1 ⟨B1, B2, b1, b2, b3, rfl, hA, hb⟩
              have h2 := HA.out B1 B2 b1 b2 b3 w1 hA
              clear HA hA hi
              go_wp2_with fail
              refine h2.mono ?_
              rintro e w2 ⟨rfl, hb2⟩
              go_wp2_with fail
              refine (hu _).mono ?_
              rintro e w3 ⟨rfl, hb3⟩
              go_wp2_with fail
              refine (hcl _).mono ?_
              rintro e w4 ⟨rfl, hb4⟩
              go_wp2_with fail
              have hB := hb.trans (hb2.mono hb.size)
              have hB3 := hB.trans (hb3.mono hB.size)
              refine bodyPost_ret (results_tmp2 rfl _ _ _) rfl ⟨?_, hB3.trans (hb4.mono hB3.size)⟩
              rw [HF.out.1, HF.out.2]
              rfl
end Go.Proofs.YtgmopbgcimekhaaDoor.wo
