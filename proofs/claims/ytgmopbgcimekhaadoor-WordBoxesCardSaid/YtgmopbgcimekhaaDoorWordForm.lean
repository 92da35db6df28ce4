/-
  What the reference's Form, Box answer.
-/
import Derived.Test.YtgmopbgcimekhaaDoorWordQuote
namespace Go.Proofs.YtgmopbgcimekhaaDoor.wo
open Go.RowKit

def nilText : List UInt8 := [78, 73, 76]
def formOf (l : List UInt8) : List UInt8 := if atom l = true ∧ l.length ≤ 512 ∧ upper l ≠ nilText then l else if quoteOk l = true then quote l else literal l

set_option maxHeartbeats 1000000 in
set_option maxRecDepth 100000 in
theorem refform_any (l : List UInt8) (hl : l.length ≤ 140737488355328) (w : World) :
    Calls Tryd.prog 27 #[.string (S l)] w fun e w' => e = .returned (.string (S (formOf l))) ∧ Below w.heap.size w w' := by
  have hz := S_size l
  have ha := refatom_any l hl
  have hu := refupper_any l hl
  have hq := refquote_any l (by omega)
  have hlit := refliteral_any l (by omega)
  -- what follows where the text is no atom that may stand bare
  have rest : ∀ (hno : ¬(atom l = true ∧ l.length ≤ 512 ∧ upper l ≠ nilText)), Hid ((quoteOk l = true → formOf l = quoteOf l) ∧ (quoteOk l = false → formOf l = literal l)) := fun hno =>
    ⟨fun h => by unfold formOf quoteOf; rw [if_neg hno, if_pos h, if_pos h], fun h => by unfold formOf; rw [if_neg hno, if_neg (by rw [h]; decide)]⟩
  have good : Hid (atom l = true ∧ l.length ≤ 512 ∧ upper l ≠ nilText → formOf l = l) := fun h => by unfold formOf; rw [if_pos h]
  have HR := Lib.hid rest
  have HU := Lib.hid hu
  clear rest hu
  go_enter Tryd.func27, Tryd.ntmps27
  cases hat : atom l with
  | false =>
    have HF := HR.out (by rw [hat]; simp)
    rw [hat] at ha
    clear hat good HU HR
    go_wp2_with fail
    refine (ha w).mono ?_
    rintro e w1 ⟨rfl, rfl⟩
    go_wp2_with fail
    refine (hq _).mono ?_
    rintro e w2 ⟨rfl, rfl⟩
    cases hqo : quoteOk l with
    | true =>
      have HE := Lib.hid (HF.out.1 hqo)
      clear HF hqo
      go_wp2_with fail
      go_ret
      exact ⟨by rw [HE.out]; rfl, Below.refl _ _⟩
    | false =>
      have HE := Lib.hid (HF.out.2 hqo)
      clear HF hqo
      go_wp2_with fail
      refine (hlit _).mono ?_
      rintro e w3 ⟨rfl, hb⟩
      go_wp2_with fail
      go_ret
      exact ⟨by rw [HE.out]; rfl, hb⟩
  | true =>
    rw [hat] at ha
    by_cases h512 : l.length ≤ 512
    · have hi : (l.length : Int) ≤ 512 := by omega
      by_cases hnil : upper l = nilText
      · have HF := HR.out (by rw [hnil]; simp)
        have hu := HU.out
        rw [hnil, show S nilText = (⟨#[78, 73, 76]⟩ : ByteArray) from rfl] at hu
        clear hat good HU HR hnil
        go_wp2_with fail
        refine (ha w).mono ?_
        rintro e w1 ⟨rfl, rfl⟩
        go_wp2_with fail
        refine (hu _).mono ?_
        rintro e w2 ⟨rfl, hb2⟩
        go_wp2_with fail
        refine (hq _).mono ?_
        rintro e w3 ⟨rfl, rfl⟩
        cases hqo : quoteOk l with
        | true =>
          have HE := Lib.hid (HF.out.1 hqo)
          clear HF hqo
          go_wp2_with fail
          go_ret
          exact ⟨by rw [HE.out]; rfl, hb2⟩
        | false =>
          have HE := Lib.hid (HF.out.2 hqo)
          clear HF hqo
          go_wp2_with fail
          refine (hlit _).mono ?_
          rintro e w4 ⟨rfl, hb⟩
          go_wp2_with fail
          go_ret
          exact ⟨by rw [HE.out]; rfl, hb2.trans (hb.mono hb2.size)⟩
      · have HE := Lib.hid (good.out ⟨hat, h512, hnil⟩)
        have hne : ((S (upper l)).toList == (⟨#[78, 73, 76]⟩ : ByteArray).toList) = false := str_ne (fun h => hnil (S_inj (a := upper l) (b := nilText) h))
        have hne2 : ((S (upper l)).toList == ([78, 73, 76] : List UInt8)) = false := by
          rw [show (⟨#[78, 73, 76]⟩ : ByteArray).toList = [78, 73, 76] by rw [ByteArray.toList_eq]] at hne
          exact hne
        have hu := HU.out
        clear hat good HU HR hnil hne
        generalize S (upper l) = q at *
        go_wp2_with fail
        refine (ha w).mono ?_
        rintro e w1 ⟨rfl, rfl⟩
        go_wp2_with fail
        refine (hu _).mono ?_
        rintro e w2 ⟨rfl, hb2⟩
        go_wp2_with fail
        go_ret
        exact ⟨by rw [HE.out]; rfl, hb2⟩
    · have HF := HR.out (fun h => h512 h.2.1)
      have hi : ¬ (l.length : Int) ≤ 512 := by omega
      clear hat good HU HR
      go_wp2_with fail
      refine (ha w).mono ?_
      rintro e w1 ⟨rfl, rfl⟩
      go_wp2_with fail
      refine (hq _).mono ?_
      rintro e w2 ⟨rfl, rfl⟩
      cases hqo : quoteOk l with
      | true =>
        have HE := Lib.hid (HF.out.1 hqo)
        clear HF hqo
        go_wp2_with fail
        go_ret
        exact ⟨by rw [HE.out]; rfl, Below.refl _ _⟩
      | false =>
        have HE := Lib.hid (HF.out.2 hqo)
        clear HF hqo
        go_wp2_with fail
        refine (hlit _).mono ?_
        rintro e w3 ⟨rfl, hb⟩
        go_wp2_with fail
        go_ret
        exact ⟨by rw [HE.out]; rfl, hb⟩

def boxSpecials : List UInt8 := [37, 42, 34, 92]
def boxByte (c : UInt8) : Bool := decide (32 ≤ c.toNat) && decide (c.toNat ≤ 126) && !decide (c ∈ boxSpecials)
def boxOk (l : List UInt8) : Bool := decide (1 ≤ l.length) && decide (l.length ≤ 64) && decide (l.getD 0 0 ≠ 32) && decide (l.getD (l.length - 1) 0 ≠ 32) && l.all boxByte
def inbox : List UInt8 := [73, 78, 66, 79, 88]
def boxOf (l : List UInt8) : List UInt8 := if boxOk l = true then (if upper l = inbox then inbox else l) else []

set_option maxHeartbeats 2000000 in
set_option maxRecDepth 100000 in
theorem refbox_any (l : List UInt8) (hl : l.length ≤ 140737488355328) (w : World) :
    Calls Tryd.prog 25 #[.string (S l)] w fun e w' => e = .returned (.tuple #[.string (S (boxOf l)), .bool (boxOk l)]) ∧ Below w.heap.size w w' := by
  have hz := S_size l
  have hu := refupper_any l hl
  have HU := Lib.hid hu
  clear hu
  have fin : Hid (boxOk l = false) → Ending.returned (Value.tuple #[.string ⟨#[]⟩, .bool false]) = Ending.returned (.tuple #[.string (S (boxOf l)), .bool (boxOk l)]) := fun h => by unfold boxOf; rw [h.out]; rfl
  go_enter Tryd.func25, Tryd.ntmps25
  by_cases hb1 : l.length < 1
  · have HB : Hid (boxOk l = false) := by unfold boxOk; rw [decide_eq_false (show ¬ 1 ≤ l.length by omega)]; rfl
    have hi : (l.length : Int) < 1 := by omega
    go_wp2
    refine bodyPost_ret (results_tmp2 rfl _ _ _) rfl ⟨?_, Below.refl _ _⟩
    exact fin HB
  · by_cases hb2 : 64 < l.length
    · have HB : Hid (boxOk l = false) := by unfold boxOk; rw [decide_eq_false (show ¬ l.length ≤ 64 by omega)]; exact Lib.hid (by simp)
      have hi : ¬ (l.length : Int) < 1 := by omega
      have hi2 : (64 : Int) < (l.length : Int) := by omega
      go_wp2
      refine bodyPost_ret (results_tmp2 rfl _ _ _) rfl ⟨?_, Below.refl _ _⟩
      exact fin HB
    · have h0 : 0 < l.length := by omega
      have h0' : 0 < (S l).size := by rw [S_size]; exact h0
      have he : l.length - 1 < l.length := by omega
      have he' : l.length - 1 < (S l).size := by rw [S_size]; exact he
      obtain ⟨c, hc⟩ : ∃ c, l[0]'h0 = c := ⟨_, rfl⟩
      obtain ⟨d, hd⟩ : ∃ d, l[l.length - 1]'he = d := ⟨_, rfl⟩
      have hx : ((S l)[0]'h0').toNat = c.toNat := by rw [S_get l 0 h0 h0', hc]
      have hy : ((S l)[l.length - 1]'he').toNat = d.toNat := by rw [S_get l _ he he', hd]
      have hgc : l.getD 0 0 = c := by rw [List.getD_eq_getElem?_getD, List.getElem?_eq_getElem h0, hc]; rfl
      have hgd : l.getD (l.length - 1) 0 = d := by rw [List.getD_eq_getElem?_getD, List.getElem?_eq_getElem he, hd]; rfl
      have hi : ¬ (l.length : Int) < 1 := by omega
      have hi2 : ¬ (64 : Int) < (l.length : Int) := by omega
      have hi0 : (0 : Int) < (l.length : Int) := by omega
      have t1 : ((l.length : Int) - 1).toNat = l.length - 1 := by omega
      have w1 : IntKind.i64.wrap ((l.length : Int) - 1) = (l.length : Int) - 1 := IntWalk.i64_in _ (by omega)
      have n32 : ∀ a : UInt8, a ≠ 32 → ((a.toNat : Int) == 32) = false := fun a h => by
        rw [beq_eq_false_iff_ne]; intro e; exact h (UInt8.toNat_inj.1 (by show a.toNat = 32; omega))
      have hC : Hid (boxOk l = (decide (c ≠ 32) && decide (d ≠ 32) && l.all boxByte)) := by
        unfold boxOk
        rw [decide_eq_true (show 1 ≤ l.length by omega), decide_eq_true (show l.length ≤ 64 by omega), hgc, hgd]
        rfl
      clear hc hd hgc hgd
      by_cases hc32 : c = 32
      · have HB : Hid (boxOk l = false) := by rw [hC.out, decide_eq_false (show ¬ c ≠ 32 from fun h => h hc32)]; rfl
        have e1 : ((c.toNat : Int) == 32) = true := by rw [hc32]; rfl
        clear hC n32 hc32 hy
        generalize c.toNat = x at *
        go_wp2
        refine bodyPost_ret (results_tmp2 rfl _ _ _) rfl ⟨?_, Below.refl _ _⟩
        exact fin HB
      · have e1 := n32 c hc32
        by_cases hd32 : d = 32
        · have HB : Hid (boxOk l = false) := by rw [hC.out, decide_eq_false (show ¬ d ≠ 32 from fun h => h hd32), Bool.and_false]; rfl
          have e2 : ((d.toNat : Int) == 32) = true := by rw [hd32]; rfl
          clear hC n32 hc32 hd32
          generalize c.toNat = x at *
          generalize d.toNat = y at *
          go_wp2
          refine bodyPost_ret (results_tmp2 rfl _ _ _) rfl ⟨?_, Below.refl _ _⟩
          exact fin HB
        · have e2 := n32 d hd32
          have hA : Hid (boxOk l = l.all boxByte) := by rw [hC.out, decide_eq_true hc32, decide_eq_true hd32]; rfl
          clear hC n32 hc32 hd32
          generalize c.toNat = x at *
          generalize d.toNat = y at *
          go_wp2
          clear hx hy e1 e2 t1 w1
          go_loopw [4] (fun i wr => ∃ k : Nat, i = .int .i64 k ∧ k ≤ l.length ∧ Hid (∀ j (h : j < l.length), j < k → boxByte l[j] = true) ∧ wr = w)
            (fun i _ => l.length - (intOf i).toNat)
          case atStart => exact ⟨0, rfl, Nat.zero_le _, Lib.hid (fun j _ h => absurd h (by omega)), rfl⟩
          case round =>
            obtain ⟨k, rfl, hk, HN, rfl⟩ := hrel
            by_cases hlt : k < l.length
            · have hlt' : k < (S l).size := by rw [S_size]; exact hlt
              obtain ⟨f, hf⟩ : ∃ f, l[k]'hlt = f := ⟨_, rfl⟩
              have hx : ((S l)[k]'hlt').toNat = f.toNat := by rw [S_get l k hlt hlt', hf]
              have hki : (k : Int) < (l.length : Int) := by omega
              have hbad : Hid (boxByte f = false → boxOk l = false) := fun h => by
                rw [hA.out, List.all_eq_false]
                exact ⟨f, by rw [← hf]; exact List.getElem_mem hlt, by rw [h]; decide⟩
              have hin := refin_any f boxSpecials (by decide)
              rw [show S boxSpecials = ⟨#[37, 42, 34, 92]⟩ from rfl] at hin
              by_cases h1 : 32 ≤ f.toNat
              · have i1 : ¬ ((f.toNat : Nat) : Int) < 32 := by omega
                by_cases h2 : f.toNat ≤ 126
                · have i2 : ¬ (126 : Int) < ((f.toNat : Nat) : Int) := by omega
                  cases hm : decide (f ∈ boxSpecials) with
                  | true =>
                    have HB := Lib.hid (hbad.out (by unfold boxByte; rw [hm]; simp))
                    rw [hm] at hin
                    clear hbad hm h1 h2 hf HN
                    generalize f.toNat = x at *
                    go_wp2_with fail
                    refine (hin _).mono ?_
                    rintro e w' ⟨rfl, rfl⟩
                    go_wp2_with fail
                    refine bodyPost_ret (results_tmp2 rfl _ _ _) rfl ⟨?_, Below.refl _ _⟩
                    exact fin HB
                  | false =>
                    have HNN : Hid (∀ j (h : j < l.length), j < k + 1 → boxByte l[j] = true) := fun j h hj => by
                      by_cases h3 : j < k
                      · exact HN.out j h h3
                      · obtain rfl : j = k := by omega
                        rw [hf]; unfold boxByte; rw [decide_eq_true h1, decide_eq_true h2, hm]; rfl
                    rw [hm] at hin
                    clear hbad hm h1 h2 hf HN
                    generalize f.toNat = x at *
                    go_wp2_with fail
                    refine (hin _).mono ?_
                    rintro e w' ⟨rfl, rfl⟩
                    go_wp2_with fail
                    go_roundw
                    case rel => exact ⟨k + 1, by go_num, by omega, HNN, trivial⟩
                    case measure => simp [intOf]; omega
                · have HB := Lib.hid (hbad.out (by unfold boxByte; rw [decide_eq_false h2]; simp))
                  have i2 : (126 : Int) < ((f.toNat : Nat) : Int) := by omega
                  clear hbad h1 h2 hf HN hin
                  generalize f.toNat = x at *
                  go_wp2
                  refine bodyPost_ret (results_tmp2 rfl _ _ _) rfl ⟨?_, Below.refl _ _⟩
                  exact fin HB
              · have HB := Lib.hid (hbad.out (by unfold boxByte; rw [decide_eq_false h1]; simp))
                have i1 : ((f.toNat : Nat) : Int) < 32 := by omega
                clear hbad h1 hf HN hin
                generalize f.toNat = x at *
                go_wp2
                refine bodyPost_ret (results_tmp2 rfl _ _ _) rfl ⟨?_, Below.refl _ _⟩
                exact fin HB
            · obtain rfl : k = l.length := by omega
              have hok : boxOk l = true := by
                rw [hA.out, List.all_eq_true]
                intro x hx
                obtain ⟨j, hj, e⟩ := List.getElem_of_mem hx
                rw [← e]; exact HN.out j hj hj
              have hu := HU.out
              by_cases hin : upper l = inbox
              · have HF : Hid (boxOf l = inbox ∧ boxOk l = true) := Lib.hid ⟨by unfold boxOf; rw [if_pos hok, if_pos hin], hok⟩
                rw [hin, show S inbox = (⟨#[73, 78, 66, 79, 88]⟩ : ByteArray) from rfl] at hu
                clear HN hok hin hA
                go_wp2_with fail
                refine (hu _).mono ?_
                rintro e w2 ⟨rfl, hb⟩
                go_wp2_with fail
                refine bodyPost_ret (results_tmp2 rfl _ _ _) rfl ⟨?_, hb⟩
                rw [HF.out.1, HF.out.2]
                rfl
              · have HF : Hid (boxOf l = l ∧ boxOk l = true) := Lib.hid ⟨by unfold boxOf; rw [if_pos hok, if_neg hin], hok⟩
                have hne : ((S (upper l)).toList == (⟨#[73, 78, 66, 79, 88]⟩ : ByteArray).toList) = false := str_ne (fun h => hin (S_inj (a := upper l) (b := inbox) h))
                have hne2 : ((S (upper l)).toList == ([73, 78, 66, 79, 88] : List UInt8)) = false := by
                  rw [show (⟨#[73, 78, 66, 79, 88]⟩ : ByteArray).toList = [73, 78, 66, 79, 88] by rw [ByteArray.toList_eq]] at hne
                  exact hne
                clear HN hok hin hA hne
                generalize S (upper l) = q at *
                go_wp2_with fail
                refine (hu _).mono ?_
                rintro e w2 ⟨rfl, hb⟩
                go_wp2_with fail
                refine bodyPost_ret (results_tmp2 rfl _ _ _) rfl ⟨?_, hb⟩
                rw [HF.out.1, HF.out.2]
                rfl
end Go.Proofs.YtgmopbgcimekhaaDoor.wo
