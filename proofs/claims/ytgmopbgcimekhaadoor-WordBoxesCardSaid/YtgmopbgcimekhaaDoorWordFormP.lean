/-
  What the program's Form answers.
-/
import Derived.Test.YtgmopbgcimekhaaDoorWordUnqP
namespace Go.Proofs.YtgmopbgcimekhaaDoor.wo
open Go.RowKit

set_option maxHeartbeats 1000000 in
set_option maxRecDepth 100000 in
theorem form_any (l : List UInt8) (hl : l.length ≤ 140737488355328) (w : World) (hT : Tab w) :
    Calls Tryd.prog 26 #[.string (S l)] w fun e w' => e = .returned (.string (S (formOf l))) ∧ Below w.heap.size w w' := by
  have hz := S_size l
  have ha := atom_any l hl w
  have hu := upper_any l hl
  have hq := quote_any l hl
  have hcl := clone_any l hl
  have hlit := fun W (hb : Below w.heap.size w W) => literal_any l hl W (hT.later hb)
  have rest : ∀ (hno : ¬(atom l = true ∧ l.length ≤ 512 ∧ upper l ≠ nilText)), Hid ((quoteOk l = true → formOf l = quoteOf l) ∧ (quoteOk l = false → formOf l = literal l)) := fun hno =>
    ⟨fun h => by unfold formOf quoteOf; rw [if_neg hno, if_pos h, if_pos h], fun h => by unfold formOf; rw [if_neg hno, if_neg (by rw [h]; decide)]⟩
  have good : Hid (atom l = true ∧ l.length ≤ 512 ∧ upper l ≠ nilText → formOf l = l) := fun h => by unfold formOf; rw [if_pos h]
  have HR := Lib.hid rest
  have HU := Lib.hid hu
  have HL := Lib.hid hlit
  clear rest hu hlit hT
  by_cases h512 : l.length ≤ 512
  · have hi : (l.length : Int) ≤ 512 := by omega
    cases hat : atom l with
    | false =>
      have HF := HR.out (by rw [hat]; simp)
      rw [hat] at ha
      clear hat good HU HR hcl
      go_enter Tryd.func26, Tryd.ntmps26
      go_wp2_with fail
      refine ha.mono ?_
      rintro e w1 ⟨rfl, b1⟩
      go_wp2_with fail
      refine (hq _).mono ?_
      rintro e w2 ⟨rfl, b2⟩
      have B2 := b1.trans (b2.mono b1.size)
      cases hqo : quoteOk l with
      | true =>
        have HE := Lib.hid (HF.out.1 hqo)
        clear HF hqo HL
        go_wp2_with fail
        go_ret
        exact ⟨by rw [HE.out]; rfl, B2⟩
      | false =>
        have HE := Lib.hid (HF.out.2 hqo)
        have h3 := HL.out w2 B2
        clear HF hqo HL
        go_wp2_with fail
        refine h3.mono ?_
        rintro e w3 ⟨rfl, b3⟩
        go_wp2_with fail
        go_ret
        exact ⟨by rw [HE.out]; rfl, B2.trans (b3.mono B2.size)⟩
    | true =>
      rw [hat] at ha
      by_cases hnil : upper l = nilText
      · have HF := HR.out (by rw [hnil]; simp)
        have hu := HU.out
        rw [hnil, show S nilText = (⟨#[78, 73, 76]⟩ : ByteArray) from rfl] at hu
        clear hat good HU HR hnil hcl
        go_enter Tryd.func26, Tryd.ntmps26
        go_wp2_with fail
        refine ha.mono ?_
        rintro e w1 ⟨rfl, b1⟩
        go_wp2_with fail
        refine (hu _).mono ?_
        rintro e w2 ⟨rfl, b2⟩
        have B2 := b1.trans (b2.mono b1.size)
        go_wp2_with fail
        refine (hq _).mono ?_
        rintro e w3 ⟨rfl, b3⟩
        have B3 := B2.trans (b3.mono B2.size)
        cases hqo : quoteOk l with
        | true =>
          have HE := Lib.hid (HF.out.1 hqo)
          clear HF hqo HL
          go_wp2_with fail
          go_ret
          exact ⟨by rw [HE.out]; rfl, B3⟩
        | false =>
          have HE := Lib.hid (HF.out.2 hqo)
          have h4 := HL.out w3 B3
          clear HF hqo HL
          go_wp2_with fail
          refine h4.mono ?_
          rintro e w4 ⟨rfl, b4⟩
          go_wp2_with fail
          go_ret
          exact ⟨by rw [HE.out]; rfl, B3.trans (b4.mono B3.size)⟩
      · have HE := Lib.hid (good.out ⟨hat, h512, hnil⟩)
        have hne : ((S (upper l)).toList == (⟨#[78, 73, 76]⟩ : ByteArray).toList) = false := str_ne (fun h => hnil (S_inj (a := upper l) (b := nilText) h))
        have hne2 : ((S (upper l)).toList == ([78, 73, 76] : List UInt8)) = false := by
          rw [show (⟨#[78, 73, 76]⟩ : ByteArray).toList = [78, 73, 76] by rw [ByteArray.toList_eq]] at hne
          exact hne
        have hu := HU.out
        clear hat good HU HR hnil hne HL hq
        generalize S (upper l) = q at *
        go_enter Tryd.func26, Tryd.ntmps26
        go_wp2_with fail
        refine ha.mono ?_
        rintro e w1 ⟨rfl, b1⟩
        go_wp2_with fail
        refine (hu _).mono ?_
        rintro e w2 ⟨rfl, b2⟩
        have B2 := b1.trans (b2.mono b1.size)
        go_wp2_with fail
        refine (hcl _).mono ?_
        rintro e w3 ⟨rfl, b3⟩
        go_wp2_with fail
        go_ret
        exact ⟨by rw [HE.out]; rfl, B2.trans (b3.mono B2.size)⟩
  · have HF := HR.out (fun h => h512 h.2.1)
    have hi : ¬ (l.length : Int) ≤ 512 := by omega
    clear good HU HR ha hcl
    go_enter Tryd.func26, Tryd.ntmps26
    go_wp2_with fail
    refine (hq _).mono ?_
    rintro e w2 ⟨rfl, B2⟩
    cases hqo : quoteOk l with
    | true =>
      have HE := Lib.hid (HF.out.1 hqo)
      clear HF hqo HL
      go_wp2_with fail
      go_ret
      exact ⟨by rw [HE.out]; rfl, B2⟩
    | false =>
      have HE := Lib.hid (HF.out.2 hqo)
      have h3 := HL.out w2 B2
      clear HF hqo HL
      go_wp2_with fail
      refine h3.mono ?_
      rintro e w3 ⟨rfl, b3⟩
      go_wp2_with fail
      go_ret
      exact ⟨by rw [HE.out]; rfl, B2.trans (b3.mono B2.size)⟩
end Go.Proofs.YtgmopbgcimekhaaDoor.wo
