/-
  What the program's number answers: the literal's number with which a part ends.
-/
import Derived.Test.YtnpikjobjmffgaaDoorLinMem
import Derived.BigQuiet
namespace Go.Proofs.YtnpikjobjmffgaaDoor.li
open Go.RowKit

/-- The last place of a byte, or -1. -/
def lastI (c : UInt8) (l : List UInt8) : Int := match lastIn c l l.length with | none => -1 | some i => (i : Int)

set_option maxHeartbeats 1000000 in
set_option maxRecDepth 100000 in
theorem lastbyte_any (l : List UInt8) (c : UInt8) (hl : l.length ≤ 140737488355328) (w : World) :
    Calls Tryd.prog 30 #[.string (S l), .int .u8 (c.toNat : Nat)] w fun e w' => e = .returned (.int .i64 (lastI c l)) ∧ w' = w := by
  have hz := S_size l
  have hcl := UInt8.toNat_lt c
  obtain ⟨z, hzc⟩ : ∃ z, z = c.toNat := ⟨_, rfl⟩
  have HZ := Lib.hid hzc
  rw [← hzc] at hcl ⊢
  clear hzc
  have hw1 : IntKind.i64.wrap ((l.length : Int) - 1) = (l.length : Int) - 1 := IntWalk.i64_in _ (by omega)
  go_enter Tryd.func30, Tryd.ntmps30
  go_wp2
  go_loopw [5] (fun i wr => ∃ k : Nat, i = .int .i64 ((k : Int) - 1) ∧ k ≤ l.length ∧ Hid (lastIn c l l.length = lastIn c l k) ∧ wr = w)
    (fun i _ => (intOf i + 1).toNat)
  case atStart => exact ⟨l.length, rfl, Nat.le_refl _, Lib.hid rfl, rfl⟩
  case round =>
    clear hw1
    obtain ⟨k, rfl, hk, HL, rfl⟩ := hrel
    match k, hk, HL with
    | 0, hk, HL =>
      have hfin : Hid (lastI c l = -1) := by unfold lastI; rw [HL.out, lastIn_zero]; exact rfl
      clear HL HZ
      go_wp2
      go_ret
      exact ⟨by rw [hfin.out]; rfl, rfl⟩
    | k + 1, hk, HL =>
      have hlt : k < l.length := by omega
      have hlt' : k < (S l).size := by rw [S_size]; exact hlt
      have he : ((k + 1 : Nat) : Int) - 1 = (k : Int) := by omega
      rw [he]
      clear he
      obtain ⟨d, hd⟩ : ∃ d, l[k]'hlt = d := ⟨_, rfl⟩
      have hx : ((S l)[k]'hlt').toNat = d.toNat := by rw [S_get l k hlt hlt', hd]
      have hg : l.getD k 0 = d := by rw [List.getD_eq_getElem?_getD, List.getElem?_eq_getElem hlt, hd]; rfl
      have hki : (k : Int) < (l.length : Int) := by omega
      by_cases hdc : d = c
      · have hfin : Hid (lastI c l = (k : Int)) := by unfold lastI; rw [HL.out, lastIn_yes (hg.trans hdc)]; exact rfl
        have hq : ((d.toNat : Int) == (z : Int)) = true := by rw [HZ.out, hdc]; simp
        clear HL HZ hd hg hdc
        generalize d.toNat = y at *
        go_wp2
        go_ret
        exact ⟨by rw [hfin.out]; rfl, rfl⟩
      · have hfin : Hid (lastIn c l l.length = lastIn c l k) := by rw [HL.out, lastIn_no (by rw [hg]; exact hdc)]; exact rfl
        have hq : ((d.toNat : Int) == (z : Int)) = false := by
          rw [HZ.out, beq_eq_false_iff_ne]
          intro e
          exact hdc (UInt8.toNat_inj.1 (by omega))
        clear HL hd hg hdc
        generalize d.toNat = y at *
        have hw2 : IntKind.i64.wrap ((k : Int) - 1) = (k : Int) - 1 := IntWalk.i64_in _ (by omega)
        go_wp2
        go_roundw
        case rel => exact ⟨k, rfl, by omega, hfin, trivial⟩
        case measure => simp [intOf]

set_option maxRecDepth 100000 in
theorem lastindex_any (l : List UInt8) (hl : l.length ≤ 140737488355328) (w : World) :
    Calls Tryd.prog 27 #[.string (S l), .string ⟨#[123]⟩] w fun e w' => e = .returned (.int .i64 (lastI 123 l)) ∧ w' = w := by
  have hc := lastbyte_any l 123 hl w
  rw [show (((123 : UInt8).toNat : Nat) : Int) = 123 from rfl] at hc
  go_enter Tryd.func27, Tryd.ntmps27
  go_wp2_with fail
  refine hc.mono ?_
  rintro e w1 ⟨rfl, rfl⟩
  go_wp2
  go_ret
  exact ⟨rfl, rfl⟩

def closes (l : List UInt8) : Bool := decide (0 < l.length) && decide (l.getD (l.length - 1) 0 = 125)
def cutOf (l : List UInt8) : List UInt8 := if closes l = true then l.take (l.length - 1) else l
theorem drop_last {l : List UInt8} (h : 0 < l.length) : l.drop (l.length - 1) = [l.getD (l.length - 1) 0] := by
  rw [List.drop_eq_getElem_cons (by omega), List.drop_of_length_le (by omega), List.getD_eq_getElem?_getD, List.getElem?_eq_getElem (by omega)]
  rfl

set_option maxHeartbeats 1000000 in
set_option maxRecDepth 100000 in
theorem hassuffix_any (l : List UInt8) (hl : l.length ≤ 140737488355328) (w : World) :
    Calls Tryd.prog 35 #[.string (S l), .string ⟨#[125]⟩] w fun e w' => e = .returned (.bool (closes l)) ∧ w' = w := by
  have hz := S_size l
  by_cases h0 : 0 < l.length
  · have hi : ¬ (l.length : Int) < 1 := by omega
    have hw1 : IntKind.i64.wrap ((l.length : Int) - 1) = (l.length : Int) - 1 := IntWalk.i64_in _ (by omega)
    have hsl := fun W => run_slice_string_l (P := Tryd.prog) (w := W) (t := 9) (s := S l) Tryd.underlying9 .i64 ((l.length : Int) - 1) (by omega) (by rw [hz]; omega)
    have e1 : ((l.length : Int) - 1).toNat = l.length - 1 := by omega
    have hex : (S l).extract (l.length - 1) (S l).size = S [l.getD (l.length - 1) 0] := by
      rw [S_mid, S_size, ← drop_last h0, List.take_of_length_le (by rw [List.length_drop]; omega)]
    simp only [e1, hex] at hsl
    have hcl : Hid (closes l = decide (l.getD (l.length - 1) 0 = 125)) := Lib.hid (by unfold closes; rw [decide_eq_true h0]; rfl)
    have hone : 1 ≤ l.length := h0
    generalize l.getD (l.length - 1) 0 = d at *
    have hq : ((S [d]).toList == [125]) = decide (d = 125) := by
      rw [ByteArray.toList_eq, S_data]
      by_cases hd : d = 125
      · subst hd; rfl
      · rw [decide_eq_false hd, beq_eq_false_iff_ne]
        intro e
        exact hd (by simpa using e)
    obtain ⟨b, hb⟩ : ∃ b, b = decide (d = 125) := ⟨_, rfl⟩
    rw [← hb] at hq hcl
    clear hex hb e1
    go_enter Tryd.func35, Tryd.ntmps35
    go_wp2
    go_ret
    exact ⟨by rw [hcl.out]; rfl, rfl⟩
  · have hi : (l.length : Int) < 1 := by omega
    have hcl : Hid (closes l = false) := Lib.hid (by unfold closes; rw [decide_eq_false h0]; rfl)
    go_enter Tryd.func35, Tryd.ntmps35
    go_wp2
    go_ret
    exact ⟨by rw [hcl.out]; rfl, rfl⟩

set_option maxRecDepth 100000 in
theorem slcut_any (l : List UInt8) (hl : l.length ≤ 140737488355328) (w : World) :
    Calls Tryd.prog 32 #[.string (S l), .string ⟨#[125]⟩] w fun e w' => e = .returned (.tuple #[.string (S (cutOf l)), .bool (closes l)]) ∧ w' = w := by
  have hz := S_size l
  have hc := hassuffix_any l hl w
  cases hb : closes l with
  | false =>
    have hcut : Hid (cutOf l = l) := Lib.hid (by unfold cutOf; rw [hb]; rfl)
    rw [hb] at hc
    clear hb
    go_enter Tryd.func32, Tryd.ntmps32
    go_wp2_with fail
    refine hc.mono ?_
    rintro e w1 ⟨rfl, rfl⟩
    go_wp2
    refine bodyPost_ret (results_tmp2 rfl _ _ _) rfl ⟨?_, rfl⟩
    rw [hcut.out]; rfl
  | true =>
    have h0 : 0 < l.length := by
      unfold closes at hb
      simp only [Bool.and_eq_true, decide_eq_true_eq] at hb
      exact hb.1
    have hcut : Hid (cutOf l = l.take (l.length - 1)) := Lib.hid (by unfold cutOf; rw [hb]; rfl)
    rw [hb] at hc
    clear hb
    have hw1 : IntKind.i64.wrap ((l.length : Int) - 1) = (l.length : Int) - 1 := IntWalk.i64_in _ (by omega)
    have hsl := fun W => run_slice_string_h (P := Tryd.prog) (w := W) (t := 9) (s := S l) Tryd.underlying9 .i64 ((l.length : Int) - 1) (by omega) (by rw [hz]; omega)
    have e1 : ((l.length : Int) - 1).toNat = l.length - 1 := by omega
    have hex : (S l).extract 0 (l.length - 1) = S (l.take (l.length - 1)) := by
      rw [S_mid, List.drop_zero, Nat.sub_zero]
    simp only [e1, hex] at hsl
    have hle : (1 : Int) ≤ (l.length : Int) := by omega
    clear hex e1
    generalize l.take (l.length - 1) = t at *
    go_enter Tryd.func32, Tryd.ntmps32
    go_wp2_with fail
    refine hc.mono ?_
    rintro e w1 ⟨rfl, rfl⟩
    go_wp2
    refine bodyPost_ret (results_tmp2 rfl _ _ _) rfl ⟨?_, rfl⟩
    rw [hcut.out]; rfl
set_option maxRecDepth 100000 in
theorem cut_any (l : List UInt8) (hl : l.length ≤ 140737488355328) (w : World) :
    Calls Tryd.prog 28 #[.string (S l), .string ⟨#[125]⟩] w fun e w' => e = .returned (.tuple #[.string (S (cutOf l)), .bool (closes l)]) ∧ w' = w := by
  have hc := slcut_any l hl w
  generalize cutOf l = t at *
  generalize closes l = b at *
  go_enter Tryd.func28, Tryd.ntmps28
  go_wp2_with fail
  refine hc.mono ?_
  rintro e w1 ⟨rfl, rfl⟩
  go_wp2
  exact bodyPost_ret (results_tmp2 rfl _ _ _) rfl ⟨rfl, rfl⟩

/-- What is left behind a bracket. -/
theorem closes_drop {p : List UInt8} {i : Nat} (h : lastIn 123 p p.length = some i) : closes (p.drop (i + 1)) = decide (p.getD (p.length - 1) 0 = 125) := by
  have h1 := lastIn_some h
  unfold closes
  rw [List.length_drop]
  by_cases hi : i + 1 = p.length
  · have : p.getD (p.length - 1) 0 = 123 := by rw [show p.length - 1 = i by omega]; exact h1.2
    rw [decide_eq_false (show ¬ 0 < p.length - (i + 1) by omega), this]
    rfl
  · rw [decide_eq_true (show 0 < p.length - (i + 1) by omega), Bool.true_and]
    congr 2
    rw [List.getD_eq_getElem?_getD, List.getD_eq_getElem?_getD, List.getElem?_drop]
    congr 2
    omega
theorem cut_mid {p : List UInt8} {i : Nat} (h : closes (p.drop (i + 1)) = true) : cutOf (p.drop (i + 1)) = mid p i := by
  unfold cutOf mid
  rw [h, List.length_drop, if_pos rfl]
  congr 1
  omega
set_option maxHeartbeats 1000000 in
set_option maxRecDepth 100000 in
theorem lit_any (p : List UInt8) (hl : p.length ≤ 140737488355328) (w : World) (hE : Errs w) :
    Calls Tryd.prog 25 #[.string (S p)] w fun e w' => e = .returned (.tuple #[.int .u64 (litN p : Nat), .bool (litB p)]) ∧ Below w.heap.size w w' := by
  have hz := S_size p
  have hLI := lastindex_any p hl w
  cases hli : lastIn 123 p p.length with
  | none =>
    have hl1 : lastI 123 p = -1 := by unfold lastI; rw [hli]
    rw [hl1] at hLI
    have hlit := lit_of_none (litM_none hli)
    have HB := Lib.hid hlit
    have hc := cut_any p hl w
    have hsl := fun W => run_slice_string_l (P := Tryd.prog) (w := W) (t := 9) (s := S p) Tryd.underlying9 .i64 0 (by omega) (by omega)
    have hex : (S p).extract (0 : Int).toNat (S p).size = S p := by
      rw [S_mid, S_size]; simp
    simp only [hex] at hsl
    clear hex hli hl1 hlit
    generalize cutOf p = t at *
    generalize closes p = b at *
    go_enter Tryd.func25, Tryd.ntmps25
    go_wp2_with fail
    refine hLI.mono ?_
    rintro e w1 ⟨rfl, rfl⟩
    go_wp2_with fail
    refine hc.mono ?_
    rintro e w2 ⟨rfl, rfl⟩
    go_wp2_with fail
    refine bodyPost_ret (results_tmp2 rfl _ _ _) rfl ⟨?_, Below.refl _ _⟩
    rw [HB.out.1, HB.out.2]; rfl
  | some i =>
    have hl1 : lastI 123 p = (i : Int) := by unfold lastI; rw [hli]
    rw [hl1] at hLI
    have hi := (lastIn_some hli).1
    have hsl := fun W => run_slice_string_l (P := Tryd.prog) (w := W) (t := 9) (s := S p) Tryd.underlying9 .i64 ((i : Int) + 1) (by omega) (by rw [hz]; omega)
    have e1 : ((i : Int) + 1).toNat = i + 1 := by omega
    have hex : (S p).extract (i + 1) (S p).size = S (p.drop (i + 1)) := by
      rw [S_mid, S_size, List.take_of_length_le (by rw [List.length_drop]; omega)]
    simp only [e1, hex] at hsl
    have hcd := closes_drop hli
    have hc := cut_any (p.drop (i + 1)) (by rw [List.length_drop]; omega) w
    have hw1 : IntKind.i64.wrap ((i : Int) + 1) = (i : Int) + 1 := IntWalk.i64_in _ (by omega)
    have hni : ¬ (i : Int) < 0 := by omega
    cases hb : closes (p.drop (i + 1)) with
    | false =>
      have hlast : p.getD (p.length - 1) 0 ≠ 125 := by rw [hb] at hcd; exact of_decide_eq_false hcd.symm
      have HB := Lib.hid (lit_of_none (litM_not_end hlast))
      rw [hb] at hc
      clear hcd hb hlast hex e1 hl1
      generalize cutOf (p.drop (i + 1)) = t at *
      generalize p.drop (i + 1) = u at *
      go_enter Tryd.func25, Tryd.ntmps25
      go_wp2_with fail
      refine hLI.mono ?_
      rintro e w1 ⟨rfl, rfl⟩
      go_wp2_with fail
      refine hc.mono ?_
      rintro e w2 ⟨rfl, rfl⟩
      go_wp2_with fail
      refine bodyPost_ret (results_tmp2 rfl _ _ _) rfl ⟨?_, Below.refl _ _⟩
      rw [HB.out.1, HB.out.2]; rfl
    | true =>
      have hlast : p.getD (p.length - 1) 0 = 125 := by rw [hb] at hcd; exact of_decide_eq_true hcd.symm
      have HB := Lib.hid (lit_of_some (litM_some hlast hli))
      have hcm := cut_mid hb
      rw [hb, hcm] at hc
      have hml : (mid p i).length ≤ 140737488355328 := by unfold mid; rw [List.length_take, List.length_drop]; omega
      have hn := number_any (mid p i) hml w hE
      clear hcd hb hlast hex e1 hl1 hcm hE
      generalize mid p i = m at *
      generalize p.drop (i + 1) = u at *
      go_enter Tryd.func25, Tryd.ntmps25
      go_wp2_with fail
      refine hLI.mono ?_
      rintro e w1 ⟨rfl, rfl⟩
      go_wp2_with fail
      refine hc.mono ?_
      rintro e w2 ⟨rfl, rfl⟩
      go_wp2_with fail
      refine hn.mono ?_
      rintro e w3 ⟨rfl, b3⟩
      go_wp2_with fail
      refine bodyPost_ret (results_tmp2 rfl _ _ _) rfl ⟨?_, b3⟩
      rw [HB.out.1, HB.out.2]; rfl
end Go.Proofs.YtnpikjobjmffgaaDoor.li
