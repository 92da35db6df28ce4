/-
  What the reference's told, number, Print answer.
-/
import Derived.Test.YtbaeillecojilaaDoorSeqSame
namespace Go.Proofs.YtbaeillecojilaaDoor.sq
open Go.RowKit

def told (n : Nat) : List UInt8 := if n = 0 then [42] else dec n
theorem told_length {n : Nat} (h : n < 18446744073709551616) : (told n).length ≤ 20 := by
  unfold told
  split
  · simp
  · exact dec_length64 h
set_option maxRecDepth 100000 in
theorem reftold_any (n : Nat) (hn : n < 18446744073709551616) (w : World) :
    Calls Tryd.prog 31 #[.int .u64 (n : Nat)] w fun e w' => e = .returned (.string (S (told n))) ∧ Below w.heap.size w w' := by
  have hd := refdigits_any n hn w
  by_cases h : n = 0
  · have hq : ((n : Int) == 0) = true := by rw [h]; rfl
    have ht : told n = [42] := by unfold told; rw [if_pos h]
    rw [ht]
    clear hd h
    go_enter Tryd.func31, Tryd.ntmps31
    go_wp2_with fail
    go_ret
    exact ⟨rfl, Below.refl _ _⟩
  · have hq : ((n : Int) == 0) = false := by rw [beq_eq_false_iff_ne]; omega
    have ht : told n = dec n := by unfold told; rw [if_neg h]
    rw [ht]
    go_enter Tryd.func31, Tryd.ntmps31
    go_wp2_with fail
    refine hd.mono ?_
    rintro e w1 ⟨rfl, hb⟩
    go_wp2_with fail
    go_ret
    exact ⟨rfl, hb⟩

/-- A range's end: what it is, if it is one. -/
def endOk (l : List UInt8) : Bool := decide (l = [42]) || (numOk l && decide (numOf l ≠ 0) && decide (numOf l ≤ 4294967295))
def endOf (l : List UInt8) : Nat := if l = [42] then 0 else if endOk l = true then numOf l else 0
set_option maxRecDepth 100000 in
theorem refnumberr_any (l : List UInt8) (hl : l.length ≤ 140737488355328) (w : World) :
    Calls Tryd.prog 27 #[.string (S l)] w fun e w' => e = .returned (.tuple #[.int .u64 (endOf l : Nat), .bool (endOk l)]) ∧ Below w.heap.size w w' := by
  have hn := refnumber_any l hl w
  by_cases hs : l = [42]
  · have e1 : endOf l = 0 := by unfold endOf; rw [if_pos hs]
    have e2 : endOk l = true := by unfold endOk; rw [decide_eq_true hs]; rfl
    rw [e1, e2]
    subst hs
    clear hn e1 e2
    change Calls Tryd.prog 27 #[.string ⟨#[42]⟩] w _
    go_enter Tryd.func27, Tryd.ntmps27
    go_wp2_with fail
    exact bodyPost_ret (results_tmp2 rfl _ _ _) rfl ⟨rfl, Below.refl _ _⟩
  · have hne : ((S l).toList == (⟨#[42]⟩ : ByteArray).toList) = false := str_ne (fun h => hs (S_inj (a := l) (b := [42]) h))
    have hne2 : ((S l).toList == ([42] : List UInt8)) = false := by
      rw [show (⟨#[42]⟩ : ByteArray).toList = [42] by rw [ByteArray.toList_eq]] at hne
      exact hne
    have hbad : Hid (endOk l = false → endOf l = 0) := fun h => by unfold endOf; rw [if_neg hs, if_neg (by rw [h]; decide)]
    have hdef : Hid (endOk l = (numOk l && decide (numOf l ≠ 0) && decide (numOf l ≤ 4294967295))) := by
      show endOk l = _
      unfold endOk; rw [decide_eq_false hs, Bool.false_or]
    have hgood : Hid (endOk l = true → endOf l = numOf l) := fun h => by unfold endOf; rw [if_neg hs, if_pos h]
    clear hne hs
    generalize endOk l = r at *
    generalize endOf l = v at *
    generalize numOk l = ok at *
    generalize numOf l = m at *
    generalize S l = sl at *
    go_enter Tryd.func27, Tryd.ntmps27
    go_wp2_with fail
    refine hn.mono ?_
    rintro e w1 ⟨rfl, rfl⟩
    cases ok with
    | false =>
      have hr : r = false := by rw [hdef.out]; rfl
      have hv := hbad.out hr
      go_wp2_with fail
      refine bodyPost_ret (results_tmp2 rfl _ _ _) rfl ⟨?_, Below.refl _ _⟩
      rw [hr, hv]; rfl
    | true =>
      by_cases h0 : m = 0
      · have hr : r = false := by rw [hdef.out, h0]; rfl
        have hv := hbad.out hr
        have hq : ((m : Int) == 0) = true := by rw [h0]; rfl
        clear h0
        go_wp2_with fail
        refine bodyPost_ret (results_tmp2 rfl _ _ _) rfl ⟨?_, Below.refl _ _⟩
        rw [hr, hv]; rfl
      · have hq : ((m : Int) == 0) = false := by rw [beq_eq_false_iff_ne]; omega
        by_cases hbig : 4294967295 < m
        · have hr : r = false := by rw [hdef.out, decide_eq_false (show ¬ m ≤ 4294967295 by omega), Bool.and_false]
          have hv := hbad.out hr
          have hi : (4294967295 : Int) < (m : Int) := by omega
          clear h0
          go_wp2_with fail
          refine bodyPost_ret (results_tmp2 rfl _ _ _) rfl ⟨?_, Below.refl _ _⟩
          rw [hr, hv]; rfl
        · have hr : r = true := by rw [hdef.out, decide_eq_true h0, decide_eq_true (show m ≤ 4294967295 by omega)]; rfl
          have hv := hgood.out hr
          have hi : ¬ (4294967295 : Int) < (m : Int) := by omega
          clear h0
          go_wp2_with fail
          refine bodyPost_ret (results_tmp2 rfl _ _ _) rfl ⟨?_, Below.refl _ _⟩
          rw [hr, hv]; rfl

/-- A range's text. -/
def one (r : Nat × Nat) : List UInt8 := told r.1 ++ (if r.1 = r.2 then [] else 58 :: told r.2)
def text : List (Nat × Nat) → List UInt8
  | [] => []
  | r :: l => one r ++ l.flatMap (fun r => 44 :: one r)
def fitR (r : Nat × Nat) : Bool := decide (r.1 ≤ 4294967295) && decide (r.2 ≤ 4294967295)
def printOk (l : List (Nat × Nat)) : Bool := decide (1 ≤ l.length) && decide (l.length ≤ 64) && l.all fitR
def printOf (l : List (Nat × Nat)) : List UInt8 := if printOk l = true then text l else []
theorem text_snoc (l : List (Nat × Nat)) (r : Nat × Nat) : text (l ++ [r]) = (if l = [] then [] else text l ++ [44]) ++ one r := by
  cases l with
  | nil => simp [text]
  | cons x xs => simp [text]
theorem text_take (l : List (Nat × Nat)) (k : Nat) (h : k < l.length) : text (l.take (k + 1)) = (if 0 < k then text (l.take k) ++ [44] else []) ++ one l[k] := by
  rw [List.take_succ_eq_append_getElem h, text_snoc]
  by_cases hk : 0 < k
  · rw [if_neg (by intro e; have := congrArg List.length e; rw [List.length_take, List.length_nil] at this; omega), if_pos hk]
  · rw [if_pos (by rw [show k = 0 by omega]; rfl), if_neg hk]
theorem one_length {r : Nat × Nat} (h1 : r.1 < 18446744073709551616) (h2 : r.2 < 18446744073709551616) : (one r).length ≤ 41 := by
  have a := told_length h1
  have b := told_length h2
  unfold one
  rw [List.length_append]
  split
  · rw [List.length_nil]; omega
  · rw [List.length_cons]; omega
theorem text_length : ∀ (k : Nat) (l : List (Nat × Nat)), k ≤ l.length → (∀ j (h : j < l.length), j < k → fitR l[j] = true) → (text (l.take k)).length ≤ 42 * k
  | 0, l, _, _ => by simp [text]
  | k + 1, l, h, hf => by
    have ih := text_length k l (by omega) (fun j hj hjk => hf j hj (by omega))
    have h1 := hf k (by omega) (by omega)
    simp only [fitR, Bool.and_eq_true, decide_eq_true_eq] at h1
    have ho := one_length (r := l[k]) (by omega) (by omega)
    rw [text_take l k (by omega), List.length_append]
    split
    · rw [List.length_append, List.length_singleton]; omega
    · rw [List.length_nil]; omega
end Go.Proofs.YtbaeillecojilaaDoor.sq
