/-
  All frames with which bytes begin, as a function on lists. No walk.
-/
import Derived.Test.YtpeogcjakojjhaaSealParts
namespace Go.Proofs.Ytpeogcjakojjhaa.sl
open Go.RowKit

theorem cut_bounds {l : List UInt8} (h : (cut l).2.2 = 0) : 8 ≤ (cut l).2.1 ∧ (cut l).2.1 ≤ l.length ∧ (cut l).2.1 = 8 + (cut l).1.length ∧ (cut l).1.length ≤ 65536 := by
  by_cases h8 : l.length < 8
  · rw [cut_short h8] at h; cases h
  · by_cases hlong : 65536 < big (l.take 4)
    · rw [cut_long (by omega) hlong] at h; cases h
    · by_cases ht : l.length < 8 + big (l.take 4)
      · rw [cut_torn (by omega) (by omega) ht] at h; cases h
      · by_cases hs : crc ((l.drop 8).take (big (l.take 4))) = big ((l.drop 4).take 4)
        · rw [cut_ok (by omega) (by omega) (by omega) hs]
          simp only [List.length_take, List.length_drop]
          omega
        · rw [cut_sum (by omega) (by omega) (by omega) hs] at h; cases h
theorem cut_nil : (cut []).2.2 = 3 := by rw [cut_short (by simp)]

/-- The frames, each with the place where it begins. -/
def scan (p : Nat) (l : List UInt8) : List (Nat × List UInt8) :=
  if _h : (cut l).2.2 = 0 then (p, (cut l).1) :: scan (p + (cut l).2.1) (l.drop (cut l).2.1) else []
termination_by l.length
decreasing_by
  have := cut_bounds (l := l) (by assumption)
  rw [List.length_drop]
  omega
/-- Where the frames end. -/
def fin (p : Nat) (l : List UInt8) : Nat :=
  if _h : (cut l).2.2 = 0 then fin (p + (cut l).2.1) (l.drop (cut l).2.1) else p
termination_by l.length
decreasing_by
  have := cut_bounds (l := l) (by assumption)
  rw [List.length_drop]
  omega

theorem scan_ok {p : Nat} {l : List UInt8} (h : (cut l).2.2 = 0) : scan p l = (p, (cut l).1) :: scan (p + (cut l).2.1) (l.drop (cut l).2.1) := by
  rw [scan, dif_pos h]
theorem scan_no {p : Nat} {l : List UInt8} (h : (cut l).2.2 ≠ 0) : scan p l = [] := by rw [scan, dif_neg h]
theorem fin_ok {p : Nat} {l : List UInt8} (h : (cut l).2.2 = 0) : fin p l = fin (p + (cut l).2.1) (l.drop (cut l).2.1) := by
  rw [fin, dif_pos h]
theorem fin_no {p : Nat} {l : List UInt8} (h : (cut l).2.2 ≠ 0) : fin p l = p := by rw [fin, dif_neg h]
theorem scan_nil (p : Nat) : scan p [] = [] := scan_no (by rw [cut_nil]; decide)
theorem fin_nil (p : Nat) : fin p [] = p := fin_no (by rw [cut_nil]; decide)

theorem scan_len (l : List UInt8) : ∀ p, (scan p l).length * 8 ≤ l.length := by
  induction hn : l.length using Nat.strongRecOn generalizing l with
  | _ n ih =>
    intro p
    by_cases h : (cut l).2.2 = 0
    · have hb := cut_bounds h
      have := ih (l.drop (cut l).2.1).length (by rw [List.length_drop]; omega) (l.drop (cut l).2.1) rfl (p + (cut l).2.1)
      rw [scan_ok h, List.length_cons]
      rw [List.length_drop] at this
      omega
    · rw [scan_no h]; simp

/-- The end by the last frame. -/
def lastEnd : List (Nat × List UInt8) → Nat → Nat
  | [], d => d
  | x :: r, _ => lastEnd r (x.1 + 8 + x.2.length)
theorem lastEnd_snoc (pre : List (Nat × List UInt8)) (x : Nat × List UInt8) : ∀ d, lastEnd (pre ++ [x]) d = x.1 + 8 + x.2.length := by
  induction pre with
  | nil => intro d; rfl
  | cons y r ih => intro d; exact ih _
theorem lastEnd_scan (l : List UInt8) : ∀ p, lastEnd (scan p l) p = fin p l := by
  induction hn : l.length using Nat.strongRecOn generalizing l with
  | _ n ih =>
    intro p
    by_cases h : (cut l).2.2 = 0
    · have hb := cut_bounds h
      have := ih (l.drop (cut l).2.1).length (by rw [List.length_drop]; omega) (l.drop (cut l).2.1) rfl (p + (cut l).2.1)
      rw [scan_ok h, fin_ok h, ← this]
      show lastEnd _ (p + 8 + (cut l).1.length) = _
      rw [show p + 8 + (cut l).1.length = p + (cut l).2.1 by omega]
    · rw [scan_no h, fin_no h]; rfl
theorem fin_le (l : List UInt8) : ∀ p, fin p l ≤ p + l.length ∧ p ≤ fin p l := by
  induction hn : l.length using Nat.strongRecOn generalizing l with
  | _ n ih =>
    intro p
    by_cases h : (cut l).2.2 = 0
    · have hb := cut_bounds h
      have := ih (l.drop (cut l).2.1).length (by rw [List.length_drop]; omega) (l.drop (cut l).2.1) rfl (p + (cut l).2.1)
      rw [fin_ok h]
      rw [List.length_drop] at this
      omega
    · rw [fin_no h]; omega

/-- What All says at its end. -/
def err (l : List UInt8) : Nat := if fin 0 l = l.length then 0 else (cut (l.drop (fin 0 l))).2.2
def bodies (l : List UInt8) : List (List UInt8) := (scan 0 l).map (·.2)
def places (l : List UInt8) : List Nat := (scan 0 l).map (·.1)

/-- Behind the last frame no frame begins. -/
theorem cut_fin (l : List UInt8) : ∀ p, (cut (l.drop (fin p l - p))).2.2 ≠ 0 := by
  induction hn : l.length using Nat.strongRecOn generalizing l with
  | _ n ih =>
    intro p
    by_cases h : (cut l).2.2 = 0
    · have hb := cut_bounds h
      have h1 := ih (l.drop (cut l).2.1).length (by rw [List.length_drop]; omega) (l.drop (cut l).2.1) rfl (p + (cut l).2.1)
      have h2 := (fin_le (l.drop (cut l).2.1) (p + (cut l).2.1)).2
      rw [fin_ok h]
      rw [List.drop_drop] at h1
      rw [show fin (p + (cut l).2.1) (l.drop (cut l).2.1) - p = (cut l).2.1 + (fin (p + (cut l).2.1) (l.drop (cut l).2.1) - (p + (cut l).2.1)) by omega]
      exact h1
    · rw [fin_no h, Nat.sub_self]; exact h
end Go.Proofs.Ytpeogcjakojjhaa.sl
