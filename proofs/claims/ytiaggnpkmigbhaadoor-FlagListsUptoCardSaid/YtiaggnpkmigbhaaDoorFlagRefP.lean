/-
  What the reference's Print answers; what is left to read of a flag list.
-/
import Derived.Test.YtiaggnpkmigbhaaDoorFlagRows
import Derived.Test.YtiaggnpkmigbhaaDoorFlagRef4
import Derived.Test.YtiaggnpkmigbhaaDoorFlagSplit
namespace Go.Proofs.YtiaggnpkmigbhaaDoor.fl
open Go.RowKit

theorem join_snoc (c : UInt8) (x : List UInt8) : ∀ {L : List (List UInt8)}, L ≠ [] → join c (L ++ [x]) = join c L ++ c :: x
  | [], h => absurd rfl h
  | a :: r, _ => by simp [join]
/-- What is written behind the first k. -/
def prt (l : List (List UInt8)) (k : Nat) : List UInt8 := 40 :: join 32 (l.take k)
theorem prt_first {l : List (List UInt8)} (h : 0 < l.length) : prt l 1 = prt l 0 ++ l[0] := by
  cases l with
  | nil => simp at h
  | cons a r => simp [prt, join]
theorem prt_next {l : List (List UInt8)} {k : Nat} (h0 : 0 < k) (h : k < l.length) : prt l (k + 1) = (prt l k ++ [32]) ++ l[k] := by
  unfold prt
  rw [List.take_succ_eq_append_getElem h, join_snoc]
  · simp
  · intro e
    have := congrArg List.length e
    rw [List.length_take, List.length_nil] at this
    omega
theorem prt_le (l : List (List UInt8)) (k : Nat) : (prt l k).length ≤ l.flatten.length + l.length + 1 := by
  have h1 := join_le 32 (l.take k)
  have h2 : (l.take k).flatten.length ≤ l.flatten.length := by
    conv => rhs; rw [← List.take_append_drop k l, List.flatten_append, List.length_append]
    omega
  rw [List.length_take] at h1
  unfold prt
  rw [List.length_cons]
  omega

set_option maxHeartbeats 2000000 in
set_option maxRecDepth 100000 in
theorem refprint_any (a : Option Addr) (cap : Nat) (l : List (List UInt8)) (hl : l.flatten.length + l.length ≤ 2000000) (w : World) (hr : RowS w a l) :
    Calls Tryd.prog 25 #[.slice a l.length cap] w fun e w' => e = .returned (.string (S (print l))) ∧ Below w.heap.size w w' := by
  have hx : ∀ x ∈ l, x.length ≤ 2000000 := fun x hx => by
    have := (List.sublist_flatten_of_mem hx).length_le
    omega
  have HX := Lib.hid hx
  clear hx
  go_enter Tryd.func25, Tryd.ntmps25
  go_wp2
  go_loopw [3, 4] (fun v i wr => ∃ k : Nat, i = .int .i64 k ∧ v = .string (S (prt l k)) ∧ k ≤ l.length ∧ Below w.heap.size w wr)
    (fun _ i _ => l.length - (intOf i).toNat)
  case atStart => exact ⟨0, rfl, by rw [show prt l 0 = [40] by simp [prt, join]]; rfl, Nat.zero_le _, Below.refl _ _⟩
  case round =>
    obtain ⟨k, rfl, rfl, hk, hB⟩ := hrel
    have hpl := prt_le l k
    have hz := S_size (prt l k)
    by_cases hlt : k < l.length
    · rcases hr.later hB with h0 | ⟨b, off, rfl, hb, hc⟩
      · rw [h0] at hlt; simp at hlt
      have hcell := hc k hlt
      have hki : (k : Int) < (l.length : Int) := by omega
      have hxl := HX.out _ (List.getElem_mem hlt)
      have hzx := S_size (l[k]'hlt)
      cases k with
      | zero =>
        have HN := Lib.hid (prt_first hlt)
        rw [Nat.add_zero] at hcell
        generalize l[0]'hlt = x at *
        generalize prt l 0 = P at *
        have e1 : S P ++ S x = S (P ++ x) := S_append _ _
        clear hc hr
        go_wp2_with fail
        go_roundw
        case rel => exact ⟨1, by go_num, by rw [HN.out], by omega, hB⟩
        case measure => simp [intOf]; omega
      | succ k =>
        have HN := Lib.hid (prt_next (Nat.succ_pos k) hlt)
        generalize l[k + 1]'hlt = x at *
        generalize prt l (k + 1) = P at *
        have e1 : S P ++ (⟨#[32]⟩ : ByteArray) = S (P ++ [32]) := S_append _ [32]
        have z1 : (S (P ++ [32])).size = P.length + 1 := by rw [S_size, List.length_append]; rfl
        have e2 : S (P ++ [32]) ++ S x = S ((P ++ [32]) ++ x) := S_append _ _
        have hk0 : ((k + 1 : Nat) : Int) > 0 := by omega
        clear hc hr
        go_wp2_with fail
        go_roundw
        case rel => exact ⟨k + 1 + 1, by go_num, by rw [HN.out, List.append_assoc]; rfl, by omega, hB⟩
        case measure => simp [intOf]; omega
    · obtain rfl : k = l.length := by omega
      have e1 : S (prt l l.length) ++ (⟨#[41]⟩ : ByteArray) = S (print l) := by
        unfold prt
        rw [List.take_length]
        exact S_append _ [41]
      generalize prt l l.length = P at *
      clear hr
      go_wp2_with fail
      go_ret
      exact ⟨rfl, hB⟩

/-! ### What is left to read -/
def fin (N : List (List UInt8)) (n : Nat) : List (List UInt8) × Nat × Nat := if (make N).2 = 0 then ((make N).1, n, 0) else ([], 0, (make N).2)
def rest (t : List UInt8) (n : Nat) (N : List (List UInt8)) : List (List UInt8) × Nat × Nat :=
  if (41 : UInt8) ∈ t then fin (N ++ names (inside t)) (n + (inside t).length + 1) else ([], 0, 4)
theorem parse_rest (r : List UInt8) : parse (40 :: r) = rest r 1 [] := by
  unfold rest
  by_cases h : (41 : UInt8) ∈ r
  · rw [if_pos h, parse_good h, List.nil_append, show 1 + (inside r).length + 1 = (inside r).length + 2 by omega]; rfl
  · rw [if_neg h, parse_bad (by simp [h])]
theorem rest_end (t : List UInt8) (n : Nat) (N : List (List UInt8)) : rest (41 :: t) n N = fin N (n + 1) := by
  unfold rest
  rw [if_pos (by simp)]
  simp [inside, names]
theorem rest_no {t : List UInt8} {n : Nat} {N : List (List UInt8)} (h : (41 : UInt8) ∉ t) : rest t n N = ([], 0, 4) := if_neg h
theorem names_ne {t : List UInt8} (h : t ≠ []) : names t = split 32 t := if_neg h
theorem split_free {p : List UInt8} (h : (32 : UInt8) ∉ p) : split 32 p = [p] := splitA_free 32 p [] h
theorem split_sep {p r : List UInt8} (h : (32 : UInt8) ∉ p) : split 32 (p ++ 32 :: r) = p :: split 32 r := splitA_sep 32 p [] r h
theorem rest_close {p b : List UInt8} {n : Nat} {N : List (List UInt8)} (h0 : p ≠ []) (h1 : (32 : UInt8) ∉ p) (h2 : (41 : UInt8) ∉ p) : rest (p ++ 41 :: b) n N = rest (41 :: b) (n + p.length) (N ++ [p]) := by
  rw [rest_end]
  unfold rest
  rw [if_pos (by simp), inside_app h2, names_ne h0, split_free h1]
theorem canon_nil : (canon []).isSome = false := by decide
theorem fin_bad {N : List (List UInt8)} {n : Nat} (h : [] ∈ N) : fin N n = ([], 0, 4) := by
  have : make N = ([], 4) := by
    unfold make
    refine if_neg fun h2 => ?_
    have := List.all_eq_true.1 h2 _ h
    rw [canon_nil] at this; cases this
  unfold fin
  rw [this]; rfl
theorem rest_sp_end {p : List UInt8} {n : Nat} {N : List (List UInt8)} (h2 : (41 : UInt8) ∉ p) : rest (p ++ [32]) n N = ([], 0, 4) := rest_no (by simp [h2])
theorem rest_sp_close {p b : List UInt8} {n : Nat} {N : List (List UInt8)} (h1 : (32 : UInt8) ∉ p) (h2 : (41 : UInt8) ∉ p) : rest (p ++ 32 :: 41 :: b) n N = ([], 0, 4) := by
  have e : p ++ 32 :: 41 :: b = (p ++ [32]) ++ 41 :: b := by simp
  rw [e]
  unfold rest
  rw [if_pos (by simp), inside_app (by simp [h2]), names_ne (by simp), split_sep h1]
  exact fin_bad (by simp [split_free (show (32 : UInt8) ∉ [] by simp)])
theorem rest_sp {p b : List UInt8} {c : UInt8} {n : Nat} {N : List (List UInt8)} (hc : c ≠ 41) (h1 : (32 : UInt8) ∉ p) (h2 : (41 : UInt8) ∉ p) : rest (p ++ 32 :: c :: b) n N = rest (c :: b) (n + p.length + 1) (N ++ [p]) := by
  by_cases h : (41 : UInt8) ∈ c :: b
  · obtain ⟨d, hd⟩ := inside_split h
    have hne : inside (c :: b) ≠ [] := by simp [inside, hc]
    have hi : inside (p ++ 32 :: c :: b) = p ++ 32 :: inside (c :: b) := by
      conv => lhs; rw [hd]
      rw [show p ++ 32 :: (inside (c :: b) ++ 41 :: d) = (p ++ 32 :: inside (c :: b)) ++ 41 :: d by simp]
      exact inside_app (by simp [h2, inside_free])
    unfold rest
    rw [if_pos (show (41 : UInt8) ∈ p ++ 32 :: c :: b from List.mem_append.2 (.inr (List.mem_cons_of_mem _ h))), if_pos h, hi, names_ne (by simp), split_sep h1, names_ne hne]
    rw [List.length_append, List.length_cons, List.append_assoc]
    rw [show n + (p.length + ((inside (c :: b)).length + 1)) + 1 = n + p.length + 1 + (inside (c :: b)).length + 1 by omega]
    rfl
  · rw [rest_no h, rest_no]
    intro h3
    rcases List.mem_append.1 h3 with h4 | h4
    · exact h2 h4
    · rcases List.mem_cons.1 h4 with h5 | h5
      · exact absurd h5 (by decide)
      · exact h h5
theorem mid_split (l : List UInt8) {k m : Nat} (h : k ≤ m) : l.drop k = (l.drop k).take (m - k) ++ l.drop m := by
  conv => lhs; rw [← List.take_append_drop (m - k) (l.drop k)]
  rw [List.drop_drop, show k + (m - k) = m by omega]
theorem mid_length (l : List UInt8) {k m : Nat} (h : k ≤ m) (hm : m ≤ l.length) : ((l.drop k).take (m - k)).length = m - k := by
  rw [List.length_take, List.length_drop]; omega
end Go.Proofs.YtiaggnpkmigbhaaDoor.fl
