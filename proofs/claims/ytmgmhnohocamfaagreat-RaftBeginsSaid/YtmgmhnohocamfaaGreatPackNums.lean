/-
  What pack.Nums answers: how many numbers there are, then each, as bytes.
-/
import Derived.Test.YtmgmhnohocamfaaGreatPackNum
namespace Go.Proofs.YtmgmhnohocamfaaGreat.pk
open Go.RowKit

/-- The bytes of numbers, one behind the other. -/
def each (l : List Nat) : List UInt8 := l.flatMap Lib.uvarint
theorem each_nil : each [] = [] := rfl
theorem each_cons (x : Nat) (l : List Nat) : each (x :: l) = Lib.uvarint x ++ each l := by simp [each]
theorem each_take_succ (l : List Nat) (k : Nat) (h : k < l.length) : each (l.take (k + 1)) = each (l.take k) ++ Lib.uvarint l[k] := by
  unfold each
  rw [List.take_succ_eq_append_getElem h, List.flatMap_append]
  simp only [List.flatMap_cons, List.flatMap_nil, List.append_nil]
theorem each_len (l : List Nat) (h : ∀ x ∈ l, x < 18446744073709551616) : (each l).length ≤ 10 * l.length := by
  induction l with
  | nil => simp [each]
  | cons x l ih =>
    have h1 := Lib.uvarint_length64 (h x (by simp))
    have h2 := ih (fun y hy => h y (by simp [hy]))
    rw [each_cons, List.length_append, List.length_cons]
    omega

end Go.Proofs.YtmgmhnohocamfaaGreat.pk
