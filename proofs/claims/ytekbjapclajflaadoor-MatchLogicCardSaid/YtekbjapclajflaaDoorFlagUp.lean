/-
  What the reference's Upper, In, AtomByte, Atom, quotable answer.
-/
import Derived.Test.YtekbjapclajflaaDoorFlagBase
namespace Go.Proofs.YtekbjapclajflaaDoor.fl
open Go.RowKit

/-- A byte in its great form. -/
def up1 (c : UInt8) : UInt8 := if 97 ≤ c.toNat ∧ c.toNat ≤ 122 then UInt8.ofNat (c.toNat - 32) else c
def upper (l : List UInt8) : List UInt8 := l.map up1
theorem upper_length (l : List UInt8) : (upper l).length = l.length := by simp [upper]
theorem upper_take (l : List UInt8) (k : Nat) (h : k < l.length) : upper (l.take (k + 1)) = upper (l.take k) ++ [up1 l[k]] := by
  unfold upper
  rw [List.take_succ_eq_append_getElem h, List.map_append]
  rfl

end Go.Proofs.YtekbjapclajflaaDoor.fl
