/-
  The three answers of Unquote, each by itself.
-/
import Derived.Test.YtgmopbgcimekhaaDoorWordMath
namespace Go.Proofs.YtgmopbgcimekhaaDoor.wo
open Go.RowKit

def unqT : Option (List UInt8 × Nat) → List UInt8 | some (t, _) => t | none => []
def unqN : Option (List UInt8 × Nat) → Nat | some (_, n) => n | none => 0
def unqB : Option (List UInt8 × Nat) → Bool | some _ => true | none => false
theorem res3_eq (o : Option (List UInt8 × Nat)) : res3 o = .tuple #[.string (S (unqT o)), .int .i64 (unqN o : Nat), .bool (unqB o)] := by
  match o with
  | some (t, n) => rfl
  | none => rfl
theorem refunquote_res (l : List UInt8) (hl : l.length ≤ 140737488355328) (w : World) :
    Calls Tryd.prog 21 #[.string (S l)] w fun e w' => e = .returned (.tuple #[.string (S (unqT (unquote l))), .int .i64 (unqN (unquote l) : Nat), .bool (unqB (unquote l))]) ∧ Below w.heap.size w w' := by
  have h := refunquote_any l hl w
  rw [res3_eq] at h
  exact h
end Go.Proofs.YtgmopbgcimekhaaDoor.wo
