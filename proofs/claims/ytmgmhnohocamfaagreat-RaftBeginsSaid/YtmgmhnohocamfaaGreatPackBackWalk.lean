/-
  posthornlaw01.PackBack answers true.
-/
import Derived.Test.YtmgmhnohocamfaaGreatPackNums
import Derived.Test.YtmgmhnohocamfaaGreatPackAt
import Derived.Deep.RegionHeld3
namespace Go.Proofs.YtmgmhnohocamfaaGreat.pk
open Go.RowKit

/-- A slice of numbers that came in: it is empty, or it leads to a row of cells that hold them. -/
def Row64 (w : World) (a : Option Addr) (l : List Nat) : Prop :=
  l = [] ∨ ∃ b off, a = some ⟨b, off, none⟩ ∧ b < w.heap.size ∧ ∀ j (hj : j < l.length), w.cell? ⟨b, off + j, none⟩ = some (.int .u64 (l[j] : Nat))

theorem Row64.of_below {w w' : World} {a : Option Addr} {l : List Nat} (h : Row64 w a l) (k : Below w.heap.size w w') : Row64 w' a l := by
  rcases h with h | ⟨b, off, h1, h2, h3⟩
  · exact Or.inl h
  · exact Or.inr ⟨b, off, h1, Nat.lt_of_lt_of_le h2 k.size, fun j hj => (k.cell h2).trans (h3 j hj)⟩

end Go.Proofs.YtmgmhnohocamfaaGreat.pk
