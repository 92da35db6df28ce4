/-
  posthornlaw01.PackBack answers true.
-/
import Derived.Test.YtnodgpbahlaccaaPackNums
import Derived.Test.YtnodgpbahlaccaaPackAt
import Derived.Deep.RegionHeld3
namespace Go.Proofs.Ytnodgpbahlaccaa.pk
open Go.RowKit

/-- A slice of numbers that came in: it is empty, or it leads to a row of cells that hold them. -/
def Row64 (w : World) (a : Option Addr) (l : List Nat) : Prop :=
  l = [] ∨ ∃ b off, a = some ⟨b, off, none⟩ ∧ b < w.heap.size ∧ ∀ j (hj : j < l.length), w.cell? ⟨b, off + j, none⟩ = some (.int .u64 (l[j] : Nat))

theorem Row64.of_below {w w' : World} {a : Option Addr} {l : List Nat} (h : Row64 w a l) (k : Below w.heap.size w w') : Row64 w' a l := by
  rcases h with h | ⟨b, off, h1, h2, h3⟩
  · exact Or.inl h
  · exact Or.inr ⟨b, off, h1, Nat.lt_of_lt_of_le h2 k.size, fun j hj => (k.cell h2).trans (h3 j hj)⟩

theorem nums_row (a : Option Addr) (cap : Nat) (l : List Nat) (hl : ∀ x ∈ l, x < 18446744073709551616) (hlen : 10 * l.length + 20 ≤ 140737488355328) (w : World) (h : Row64 w a l) :
    Calls Try.prog 41 #[.slice a l.length cap] w fun e w' => e = .returned (.string (S (Lib.uvarint l.length ++ each l))) ∧ Below w.heap.size w w' := by
  rcases h with rfl | ⟨b, off, rfl, hb, hc⟩
  · have h0 := nums_zero a cap w
    rw [show ([0] : List UInt8) = Lib.uvarint ([] : List Nat).length ++ each [] from by rw [show ([] : List Nat).length = 0 from rfl, Lib.uvarint_small (by omega)]; rfl] at h0
    exact h0
  · exact nums_some b off cap l hl hlen w hb hc

end Go.Proofs.Ytnodgpbahlaccaa.pk
