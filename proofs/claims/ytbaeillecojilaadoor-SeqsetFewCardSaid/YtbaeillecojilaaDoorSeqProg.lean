/-
  What the program's five functions answer, and what they want of the listed variables.
-/
import Derived.Test.YtbaeillecojilaaDoorSeqMath2
import Derived.Test.YtbaeillecojilaaDoorSeqPrintQ
import Derived.Test.YtbaeillecojilaaDoorSeqParseQ
import Derived.Test.YtbaeillecojilaaDoorSeqP2
import Derived.Test.YtbaeillecojilaaDoorSrtSmall
import Derived.Test.YtbaeillecojilaaDoorSeqNormR
import Derived.Test.YtbaeillecojilaaDoorSeqSame
namespace Go.Proofs.YtbaeillecojilaaDoor.sq
open Go.RowKit

/-- The two errors and the table are there. -/
structure Laid (W : World) : Prop where
  e : Errs W
  t : Tab W
theorem Laid.later {w w' : World} (h : Laid w) (hb : Below w.heap.size w w') : Laid w' := ⟨h.e.later hb, h.t.later hb⟩
theorem norm_any (N : Nat) (hN : N ≤ 1000000) (hS : SortAt N) (a : Option Addr) (cap : Nat) (of : List Nat) (hl : of.length ≤ N) (h64 : Hid (∀ x ∈ of, x < 18446744073709551616)) (w : World) (hr : Row64 w a of) :
    Calls Tryd.prog 21 #[.slice a of.length cap] w fun e w' => (∃ L a2 c2, e = .returned (.slice a2 (List.length L) c2) ∧ RowR w' a2 L ∧ IsNorm of L) ∧ Below w.heap.size w w' :=
  norm_upto N hN (rise_at N hN hS) a cap of hl h64 w hr
end Go.Proofs.YtbaeillecojilaaDoor.sq
