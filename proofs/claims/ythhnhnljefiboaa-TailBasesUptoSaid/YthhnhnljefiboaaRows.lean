/-
  No cell of these rows narrows 'for every input' (looked for: loops, veiled, ifaces, maps, wideKeys, modest, calm, conditions, laid).
  DERIVED. THE GIVEN ROWS OF THIS SEAT. 6 by the template 'for every input the law returns true; each argument reads behind the call as it read before'; 0 by the template 'total and deterministic' (their statements: YthhnhnljefiboaaTotals.lean).
  GIVEN WITH THE SEED: the statements are not yours to turn. If you find one false, say at which input.
  Laid BY PROGRAM, IN A SANDBOX (cutbox-rows.mjs): the forced cells as the released guide's own fill.sh prints them over the translation c2d885c551dc15f6… (all of the seat's roots in one cut). By AI agents, Wed Nov 11 2026. No macro, syntax, notation, axiom, sorry.
-/
import Derived.Test.YthhnhnljefiboaaChecked
import GoSem.Claim
import GoSem.ClaimJoined
import GoSem.ClaimMapViews
import Derived.JoinedTies
import Derived.KernelRfl
namespace Go.Proofs.Ythhnhnljefiboaa
/- THE CELL 'sum', in the pinned program and in every row, IS THE sha256 OF THE DUMP (.gsa) THAT YthhnhnljefiboaaProg.lean LOADS. Nothing in Lean hashes anything: it is a label: what it is worth is what the hold of that sum in a sandbox is worth. -/
noncomputable def Try.pinned : Pinned := { name := "ythhnhnljefiboaa", sum := "c2d885c551dc15f6f3fc9ddd7b5804a5cc14264eeebbcb829991cb748b364926", checked := Try.checked }
namespace Rows
def none {H : Type} : Left H := { results := [], args := [] }

/-- 'posthornlaw16.TailLooks': WHATEVER THE INPUT: true; the input reads as it did. -/
def tailLooksSpec : ChangeSpec := { name := "tailLooks", fn := fun _ => fun
  | [d1, d2, d3, d4] => { results := [.lit (.bool true)], args := [d1, d2, d3, d4] }
  | _ => none }
def tailLooksRow : OpenClaim := { program := "ythhnhnljefiboaa", sum := "c2d885c551dc15f6f3fc9ddd7b5804a5cc14264eeebbcb829991cb748b364926", func := "posthorn/posthornlaw16.TailLooks", spec := "tailLooks", unfollowed := true, recurses := true, apart := false }
def TailLooksSaid : Prop := tailLooksRow.holds Try.pinned (OpenSpec.ofChange tailLooksSpec)

/-- ITS FALSE NEIGHBOUR: 'it returns false'. Refute it at one input. -/
def tailLooksWrong : ChangeSpec := { name := "tailLooks", fn := fun _ => fun
  | [d1, d2, d3, d4] => { results := [.lit (.bool false)], args := [d1, d2, d3, d4] }
  | _ => none }
def TailLooksWrongFalsely : Prop := tailLooksRow.holds Try.pinned (OpenSpec.ofChange tailLooksWrong)

/-- 'posthornlaw16.TailMerges': WHATEVER THE INPUT: true; the input reads as it did. -/
def tailMergesSpec : ChangeSpec := { name := "tailMerges", fn := fun _ => fun
  | [d1, d2, d3, d4] => { results := [.lit (.bool true)], args := [d1, d2, d3, d4] }
  | _ => none }
def tailMergesRow : OpenClaim := { program := "ythhnhnljefiboaa", sum := "c2d885c551dc15f6f3fc9ddd7b5804a5cc14264eeebbcb829991cb748b364926", func := "posthorn/posthornlaw16.TailMerges", spec := "tailMerges", unfollowed := true, recurses := true, apart := false }
def TailMergesSaid : Prop := tailMergesRow.holds Try.pinned (OpenSpec.ofChange tailMergesSpec)

/-- ITS FALSE NEIGHBOUR: 'it returns false'. Refute it at one input. -/
def tailMergesWrong : ChangeSpec := { name := "tailMerges", fn := fun _ => fun
  | [d1, d2, d3, d4] => { results := [.lit (.bool false)], args := [d1, d2, d3, d4] }
  | _ => none }
def TailMergesWrongFalsely : Prop := tailMergesRow.holds Try.pinned (OpenSpec.ofChange tailMergesWrong)

/-- 'posthornlaw16.TailBases': WHATEVER THE INPUT: true; the input reads as it did. -/
def tailBasesSpec : ChangeSpec := { name := "tailBases", fn := fun _ => fun
  | [d1, d2, d3, d4] => { results := [.lit (.bool true)], args := [d1, d2, d3, d4] }
  | _ => none }
def tailBasesRow : OpenClaim := { program := "ythhnhnljefiboaa", sum := "c2d885c551dc15f6f3fc9ddd7b5804a5cc14264eeebbcb829991cb748b364926", func := "posthorn/posthornlaw16.TailBases", spec := "tailBases", unfollowed := true, recurses := true, apart := false }
def TailBasesSaid : Prop := tailBasesRow.holds Try.pinned (OpenSpec.ofChange tailBasesSpec)

/-- ITS FALSE NEIGHBOUR: 'it returns false'. Refute it at one input. -/
def tailBasesWrong : ChangeSpec := { name := "tailBases", fn := fun _ => fun
  | [d1, d2, d3, d4] => { results := [.lit (.bool false)], args := [d1, d2, d3, d4] }
  | _ => none }
def TailBasesWrongFalsely : Prop := tailBasesRow.holds Try.pinned (OpenSpec.ofChange tailBasesWrong)

/-- 'posthornlaw16.TailSame': WHATEVER THE INPUT: true; the input reads as it did. -/
def tailSameSpec : ChangeSpec := { name := "tailSame", fn := fun _ => fun
  | [d1, d2, d3, d4] => { results := [.lit (.bool true)], args := [d1, d2, d3, d4] }
  | _ => none }
def tailSameRow : OpenClaim := { program := "ythhnhnljefiboaa", sum := "c2d885c551dc15f6f3fc9ddd7b5804a5cc14264eeebbcb829991cb748b364926", func := "posthorn/posthornlaw16.TailSame", spec := "tailSame", unfollowed := true, recurses := true, apart := false }
def TailSameSaid : Prop := tailSameRow.holds Try.pinned (OpenSpec.ofChange tailSameSpec)

/-- ITS FALSE NEIGHBOUR: 'it returns false'. Refute it at one input. -/
def tailSameWrong : ChangeSpec := { name := "tailSame", fn := fun _ => fun
  | [d1, d2, d3, d4] => { results := [.lit (.bool false)], args := [d1, d2, d3, d4] }
  | _ => none }
def TailSameWrongFalsely : Prop := tailSameRow.holds Try.pinned (OpenSpec.ofChange tailSameWrong)

/-- 'posthornlaw16.TailStays': WHATEVER THE INPUT: true; the input reads as it did. -/
def tailStaysSpec : ChangeSpec := { name := "tailStays", fn := fun _ => fun
  | [d1, d2, d3] => { results := [.lit (.bool true)], args := [d1, d2, d3] }
  | _ => none }
def tailStaysRow : OpenClaim := { program := "ythhnhnljefiboaa", sum := "c2d885c551dc15f6f3fc9ddd7b5804a5cc14264eeebbcb829991cb748b364926", func := "posthorn/posthornlaw16.TailStays", spec := "tailStays", unfollowed := true, recurses := true, apart := false }
def TailStaysSaid : Prop := tailStaysRow.holds Try.pinned (OpenSpec.ofChange tailStaysSpec)

/-- ITS FALSE NEIGHBOUR: 'it returns false'. Refute it at one input. -/
def tailStaysWrong : ChangeSpec := { name := "tailStays", fn := fun _ => fun
  | [d1, d2, d3] => { results := [.lit (.bool false)], args := [d1, d2, d3] }
  | _ => none }
def TailStaysWrongFalsely : Prop := tailStaysRow.holds Try.pinned (OpenSpec.ofChange tailStaysWrong)

/-- 'posthornlaw16.TailAbove': WHATEVER THE INPUT: true; the input reads as it did. -/
def tailAboveSpec : ChangeSpec := { name := "tailAbove", fn := fun _ => fun
  | [d1, d2, d3] => { results := [.lit (.bool true)], args := [d1, d2, d3] }
  | _ => none }
def tailAboveRow : OpenClaim := { program := "ythhnhnljefiboaa", sum := "c2d885c551dc15f6f3fc9ddd7b5804a5cc14264eeebbcb829991cb748b364926", func := "posthorn/posthornlaw16.TailAbove", spec := "tailAbove", unfollowed := true, recurses := true, apart := false }
def TailAboveSaid : Prop := tailAboveRow.holds Try.pinned (OpenSpec.ofChange tailAboveSpec)

/-- ITS FALSE NEIGHBOUR: 'it returns false'. Refute it at one input. -/
def tailAboveWrong : ChangeSpec := { name := "tailAbove", fn := fun _ => fun
  | [d1, d2, d3] => { results := [.lit (.bool false)], args := [d1, d2, d3] }
  | _ => none }
def TailAboveWrongFalsely : Prop := tailAboveRow.holds Try.pinned (OpenSpec.ofChange tailAboveWrong)

/- THE SECOND FORM. 'bulk': how many values and letters a reading holds, each counted each time it is reached (what is shared counts as often as it is met; a slice's spare places count too). A statement '..UptoSaid' is the law's where the arguments, and the package variables that the reading takes, are together of bulk at most 1048576: NARROWER than '..Said'. Prove '..Said' where nothing that the law and all that it calls make is longer than what came in: it says more and counts as full. Else prove '..UptoSaid'. A law counts once. -/
mutual
def uptoBulk {H : Type} : DataW H → Nat
  | .lit (.string bytes) => bytes.length + 1
  | .lit _ => 1
  | .nil => 1
  | .ptr d => uptoBulk d + 1
  | .slice elems spare => uptoBulkAll elems + uptoBulkAll spare + 1
  | .agg parts => uptoBulkAll parts + 1
  | .iface _ d => uptoBulk d + 1
  | .map entries => uptoBulkEntries entries + 1
  | .held _ => 1
def uptoBulkAll {H : Type} : List (DataW H) → Nat
  | [] => 0
  | d :: r => uptoBulk d + uptoBulkAll r
def uptoBulkEntries {H : Type} : List (Lit × DataW H) → Nat
  | [] => 0
  | x :: r => uptoBulkEntry x + uptoBulkEntries r
def uptoBulkEntry {H : Type} : Lit × DataW H → Nat
  | (.string bytes, d) => bytes.length + uptoBulk d + 1
  | (_, d) => uptoBulk d + 1
 end
def uptoSmall : (H : Type) → List (DataW H) → Bool := fun _ ds => decide (uptoBulkAll ds ≤ 1048576)
def OpenSpec.upto (s : _root_.Go.ChangeSpec) : _root_.Go.OpenSpec := { _root_.Go.OpenSpec.ofChange s with cond := some uptoSmall }

/-- 'posthornlaw16.TailLooks', WHERE WHAT IT READS IS OF BULK AT MOST 1048576: true; the input reads as it did. -/
def tailLooksUptoRow : OpenClaim := { program := "ythhnhnljefiboaa", sum := "c2d885c551dc15f6f3fc9ddd7b5804a5cc14264eeebbcb829991cb748b364926", func := "posthorn/posthornlaw16.TailLooks", spec := "tailLooks", unfollowed := true, recurses := true, apart := false, narrowed := true }
def TailLooksUptoSaid : Prop := tailLooksUptoRow.holds Try.pinned (OpenSpec.upto tailLooksSpec)

/-- 'posthornlaw16.TailMerges', WHERE WHAT IT READS IS OF BULK AT MOST 1048576: true; the input reads as it did. -/
def tailMergesUptoRow : OpenClaim := { program := "ythhnhnljefiboaa", sum := "c2d885c551dc15f6f3fc9ddd7b5804a5cc14264eeebbcb829991cb748b364926", func := "posthorn/posthornlaw16.TailMerges", spec := "tailMerges", unfollowed := true, recurses := true, apart := false, narrowed := true }
def TailMergesUptoSaid : Prop := tailMergesUptoRow.holds Try.pinned (OpenSpec.upto tailMergesSpec)

/-- 'posthornlaw16.TailBases', WHERE WHAT IT READS IS OF BULK AT MOST 1048576: true; the input reads as it did. -/
def tailBasesUptoRow : OpenClaim := { program := "ythhnhnljefiboaa", sum := "c2d885c551dc15f6f3fc9ddd7b5804a5cc14264eeebbcb829991cb748b364926", func := "posthorn/posthornlaw16.TailBases", spec := "tailBases", unfollowed := true, recurses := true, apart := false, narrowed := true }
def TailBasesUptoSaid : Prop := tailBasesUptoRow.holds Try.pinned (OpenSpec.upto tailBasesSpec)

/-- 'posthornlaw16.TailSame', WHERE WHAT IT READS IS OF BULK AT MOST 1048576: true; the input reads as it did. -/
def tailSameUptoRow : OpenClaim := { program := "ythhnhnljefiboaa", sum := "c2d885c551dc15f6f3fc9ddd7b5804a5cc14264eeebbcb829991cb748b364926", func := "posthorn/posthornlaw16.TailSame", spec := "tailSame", unfollowed := true, recurses := true, apart := false, narrowed := true }
def TailSameUptoSaid : Prop := tailSameUptoRow.holds Try.pinned (OpenSpec.upto tailSameSpec)

/-- 'posthornlaw16.TailStays', WHERE WHAT IT READS IS OF BULK AT MOST 1048576: true; the input reads as it did. -/
def tailStaysUptoRow : OpenClaim := { program := "ythhnhnljefiboaa", sum := "c2d885c551dc15f6f3fc9ddd7b5804a5cc14264eeebbcb829991cb748b364926", func := "posthorn/posthornlaw16.TailStays", spec := "tailStays", unfollowed := true, recurses := true, apart := false, narrowed := true }
def TailStaysUptoSaid : Prop := tailStaysUptoRow.holds Try.pinned (OpenSpec.upto tailStaysSpec)

/-- 'posthornlaw16.TailAbove', WHERE WHAT IT READS IS OF BULK AT MOST 1048576: true; the input reads as it did. -/
def tailAboveUptoRow : OpenClaim := { program := "ythhnhnljefiboaa", sum := "c2d885c551dc15f6f3fc9ddd7b5804a5cc14264eeebbcb829991cb748b364926", func := "posthorn/posthornlaw16.TailAbove", spec := "tailAbove", unfollowed := true, recurses := true, apart := false, narrowed := true }
def TailAboveUptoSaid : Prop := tailAboveUptoRow.holds Try.pinned (OpenSpec.upto tailAboveSpec)

end Rows
end Go.Proofs.Ythhnhnljefiboaa
