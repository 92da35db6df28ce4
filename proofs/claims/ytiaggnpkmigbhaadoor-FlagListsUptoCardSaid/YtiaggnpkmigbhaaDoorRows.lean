/-
  NARROWER THAN 'FOR EVERY INPUT', by the rows' own cells (each row's printed sentence says how): FlagNames: laid · FlagMakes: laid · FlagChanges: laid · FlagLists: laid · FlagOnce: laid · FlagAdds: laid · FlagBack: laid.
  DERIVED. THE GIVEN ROWS OF THIS SEAT. 7 by the template 'for every input the law returns true; each argument reads behind the call as it read before'; 0 by the template 'total and deterministic' (their statements: YtiaggnpkmigbhaaDoorTotals.lean).
  GIVEN WITH THE SEED: the statements are not yours to turn. If you find one false, say at which input.
  Laid BY PROGRAM, IN A SANDBOX (cutbox-rows.mjs): the forced cells as the released guide's own fill.sh prints them over the translation 733a2a3c34f9f163… (all of the seat's roots in one cut). By AI agents, Wed Nov 11 2026. No macro, syntax, notation, axiom, sorry.
-/
import Derived.Test.YtiaggnpkmigbhaaDoorChecked
import GoSem.PinnedTables
import GoSem.Claim
import GoSem.ClaimJoined
import GoSem.ClaimMapViews
import Derived.JoinedTies
import Derived.KernelRfl
namespace Go.Proofs.YtiaggnpkmigbhaaDoor
/- THE CELL 'sum', in the pinned program and in every row, IS THE sha256 OF THE DUMP (.gsa) THAT YtiaggnpkmigbhaaDoorProg.lean LOADS. Nothing in Lean hashes anything: it is a label: what it is worth is what the hold of that sum in a sandbox is worth. -/
noncomputable def Tryd.pinned : Pinned := { name := "ytiaggnpkmigbhaadoor", sum := "733a2a3c34f9f163aeba0e96d87c4e2f0f7b47c4e2323b64113bcb933816314f", checked := Tryd.checked }
namespace Rows
def none {H : Type} : Left H := { results := [], args := [] }

/- WHAT THE LISTED PACKAGE-LEVEL VARIABLES READ AS WHEN THE CALL BEGINS. Each datum BY PROGRAM (the guide's laid-datum.mjs) off the statement by which the dump's own 'gosem.cut.vars' lays the variable. In a bare row this is a premise. The card (YtiaggnpkmigbhaaDoorCards.lean) ties it to the program's text. -/
def laid_posthorn_flag_system {H : Type} : DataW H := .agg [.lit (.string [92, 65, 110, 115, 119, 101, 114, 101, 100]), .lit (.string [92, 70, 108, 97, 103, 103, 101, 100]), .lit (.string [92, 68, 101, 108, 101, 116, 101, 100]), .lit (.string [92, 83, 101, 101, 110]), .lit (.string [92, 68, 114, 97, 102, 116])]
def laid_unicode_utf8_acceptRanges {H : Type} : DataW H := .agg [.agg [.lit (.int .u8 128), .lit (.int .u8 191)], .agg [.lit (.int .u8 160), .lit (.int .u8 191)], .agg [.lit (.int .u8 128), .lit (.int .u8 159)], .agg [.lit (.int .u8 144), .lit (.int .u8 191)], .agg [.lit (.int .u8 128), .lit (.int .u8 143)], .agg [.lit (.int .u8 0), .lit (.int .u8 0)], .agg [.lit (.int .u8 0), .lit (.int .u8 0)], .agg [.lit (.int .u8 0), .lit (.int .u8 0)], .agg [.lit (.int .u8 0), .lit (.int .u8 0)], .agg [.lit (.int .u8 0), .lit (.int .u8 0)], .agg [.lit (.int .u8 0), .lit (.int .u8 0)], .agg [.lit (.int .u8 0), .lit (.int .u8 0)], .agg [.lit (.int .u8 0), .lit (.int .u8 0)], .agg [.lit (.int .u8 0), .lit (.int .u8 0)], .agg [.lit (.int .u8 0), .lit (.int .u8 0)], .agg [.lit (.int .u8 0), .lit (.int .u8 0)]]
/-- One of Go's own tables, pinned by name: the form's constant. -/
def laid_unicode_utf8_first : DataW Unit := Go.Pinned.utf8First

/-- 'posthornlaw06.FlagNames': WHATEVER THE INPUT: true; the input reads as it did. -/
def flagNamesSpec : ChangeSpec := { name := "flagNames", fn := fun _ => fun
  | [d1, d2] => { results := [.lit (.bool true)], args := [d1, d2] }
  | _ => none }
def flagNamesRow : OpenClaim := { program := "ytiaggnpkmigbhaadoor", sum := "733a2a3c34f9f163aeba0e96d87c4e2f0f7b47c4e2323b64113bcb933816314f", func := "posthorn/posthornlaw06.FlagNames", spec := "flagNames", inPlace := ["internal/bytealg.IndexByteString", "slices.overlaps[string]", "internal/abi.NoEscape", "internal/bytealg.MakeNoZero"], unfollowed := true, recurses := true, named := ["posthorn/flag.system"], apart := false, laid := [("posthorn/flag.system", laid_posthorn_flag_system)] }
def FlagNamesSaid : Prop := flagNamesRow.holds Tryd.pinned (OpenSpec.ofChange flagNamesSpec)

/-- ITS FALSE NEIGHBOUR: 'it returns false'. Refute it at one input. -/
def flagNamesWrong : ChangeSpec := { name := "flagNames", fn := fun _ => fun
  | [d1, d2] => { results := [.lit (.bool false)], args := [d1, d2] }
  | _ => none }
def FlagNamesWrongFalsely : Prop := flagNamesRow.holds Tryd.pinned (OpenSpec.ofChange flagNamesWrong)

/-- 'posthornlaw06.FlagMakes': WHATEVER THE INPUT: true; the input reads as it did. -/
def flagMakesSpec : ChangeSpec := { name := "flagMakes", fn := fun _ => fun
  | [d] => { results := [.lit (.bool true)], args := [d] }
  | _ => none }
def flagMakesRow : OpenClaim := { program := "ytiaggnpkmigbhaadoor", sum := "733a2a3c34f9f163aeba0e96d87c4e2f0f7b47c4e2323b64113bcb933816314f", func := "posthorn/posthornlaw06.FlagMakes", spec := "flagMakes", inPlace := ["internal/bytealg.IndexByteString", "slices.overlaps[string]", "internal/abi.NoEscape", "internal/bytealg.MakeNoZero"], unfollowed := true, recurses := true, named := ["posthorn/flag.system"], apart := false, laid := [("posthorn/flag.system", laid_posthorn_flag_system)] }
def FlagMakesSaid : Prop := flagMakesRow.holds Tryd.pinned (OpenSpec.ofChange flagMakesSpec)

/-- ITS FALSE NEIGHBOUR: 'it returns false'. Refute it at one input. -/
def flagMakesWrong : ChangeSpec := { name := "flagMakes", fn := fun _ => fun
  | [d] => { results := [.lit (.bool false)], args := [d] }
  | _ => none }
def FlagMakesWrongFalsely : Prop := flagMakesRow.holds Tryd.pinned (OpenSpec.ofChange flagMakesWrong)

/-- 'posthornlaw06.FlagChanges': WHATEVER THE INPUT: true; the input reads as it did. -/
def flagChangesSpec : ChangeSpec := { name := "flagChanges", fn := fun _ => fun
  | [d1, d2, d3] => { results := [.lit (.bool true)], args := [d1, d2, d3] }
  | _ => none }
def flagChangesRow : OpenClaim := { program := "ytiaggnpkmigbhaadoor", sum := "733a2a3c34f9f163aeba0e96d87c4e2f0f7b47c4e2323b64113bcb933816314f", func := "posthorn/posthornlaw06.FlagChanges", spec := "flagChanges", inPlace := ["internal/bytealg.IndexByteString", "slices.overlaps[string]", "internal/abi.NoEscape", "internal/bytealg.MakeNoZero"], unfollowed := true, recurses := true, named := ["posthorn/flag.system"], apart := false, laid := [("posthorn/flag.system", laid_posthorn_flag_system)] }
def FlagChangesSaid : Prop := flagChangesRow.holds Tryd.pinned (OpenSpec.ofChange flagChangesSpec)

/-- ITS FALSE NEIGHBOUR: 'it returns false'. Refute it at one input. -/
def flagChangesWrong : ChangeSpec := { name := "flagChanges", fn := fun _ => fun
  | [d1, d2, d3] => { results := [.lit (.bool false)], args := [d1, d2, d3] }
  | _ => none }
def FlagChangesWrongFalsely : Prop := flagChangesRow.holds Tryd.pinned (OpenSpec.ofChange flagChangesWrong)

/-- 'posthornlaw06.FlagLists': WHATEVER THE INPUT: true; the input reads as it did. -/
def flagListsSpec : ChangeSpec := { name := "flagLists", fn := fun _ => fun
  | [d1, d2] => { results := [.lit (.bool true)], args := [d1, d2] }
  | _ => none }
def flagListsRow : OpenClaim := { program := "ytiaggnpkmigbhaadoor", sum := "733a2a3c34f9f163aeba0e96d87c4e2f0f7b47c4e2323b64113bcb933816314f", func := "posthorn/posthornlaw06.FlagLists", spec := "flagLists", inPlace := ["internal/bytealg.IndexByteString", "internal/bytealg.IndexString", "slices.overlaps[string]", "internal/abi.NoEscape", "internal/bytealg.MakeNoZero"], unfollowed := true, recurses := true, named := ["internal/bytealg.MaxLen", "unicode/utf8.first", "unicode/utf8.acceptRanges", "posthorn/flag.system"], apart := false, laid := [("unicode/utf8.acceptRanges", laid_unicode_utf8_acceptRanges), ("posthorn/flag.system", laid_posthorn_flag_system), ("unicode/utf8.first", laid_unicode_utf8_first)] }
def FlagListsSaid : Prop := flagListsRow.holds Tryd.pinned (OpenSpec.ofChange flagListsSpec)

/-- ITS FALSE NEIGHBOUR: 'it returns false'. Refute it at one input. -/
def flagListsWrong : ChangeSpec := { name := "flagLists", fn := fun _ => fun
  | [d1, d2] => { results := [.lit (.bool false)], args := [d1, d2] }
  | _ => none }
def FlagListsWrongFalsely : Prop := flagListsRow.holds Tryd.pinned (OpenSpec.ofChange flagListsWrong)

/-- 'posthornlaw06.FlagOnce': WHATEVER THE INPUT: true; the input reads as it did. -/
def flagOnceSpec : ChangeSpec := { name := "flagOnce", fn := fun _ => fun
  | [d] => { results := [.lit (.bool true)], args := [d] }
  | _ => none }
def flagOnceRow : OpenClaim := { program := "ytiaggnpkmigbhaadoor", sum := "733a2a3c34f9f163aeba0e96d87c4e2f0f7b47c4e2323b64113bcb933816314f", func := "posthorn/posthornlaw06.FlagOnce", spec := "flagOnce", inPlace := ["internal/bytealg.IndexByteString", "slices.overlaps[string]", "internal/abi.NoEscape", "internal/bytealg.MakeNoZero"], unfollowed := true, recurses := true, named := ["posthorn/flag.system"], apart := false, laid := [("posthorn/flag.system", laid_posthorn_flag_system)] }
def FlagOnceSaid : Prop := flagOnceRow.holds Tryd.pinned (OpenSpec.ofChange flagOnceSpec)

/-- ITS FALSE NEIGHBOUR: 'it returns false'. Refute it at one input. -/
def flagOnceWrong : ChangeSpec := { name := "flagOnce", fn := fun _ => fun
  | [d] => { results := [.lit (.bool false)], args := [d] }
  | _ => none }
def FlagOnceWrongFalsely : Prop := flagOnceRow.holds Tryd.pinned (OpenSpec.ofChange flagOnceWrong)

/-- 'posthornlaw06.FlagAdds': WHATEVER THE INPUT: true; the input reads as it did. -/
def flagAddsSpec : ChangeSpec := { name := "flagAdds", fn := fun _ => fun
  | [d1, d2, d3] => { results := [.lit (.bool true)], args := [d1, d2, d3] }
  | _ => none }
def flagAddsRow : OpenClaim := { program := "ytiaggnpkmigbhaadoor", sum := "733a2a3c34f9f163aeba0e96d87c4e2f0f7b47c4e2323b64113bcb933816314f", func := "posthorn/posthornlaw06.FlagAdds", spec := "flagAdds", inPlace := ["internal/bytealg.IndexByteString", "slices.overlaps[string]", "internal/abi.NoEscape", "internal/bytealg.MakeNoZero"], unfollowed := true, recurses := true, named := ["posthorn/flag.system"], apart := false, laid := [("posthorn/flag.system", laid_posthorn_flag_system)] }
def FlagAddsSaid : Prop := flagAddsRow.holds Tryd.pinned (OpenSpec.ofChange flagAddsSpec)

/-- ITS FALSE NEIGHBOUR: 'it returns false'. Refute it at one input. -/
def flagAddsWrong : ChangeSpec := { name := "flagAdds", fn := fun _ => fun
  | [d1, d2, d3] => { results := [.lit (.bool false)], args := [d1, d2, d3] }
  | _ => none }
def FlagAddsWrongFalsely : Prop := flagAddsRow.holds Tryd.pinned (OpenSpec.ofChange flagAddsWrong)

/-- 'posthornlaw06.FlagBack': WHATEVER THE INPUT: true; the input reads as it did. -/
def flagBackSpec : ChangeSpec := { name := "flagBack", fn := fun _ => fun
  | [d1, d2] => { results := [.lit (.bool true)], args := [d1, d2] }
  | _ => none }
def flagBackRow : OpenClaim := { program := "ytiaggnpkmigbhaadoor", sum := "733a2a3c34f9f163aeba0e96d87c4e2f0f7b47c4e2323b64113bcb933816314f", func := "posthorn/posthornlaw06.FlagBack", spec := "flagBack", inPlace := ["internal/bytealg.IndexByteString", "slices.overlaps[string]", "internal/abi.NoEscape", "internal/bytealg.MakeNoZero", "internal/bytealg.IndexString"], unfollowed := true, recurses := true, named := ["posthorn/flag.system", "internal/bytealg.MaxLen", "unicode/utf8.first", "unicode/utf8.acceptRanges"], apart := false, laid := [("unicode/utf8.acceptRanges", laid_unicode_utf8_acceptRanges), ("posthorn/flag.system", laid_posthorn_flag_system), ("unicode/utf8.first", laid_unicode_utf8_first)] }
def FlagBackSaid : Prop := flagBackRow.holds Tryd.pinned (OpenSpec.ofChange flagBackSpec)

/-- ITS FALSE NEIGHBOUR: 'it returns false'. Refute it at one input. -/
def flagBackWrong : ChangeSpec := { name := "flagBack", fn := fun _ => fun
  | [d1, d2] => { results := [.lit (.bool false)], args := [d1, d2] }
  | _ => none }
def FlagBackWrongFalsely : Prop := flagBackRow.holds Tryd.pinned (OpenSpec.ofChange flagBackWrong)

/- THE SECOND FORM. 'bulk': how many values and letters a reading holds, each counted each time it is reached (what is shared counts as often as it is met; a slice's spare places count too). A statement '..UptoSaid' is the law's where the arguments, and the package variables that the reading takes, are together of bulk at most 1048576: NARROWER than '..Said'. Prove '..Said' where nothing that the law and all that it calls make is longer than what came in: it says more and counts as full. Else prove '..UptoSaid'. A law counts once. -/
mutual
def uptoBulk {H : Type} : DataW H → Nat
  | .lit (.string bytes) => bytes.length + 1
  | .lit _ => 1
  | .nil => 1
  | .ptr d => uptoBulk d + 1
  | .slice elems spare => uptoBulkAll elems + uptoBulkAll spare + 1
  | .agg parts => uptoBulkAll parts + 1
  | .iface _ d => uptoBulk d + 1
  | .map entries => uptoBulkEntries entries + 1
  | .held _ => 1
def uptoBulkAll {H : Type} : List (DataW H) → Nat
  | [] => 0
  | d :: r => uptoBulk d + uptoBulkAll r
def uptoBulkEntries {H : Type} : List (Lit × DataW H) → Nat
  | [] => 0
  | x :: r => uptoBulkEntry x + uptoBulkEntries r
def uptoBulkEntry {H : Type} : Lit × DataW H → Nat
  | (.string bytes, d) => bytes.length + uptoBulk d + 1
  | (_, d) => uptoBulk d + 1
 end
def uptoSmall : (H : Type) → List (DataW H) → Bool := fun _ ds => decide (uptoBulkAll ds ≤ 1048576)
def OpenSpec.upto (s : _root_.Go.ChangeSpec) : _root_.Go.OpenSpec := { _root_.Go.OpenSpec.ofChange s with cond := some uptoSmall }

/-- 'posthornlaw06.FlagNames', WHERE WHAT IT READS IS OF BULK AT MOST 1048576: true; the input reads as it did. -/
def flagNamesUptoRow : OpenClaim := { program := "ytiaggnpkmigbhaadoor", sum := "733a2a3c34f9f163aeba0e96d87c4e2f0f7b47c4e2323b64113bcb933816314f", func := "posthorn/posthornlaw06.FlagNames", spec := "flagNames", inPlace := ["internal/bytealg.IndexByteString", "slices.overlaps[string]", "internal/abi.NoEscape", "internal/bytealg.MakeNoZero"], unfollowed := true, recurses := true, named := ["posthorn/flag.system"], apart := false, laid := [("posthorn/flag.system", laid_posthorn_flag_system)], narrowed := true }
def FlagNamesUptoSaid : Prop := flagNamesUptoRow.holds Tryd.pinned (OpenSpec.upto flagNamesSpec)

/-- 'posthornlaw06.FlagMakes', WHERE WHAT IT READS IS OF BULK AT MOST 1048576: true; the input reads as it did. -/
def flagMakesUptoRow : OpenClaim := { program := "ytiaggnpkmigbhaadoor", sum := "733a2a3c34f9f163aeba0e96d87c4e2f0f7b47c4e2323b64113bcb933816314f", func := "posthorn/posthornlaw06.FlagMakes", spec := "flagMakes", inPlace := ["internal/bytealg.IndexByteString", "slices.overlaps[string]", "internal/abi.NoEscape", "internal/bytealg.MakeNoZero"], unfollowed := true, recurses := true, named := ["posthorn/flag.system"], apart := false, laid := [("posthorn/flag.system", laid_posthorn_flag_system)], narrowed := true }
def FlagMakesUptoSaid : Prop := flagMakesUptoRow.holds Tryd.pinned (OpenSpec.upto flagMakesSpec)

/-- 'posthornlaw06.FlagChanges', WHERE WHAT IT READS IS OF BULK AT MOST 1048576: true; the input reads as it did. -/
def flagChangesUptoRow : OpenClaim := { program := "ytiaggnpkmigbhaadoor", sum := "733a2a3c34f9f163aeba0e96d87c4e2f0f7b47c4e2323b64113bcb933816314f", func := "posthorn/posthornlaw06.FlagChanges", spec := "flagChanges", inPlace := ["internal/bytealg.IndexByteString", "slices.overlaps[string]", "internal/abi.NoEscape", "internal/bytealg.MakeNoZero"], unfollowed := true, recurses := true, named := ["posthorn/flag.system"], apart := false, laid := [("posthorn/flag.system", laid_posthorn_flag_system)], narrowed := true }
def FlagChangesUptoSaid : Prop := flagChangesUptoRow.holds Tryd.pinned (OpenSpec.upto flagChangesSpec)

/-- 'posthornlaw06.FlagLists', WHERE WHAT IT READS IS OF BULK AT MOST 1048576: true; the input reads as it did. -/
def flagListsUptoRow : OpenClaim := { program := "ytiaggnpkmigbhaadoor", sum := "733a2a3c34f9f163aeba0e96d87c4e2f0f7b47c4e2323b64113bcb933816314f", func := "posthorn/posthornlaw06.FlagLists", spec := "flagLists", inPlace := ["internal/bytealg.IndexByteString", "internal/bytealg.IndexString", "slices.overlaps[string]", "internal/abi.NoEscape", "internal/bytealg.MakeNoZero"], unfollowed := true, recurses := true, named := ["internal/bytealg.MaxLen", "unicode/utf8.first", "unicode/utf8.acceptRanges", "posthorn/flag.system"], apart := false, laid := [("unicode/utf8.acceptRanges", laid_unicode_utf8_acceptRanges), ("posthorn/flag.system", laid_posthorn_flag_system), ("unicode/utf8.first", laid_unicode_utf8_first)], narrowed := true }
def FlagListsUptoSaid : Prop := flagListsUptoRow.holds Tryd.pinned (OpenSpec.upto flagListsSpec)

/-- 'posthornlaw06.FlagOnce', WHERE WHAT IT READS IS OF BULK AT MOST 1048576: true; the input reads as it did. -/
def flagOnceUptoRow : OpenClaim := { program := "ytiaggnpkmigbhaadoor", sum := "733a2a3c34f9f163aeba0e96d87c4e2f0f7b47c4e2323b64113bcb933816314f", func := "posthorn/posthornlaw06.FlagOnce", spec := "flagOnce", inPlace := ["internal/bytealg.IndexByteString", "slices.overlaps[string]", "internal/abi.NoEscape", "internal/bytealg.MakeNoZero"], unfollowed := true, recurses := true, named := ["posthorn/flag.system"], apart := false, laid := [("posthorn/flag.system", laid_posthorn_flag_system)], narrowed := true }
def FlagOnceUptoSaid : Prop := flagOnceUptoRow.holds Tryd.pinned (OpenSpec.upto flagOnceSpec)

/-- 'posthornlaw06.FlagAdds', WHERE WHAT IT READS IS OF BULK AT MOST 1048576: true; the input reads as it did. -/
def flagAddsUptoRow : OpenClaim := { program := "ytiaggnpkmigbhaadoor", sum := "733a2a3c34f9f163aeba0e96d87c4e2f0f7b47c4e2323b64113bcb933816314f", func := "posthorn/posthornlaw06.FlagAdds", spec := "flagAdds", inPlace := ["internal/bytealg.IndexByteString", "slices.overlaps[string]", "internal/abi.NoEscape", "internal/bytealg.MakeNoZero"], unfollowed := true, recurses := true, named := ["posthorn/flag.system"], apart := false, laid := [("posthorn/flag.system", laid_posthorn_flag_system)], narrowed := true }
def FlagAddsUptoSaid : Prop := flagAddsUptoRow.holds Tryd.pinned (OpenSpec.upto flagAddsSpec)

/-- 'posthornlaw06.FlagBack', WHERE WHAT IT READS IS OF BULK AT MOST 1048576: true; the input reads as it did. -/
def flagBackUptoRow : OpenClaim := { program := "ytiaggnpkmigbhaadoor", sum := "733a2a3c34f9f163aeba0e96d87c4e2f0f7b47c4e2323b64113bcb933816314f", func := "posthorn/posthornlaw06.FlagBack", spec := "flagBack", inPlace := ["internal/bytealg.IndexByteString", "slices.overlaps[string]", "internal/abi.NoEscape", "internal/bytealg.MakeNoZero", "internal/bytealg.IndexString"], unfollowed := true, recurses := true, named := ["posthorn/flag.system", "internal/bytealg.MaxLen", "unicode/utf8.first", "unicode/utf8.acceptRanges"], apart := false, laid := [("unicode/utf8.acceptRanges", laid_unicode_utf8_acceptRanges), ("posthorn/flag.system", laid_posthorn_flag_system), ("unicode/utf8.first", laid_unicode_utf8_first)], narrowed := true }
def FlagBackUptoSaid : Prop := flagBackUptoRow.holds Tryd.pinned (OpenSpec.upto flagBackSpec)

end Rows
end Go.Proofs.YtiaggnpkmigbhaaDoor
