/-
  DERIVED. GIVEN WITH THE SEED: THE CARDS: each row of YtiaggnpkmigbhaaDoorRows.lean that lists a variable, with what it lists TIED to the program's text (the seventh form; the later family's looks); each row that meets fmt, with fmt's text TOLD by the authors' own Lean function (tested against real Go, not proved from fmt's source: count such statements apart). THE CARD IS WHAT COUNTS. Prove the row's statement (the work); the ties are given (YtiaggnpkmigbhaaDoorTie.lean); close each card by the builder's one call (the guide's Derived/Test/ToyasCard.lean, 'card_holds'). Laid BY PROGRAM, IN A SANDBOX (cutbox-door.mjs). By AI agents, Wed Nov 11 2026. No macro, syntax, notation, axiom, sorry.
-/
import Derived.Test.YtiaggnpkmigbhaaDoorRows
import GoSem.ClaimSeven
namespace Go.Proofs.YtiaggnpkmigbhaaDoor
namespace Rows

/-- THE TIED CARD OF 'posthornlaw06.FlagNames'. -/
def flagNamesCard : Claim7 := { stood := { row := flagNamesRow, standIns := [], harness := (true, "b5240e1d1561553b13be948ce71d89b002bdeb007d5de7fb74be998f45d50660"), looks := false }, kinds := [], alts := [], laidByText := true, laidKinds := [.data], laidTests := true, laidLooks := .later }
def FlagNamesCardSaid : Prop := Claim7.holds Tryd.pinned (.plain (OpenSpec.ofChange flagNamesSpec)) flagNamesCard

/-- THE TIED CARD OF 'posthornlaw06.FlagMakes'. -/
def flagMakesCard : Claim7 := { stood := { row := flagMakesRow, standIns := [], harness := (true, "b5240e1d1561553b13be948ce71d89b002bdeb007d5de7fb74be998f45d50660"), looks := false }, kinds := [], alts := [], laidByText := true, laidKinds := [.data], laidTests := true, laidLooks := .later }
def FlagMakesCardSaid : Prop := Claim7.holds Tryd.pinned (.plain (OpenSpec.ofChange flagMakesSpec)) flagMakesCard

/-- THE TIED CARD OF 'posthornlaw06.FlagChanges'. -/
def flagChangesCard : Claim7 := { stood := { row := flagChangesRow, standIns := [], harness := (true, "b5240e1d1561553b13be948ce71d89b002bdeb007d5de7fb74be998f45d50660"), looks := false }, kinds := [], alts := [], laidByText := true, laidKinds := [.data], laidTests := true, laidLooks := .later }
def FlagChangesCardSaid : Prop := Claim7.holds Tryd.pinned (.plain (OpenSpec.ofChange flagChangesSpec)) flagChangesCard

/-- THE TIED CARD OF 'posthornlaw06.FlagLists'. -/
def flagListsCard : Claim7 := { stood := { row := flagListsRow, standIns := [], harness := (true, "b5240e1d1561553b13be948ce71d89b002bdeb007d5de7fb74be998f45d50660"), looks := false }, kinds := [], alts := [], laidByText := true, laidKinds := [.data, .data, .pinned], laidTests := true, laidLooks := .later }
def FlagListsCardSaid : Prop := Claim7.holds Tryd.pinned (.plain (OpenSpec.ofChange flagListsSpec)) flagListsCard

/-- THE TIED CARD OF 'posthornlaw06.FlagOnce'. -/
def flagOnceCard : Claim7 := { stood := { row := flagOnceRow, standIns := [], harness := (true, "b5240e1d1561553b13be948ce71d89b002bdeb007d5de7fb74be998f45d50660"), looks := false }, kinds := [], alts := [], laidByText := true, laidKinds := [.data], laidTests := true, laidLooks := .later }
def FlagOnceCardSaid : Prop := Claim7.holds Tryd.pinned (.plain (OpenSpec.ofChange flagOnceSpec)) flagOnceCard

/-- THE TIED CARD OF 'posthornlaw06.FlagAdds'. -/
def flagAddsCard : Claim7 := { stood := { row := flagAddsRow, standIns := [], harness := (true, "b5240e1d1561553b13be948ce71d89b002bdeb007d5de7fb74be998f45d50660"), looks := false }, kinds := [], alts := [], laidByText := true, laidKinds := [.data], laidTests := true, laidLooks := .later }
def FlagAddsCardSaid : Prop := Claim7.holds Tryd.pinned (.plain (OpenSpec.ofChange flagAddsSpec)) flagAddsCard

/-- THE TIED CARD OF 'posthornlaw06.FlagBack'. -/
def flagBackCard : Claim7 := { stood := { row := flagBackRow, standIns := [], harness := (true, "b5240e1d1561553b13be948ce71d89b002bdeb007d5de7fb74be998f45d50660"), looks := false }, kinds := [], alts := [], laidByText := true, laidKinds := [.data, .data, .pinned], laidTests := true, laidLooks := .later }
def FlagBackCardSaid : Prop := Claim7.holds Tryd.pinned (.plain (OpenSpec.ofChange flagBackSpec)) flagBackCard

/-- THE SECOND FORM's CARD OF 'posthornlaw06.FlagNames'. -/
def flagNamesUptoCard : Claim7 := { stood := { row := flagNamesUptoRow, standIns := [], harness := (true, "b5240e1d1561553b13be948ce71d89b002bdeb007d5de7fb74be998f45d50660"), looks := false }, kinds := [], alts := [], laidByText := true, laidKinds := [.data], laidTests := true, laidLooks := .later }
def FlagNamesUptoCardSaid : Prop := Claim7.holds Tryd.pinned (.plain (OpenSpec.upto flagNamesSpec)) flagNamesUptoCard

/-- THE SECOND FORM's CARD OF 'posthornlaw06.FlagMakes'. -/
def flagMakesUptoCard : Claim7 := { stood := { row := flagMakesUptoRow, standIns := [], harness := (true, "b5240e1d1561553b13be948ce71d89b002bdeb007d5de7fb74be998f45d50660"), looks := false }, kinds := [], alts := [], laidByText := true, laidKinds := [.data], laidTests := true, laidLooks := .later }
def FlagMakesUptoCardSaid : Prop := Claim7.holds Tryd.pinned (.plain (OpenSpec.upto flagMakesSpec)) flagMakesUptoCard

/-- THE SECOND FORM's CARD OF 'posthornlaw06.FlagChanges'. -/
def flagChangesUptoCard : Claim7 := { stood := { row := flagChangesUptoRow, standIns := [], harness := (true, "b5240e1d1561553b13be948ce71d89b002bdeb007d5de7fb74be998f45d50660"), looks := false }, kinds := [], alts := [], laidByText := true, laidKinds := [.data], laidTests := true, laidLooks := .later }
def FlagChangesUptoCardSaid : Prop := Claim7.holds Tryd.pinned (.plain (OpenSpec.upto flagChangesSpec)) flagChangesUptoCard

/-- THE SECOND FORM's CARD OF 'posthornlaw06.FlagLists'. -/
def flagListsUptoCard : Claim7 := { stood := { row := flagListsUptoRow, standIns := [], harness := (true, "b5240e1d1561553b13be948ce71d89b002bdeb007d5de7fb74be998f45d50660"), looks := false }, kinds := [], alts := [], laidByText := true, laidKinds := [.data, .data, .pinned], laidTests := true, laidLooks := .later }
def FlagListsUptoCardSaid : Prop := Claim7.holds Tryd.pinned (.plain (OpenSpec.upto flagListsSpec)) flagListsUptoCard

/-- THE SECOND FORM's CARD OF 'posthornlaw06.FlagOnce'. -/
def flagOnceUptoCard : Claim7 := { stood := { row := flagOnceUptoRow, standIns := [], harness := (true, "b5240e1d1561553b13be948ce71d89b002bdeb007d5de7fb74be998f45d50660"), looks := false }, kinds := [], alts := [], laidByText := true, laidKinds := [.data], laidTests := true, laidLooks := .later }
def FlagOnceUptoCardSaid : Prop := Claim7.holds Tryd.pinned (.plain (OpenSpec.upto flagOnceSpec)) flagOnceUptoCard

/-- THE SECOND FORM's CARD OF 'posthornlaw06.FlagAdds'. -/
def flagAddsUptoCard : Claim7 := { stood := { row := flagAddsUptoRow, standIns := [], harness := (true, "b5240e1d1561553b13be948ce71d89b002bdeb007d5de7fb74be998f45d50660"), looks := false }, kinds := [], alts := [], laidByText := true, laidKinds := [.data], laidTests := true, laidLooks := .later }
def FlagAddsUptoCardSaid : Prop := Claim7.holds Tryd.pinned (.plain (OpenSpec.upto flagAddsSpec)) flagAddsUptoCard

/-- THE SECOND FORM's CARD OF 'posthornlaw06.FlagBack'. -/
def flagBackUptoCard : Claim7 := { stood := { row := flagBackUptoRow, standIns := [], harness := (true, "b5240e1d1561553b13be948ce71d89b002bdeb007d5de7fb74be998f45d50660"), looks := false }, kinds := [], alts := [], laidByText := true, laidKinds := [.data, .data, .pinned], laidTests := true, laidLooks := .later }
def FlagBackUptoCardSaid : Prop := Claim7.holds Tryd.pinned (.plain (OpenSpec.upto flagBackSpec)) flagBackUptoCard
end Rows
end Go.Proofs.YtiaggnpkmigbhaaDoor
