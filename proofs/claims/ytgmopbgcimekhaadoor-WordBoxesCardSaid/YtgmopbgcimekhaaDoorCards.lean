/-
  DERIVED. GIVEN WITH THE SEED: THE CARDS: each row of YtgmopbgcimekhaaDoorRows.lean that lists a variable, with what it lists TIED to the program's text (the seventh form; the later family's looks); each row that meets fmt, with fmt's text TOLD by the authors' own Lean function (tested against real Go, not proved from fmt's source: count such statements apart). THE CARD IS WHAT COUNTS. Prove the row's statement (the work); the ties are given (YtgmopbgcimekhaaDoorTie.lean); close each card by the builder's one call (the guide's Derived/Test/ToyasCard.lean, 'card_holds'). Laid BY PROGRAM, IN A SANDBOX (cutbox-door.mjs). By AI agents, Wed Nov 11 2026. No macro, syntax, notation, axiom, sorry.
-/
import Derived.Test.YtgmopbgcimekhaaDoorRows
import GoSem.ClaimSeven
namespace Go.Proofs.YtgmopbgcimekhaaDoor
namespace Rows

/-- THE TIED CARD OF 'posthornlaw04.WordAtoms'. -/
def wordAtomsCard : Claim7 := { stood := { row := wordAtomsRow, standIns := [], harness := (true, "de1186f1a4e816d8a1fe5d18917e15b962959c06074ee3d88fb26d5a68806739"), looks := true }, kinds := [], alts := [], laidByText := true, laidKinds := [.data, .data, .data, .sentinel, .sentinel], laidTests := true, laidLooks := .later }
def WordAtomsCardSaid : Prop := Claim7.holds Tryd.pinned (.plain (OpenSpec.ofChange wordAtomsSpec)) wordAtomsCard

/-- THE TIED CARD OF 'posthornlaw04.WordQuotes'. -/
def wordQuotesCard : Claim7 := { stood := { row := wordQuotesRow, standIns := [], harness := (true, "de1186f1a4e816d8a1fe5d18917e15b962959c06074ee3d88fb26d5a68806739"), looks := true }, kinds := [], alts := [], laidByText := true, laidKinds := [.data, .data, .data], laidTests := true, laidLooks := .later }
def WordQuotesCardSaid : Prop := Claim7.holds Tryd.pinned (.plain (OpenSpec.ofChange wordQuotesSpec)) wordQuotesCard

/-- THE TIED CARD OF 'posthornlaw04.WordForms'. -/
def wordFormsCard : Claim7 := { stood := { row := wordFormsRow, standIns := [], harness := (true, "de1186f1a4e816d8a1fe5d18917e15b962959c06074ee3d88fb26d5a68806739"), looks := true }, kinds := [], alts := [], laidByText := true, laidKinds := [.data, .data, .data], laidTests := true, laidLooks := .later }
def WordFormsCardSaid : Prop := Claim7.holds Tryd.pinned (.plain (OpenSpec.ofChange wordFormsSpec)) wordFormsCard

/-- THE TIED CARD OF 'posthornlaw04.WordBack'. -/
def wordBackCard : Claim7 := { stood := { row := wordBackRow, standIns := [], harness := (true, "de1186f1a4e816d8a1fe5d18917e15b962959c06074ee3d88fb26d5a68806739"), looks := true }, kinds := [], alts := [], laidByText := true, laidKinds := [.data, .data, .data], laidTests := true, laidLooks := .later }
def WordBackCardSaid : Prop := Claim7.holds Tryd.pinned (.plain (OpenSpec.ofChange wordBackSpec)) wordBackCard

/-- THE TIED CARD OF 'posthornlaw04.WordNumbers'. -/
def wordNumbersCard : Claim7 := { stood := { row := wordNumbersRow, standIns := [], harness := (true, "de1186f1a4e816d8a1fe5d18917e15b962959c06074ee3d88fb26d5a68806739"), looks := true }, kinds := [], alts := [], laidByText := true, laidKinds := [.data, .data, .data, .sentinel, .sentinel], laidTests := true, laidLooks := .later }
def WordNumbersCardSaid : Prop := Claim7.holds Tryd.pinned (.plain (OpenSpec.ofChange wordNumbersSpec)) wordNumbersCard

/-- THE TIED CARD OF 'posthornlaw04.WordBoxes'. -/
def wordBoxesCard : Claim7 := { stood := { row := wordBoxesRow, standIns := [], harness := (true, "de1186f1a4e816d8a1fe5d18917e15b962959c06074ee3d88fb26d5a68806739"), looks := true }, kinds := [], alts := [], laidByText := true, laidKinds := [.data, .data, .data], laidTests := true, laidLooks := .later }
def WordBoxesCardSaid : Prop := Claim7.holds Tryd.pinned (.plain (OpenSpec.ofChange wordBoxesSpec)) wordBoxesCard

/-- THE SECOND FORM's CARD OF 'posthornlaw04.WordAtoms'. -/
def wordAtomsUptoCard : Claim7 := { stood := { row := wordAtomsUptoRow, standIns := [], harness := (true, "de1186f1a4e816d8a1fe5d18917e15b962959c06074ee3d88fb26d5a68806739"), looks := true }, kinds := [], alts := [], laidByText := true, laidKinds := [.data, .data, .data, .sentinel, .sentinel], laidTests := true, laidLooks := .later }
def WordAtomsUptoCardSaid : Prop := Claim7.holds Tryd.pinned (.plain (OpenSpec.upto wordAtomsSpec)) wordAtomsUptoCard

/-- THE SECOND FORM's CARD OF 'posthornlaw04.WordQuotes'. -/
def wordQuotesUptoCard : Claim7 := { stood := { row := wordQuotesUptoRow, standIns := [], harness := (true, "de1186f1a4e816d8a1fe5d18917e15b962959c06074ee3d88fb26d5a68806739"), looks := true }, kinds := [], alts := [], laidByText := true, laidKinds := [.data, .data, .data], laidTests := true, laidLooks := .later }
def WordQuotesUptoCardSaid : Prop := Claim7.holds Tryd.pinned (.plain (OpenSpec.upto wordQuotesSpec)) wordQuotesUptoCard

/-- THE SECOND FORM's CARD OF 'posthornlaw04.WordForms'. -/
def wordFormsUptoCard : Claim7 := { stood := { row := wordFormsUptoRow, standIns := [], harness := (true, "de1186f1a4e816d8a1fe5d18917e15b962959c06074ee3d88fb26d5a68806739"), looks := true }, kinds := [], alts := [], laidByText := true, laidKinds := [.data, .data, .data], laidTests := true, laidLooks := .later }
def WordFormsUptoCardSaid : Prop := Claim7.holds Tryd.pinned (.plain (OpenSpec.upto wordFormsSpec)) wordFormsUptoCard

/-- THE SECOND FORM's CARD OF 'posthornlaw04.WordBack'. -/
def wordBackUptoCard : Claim7 := { stood := { row := wordBackUptoRow, standIns := [], harness := (true, "de1186f1a4e816d8a1fe5d18917e15b962959c06074ee3d88fb26d5a68806739"), looks := true }, kinds := [], alts := [], laidByText := true, laidKinds := [.data, .data, .data], laidTests := true, laidLooks := .later }
def WordBackUptoCardSaid : Prop := Claim7.holds Tryd.pinned (.plain (OpenSpec.upto wordBackSpec)) wordBackUptoCard

/-- THE SECOND FORM's CARD OF 'posthornlaw04.WordNumbers'. -/
def wordNumbersUptoCard : Claim7 := { stood := { row := wordNumbersUptoRow, standIns := [], harness := (true, "de1186f1a4e816d8a1fe5d18917e15b962959c06074ee3d88fb26d5a68806739"), looks := true }, kinds := [], alts := [], laidByText := true, laidKinds := [.data, .data, .data, .sentinel, .sentinel], laidTests := true, laidLooks := .later }
def WordNumbersUptoCardSaid : Prop := Claim7.holds Tryd.pinned (.plain (OpenSpec.upto wordNumbersSpec)) wordNumbersUptoCard

/-- THE SECOND FORM's CARD OF 'posthornlaw04.WordBoxes'. -/
def wordBoxesUptoCard : Claim7 := { stood := { row := wordBoxesUptoRow, standIns := [], harness := (true, "de1186f1a4e816d8a1fe5d18917e15b962959c06074ee3d88fb26d5a68806739"), looks := true }, kinds := [], alts := [], laidByText := true, laidKinds := [.data, .data, .data], laidTests := true, laidLooks := .later }
def WordBoxesUptoCardSaid : Prop := Claim7.holds Tryd.pinned (.plain (OpenSpec.upto wordBoxesSpec)) wordBoxesUptoCard
end Rows
end Go.Proofs.YtgmopbgcimekhaaDoor
