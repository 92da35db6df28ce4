/-
  DERIVED. GIVEN WITH THE SEED: THE CARDS: each row of YtecemfebbonkpaaDoorRows.lean that lists a variable, with what it lists TIED to the program's text (the seventh form; the later family's looks); each row that meets fmt, with fmt's text TOLD by the authors' own Lean function (tested against real Go, not proved from fmt's source: count such statements apart). THE CARD IS WHAT COUNTS. Prove the row's statement (the work); the ties are given (YtecemfebbonkpaaDoorTie.lean); close each card by the builder's one call (the guide's Derived/Test/ToyasCard.lean, 'card_holds'). Laid BY PROGRAM, IN A SANDBOX (cutbox-door.mjs). By AI agents, Wed Nov 11 2026. No macro, syntax, notation, axiom, sorry.
-/
import Derived.Test.YtecemfebbonkpaaDoorRows
import GoSem.ClaimSeven
namespace Go.Proofs.YtecemfebbonkpaaDoor
namespace Rows

/-- THE TIED CARD OF 'posthornlaw10.PartSplits'. -/
def partSplitsCard : Claim7 := { stood := { row := partSplitsRow, standIns := [], harness := (true, "3dcec8714b1c77981c9001f9bbf1229f2aa79d04a938d4d61d39b3dfeab4faca"), looks := false }, kinds := [], alts := [], laidByText := true, laidKinds := [.data, .pinned], laidTests := true, laidLooks := .later }
def PartSplitsCardSaid : Prop := Claim7.holds Tryd.pinned (.plain (OpenSpec.ofChange partSplitsSpec)) partSplitsCard

/-- THE TIED CARD OF 'posthornlaw10.PartFields'. -/
def partFieldsCard : Claim7 := { stood := { row := partFieldsRow, standIns := [], harness := (true, "3dcec8714b1c77981c9001f9bbf1229f2aa79d04a938d4d61d39b3dfeab4faca"), looks := false }, kinds := [], alts := [], laidByText := true, laidKinds := [.data, .pinned], laidTests := true, laidLooks := .later }
def PartFieldsCardSaid : Prop := Claim7.holds Tryd.pinned (.plain (OpenSpec.ofChange partFieldsSpec)) partFieldsCard

/-- THE TIED CARD OF 'posthornlaw10.PartHolds'. -/
def partHoldsCard : Claim7 := { stood := { row := partHoldsRow, standIns := [], harness := (true, "3dcec8714b1c77981c9001f9bbf1229f2aa79d04a938d4d61d39b3dfeab4faca"), looks := false }, kinds := [], alts := [], laidByText := true, laidKinds := [.data, .pinned], laidTests := true, laidLooks := .later }
def PartHoldsCardSaid : Prop := Claim7.holds Tryd.pinned (.plain (OpenSpec.ofChange partHoldsSpec)) partHoldsCard

/-- THE TIED CARD OF 'posthornlaw10.PartWhole'. -/
def partWholeCard : Claim7 := { stood := { row := partWholeRow, standIns := [], harness := (true, "3dcec8714b1c77981c9001f9bbf1229f2aa79d04a938d4d61d39b3dfeab4faca"), looks := false }, kinds := [], alts := [], laidByText := true, laidKinds := [.data, .pinned], laidTests := true, laidLooks := .later }
def PartWholeCardSaid : Prop := Claim7.holds Tryd.pinned (.plain (OpenSpec.ofChange partWholeSpec)) partWholeCard

/-- THE TIED CARD OF 'posthornlaw10.PartFirst'. -/
def partFirstCard : Claim7 := { stood := { row := partFirstRow, standIns := [], harness := (true, "3dcec8714b1c77981c9001f9bbf1229f2aa79d04a938d4d61d39b3dfeab4faca"), looks := false }, kinds := [], alts := [], laidByText := true, laidKinds := [.data, .pinned], laidTests := true, laidLooks := .later }
def PartFirstCardSaid : Prop := Claim7.holds Tryd.pinned (.plain (OpenSpec.ofChange partFirstSpec)) partFirstCard

/-- THE SECOND FORM's CARD OF 'posthornlaw10.PartSplits'. -/
def partSplitsUptoCard : Claim7 := { stood := { row := partSplitsUptoRow, standIns := [], harness := (true, "3dcec8714b1c77981c9001f9bbf1229f2aa79d04a938d4d61d39b3dfeab4faca"), looks := false }, kinds := [], alts := [], laidByText := true, laidKinds := [.data, .pinned], laidTests := true, laidLooks := .later }
def PartSplitsUptoCardSaid : Prop := Claim7.holds Tryd.pinned (.plain (OpenSpec.upto partSplitsSpec)) partSplitsUptoCard

/-- THE SECOND FORM's CARD OF 'posthornlaw10.PartFields'. -/
def partFieldsUptoCard : Claim7 := { stood := { row := partFieldsUptoRow, standIns := [], harness := (true, "3dcec8714b1c77981c9001f9bbf1229f2aa79d04a938d4d61d39b3dfeab4faca"), looks := false }, kinds := [], alts := [], laidByText := true, laidKinds := [.data, .pinned], laidTests := true, laidLooks := .later }
def PartFieldsUptoCardSaid : Prop := Claim7.holds Tryd.pinned (.plain (OpenSpec.upto partFieldsSpec)) partFieldsUptoCard

/-- THE SECOND FORM's CARD OF 'posthornlaw10.PartHolds'. -/
def partHoldsUptoCard : Claim7 := { stood := { row := partHoldsUptoRow, standIns := [], harness := (true, "3dcec8714b1c77981c9001f9bbf1229f2aa79d04a938d4d61d39b3dfeab4faca"), looks := false }, kinds := [], alts := [], laidByText := true, laidKinds := [.data, .pinned], laidTests := true, laidLooks := .later }
def PartHoldsUptoCardSaid : Prop := Claim7.holds Tryd.pinned (.plain (OpenSpec.upto partHoldsSpec)) partHoldsUptoCard

/-- THE SECOND FORM's CARD OF 'posthornlaw10.PartWhole'. -/
def partWholeUptoCard : Claim7 := { stood := { row := partWholeUptoRow, standIns := [], harness := (true, "3dcec8714b1c77981c9001f9bbf1229f2aa79d04a938d4d61d39b3dfeab4faca"), looks := false }, kinds := [], alts := [], laidByText := true, laidKinds := [.data, .pinned], laidTests := true, laidLooks := .later }
def PartWholeUptoCardSaid : Prop := Claim7.holds Tryd.pinned (.plain (OpenSpec.upto partWholeSpec)) partWholeUptoCard

/-- THE SECOND FORM's CARD OF 'posthornlaw10.PartFirst'. -/
def partFirstUptoCard : Claim7 := { stood := { row := partFirstUptoRow, standIns := [], harness := (true, "3dcec8714b1c77981c9001f9bbf1229f2aa79d04a938d4d61d39b3dfeab4faca"), looks := false }, kinds := [], alts := [], laidByText := true, laidKinds := [.data, .pinned], laidTests := true, laidLooks := .later }
def PartFirstUptoCardSaid : Prop := Claim7.holds Tryd.pinned (.plain (OpenSpec.upto partFirstSpec)) partFirstUptoCard
end Rows
end Go.Proofs.YtecemfebbonkpaaDoor
