/-
  DERIVED. GIVEN WITH THE SEED: THE CARDS: each row of YtbaeillecojilaaDoorRows.lean that lists a variable, with what it lists TIED to the program's text (the seventh form; the later family's looks); each row that meets fmt, with fmt's text TOLD by the authors' own Lean function (tested against real Go, not proved from fmt's source: count such statements apart). THE CARD IS WHAT COUNTS. Prove the row's statement (the work); the ties are given (YtbaeillecojilaaDoorTie.lean); close each card by the builder's one call (the guide's Derived/Test/ToyasCard.lean, 'card_holds'). Laid BY PROGRAM, IN A SANDBOX (cutbox-door.mjs). By AI agents, Wed Nov 11 2026. No macro, syntax, notation, axiom, sorry.
-/
import Derived.Test.YtbaeillecojilaaDoorRows
import GoSem.ClaimSeven
namespace Go.Proofs.YtbaeillecojilaaDoor
namespace Rows

/-- THE TIED CARD OF 'posthornlaw05.SeqsetReads'. -/
def seqsetReadsCard : Claim7 := { stood := { row := seqsetReadsRow, standIns := [], harness := (true, "742c22ac80c33194bcd2a4d9fd843668c06a58e91d9e37eb5daf527c3d0397f3"), looks := true }, kinds := [], alts := [], laidByText := true, laidKinds := [.data, .data, .data, .data, .sentinel, .sentinel, .pinned], laidTests := true, laidLooks := .later }
def SeqsetReadsCardSaid : Prop := Claim7.holds Tryd.pinned (.plain (OpenSpec.ofChange seqsetReadsSpec)) seqsetReadsCard

/-- THE TIED CARD OF 'posthornlaw05.SeqsetWrites'. -/
def seqsetWritesCard : Claim7 := { stood := { row := seqsetWritesRow, standIns := [], harness := (true, "742c22ac80c33194bcd2a4d9fd843668c06a58e91d9e37eb5daf527c3d0397f3"), looks := true }, kinds := [], alts := [], laidByText := true, laidKinds := [.data, .data, .data, .data, .sentinel, .sentinel, .pinned], laidTests := true, laidLooks := .later }
def SeqsetWritesCardSaid : Prop := Claim7.holds Tryd.pinned (.plain (OpenSpec.ofChange seqsetWritesSpec)) seqsetWritesCard

/-- THE TIED CARD OF 'posthornlaw05.SeqsetHolds'. -/
def seqsetHoldsCard : Claim7 := { stood := { row := seqsetHoldsRow, standIns := [], harness := (true, "742c22ac80c33194bcd2a4d9fd843668c06a58e91d9e37eb5daf527c3d0397f3"), looks := true }, kinds := [], alts := [], laidByText := true, laidKinds := [.data, .data, .data, .data, .sentinel, .sentinel, .pinned], laidTests := true, laidLooks := .later }
def SeqsetHoldsCardSaid : Prop := Claim7.holds Tryd.pinned (.plain (OpenSpec.ofChange seqsetHoldsSpec)) seqsetHoldsCard

/-- THE TIED CARD OF 'posthornlaw05.SeqsetNorms'. -/
def seqsetNormsCard : Claim7 := { stood := { row := seqsetNormsRow, standIns := [], harness := (true, "742c22ac80c33194bcd2a4d9fd843668c06a58e91d9e37eb5daf527c3d0397f3"), looks := true }, kinds := [], alts := [], laidByText := true, laidKinds := [.data, .data, .data, .data, .sentinel, .sentinel, .pinned], laidTests := true, laidLooks := .later }
def SeqsetNormsCardSaid : Prop := Claim7.holds Tryd.pinned (.plain (OpenSpec.ofChange seqsetNormsSpec)) seqsetNormsCard

/-- THE TIED CARD OF 'posthornlaw05.SeqsetBack'. -/
def seqsetBackCard : Claim7 := { stood := { row := seqsetBackRow, standIns := [], harness := (true, "742c22ac80c33194bcd2a4d9fd843668c06a58e91d9e37eb5daf527c3d0397f3"), looks := true }, kinds := [], alts := [], laidByText := true, laidKinds := [.data, .data, .data, .data, .sentinel, .sentinel, .pinned], laidTests := true, laidLooks := .later }
def SeqsetBackCardSaid : Prop := Claim7.holds Tryd.pinned (.plain (OpenSpec.ofChange seqsetBackSpec)) seqsetBackCard

/-- THE TIED CARD OF 'posthornlaw05.SeqsetFew'. -/
def seqsetFewCard : Claim7 := { stood := { row := seqsetFewRow, standIns := [], harness := (true, "742c22ac80c33194bcd2a4d9fd843668c06a58e91d9e37eb5daf527c3d0397f3"), looks := true }, kinds := [], alts := [], laidByText := true, laidKinds := [.data, .data, .data, .data, .sentinel, .sentinel, .pinned], laidTests := true, laidLooks := .later }
def SeqsetFewCardSaid : Prop := Claim7.holds Tryd.pinned (.plain (OpenSpec.ofChange seqsetFewSpec)) seqsetFewCard

/-- THE TIED CARD OF 'posthornlaw05.SeqsetTurned'. -/
def seqsetTurnedCard : Claim7 := { stood := { row := seqsetTurnedRow, standIns := [], harness := (true, "742c22ac80c33194bcd2a4d9fd843668c06a58e91d9e37eb5daf527c3d0397f3"), looks := true }, kinds := [], alts := [], laidByText := true, laidKinds := [.data, .data, .data, .data, .sentinel, .sentinel, .pinned], laidTests := true, laidLooks := .later }
def SeqsetTurnedCardSaid : Prop := Claim7.holds Tryd.pinned (.plain (OpenSpec.ofChange seqsetTurnedSpec)) seqsetTurnedCard

/-- THE SECOND FORM's CARD OF 'posthornlaw05.SeqsetReads'. -/
def seqsetReadsUptoCard : Claim7 := { stood := { row := seqsetReadsUptoRow, standIns := [], harness := (true, "742c22ac80c33194bcd2a4d9fd843668c06a58e91d9e37eb5daf527c3d0397f3"), looks := true }, kinds := [], alts := [], laidByText := true, laidKinds := [.data, .data, .data, .data, .sentinel, .sentinel, .pinned], laidTests := true, laidLooks := .later }
def SeqsetReadsUptoCardSaid : Prop := Claim7.holds Tryd.pinned (.plain (OpenSpec.upto seqsetReadsSpec)) seqsetReadsUptoCard

/-- THE SECOND FORM's CARD OF 'posthornlaw05.SeqsetWrites'. -/
def seqsetWritesUptoCard : Claim7 := { stood := { row := seqsetWritesUptoRow, standIns := [], harness := (true, "742c22ac80c33194bcd2a4d9fd843668c06a58e91d9e37eb5daf527c3d0397f3"), looks := true }, kinds := [], alts := [], laidByText := true, laidKinds := [.data, .data, .data, .data, .sentinel, .sentinel, .pinned], laidTests := true, laidLooks := .later }
def SeqsetWritesUptoCardSaid : Prop := Claim7.holds Tryd.pinned (.plain (OpenSpec.upto seqsetWritesSpec)) seqsetWritesUptoCard

/-- THE SECOND FORM's CARD OF 'posthornlaw05.SeqsetHolds'. -/
def seqsetHoldsUptoCard : Claim7 := { stood := { row := seqsetHoldsUptoRow, standIns := [], harness := (true, "742c22ac80c33194bcd2a4d9fd843668c06a58e91d9e37eb5daf527c3d0397f3"), looks := true }, kinds := [], alts := [], laidByText := true, laidKinds := [.data, .data, .data, .data, .sentinel, .sentinel, .pinned], laidTests := true, laidLooks := .later }
def SeqsetHoldsUptoCardSaid : Prop := Claim7.holds Tryd.pinned (.plain (OpenSpec.upto seqsetHoldsSpec)) seqsetHoldsUptoCard

/-- THE SECOND FORM's CARD OF 'posthornlaw05.SeqsetNorms'. -/
def seqsetNormsUptoCard : Claim7 := { stood := { row := seqsetNormsUptoRow, standIns := [], harness := (true, "742c22ac80c33194bcd2a4d9fd843668c06a58e91d9e37eb5daf527c3d0397f3"), looks := true }, kinds := [], alts := [], laidByText := true, laidKinds := [.data, .data, .data, .data, .sentinel, .sentinel, .pinned], laidTests := true, laidLooks := .later }
def SeqsetNormsUptoCardSaid : Prop := Claim7.holds Tryd.pinned (.plain (OpenSpec.upto seqsetNormsSpec)) seqsetNormsUptoCard

/-- THE SECOND FORM's CARD OF 'posthornlaw05.SeqsetBack'. -/
def seqsetBackUptoCard : Claim7 := { stood := { row := seqsetBackUptoRow, standIns := [], harness := (true, "742c22ac80c33194bcd2a4d9fd843668c06a58e91d9e37eb5daf527c3d0397f3"), looks := true }, kinds := [], alts := [], laidByText := true, laidKinds := [.data, .data, .data, .data, .sentinel, .sentinel, .pinned], laidTests := true, laidLooks := .later }
def SeqsetBackUptoCardSaid : Prop := Claim7.holds Tryd.pinned (.plain (OpenSpec.upto seqsetBackSpec)) seqsetBackUptoCard

/-- THE SECOND FORM's CARD OF 'posthornlaw05.SeqsetFew'. -/
def seqsetFewUptoCard : Claim7 := { stood := { row := seqsetFewUptoRow, standIns := [], harness := (true, "742c22ac80c33194bcd2a4d9fd843668c06a58e91d9e37eb5daf527c3d0397f3"), looks := true }, kinds := [], alts := [], laidByText := true, laidKinds := [.data, .data, .data, .data, .sentinel, .sentinel, .pinned], laidTests := true, laidLooks := .later }
def SeqsetFewUptoCardSaid : Prop := Claim7.holds Tryd.pinned (.plain (OpenSpec.upto seqsetFewSpec)) seqsetFewUptoCard

/-- THE SECOND FORM's CARD OF 'posthornlaw05.SeqsetTurned'. -/
def seqsetTurnedUptoCard : Claim7 := { stood := { row := seqsetTurnedUptoRow, standIns := [], harness := (true, "742c22ac80c33194bcd2a4d9fd843668c06a58e91d9e37eb5daf527c3d0397f3"), looks := true }, kinds := [], alts := [], laidByText := true, laidKinds := [.data, .data, .data, .data, .sentinel, .sentinel, .pinned], laidTests := true, laidLooks := .later }
def SeqsetTurnedUptoCardSaid : Prop := Claim7.holds Tryd.pinned (.plain (OpenSpec.upto seqsetTurnedSpec)) seqsetTurnedUptoCard
end Rows
end Go.Proofs.YtbaeillecojilaaDoor
