/-
  DERIVED. GIVEN WITH THE SEED: THE CARDS: each row of YtnpikjobjmffgaaDoorRows.lean that lists a variable, with what it lists TIED to the program's text (the seventh form; the later family's looks); each row that meets fmt, with fmt's text TOLD by the authors' own Lean function (tested against real Go, not proved from fmt's source: count such statements apart). THE CARD IS WHAT COUNTS. Prove the row's statement (the work); the ties are given (YtnpikjobjmffgaaDoorTie.lean); close each card by the builder's one call (the guide's Derived/Test/ToyasCard.lean, 'card_holds'). Laid BY PROGRAM, IN A SANDBOX (cutbox-door.mjs). By AI agents, Wed Nov 11 2026. No macro, syntax, notation, axiom, sorry.
-/
import Derived.Test.YtnpikjobjmffgaaDoorRows
import GoSem.ClaimSeven
namespace Go.Proofs.YtnpikjobjmffgaaDoor
namespace Rows

/-- THE TIED CARD OF 'posthornlaw07.LinesHears'. -/
def linesHearsCard : Claim7 := { stood := { row := linesHearsRow, standIns := [], harness := (true, "5565831503f5ceec90e360415dd711cc831b195258951d24fc81408cd75ec2d3"), looks := true }, kinds := [], alts := [], laidByText := true, laidKinds := [.data, .data, .data, .sentinel, .sentinel], laidTests := true, laidLooks := .later }
def LinesHearsCardSaid : Prop := Claim7.holds Tryd.pinned (.plain (OpenSpec.ofChange linesHearsSpec)) linesHearsCard

/-- THE TIED CARD OF 'posthornlaw07.LinesPieces'. -/
def linesPiecesCard : Claim7 := { stood := { row := linesPiecesRow, standIns := [], harness := (true, "5565831503f5ceec90e360415dd711cc831b195258951d24fc81408cd75ec2d3"), looks := true }, kinds := [], alts := [], laidByText := true, laidKinds := [.data, .data, .data, .sentinel, .sentinel], laidTests := true, laidLooks := .later }
def LinesPiecesCardSaid : Prop := Claim7.holds Tryd.pinned (.plain (OpenSpec.ofChange linesPiecesSpec)) linesPiecesCard

/-- THE TIED CARD OF 'posthornlaw07.LinesBack'. -/
def linesBackCard : Claim7 := { stood := { row := linesBackRow, standIns := [], harness := (true, "5565831503f5ceec90e360415dd711cc831b195258951d24fc81408cd75ec2d3"), looks := true }, kinds := [], alts := [], laidByText := true, laidKinds := [.data, .data, .data, .sentinel, .sentinel], laidTests := true, laidLooks := .later }
def LinesBackCardSaid : Prop := Claim7.holds Tryd.pinned (.plain (OpenSpec.ofChange linesBackSpec)) linesBackCard

/-- THE TIED CARD OF 'posthornlaw07.LinesBound'. -/
def linesBoundCard : Claim7 := { stood := { row := linesBoundRow, standIns := [], harness := (true, "5565831503f5ceec90e360415dd711cc831b195258951d24fc81408cd75ec2d3"), looks := true }, kinds := [], alts := [], laidByText := true, laidKinds := [.data, .data, .data, .sentinel, .sentinel], laidTests := true, laidLooks := .later }
def LinesBoundCardSaid : Prop := Claim7.holds Tryd.pinned (.plain (OpenSpec.ofChange linesBoundSpec)) linesBoundCard

/-- THE TIED CARD OF 'posthornlaw07.LinesTwins'. -/
def linesTwinsCard : Claim7 := { stood := { row := linesTwinsRow, standIns := [], harness := (true, "5565831503f5ceec90e360415dd711cc831b195258951d24fc81408cd75ec2d3"), looks := true }, kinds := [], alts := [], laidByText := true, laidKinds := [.data, .data, .data, .sentinel, .sentinel], laidTests := true, laidLooks := .later }
def LinesTwinsCardSaid : Prop := Claim7.holds Tryd.pinned (.plain (OpenSpec.ofChange linesTwinsSpec)) linesTwinsCard

/-- THE SECOND FORM's CARD OF 'posthornlaw07.LinesHears'. -/
def linesHearsUptoCard : Claim7 := { stood := { row := linesHearsUptoRow, standIns := [], harness := (true, "5565831503f5ceec90e360415dd711cc831b195258951d24fc81408cd75ec2d3"), looks := true }, kinds := [], alts := [], laidByText := true, laidKinds := [.data, .data, .data, .sentinel, .sentinel], laidTests := true, laidLooks := .later }
def LinesHearsUptoCardSaid : Prop := Claim7.holds Tryd.pinned (.plain (OpenSpec.upto linesHearsSpec)) linesHearsUptoCard

/-- THE SECOND FORM's CARD OF 'posthornlaw07.LinesPieces'. -/
def linesPiecesUptoCard : Claim7 := { stood := { row := linesPiecesUptoRow, standIns := [], harness := (true, "5565831503f5ceec90e360415dd711cc831b195258951d24fc81408cd75ec2d3"), looks := true }, kinds := [], alts := [], laidByText := true, laidKinds := [.data, .data, .data, .sentinel, .sentinel], laidTests := true, laidLooks := .later }
def LinesPiecesUptoCardSaid : Prop := Claim7.holds Tryd.pinned (.plain (OpenSpec.upto linesPiecesSpec)) linesPiecesUptoCard

/-- THE SECOND FORM's CARD OF 'posthornlaw07.LinesBack'. -/
def linesBackUptoCard : Claim7 := { stood := { row := linesBackUptoRow, standIns := [], harness := (true, "5565831503f5ceec90e360415dd711cc831b195258951d24fc81408cd75ec2d3"), looks := true }, kinds := [], alts := [], laidByText := true, laidKinds := [.data, .data, .data, .sentinel, .sentinel], laidTests := true, laidLooks := .later }
def LinesBackUptoCardSaid : Prop := Claim7.holds Tryd.pinned (.plain (OpenSpec.upto linesBackSpec)) linesBackUptoCard

/-- THE SECOND FORM's CARD OF 'posthornlaw07.LinesBound'. -/
def linesBoundUptoCard : Claim7 := { stood := { row := linesBoundUptoRow, standIns := [], harness := (true, "5565831503f5ceec90e360415dd711cc831b195258951d24fc81408cd75ec2d3"), looks := true }, kinds := [], alts := [], laidByText := true, laidKinds := [.data, .data, .data, .sentinel, .sentinel], laidTests := true, laidLooks := .later }
def LinesBoundUptoCardSaid : Prop := Claim7.holds Tryd.pinned (.plain (OpenSpec.upto linesBoundSpec)) linesBoundUptoCard

/-- THE SECOND FORM's CARD OF 'posthornlaw07.LinesTwins'. -/
def linesTwinsUptoCard : Claim7 := { stood := { row := linesTwinsUptoRow, standIns := [], harness := (true, "5565831503f5ceec90e360415dd711cc831b195258951d24fc81408cd75ec2d3"), looks := true }, kinds := [], alts := [], laidByText := true, laidKinds := [.data, .data, .data, .sentinel, .sentinel], laidTests := true, laidLooks := .later }
def LinesTwinsUptoCardSaid : Prop := Claim7.holds Tryd.pinned (.plain (OpenSpec.upto linesTwinsSpec)) linesTwinsUptoCard
end Rows
end Go.Proofs.YtnpikjobjmffgaaDoor
