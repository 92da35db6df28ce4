/-
  DERIVED. GIVEN WITH THE SEED: THE CARDS: each row of YtekbjapclajflaaDoorRows.lean that lists a variable, with what it lists TIED to the program's text (the seventh form; the later family's looks); each row that meets fmt, with fmt's text TOLD by the authors' own Lean function (tested against real Go, not proved from fmt's source: count such statements apart). THE CARD IS WHAT COUNTS. Prove the row's statement (the work); the ties are given (YtekbjapclajflaaDoorTie.lean); close each card by the builder's one call (the guide's Derived/Test/ToyasCard.lean, 'card_holds'). Laid BY PROGRAM, IN A SANDBOX (cutbox-door.mjs). By AI agents, Wed Nov 11 2026. No macro, syntax, notation, axiom, sorry.
-/
import Derived.Test.YtekbjapclajflaaDoorRows
import GoSem.ClaimSeven
namespace Go.Proofs.YtekbjapclajflaaDoor
namespace Rows

/-- THE TIED CARD OF 'posthornlaw11.MatchLogic'. -/
def matchLogicCard : Claim7 := { stood := { row := matchLogicRow, standIns := [], harness := (true, "fb7f11a2ee89666b1a7ca291f576f5af1b5bb866b36d22f93b2da8382f76ea32"), looks := false }, kinds := [], alts := [], laidByText := true, laidKinds := [.data, .pinned], laidTests := true, laidLooks := .later }
def MatchLogicCardSaid : Prop := Claim7.holds Tryd.pinned (.plain (OpenSpec.ofChange matchLogicSpec)) matchLogicCard

/-- THE TIED CARD OF 'posthornlaw11.MatchBytes'. -/
def matchBytesCard : Claim7 := { stood := { row := matchBytesRow, standIns := [], harness := (true, "fb7f11a2ee89666b1a7ca291f576f5af1b5bb866b36d22f93b2da8382f76ea32"), looks := false }, kinds := [], alts := [], laidByText := true, laidKinds := [.data, .pinned], laidTests := true, laidLooks := .later }
def MatchBytesCardSaid : Prop := Claim7.holds Tryd.pinned (.plain (OpenSpec.ofChange matchBytesSpec)) matchBytesCard

/-- THE TIED CARD OF 'posthornlaw11.MatchFlags'. -/
def matchFlagsCard : Claim7 := { stood := { row := matchFlagsRow, standIns := [], harness := (true, "fb7f11a2ee89666b1a7ca291f576f5af1b5bb866b36d22f93b2da8382f76ea32"), looks := false }, kinds := [], alts := [], laidByText := true, laidKinds := [.data, .pinned], laidTests := true, laidLooks := .later }
def MatchFlagsCardSaid : Prop := Claim7.holds Tryd.pinned (.plain (OpenSpec.ofChange matchFlagsSpec)) matchFlagsCard

/-- THE SECOND FORM's CARD OF 'posthornlaw11.MatchLogic'. -/
def matchLogicUptoCard : Claim7 := { stood := { row := matchLogicUptoRow, standIns := [], harness := (true, "fb7f11a2ee89666b1a7ca291f576f5af1b5bb866b36d22f93b2da8382f76ea32"), looks := false }, kinds := [], alts := [], laidByText := true, laidKinds := [.data, .pinned], laidTests := true, laidLooks := .later }
def MatchLogicUptoCardSaid : Prop := Claim7.holds Tryd.pinned (.plain (OpenSpec.upto matchLogicSpec)) matchLogicUptoCard

/-- THE SECOND FORM's CARD OF 'posthornlaw11.MatchBytes'. -/
def matchBytesUptoCard : Claim7 := { stood := { row := matchBytesUptoRow, standIns := [], harness := (true, "fb7f11a2ee89666b1a7ca291f576f5af1b5bb866b36d22f93b2da8382f76ea32"), looks := false }, kinds := [], alts := [], laidByText := true, laidKinds := [.data, .pinned], laidTests := true, laidLooks := .later }
def MatchBytesUptoCardSaid : Prop := Claim7.holds Tryd.pinned (.plain (OpenSpec.upto matchBytesSpec)) matchBytesUptoCard

/-- THE SECOND FORM's CARD OF 'posthornlaw11.MatchFlags'. -/
def matchFlagsUptoCard : Claim7 := { stood := { row := matchFlagsUptoRow, standIns := [], harness := (true, "fb7f11a2ee89666b1a7ca291f576f5af1b5bb866b36d22f93b2da8382f76ea32"), looks := false }, kinds := [], alts := [], laidByText := true, laidKinds := [.data, .pinned], laidTests := true, laidLooks := .later }
def MatchFlagsUptoCardSaid : Prop := Claim7.holds Tryd.pinned (.plain (OpenSpec.upto matchFlagsSpec)) matchFlagsUptoCard
end Rows
end Go.Proofs.YtekbjapclajflaaDoor
