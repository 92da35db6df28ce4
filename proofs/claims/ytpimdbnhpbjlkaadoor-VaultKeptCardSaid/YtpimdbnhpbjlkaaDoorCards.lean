/-
  DERIVED. GIVEN WITH THE SEED: THE CARDS: each row of YtpimdbnhpbjlkaaDoorRows.lean that lists a variable, with what it lists TIED to the program's text (the seventh form; the later family's looks); each row that meets fmt, with fmt's text TOLD by the authors' own Lean function (tested against real Go, not proved from fmt's source: count such statements apart). THE CARD IS WHAT COUNTS. Prove the row's statement (the work); the ties are given (YtpimdbnhpbjlkaaDoorTie.lean); close each card by the builder's one call (the guide's Derived/Test/ToyasCard.lean, 'card_holds'). Laid BY PROGRAM, IN A SANDBOX (cutbox-door.mjs). By AI agents, Wed Nov 11 2026. No macro, syntax, notation, axiom, sorry.
-/
import Derived.Test.YtpimdbnhpbjlkaaDoorRows
import GoSem.ClaimSeven
namespace Go.Proofs.YtpimdbnhpbjlkaaDoor
namespace Rows

/-- THE TIED CARD OF 'posthornlaw14.VaultKept'. -/
def vaultKeptCard : Claim7 := { stood := { row := vaultKeptRow, standIns := [], harness := (true, "a361d9da1c89823a65c68ba7ae2384f8abe3bafdc8d0c5a6095f63abde482e62"), looks := false }, kinds := [], alts := [], laidByText := true, laidKinds := [.data], laidTests := true, laidLooks := .later }
def VaultKeptCardSaid : Prop := Claim7.holds Tryd.pinned (.plain (OpenSpec.ofChange vaultKeptSpec)) vaultKeptCard

/-- THE TIED CARD OF 'posthornlaw14.VaultTrue'. -/
def vaultTrueCard : Claim7 := { stood := { row := vaultTrueRow, standIns := [], harness := (true, "a361d9da1c89823a65c68ba7ae2384f8abe3bafdc8d0c5a6095f63abde482e62"), looks := false }, kinds := [], alts := [], laidByText := true, laidKinds := [.data], laidTests := true, laidLooks := .later }
def VaultTrueCardSaid : Prop := Claim7.holds Tryd.pinned (.plain (OpenSpec.ofChange vaultTrueSpec)) vaultTrueCard

/-- THE TIED CARD OF 'posthornlaw14.VaultKeeps'. -/
def vaultKeepsCard : Claim7 := { stood := { row := vaultKeepsRow, standIns := [], harness := (true, "a361d9da1c89823a65c68ba7ae2384f8abe3bafdc8d0c5a6095f63abde482e62"), looks := false }, kinds := [], alts := [], laidByText := true, laidKinds := [.data], laidTests := true, laidLooks := .later }
def VaultKeepsCardSaid : Prop := Claim7.holds Tryd.pinned (.plain (OpenSpec.ofChange vaultKeepsSpec)) vaultKeepsCard

/-- THE SECOND FORM's CARD OF 'posthornlaw14.VaultKept'. -/
def vaultKeptUptoCard : Claim7 := { stood := { row := vaultKeptUptoRow, standIns := [], harness := (true, "a361d9da1c89823a65c68ba7ae2384f8abe3bafdc8d0c5a6095f63abde482e62"), looks := false }, kinds := [], alts := [], laidByText := true, laidKinds := [.data], laidTests := true, laidLooks := .later }
def VaultKeptUptoCardSaid : Prop := Claim7.holds Tryd.pinned (.plain (OpenSpec.upto vaultKeptSpec)) vaultKeptUptoCard

/-- THE SECOND FORM's CARD OF 'posthornlaw14.VaultTrue'. -/
def vaultTrueUptoCard : Claim7 := { stood := { row := vaultTrueUptoRow, standIns := [], harness := (true, "a361d9da1c89823a65c68ba7ae2384f8abe3bafdc8d0c5a6095f63abde482e62"), looks := false }, kinds := [], alts := [], laidByText := true, laidKinds := [.data], laidTests := true, laidLooks := .later }
def VaultTrueUptoCardSaid : Prop := Claim7.holds Tryd.pinned (.plain (OpenSpec.upto vaultTrueSpec)) vaultTrueUptoCard

/-- THE SECOND FORM's CARD OF 'posthornlaw14.VaultKeeps'. -/
def vaultKeepsUptoCard : Claim7 := { stood := { row := vaultKeepsUptoRow, standIns := [], harness := (true, "a361d9da1c89823a65c68ba7ae2384f8abe3bafdc8d0c5a6095f63abde482e62"), looks := false }, kinds := [], alts := [], laidByText := true, laidKinds := [.data], laidTests := true, laidLooks := .later }
def VaultKeepsUptoCardSaid : Prop := Claim7.holds Tryd.pinned (.plain (OpenSpec.upto vaultKeepsSpec)) vaultKeepsUptoCard
end Rows
end Go.Proofs.YtpimdbnhpbjlkaaDoor
