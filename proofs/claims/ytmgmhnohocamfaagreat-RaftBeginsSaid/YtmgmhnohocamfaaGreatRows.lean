/-
  No cell of these rows narrows 'for every input' (looked for: loops, veiled, ifaces, maps, wideKeys, modest, calm, conditions, laid).
  DERIVED. THE GIVEN ROWS OF THIS SEAT. 7 by the template 'for every input the law returns true; each argument reads behind the call as it read before'; 0 by the template 'total and deterministic' (their statements: YtmgmhnohocamfaaGreatTotals.lean).
  GIVEN WITH THE SEED: the statements are not yours to turn. If you find one false, say at which input.
  Laid BY PROGRAM, IN A SANDBOX (cutbox-rows.mjs): the forced cells as the released guide's own fill.sh prints them over the translation 528ea207e567af7f… (all of the seat's roots in one cut). By AI agents, Wed Nov 11 2026. No macro, syntax, notation, axiom, sorry.
-/
import Derived.Test.YtmgmhnohocamfaaGreatChecked
import GoSem.Claim
import GoSem.ClaimJoined
import GoSem.ClaimMapViews
import Derived.JoinedTies
import Derived.KernelRfl
namespace Go.Proofs.YtmgmhnohocamfaaGreat
/- THE CELL 'sum', in the pinned program and in every row, IS THE sha256 OF THE DUMP (.gsa) THAT YtmgmhnohocamfaaGreatProg.lean LOADS. Nothing in Lean hashes anything: it is a label: what it is worth is what the hold of that sum in a sandbox is worth. -/
noncomputable def Tryz.pinned : Pinned := { name := "ytmgmhnohocamfaagreat", sum := "528ea207e567af7f763fd4ea7c87276cf92fe4e4525d1de23c1972556f81af40", checked := Tryz.checked }
namespace Rows
def none {H : Type} : Left H := { results := [], args := [] }

/-- 'posthornlaw17.RaftPlays': WHATEVER THE INPUT: true; the input reads as it did. -/
def raftPlaysSpec : ChangeSpec := { name := "raftPlays", fn := fun _ => fun
  | [d] => { results := [.lit (.bool true)], args := [d] }
  | _ => none }
def raftPlaysRow : OpenClaim := { program := "ytmgmhnohocamfaagreat", sum := "528ea207e567af7f763fd4ea7c87276cf92fe4e4525d1de23c1972556f81af40", func := "posthorn/posthornlaw17.RaftPlays", spec := "raftPlays", inPlace := ["slices.overlaps[int]"], unfollowed := true, recurses := true, apart := false }
def RaftPlaysSaid : Prop := raftPlaysRow.holds Tryz.pinned (OpenSpec.ofChange raftPlaysSpec)

/-- ITS FALSE NEIGHBOUR: 'it returns false'. Refute it at one input. -/
def raftPlaysWrong : ChangeSpec := { name := "raftPlays", fn := fun _ => fun
  | [d] => { results := [.lit (.bool false)], args := [d] }
  | _ => none }
def RaftPlaysWrongFalsely : Prop := raftPlaysRow.holds Tryz.pinned (OpenSpec.ofChange raftPlaysWrong)

/-- 'posthornlaw17.RaftBegins': WHATEVER THE INPUT: true; the input reads as it did. -/
def raftBeginsSpec : ChangeSpec := { name := "raftBegins", fn := fun _ => fun
  | [d1, d2, d3, d4, d5] => { results := [.lit (.bool true)], args := [d1, d2, d3, d4, d5] }
  | _ => none }
def raftBeginsRow : OpenClaim := { program := "ytmgmhnohocamfaagreat", sum := "528ea207e567af7f763fd4ea7c87276cf92fe4e4525d1de23c1972556f81af40", func := "posthorn/posthornlaw17.RaftBegins", spec := "raftBegins", inPlace := ["slices.overlaps[int]"], unfollowed := true, recurses := true, apart := false }
def RaftBeginsSaid : Prop := raftBeginsRow.holds Tryz.pinned (OpenSpec.ofChange raftBeginsSpec)

/-- ITS FALSE NEIGHBOUR: 'it returns false'. Refute it at one input. -/
def raftBeginsWrong : ChangeSpec := { name := "raftBegins", fn := fun _ => fun
  | [d1, d2, d3, d4, d5] => { results := [.lit (.bool false)], args := [d1, d2, d3, d4, d5] }
  | _ => none }
def RaftBeginsWrongFalsely : Prop := raftBeginsRow.holds Tryz.pinned (OpenSpec.ofChange raftBeginsWrong)

/-- 'posthornlaw17.RaftElects': WHATEVER THE INPUT: true; the input reads as it did. -/
def raftElectsSpec : ChangeSpec := { name := "raftElects", fn := fun _ => fun
  | [d] => { results := [.lit (.bool true)], args := [d] }
  | _ => none }
def raftElectsRow : OpenClaim := { program := "ytmgmhnohocamfaagreat", sum := "528ea207e567af7f763fd4ea7c87276cf92fe4e4525d1de23c1972556f81af40", func := "posthorn/posthornlaw17.RaftElects", spec := "raftElects", inPlace := ["slices.overlaps[int]"], unfollowed := true, recurses := true, apart := false }
def RaftElectsSaid : Prop := raftElectsRow.holds Tryz.pinned (OpenSpec.ofChange raftElectsSpec)

/-- ITS FALSE NEIGHBOUR: 'it returns false'. Refute it at one input. -/
def raftElectsWrong : ChangeSpec := { name := "raftElects", fn := fun _ => fun
  | [d] => { results := [.lit (.bool false)], args := [d] }
  | _ => none }
def RaftElectsWrongFalsely : Prop := raftElectsRow.holds Tryz.pinned (OpenSpec.ofChange raftElectsWrong)

/-- 'posthornlaw17.RaftMatches': WHATEVER THE INPUT: true; the input reads as it did. -/
def raftMatchesSpec : ChangeSpec := { name := "raftMatches", fn := fun _ => fun
  | [d] => { results := [.lit (.bool true)], args := [d] }
  | _ => none }
def raftMatchesRow : OpenClaim := { program := "ytmgmhnohocamfaagreat", sum := "528ea207e567af7f763fd4ea7c87276cf92fe4e4525d1de23c1972556f81af40", func := "posthorn/posthornlaw17.RaftMatches", spec := "raftMatches", inPlace := ["slices.overlaps[int]"], unfollowed := true, recurses := true, apart := false }
def RaftMatchesSaid : Prop := raftMatchesRow.holds Tryz.pinned (OpenSpec.ofChange raftMatchesSpec)

/-- ITS FALSE NEIGHBOUR: 'it returns false'. Refute it at one input. -/
def raftMatchesWrong : ChangeSpec := { name := "raftMatches", fn := fun _ => fun
  | [d] => { results := [.lit (.bool false)], args := [d] }
  | _ => none }
def RaftMatchesWrongFalsely : Prop := raftMatchesRow.holds Tryz.pinned (OpenSpec.ofChange raftMatchesWrong)

/-- 'posthornlaw17.RaftCommits': WHATEVER THE INPUT: true; the input reads as it did. -/
def raftCommitsSpec : ChangeSpec := { name := "raftCommits", fn := fun _ => fun
  | [d] => { results := [.lit (.bool true)], args := [d] }
  | _ => none }
def raftCommitsRow : OpenClaim := { program := "ytmgmhnohocamfaagreat", sum := "528ea207e567af7f763fd4ea7c87276cf92fe4e4525d1de23c1972556f81af40", func := "posthorn/posthornlaw17.RaftCommits", spec := "raftCommits", inPlace := ["slices.overlaps[int]"], unfollowed := true, recurses := true, apart := false }
def RaftCommitsSaid : Prop := raftCommitsRow.holds Tryz.pinned (OpenSpec.ofChange raftCommitsSpec)

/-- ITS FALSE NEIGHBOUR: 'it returns false'. Refute it at one input. -/
def raftCommitsWrong : ChangeSpec := { name := "raftCommits", fn := fun _ => fun
  | [d] => { results := [.lit (.bool false)], args := [d] }
  | _ => none }
def RaftCommitsWrongFalsely : Prop := raftCommitsRow.holds Tryz.pinned (OpenSpec.ofChange raftCommitsWrong)

/-- 'posthornlaw17.RaftKeeps': WHATEVER THE INPUT: true; the input reads as it did. -/
def raftKeepsSpec : ChangeSpec := { name := "raftKeeps", fn := fun _ => fun
  | [d] => { results := [.lit (.bool true)], args := [d] }
  | _ => none }
def raftKeepsRow : OpenClaim := { program := "ytmgmhnohocamfaagreat", sum := "528ea207e567af7f763fd4ea7c87276cf92fe4e4525d1de23c1972556f81af40", func := "posthorn/posthornlaw17.RaftKeeps", spec := "raftKeeps", inPlace := ["slices.overlaps[int]"], unfollowed := true, recurses := true, apart := false }
def RaftKeepsSaid : Prop := raftKeepsRow.holds Tryz.pinned (OpenSpec.ofChange raftKeepsSpec)

/-- ITS FALSE NEIGHBOUR: 'it returns false'. Refute it at one input. -/
def raftKeepsWrong : ChangeSpec := { name := "raftKeeps", fn := fun _ => fun
  | [d] => { results := [.lit (.bool false)], args := [d] }
  | _ => none }
def RaftKeepsWrongFalsely : Prop := raftKeepsRow.holds Tryz.pinned (OpenSpec.ofChange raftKeepsWrong)

/-- 'posthornlaw17.RaftLone': WHATEVER THE INPUT: true; the input reads as it did. -/
def raftLoneSpec : ChangeSpec := { name := "raftLone", fn := fun _ => fun
  | [d1, d2] => { results := [.lit (.bool true)], args := [d1, d2] }
  | _ => none }
def raftLoneRow : OpenClaim := { program := "ytmgmhnohocamfaagreat", sum := "528ea207e567af7f763fd4ea7c87276cf92fe4e4525d1de23c1972556f81af40", func := "posthorn/posthornlaw17.RaftLone", spec := "raftLone", inPlace := ["slices.overlaps[int]"], unfollowed := true, recurses := true, apart := false }
def RaftLoneSaid : Prop := raftLoneRow.holds Tryz.pinned (OpenSpec.ofChange raftLoneSpec)

/-- ITS FALSE NEIGHBOUR: 'it returns false'. Refute it at one input. -/
def raftLoneWrong : ChangeSpec := { name := "raftLone", fn := fun _ => fun
  | [d1, d2] => { results := [.lit (.bool false)], args := [d1, d2] }
  | _ => none }
def RaftLoneWrongFalsely : Prop := raftLoneRow.holds Tryz.pinned (OpenSpec.ofChange raftLoneWrong)

/- THE SECOND FORM. 'bulk': how many values and letters a reading holds, each counted each time it is reached (what is shared counts as often as it is met; a slice's spare places count too). A statement '..UptoSaid' is the law's where the arguments, and the package variables that the reading takes, are together of bulk at most 1048576: NARROWER than '..Said'. Prove '..Said' where nothing that the law and all that it calls make is longer than what came in: it says more and counts as full. Else prove '..UptoSaid'. A law counts once. -/
mutual
def uptoBulk {H : Type} : DataW H → Nat
  | .lit (.string bytes) => bytes.length + 1
  | .lit _ => 1
  | .nil => 1
  | .ptr d => uptoBulk d + 1
  | .slice elems spare => uptoBulkAll elems + uptoBulkAll spare + 1
  | .agg parts => uptoBulkAll parts + 1
  | .iface _ d => uptoBulk d + 1
  | .map entries => uptoBulkEntries entries + 1
  | .held _ => 1
def uptoBulkAll {H : Type} : List (DataW H) → Nat
  | [] => 0
  | d :: r => uptoBulk d + uptoBulkAll r
def uptoBulkEntries {H : Type} : List (Lit × DataW H) → Nat
  | [] => 0
  | x :: r => uptoBulkEntry x + uptoBulkEntries r
def uptoBulkEntry {H : Type} : Lit × DataW H → Nat
  | (.string bytes, d) => bytes.length + uptoBulk d + 1
  | (_, d) => uptoBulk d + 1
 end
def uptoSmall : (H : Type) → List (DataW H) → Bool := fun _ ds => decide (uptoBulkAll ds ≤ 1048576)
def OpenSpec.upto (s : _root_.Go.ChangeSpec) : _root_.Go.OpenSpec := { _root_.Go.OpenSpec.ofChange s with cond := some uptoSmall }

/-- 'posthornlaw17.RaftPlays', WHERE WHAT IT READS IS OF BULK AT MOST 1048576: true; the input reads as it did. -/
def raftPlaysUptoRow : OpenClaim := { program := "ytmgmhnohocamfaagreat", sum := "528ea207e567af7f763fd4ea7c87276cf92fe4e4525d1de23c1972556f81af40", func := "posthorn/posthornlaw17.RaftPlays", spec := "raftPlays", inPlace := ["slices.overlaps[int]"], unfollowed := true, recurses := true, apart := false, narrowed := true }
def RaftPlaysUptoSaid : Prop := raftPlaysUptoRow.holds Tryz.pinned (OpenSpec.upto raftPlaysSpec)

/-- 'posthornlaw17.RaftBegins', WHERE WHAT IT READS IS OF BULK AT MOST 1048576: true; the input reads as it did. -/
def raftBeginsUptoRow : OpenClaim := { program := "ytmgmhnohocamfaagreat", sum := "528ea207e567af7f763fd4ea7c87276cf92fe4e4525d1de23c1972556f81af40", func := "posthorn/posthornlaw17.RaftBegins", spec := "raftBegins", inPlace := ["slices.overlaps[int]"], unfollowed := true, recurses := true, apart := false, narrowed := true }
def RaftBeginsUptoSaid : Prop := raftBeginsUptoRow.holds Tryz.pinned (OpenSpec.upto raftBeginsSpec)

/-- 'posthornlaw17.RaftElects', WHERE WHAT IT READS IS OF BULK AT MOST 1048576: true; the input reads as it did. -/
def raftElectsUptoRow : OpenClaim := { program := "ytmgmhnohocamfaagreat", sum := "528ea207e567af7f763fd4ea7c87276cf92fe4e4525d1de23c1972556f81af40", func := "posthorn/posthornlaw17.RaftElects", spec := "raftElects", inPlace := ["slices.overlaps[int]"], unfollowed := true, recurses := true, apart := false, narrowed := true }
def RaftElectsUptoSaid : Prop := raftElectsUptoRow.holds Tryz.pinned (OpenSpec.upto raftElectsSpec)

/-- 'posthornlaw17.RaftMatches', WHERE WHAT IT READS IS OF BULK AT MOST 1048576: true; the input reads as it did. -/
def raftMatchesUptoRow : OpenClaim := { program := "ytmgmhnohocamfaagreat", sum := "528ea207e567af7f763fd4ea7c87276cf92fe4e4525d1de23c1972556f81af40", func := "posthorn/posthornlaw17.RaftMatches", spec := "raftMatches", inPlace := ["slices.overlaps[int]"], unfollowed := true, recurses := true, apart := false, narrowed := true }
def RaftMatchesUptoSaid : Prop := raftMatchesUptoRow.holds Tryz.pinned (OpenSpec.upto raftMatchesSpec)

/-- 'posthornlaw17.RaftCommits', WHERE WHAT IT READS IS OF BULK AT MOST 1048576: true; the input reads as it did. -/
def raftCommitsUptoRow : OpenClaim := { program := "ytmgmhnohocamfaagreat", sum := "528ea207e567af7f763fd4ea7c87276cf92fe4e4525d1de23c1972556f81af40", func := "posthorn/posthornlaw17.RaftCommits", spec := "raftCommits", inPlace := ["slices.overlaps[int]"], unfollowed := true, recurses := true, apart := false, narrowed := true }
def RaftCommitsUptoSaid : Prop := raftCommitsUptoRow.holds Tryz.pinned (OpenSpec.upto raftCommitsSpec)

/-- 'posthornlaw17.RaftKeeps', WHERE WHAT IT READS IS OF BULK AT MOST 1048576: true; the input reads as it did. -/
def raftKeepsUptoRow : OpenClaim := { program := "ytmgmhnohocamfaagreat", sum := "528ea207e567af7f763fd4ea7c87276cf92fe4e4525d1de23c1972556f81af40", func := "posthorn/posthornlaw17.RaftKeeps", spec := "raftKeeps", inPlace := ["slices.overlaps[int]"], unfollowed := true, recurses := true, apart := false, narrowed := true }
def RaftKeepsUptoSaid : Prop := raftKeepsUptoRow.holds Tryz.pinned (OpenSpec.upto raftKeepsSpec)

/-- 'posthornlaw17.RaftLone', WHERE WHAT IT READS IS OF BULK AT MOST 1048576: true; the input reads as it did. -/
def raftLoneUptoRow : OpenClaim := { program := "ytmgmhnohocamfaagreat", sum := "528ea207e567af7f763fd4ea7c87276cf92fe4e4525d1de23c1972556f81af40", func := "posthorn/posthornlaw17.RaftLone", spec := "raftLone", inPlace := ["slices.overlaps[int]"], unfollowed := true, recurses := true, apart := false, narrowed := true }
def RaftLoneUptoSaid : Prop := raftLoneUptoRow.holds Tryz.pinned (OpenSpec.upto raftLoneSpec)

end Rows
end Go.Proofs.YtmgmhnohocamfaaGreat
