/-
  No cell of these rows narrows 'for every input' (looked for: loops, veiled, ifaces, maps, wideKeys, modest, calm, conditions, laid).
  DERIVED. THE GIVEN ROWS OF THIS SEAT. 7 by the template 'for every input the law returns true; each argument reads behind the call as it read before'; 0 by the template 'total and deterministic' (their statements: YtnodgpbahlaccaaTotals.lean).
  GIVEN WITH THE SEED: the statements are not yours to turn. If you find one false, say at which input.
  Laid BY PROGRAM, IN A SANDBOX (cutbox-rows.mjs): the forced cells as the released guide's own fill.sh prints them over the translation 738d2af694e21529… (all of the seat's roots in one cut). By AI agents, Wed Nov 11 2026. No macro, syntax, notation, axiom, sorry.
-/
import Derived.Test.YtnodgpbahlaccaaChecked
import GoSem.Claim
import GoSem.ClaimJoined
import GoSem.ClaimMapViews
import Derived.JoinedTies
import Derived.KernelRfl
namespace Go.Proofs.Ytnodgpbahlaccaa
/- THE CELL 'sum', in the pinned program and in every row, IS THE sha256 OF THE DUMP (.gsa) THAT YtnodgpbahlaccaaProg.lean LOADS. Nothing in Lean hashes anything: it is a label: what it is worth is what the hold of that sum in a sandbox is worth. -/
noncomputable def Try.pinned : Pinned := { name := "ytnodgpbahlaccaa", sum := "738d2af694e21529bdcf1386b9d3033e0afcde2498f1cfb9538bc7c6f9d11bbd", checked := Try.checked }
namespace Rows
def none {H : Type} : Left H := { results := [], args := [] }

/-- 'posthornlaw15.QuorumMost': WHATEVER THE INPUT: true; the input reads as it did. -/
def quorumMostSpec : ChangeSpec := { name := "quorumMost", fn := fun _ => fun
  | [d1, d2] => { results := [.lit (.bool true)], args := [d1, d2] }
  | _ => none }
def quorumMostRow : OpenClaim := { program := "ytnodgpbahlaccaa", sum := "738d2af694e21529bdcf1386b9d3033e0afcde2498f1cfb9538bc7c6f9d11bbd", func := "posthorn/posthornlaw15.QuorumMost", spec := "quorumMost", unfollowed := true, recurses := true, apart := false }
def QuorumMostSaid : Prop := quorumMostRow.holds Try.pinned (OpenSpec.ofChange quorumMostSpec)

/-- ITS FALSE NEIGHBOUR: 'it returns false'. Refute it at one input. -/
def quorumMostWrong : ChangeSpec := { name := "quorumMost", fn := fun _ => fun
  | [d1, d2] => { results := [.lit (.bool false)], args := [d1, d2] }
  | _ => none }
def QuorumMostWrongFalsely : Prop := quorumMostRow.holds Try.pinned (OpenSpec.ofChange quorumMostWrong)

/-- 'posthornlaw15.QuorumCommits': WHATEVER THE INPUT: true; the input reads as it did. -/
def quorumCommitsSpec : ChangeSpec := { name := "quorumCommits", fn := fun _ => fun
  | [d1, d2] => { results := [.lit (.bool true)], args := [d1, d2] }
  | _ => none }
def quorumCommitsRow : OpenClaim := { program := "ytnodgpbahlaccaa", sum := "738d2af694e21529bdcf1386b9d3033e0afcde2498f1cfb9538bc7c6f9d11bbd", func := "posthorn/posthornlaw15.QuorumCommits", spec := "quorumCommits", unfollowed := true, recurses := true, apart := false }
def QuorumCommitsSaid : Prop := quorumCommitsRow.holds Try.pinned (OpenSpec.ofChange quorumCommitsSpec)

/-- ITS FALSE NEIGHBOUR: 'it returns false'. Refute it at one input. -/
def quorumCommitsWrong : ChangeSpec := { name := "quorumCommits", fn := fun _ => fun
  | [d1, d2] => { results := [.lit (.bool false)], args := [d1, d2] }
  | _ => none }
def QuorumCommitsWrongFalsely : Prop := quorumCommitsRow.holds Try.pinned (OpenSpec.ofChange quorumCommitsWrong)

/-- 'posthornlaw15.QuorumSteps': WHATEVER THE INPUT: true; the input reads as it did. -/
def quorumStepsSpec : ChangeSpec := { name := "quorumSteps", fn := fun _ => fun
  | [d1, d2, d3, d4] => { results := [.lit (.bool true)], args := [d1, d2, d3, d4] }
  | _ => none }
def quorumStepsRow : OpenClaim := { program := "ytnodgpbahlaccaa", sum := "738d2af694e21529bdcf1386b9d3033e0afcde2498f1cfb9538bc7c6f9d11bbd", func := "posthorn/posthornlaw15.QuorumSteps", spec := "quorumSteps", unfollowed := true, recurses := true, apart := false }
def QuorumStepsSaid : Prop := quorumStepsRow.holds Try.pinned (OpenSpec.ofChange quorumStepsSpec)

/-- ITS FALSE NEIGHBOUR: 'it returns false'. Refute it at one input. -/
def quorumStepsWrong : ChangeSpec := { name := "quorumSteps", fn := fun _ => fun
  | [d1, d2, d3, d4] => { results := [.lit (.bool false)], args := [d1, d2, d3, d4] }
  | _ => none }
def QuorumStepsWrongFalsely : Prop := quorumStepsRow.holds Try.pinned (OpenSpec.ofChange quorumStepsWrong)

/-- 'posthornlaw15.QuorumTexts': WHATEVER THE INPUT: true; the input reads as it did. -/
def quorumTextsSpec : ChangeSpec := { name := "quorumTexts", fn := fun _ => fun
  | [d1, d2] => { results := [.lit (.bool true)], args := [d1, d2] }
  | _ => none }
def quorumTextsRow : OpenClaim := { program := "ytnodgpbahlaccaa", sum := "738d2af694e21529bdcf1386b9d3033e0afcde2498f1cfb9538bc7c6f9d11bbd", func := "posthorn/posthornlaw15.QuorumTexts", spec := "quorumTexts", unfollowed := true, recurses := true, apart := false }
def QuorumTextsSaid : Prop := quorumTextsRow.holds Try.pinned (OpenSpec.ofChange quorumTextsSpec)

/-- ITS FALSE NEIGHBOUR: 'it returns false'. Refute it at one input. -/
def quorumTextsWrong : ChangeSpec := { name := "quorumTexts", fn := fun _ => fun
  | [d1, d2] => { results := [.lit (.bool false)], args := [d1, d2] }
  | _ => none }
def QuorumTextsWrongFalsely : Prop := quorumTextsRow.holds Try.pinned (OpenSpec.ofChange quorumTextsWrong)

/-- 'posthornlaw15.QuorumMeets': WHATEVER THE INPUT: true; the input reads as it did. -/
def quorumMeetsSpec : ChangeSpec := { name := "quorumMeets", fn := fun _ => fun
  | [d1, d2, d3, d4] => { results := [.lit (.bool true)], args := [d1, d2, d3, d4] }
  | _ => none }
def quorumMeetsRow : OpenClaim := { program := "ytnodgpbahlaccaa", sum := "738d2af694e21529bdcf1386b9d3033e0afcde2498f1cfb9538bc7c6f9d11bbd", func := "posthorn/posthornlaw15.QuorumMeets", spec := "quorumMeets", unfollowed := true, recurses := true, apart := false }
def QuorumMeetsSaid : Prop := quorumMeetsRow.holds Try.pinned (OpenSpec.ofChange quorumMeetsSpec)

/-- ITS FALSE NEIGHBOUR: 'it returns false'. Refute it at one input. -/
def quorumMeetsWrong : ChangeSpec := { name := "quorumMeets", fn := fun _ => fun
  | [d1, d2, d3, d4] => { results := [.lit (.bool false)], args := [d1, d2, d3, d4] }
  | _ => none }
def QuorumMeetsWrongFalsely : Prop := quorumMeetsRow.holds Try.pinned (OpenSpec.ofChange quorumMeetsWrong)

/-- 'posthornlaw15.QuorumHas': WHATEVER THE INPUT: true; the input reads as it did. -/
def quorumHasSpec : ChangeSpec := { name := "quorumHas", fn := fun _ => fun
  | [d1, d2, d3] => { results := [.lit (.bool true)], args := [d1, d2, d3] }
  | _ => none }
def quorumHasRow : OpenClaim := { program := "ytnodgpbahlaccaa", sum := "738d2af694e21529bdcf1386b9d3033e0afcde2498f1cfb9538bc7c6f9d11bbd", func := "posthorn/posthornlaw15.QuorumHas", spec := "quorumHas", unfollowed := true, recurses := true, apart := false }
def QuorumHasSaid : Prop := quorumHasRow.holds Try.pinned (OpenSpec.ofChange quorumHasSpec)

/-- ITS FALSE NEIGHBOUR: 'it returns false'. Refute it at one input. -/
def quorumHasWrong : ChangeSpec := { name := "quorumHas", fn := fun _ => fun
  | [d1, d2, d3] => { results := [.lit (.bool false)], args := [d1, d2, d3] }
  | _ => none }
def QuorumHasWrongFalsely : Prop := quorumHasRow.holds Try.pinned (OpenSpec.ofChange quorumHasWrong)

/-- 'posthornlaw15.QuorumBack': WHATEVER THE INPUT: true; the input reads as it did. -/
def quorumBackSpec : ChangeSpec := { name := "quorumBack", fn := fun _ => fun
  | [d1, d2, d3] => { results := [.lit (.bool true)], args := [d1, d2, d3] }
  | _ => none }
def quorumBackRow : OpenClaim := { program := "ytnodgpbahlaccaa", sum := "738d2af694e21529bdcf1386b9d3033e0afcde2498f1cfb9538bc7c6f9d11bbd", func := "posthorn/posthornlaw15.QuorumBack", spec := "quorumBack", unfollowed := true, recurses := true, apart := false }
def QuorumBackSaid : Prop := quorumBackRow.holds Try.pinned (OpenSpec.ofChange quorumBackSpec)

/-- ITS FALSE NEIGHBOUR: 'it returns false'. Refute it at one input. -/
def quorumBackWrong : ChangeSpec := { name := "quorumBack", fn := fun _ => fun
  | [d1, d2, d3] => { results := [.lit (.bool false)], args := [d1, d2, d3] }
  | _ => none }
def QuorumBackWrongFalsely : Prop := quorumBackRow.holds Try.pinned (OpenSpec.ofChange quorumBackWrong)

/- THE SECOND FORM. 'bulk': how many values and letters a reading holds, each counted each time it is reached (what is shared counts as often as it is met; a slice's spare places count too). A statement '..UptoSaid' is the law's where the arguments, and the package variables that the reading takes, are together of bulk at most 1048576: NARROWER than '..Said'. Prove '..Said' where nothing that the law and all that it calls make is longer than what came in: it says more and counts as full. Else prove '..UptoSaid'. A law counts once. -/
mutual
def uptoBulk {H : Type} : DataW H → Nat
  | .lit (.string bytes) => bytes.length + 1
  | .lit _ => 1
  | .nil => 1
  | .ptr d => uptoBulk d + 1
  | .slice elems spare => uptoBulkAll elems + uptoBulkAll spare + 1
  | .agg parts => uptoBulkAll parts + 1
  | .iface _ d => uptoBulk d + 1
  | .map entries => uptoBulkEntries entries + 1
  | .held _ => 1
def uptoBulkAll {H : Type} : List (DataW H) → Nat
  | [] => 0
  | d :: r => uptoBulk d + uptoBulkAll r
def uptoBulkEntries {H : Type} : List (Lit × DataW H) → Nat
  | [] => 0
  | x :: r => uptoBulkEntry x + uptoBulkEntries r
def uptoBulkEntry {H : Type} : Lit × DataW H → Nat
  | (.string bytes, d) => bytes.length + uptoBulk d + 1
  | (_, d) => uptoBulk d + 1
 end
def uptoSmall : (H : Type) → List (DataW H) → Bool := fun _ ds => decide (uptoBulkAll ds ≤ 1048576)
def OpenSpec.upto (s : _root_.Go.ChangeSpec) : _root_.Go.OpenSpec := { _root_.Go.OpenSpec.ofChange s with cond := some uptoSmall }

/-- 'posthornlaw15.QuorumMost', WHERE WHAT IT READS IS OF BULK AT MOST 1048576: true; the input reads as it did. -/
def quorumMostUptoRow : OpenClaim := { program := "ytnodgpbahlaccaa", sum := "738d2af694e21529bdcf1386b9d3033e0afcde2498f1cfb9538bc7c6f9d11bbd", func := "posthorn/posthornlaw15.QuorumMost", spec := "quorumMost", unfollowed := true, recurses := true, apart := false, narrowed := true }
def QuorumMostUptoSaid : Prop := quorumMostUptoRow.holds Try.pinned (OpenSpec.upto quorumMostSpec)

/-- 'posthornlaw15.QuorumCommits', WHERE WHAT IT READS IS OF BULK AT MOST 1048576: true; the input reads as it did. -/
def quorumCommitsUptoRow : OpenClaim := { program := "ytnodgpbahlaccaa", sum := "738d2af694e21529bdcf1386b9d3033e0afcde2498f1cfb9538bc7c6f9d11bbd", func := "posthorn/posthornlaw15.QuorumCommits", spec := "quorumCommits", unfollowed := true, recurses := true, apart := false, narrowed := true }
def QuorumCommitsUptoSaid : Prop := quorumCommitsUptoRow.holds Try.pinned (OpenSpec.upto quorumCommitsSpec)

/-- 'posthornlaw15.QuorumSteps', WHERE WHAT IT READS IS OF BULK AT MOST 1048576: true; the input reads as it did. -/
def quorumStepsUptoRow : OpenClaim := { program := "ytnodgpbahlaccaa", sum := "738d2af694e21529bdcf1386b9d3033e0afcde2498f1cfb9538bc7c6f9d11bbd", func := "posthorn/posthornlaw15.QuorumSteps", spec := "quorumSteps", unfollowed := true, recurses := true, apart := false, narrowed := true }
def QuorumStepsUptoSaid : Prop := quorumStepsUptoRow.holds Try.pinned (OpenSpec.upto quorumStepsSpec)

/-- 'posthornlaw15.QuorumTexts', WHERE WHAT IT READS IS OF BULK AT MOST 1048576: true; the input reads as it did. -/
def quorumTextsUptoRow : OpenClaim := { program := "ytnodgpbahlaccaa", sum := "738d2af694e21529bdcf1386b9d3033e0afcde2498f1cfb9538bc7c6f9d11bbd", func := "posthorn/posthornlaw15.QuorumTexts", spec := "quorumTexts", unfollowed := true, recurses := true, apart := false, narrowed := true }
def QuorumTextsUptoSaid : Prop := quorumTextsUptoRow.holds Try.pinned (OpenSpec.upto quorumTextsSpec)

/-- 'posthornlaw15.QuorumMeets', WHERE WHAT IT READS IS OF BULK AT MOST 1048576: true; the input reads as it did. -/
def quorumMeetsUptoRow : OpenClaim := { program := "ytnodgpbahlaccaa", sum := "738d2af694e21529bdcf1386b9d3033e0afcde2498f1cfb9538bc7c6f9d11bbd", func := "posthorn/posthornlaw15.QuorumMeets", spec := "quorumMeets", unfollowed := true, recurses := true, apart := false, narrowed := true }
def QuorumMeetsUptoSaid : Prop := quorumMeetsUptoRow.holds Try.pinned (OpenSpec.upto quorumMeetsSpec)

/-- 'posthornlaw15.QuorumHas', WHERE WHAT IT READS IS OF BULK AT MOST 1048576: true; the input reads as it did. -/
def quorumHasUptoRow : OpenClaim := { program := "ytnodgpbahlaccaa", sum := "738d2af694e21529bdcf1386b9d3033e0afcde2498f1cfb9538bc7c6f9d11bbd", func := "posthorn/posthornlaw15.QuorumHas", spec := "quorumHas", unfollowed := true, recurses := true, apart := false, narrowed := true }
def QuorumHasUptoSaid : Prop := quorumHasUptoRow.holds Try.pinned (OpenSpec.upto quorumHasSpec)

/-- 'posthornlaw15.QuorumBack', WHERE WHAT IT READS IS OF BULK AT MOST 1048576: true; the input reads as it did. -/
def quorumBackUptoRow : OpenClaim := { program := "ytnodgpbahlaccaa", sum := "738d2af694e21529bdcf1386b9d3033e0afcde2498f1cfb9538bc7c6f9d11bbd", func := "posthorn/posthornlaw15.QuorumBack", spec := "quorumBack", unfollowed := true, recurses := true, apart := false, narrowed := true }
def QuorumBackUptoSaid : Prop := quorumBackUptoRow.holds Try.pinned (OpenSpec.upto quorumBackSpec)

end Rows
end Go.Proofs.Ytnodgpbahlaccaa
