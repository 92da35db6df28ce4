/-
  What strings.Clone answers: the same bytes. (The contract of what it calls is the library's own, laid at this translation: YtmgmhnohocamfaaGreatShelf.)
-/
import Derived.Test.YtmgmhnohocamfaaGreatShelf
import Derived.WalkKit
namespace Go.Proofs.YtmgmhnohocamfaaGreat.pk
open Go.RowKit

set_option maxRecDepth 100000 in
theorem clone_any (s : ByteArray) (w : World) (hlim : s.size ≤ 281474976710656) :
    Calls Tryz.prog 54 #[.string s] w fun e w' => e = .returned (.string s) ∧ Below w.heap.size w w' := by
  go_enter Tryz.func54, Tryz.ntmps54
  go_wp2_with fail
  refine (Tryz.stringslite_Clone s w hlim).mono ?_
  rintro e w1 ⟨rfl, hb⟩
  go_wp2
  go_ret
  exact ⟨rfl, hb⟩
end Go.Proofs.YtmgmhnohocamfaaGreat.pk
