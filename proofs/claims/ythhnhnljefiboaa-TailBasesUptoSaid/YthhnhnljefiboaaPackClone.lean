/-
  What strings.Clone answers: the same bytes. (The contract of what it calls is the library's own, laid at this translation: YthhnhnljefiboaaShelf.)
-/
import Derived.Test.YthhnhnljefiboaaShelf
import Derived.WalkKit
namespace Go.Proofs.Ythhnhnljefiboaa.pk
open Go.RowKit

set_option maxRecDepth 100000 in
theorem clone_any (s : ByteArray) (w : World) (hlim : s.size ≤ 281474976710656) :
    Calls Try.prog 55 #[.string s] w fun e w' => e = .returned (.string s) ∧ Below w.heap.size w w' := by
  go_enter Try.func55, Try.ntmps55
  go_wp2_with fail
  refine (Try.stringslite_Clone s w hlim).mono ?_
  rintro e w1 ⟨rfl, hb⟩
  go_wp2
  go_ret
  exact ⟨rfl, hb⟩
end Go.Proofs.Ythhnhnljefiboaa.pk
