/-
  What strings.Clone answers: the same bytes. (The contract of what it calls is the library's own, laid at this translation: YtekbjapclajflaaDoorShelf.)
-/
import Derived.Test.YtekbjapclajflaaDoorShelf
import Derived.WalkKit
namespace Go.Proofs.YtekbjapclajflaaDoor.pk
open Go.RowKit

set_option maxRecDepth 100000 in
theorem clone_any (s : ByteArray) (w : World) (hlim : s.size ≤ 281474976710656) :
    Calls Tryd.prog 30 #[.string s] w fun e w' => e = .returned (.string s) ∧ Below w.heap.size w w' := by
  go_enter Tryd.func30, Tryd.ntmps30
  go_wp2_with fail
  refine (Tryd.stringslite_Clone s w hlim).mono ?_
  rintro e w1 ⟨rfl, hb⟩
  go_wp2
  go_ret
  exact ⟨rfl, hb⟩
end Go.Proofs.YtekbjapclajflaaDoor.pk
