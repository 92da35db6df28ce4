/-
  The program's Twin.
-/
import Derived.Test.YtpimdbnhpbjlkaaGreatDoorDkPC
import Derived.Laws.EntriesVeiled
namespace Go.Proofs.YtpimdbnhpbjlkaaGreatDoor.dk
set_option linter.unusedVariables false
open Go.RowKit
open fl (S S_size S_append S_inj str_eq str_ne)
open rw (Arr But Row Own bnext below_box below_drew below_drewN addr_add Fr RowB)
open mp (Mp Turned kget kput kwithout kmap KSorted Ranging)

end Go.Proofs.YtpimdbnhpbjlkaaGreatDoor.dk
