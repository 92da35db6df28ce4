/-
  What stands and alive answer.
-/
import Derived.Test.YtnpikjobjmffgaaDoorLinSmall
import Derived.Test.YtnpikjobjmffgaaDoorLinSame
import Derived.Deep.RegionHeld3
namespace Go.Proofs.YtnpikjobjmffgaaDoor.li
open Go.RowKit

/-- How a feeder stands, in three parts. -/
def stw (st : St) : Value := .agg #[.int .i64 (waits st : Nat), .int .i64 (st.text.length : Nat), .bool st.deaf]

set_option maxHeartbeats 4000000 in
set_option maxRecDepth 100000 in
theorem stands_any (q : Nat) (v : Value) (st : St) (hst : st.ok) (w : World) (hF : Fd w q v st) :
    Calls Tryd.prog 13 #[.pointer (some ⟨q, 0, none⟩), stw st] w fun e w' => e = .returned (.bool true) ∧ Below w.heap.size w w' := by
  have HW := Lib.hid (fun W (hW : Fd W q v st) => waits_q q v st hst W hW)
  have HZ := Lib.hid (fun W (hW : Fd W q v st) => size_q q v st W hW)
  have HD := Lib.hid (fun W (hW : Fd W q v st) => deaf_q q v st W hW)
  have hb1 : Below w.heap.size w (w.alloc (.cells #[.int .i64 (waits st : Nat), .int .i64 (st.text.length : Nat), .bool st.deaf] 29)) := (Below.refl _ _).alloc (Nat.le_refl _) _
  have hA1 := Arr.new w 29 #[.int .i64 (waits st : Nat), .int .i64 (st.text.length : Nat), .bool st.deaf]
  have HF1 := Lib.hid (hF.later hb1)
  unfold stw
  clear hF
  generalize waits st = a at *
  generalize st.text.length = b at *
  generalize st.deaf = d at *
  go_enter Tryd.func13, Tryd.ntmps13
  go_upto_region 1 with (fail)
  generalize w.alloc (.cells #[.int .i64 (a : Nat), .int .i64 (b : Nat), .bool d] 29) = w1 at *
  have c0 := hA1.cell (j := 0) rfl
  have c1 := hA1.cell (j := 1) rfl
  have c2 := hA1.cell (j := 2) rfl
  go_quiet (first
    | (go_at_call 14; refine Calls.quiet_of (HW.out _ ?_); exact HF1.out.drewN _)
    | (go_at_call 15; refine Calls.quiet_of_same (HZ.out _ ?_); exact HF1.out.drewN _)
    | (go_at_call 16; refine Calls.quiet_of_same (HD.out _ ?_); exact HF1.out.drewN _))
  go_wp2_with fail
  go_ret
  exact ⟨rfl, below_drewN hb1 _⟩
end Go.Proofs.YtnpikjobjmffgaaDoor.li
