/-
  The law SealBack: the call answers true. (The walk.)
-/
import Derived.Test.YtpeogcjakojjhaaSealTornMath
import Derived.Test.YtpeogcjakojjhaaSealAlive
namespace Go.Proofs.Ytpeogcjakojjhaa.sl
open Go.RowKit

theorem all_any (l : List UInt8) (hl : l.length ≤ 17592186044416) (w : World) :
    Calls Try.prog 16 #[.string (S l)] w fun e W' => ∃ v, e = .returned (.tuple #[v, .int .i64 (fin 0 l), .int .i64 (err l)]) ∧ W'.ownsRow w.heap.size 9 1 v (scan 0 l).length (texts (scan 0 l)) ∧ Below w.heap.size w W' :=
  callsIn_wide.1 (all_in l hl w)

set_option maxHeartbeats 1000000 in
set_option maxRecDepth 100000 in
theorem sealback_any (L : List (List UInt8)) (hL : total L ≤ 16777216) (v0 : Value) (w : World) (h0 : SV w v0 L) :
    Calls Try.prog 6 #[v0] w fun e w' => e = .returned (.bool true) ∧ Below w.heap.size w w' := by
  obtain ⟨h1, h2, h3⟩ := whole (short L) (short_short L)
  have ht := total_short L
  have hjl := joined_length (short L)
  have hc := count_total (short L)
  have hR := row_any L hL v0 w h0
  have hA := all_any (joined (short L)) (by omega)
  have hx := texts_of h1
  have hn : (scan 0 (joined (short L))).length = (short L).length := by rw [← List.length_map (f := (·.2)), h1]
  rw [h2, h3, hx, hn] at hA
  have hz := S_size (joined (short L))
  rw [hjl] at hz
  have hS := same_any (short L) (by omega)
  generalize short L = K at *
  generalize joined K = J at *
  generalize total K = q at *
  have HA := Lib.hid hA
  have HS := Lib.hid hS
  clear hA hS h1 h2 h3 hx hn hjl
  go_enter Try.func6, Try.ntmps6
  go_wp2_with fail
  refine hR.mono ?_
  rintro e w1 ⟨v, u, rfl, hv, hu, hb1⟩
  go_wp2_with fail
  refine (alive_any _).mono ?_
  rintro e w2 ⟨rfl, hb2⟩
  go_wp2_with fail
  refine (HA.out _).mono ?_
  rintro e w3 ⟨v', rfl, hv', hb3⟩
  go_wp2_with fail
  refine (HS.out v v' w3 (SV.of_row rfl (ownsRow_below (ownsRow_below hv hb2) hb3)) (SV.of_row rfl hv')).mono ?_
  rintro e w4 ⟨rfl, hb4⟩
  have hB2 : Below w.heap.size w w2 := hb1.trans (hb2.mono hb1.size)
  have hB3 : Below w.heap.size w w3 := hB2.trans (hb3.mono hB2.size)
  have hB4 : Below w.heap.size w w4 := hB3.trans (hb4.mono hB3.size)
  clear hb1 hb2 hb3 hb4 hB2 hB3 hv hv' hu
  go_wp2
  go_ret
  exact ⟨rfl, hB4⟩
end Go.Proofs.Ytpeogcjakojjhaa.sl
