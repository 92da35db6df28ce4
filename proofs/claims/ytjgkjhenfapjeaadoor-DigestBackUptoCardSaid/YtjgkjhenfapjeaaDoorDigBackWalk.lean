/-
  The walks of DigestDigits and DigestBack.
-/
import Derived.Test.YtjgkjhenfapjeaaDoorDigNilWalk
namespace Go.Proofs.YtjgkjhenfapjeaaDoor.dg
open Go.RowKit

theorem refunhex_good (l : List UInt8) (hl : l.length ≤ 268435456) (w : World) :
    Calls Tryd.prog 13 #[.string (S l)] w fun e w' => e = .returned (.tuple #[.string (S (unhex l)), .bool (good l)]) ∧ Below w.heap.size w w' := by
  have h := refunhex_any l hl w
  rw [(ref_unhex l).1, (ref_unhex l).2] at h
  exact h

set_option maxRecDepth 100000 in
theorem digits_any (l : List UInt8) (hl : l.length ≤ 268435456) (w : World) (hK : Keys w) :
    Calls Tryd.prog 4 #[.string (S l)] w fun e w' => e = .returned (.bool true) ∧ Below w.heap.size w w' := by
  have h1 := unhex_any l (by omega)
  have h2 := refunhex_good l hl
  have h3 := hex_any l (by omega)
  have h4 := refhex_any l (by omega)
  have hpos := hK.pos
  generalize unhex l = u at *
  generalize good l = g at *
  generalize hex l = x at *
  go_enter Tryd.func4, Tryd.ntmps4
  go_wp2_with fail
  refine (h1 w).mono ?_
  rintro e w1 ⟨rfl, hb1⟩
  go_wp2_with fail
  refine (h2 w1).mono ?_
  rintro e w2 ⟨rfl, hb2⟩
  have hB2 := hb1.trans (hb2.mono hb1.size)
  have hK2 := hK.below hB2 hpos
  go_wp2_with fail
  refine (alive_any w2 hK2).mono ?_
  rintro e w3 ⟨rfl, hb3⟩
  have hB3 := hB2.trans (hb3.mono hB2.size)
  go_wp2_with fail
  refine (h3 w3).mono ?_
  rintro e w4 ⟨rfl, hb4⟩
  have hB4 := hB3.trans (hb4.mono hB3.size)
  go_wp2_with fail
  refine (h4 w4).mono ?_
  rintro e w5 ⟨rfl, hb5⟩
  have hB5 := hB4.trans (hb5.mono hB4.size)
  go_wp2_with fail
  go_ret
  exact ⟨rfl, hB5⟩

set_option maxRecDepth 100000 in
theorem back_any (l : List UInt8) (hl : l.length ≤ 268435456) (w : World) (hK : Keys w) :
    Calls Tryd.prog 5 #[.string (S l)] w fun e w' => e = .returned (.bool true) ∧ Below w.heap.size w w' := by
  have hg := good_hex l
  have h1 := hex_any l (by omega)
  have h2 := unhex_any (hex l) (by rw [hex_length]; omega)
  have hu : unhex (hex l) = l := by unfold unhex; rw [hg.1]; exact hg.2
  rw [hu, hg.1] at h2
  have h3 := unhex_any l (by omega)
  have hpos := hK.pos
  clear hg hu
  generalize hex l = x at *
  go_enter Tryd.func5, Tryd.ntmps5
  go_wp2_with fail
  refine (alive_any w hK).mono ?_
  rintro e w1 ⟨rfl, hb1⟩
  go_wp2_with fail
  refine (h1 w1).mono ?_
  rintro e w2 ⟨rfl, hb2⟩
  have hB2 := hb1.trans (hb2.mono hb1.size)
  go_wp2_with fail
  refine (h2 w2).mono ?_
  rintro e w3 ⟨rfl, hb3⟩
  have hB3 := hB2.trans (hb3.mono hB2.size)
  cases hgl : good l with
  | true =>
    have hu : unhex l = vals l := by unfold unhex; rw [hgl]; rfl
    have hv := vals_length hgl
    have hx := hex_vals hgl
    have h4 := hex_any (vals l) (by omega)
    rw [hx] at h4
    rw [hgl, hu] at h3
    clear hv hx hu hgl h1 h2
    go_wp2_with fail
    refine (h3 w3).mono ?_
    rintro e w4 ⟨rfl, hb4⟩
    have hB4 := hB3.trans (hb4.mono hB3.size)
    go_wp2_with fail
    refine (h4 w4).mono ?_
    rintro e w5 ⟨rfl, hb5⟩
    have hB5 := hB4.trans (hb5.mono hB4.size)
    go_wp2_with fail
    go_ret
    exact ⟨rfl, hB5⟩
  | false =>
    have hu : unhex l = [] := by unfold unhex; rw [hgl]; rfl
    rw [hgl, hu, show S [] = (⟨#[]⟩ : ByteArray) from rfl] at h3
    clear hu hgl h1 h2
    go_wp2_with fail
    refine (h3 w3).mono ?_
    rintro e w4 ⟨rfl, hb4⟩
    have hB4 := hB3.trans (hb4.mono hB3.size)
    go_wp2_with fail
    go_ret
    exact ⟨rfl, hB4⟩
end Go.Proofs.YtjgkjhenfapjeaaDoor.dg
