/-
  The walks of WordAtoms, WordQuotes, WordForms.
-/
import Derived.Test.YtgmopbgcimekhaaDoorWordAlive
namespace Go.Proofs.YtgmopbgcimekhaaDoor.wo
open Go.RowKit

set_option maxHeartbeats 2000000 in
set_option maxRecDepth 100000 in
theorem wordatoms_any (l : List UInt8) (hl : l.length ≤ 140737488355328) (n : Nat) (hn : n < 18446744073709551616) (w : World) (hT : Tab w) (hE : Errs w) :
    Calls Tryd.prog 3 #[.string (S l), .int .u64 n] w fun e w' => e = .returned (.bool true) ∧ Below w.heap.size w w' := by
  have h1 := number_any l hl w hE
  have hal := fun W (hb : Below w.heap.size w W) => alive_any W (hT.later hb)
  have h2 := refnumber_any l hl
  have h3 := upper_any l hl
  have h4 := refupper_any l hl
  have h5 := atom_any l hl
  have h6 := refatom_any l hl
  have h7 := fun W (hb : Below w.heap.size w W) => digits_any n hn W (hT.later hb)
  clear hT hE
  have h8 := refdigits_any n hn
  generalize numOf l = a1 at *
  generalize numOk l = a2 at *
  generalize upper l = a3 at *
  generalize atom l = a4 at *
  generalize dec n = a5 at *
  go_enter Tryd.func3, Tryd.ntmps3
  go_wp2_with fail
  refine h1.mono ?_
  rintro e w1 ⟨rfl, hb1⟩
  go_wp2_with fail
  refine (h2 w1).mono ?_
  rintro e w2 ⟨rfl, rfl⟩
  go_wp2_with fail
  refine (hal _ hb1).mono ?_
  rintro e w3 ⟨rfl, hb3⟩
  have hB3 := hb1.trans (hb3.mono hb1.size)
  go_wp2_with fail
  refine (h3 w3).mono ?_
  rintro e w4 ⟨rfl, hb4⟩
  have hB4 := hB3.trans (hb4.mono hB3.size)
  go_wp2_with fail
  refine (h4 w4).mono ?_
  rintro e w5 ⟨rfl, hb5⟩
  have hB5 := hB4.trans (hb5.mono hB4.size)
  go_wp2_with fail
  refine (h5 w5).mono ?_
  rintro e w6 ⟨rfl, hb6⟩
  have hB6 := hB5.trans (hb6.mono hB5.size)
  go_wp2_with fail
  refine (h6 w6).mono ?_
  rintro e w7 ⟨rfl, rfl⟩
  go_wp2_with fail
  refine (h7 _ hB6).mono ?_
  rintro e w8 ⟨rfl, hb8⟩
  have hB8 := hB6.trans (hb8.mono hB6.size)
  go_wp2_with fail
  refine (h8 w8).mono ?_
  rintro e w9 ⟨rfl, hb9⟩
  have hB9 := hB8.trans (hb9.mono hB8.size)
  go_wp2_with fail
  go_ret
  exact ⟨rfl, hB9⟩

set_option maxHeartbeats 2000000 in
set_option maxRecDepth 100000 in
theorem wordquotes_any (l : List UInt8) (hl : l.length ≤ 140737488355328) (w : World) (hT : Tab w) :
    Calls Tryd.prog 4 #[.string (S l)] w fun e w' => e = .returned (.bool true) ∧ Below w.heap.size w w' := by
  have h1 := quote_any l hl
  have hal := fun W (hb : Below w.heap.size w W) => alive_any W (hT.later hb)
  have h2 := refquote_any l (by omega)
  have h3 := unquote_any l hl
  have h4 := refunquote_res l hl
  have h5 := fun W (hb : Below w.heap.size w W) => literal_any l hl W (hT.later hb)
  clear hT
  have h6 := refliteral_any l (by omega)
  generalize quoteOf l = a1 at *
  generalize quoteOk l = a2 at *
  generalize unqT (unquote l) = a3 at *
  generalize unqN (unquote l) = a4 at *
  generalize unqB (unquote l) = a5 at *
  generalize literal l = a6 at *
  go_enter Tryd.func4, Tryd.ntmps4
  go_wp2_with fail
  refine (h1 w).mono ?_
  rintro e w1 ⟨rfl, hb1⟩
  go_wp2_with fail
  refine (h2 w1).mono ?_
  rintro e w2 ⟨rfl, rfl⟩
  go_wp2_with fail
  refine (h3 _).mono ?_
  rintro e w3 ⟨rfl, hb3⟩
  have hB3 := hb1.trans (hb3.mono hb1.size)
  go_wp2_with fail
  refine (h4 w3).mono ?_
  rintro e w4 ⟨rfl, hb4⟩
  have hB4 := hB3.trans (hb4.mono hB3.size)
  go_wp2_with fail
  refine (hal _ hB4).mono ?_
  rintro e w5 ⟨rfl, hb5⟩
  have hB5 := hB4.trans (hb5.mono hB4.size)
  go_wp2_with fail
  refine (h5 w5 hB5).mono ?_
  rintro e w6 ⟨rfl, hb6⟩
  have hB6 := hB5.trans (hb6.mono hB5.size)
  go_wp2_with fail
  refine (h6 w6).mono ?_
  rintro e w7 ⟨rfl, hb7⟩
  have hB7 := hB6.trans (hb7.mono hB6.size)
  go_wp2_with fail
  go_ret
  exact ⟨rfl, hB7⟩

set_option maxHeartbeats 2000000 in
set_option maxRecDepth 100000 in
theorem wordforms_any (l : List UInt8) (hl : l.length ≤ 140737488355328) (w : World) (hT : Tab w) :
    Calls Tryd.prog 5 #[.string (S l)] w fun e w' => e = .returned (.bool true) ∧ Below w.heap.size w w' := by
  have h1 := box_any l hl
  have hal := fun W (hb : Below w.heap.size w W) => alive_any W (hT.later hb)
  have h2 := refbox_any l hl
  have h3 := fun W (hb : Below w.heap.size w W) => form_any l hl W (hT.later hb)
  clear hT
  have h4 := refform_any l hl
  generalize boxOf l = a1 at *
  generalize boxOk l = a2 at *
  generalize formOf l = a3 at *
  go_enter Tryd.func5, Tryd.ntmps5
  go_wp2_with fail
  refine (h1 w).mono ?_
  rintro e w1 ⟨rfl, hb1⟩
  go_wp2_with fail
  refine (h2 w1).mono ?_
  rintro e w2 ⟨rfl, hb2⟩
  have hB2 := hb1.trans (hb2.mono hb1.size)
  go_wp2_with fail
  refine (hal _ hB2).mono ?_
  rintro e w3 ⟨rfl, hb3⟩
  have hB3 := hB2.trans (hb3.mono hB2.size)
  go_wp2_with fail
  refine (h3 w3 hB3).mono ?_
  rintro e w4 ⟨rfl, hb4⟩
  have hB4 := hB3.trans (hb4.mono hB3.size)
  go_wp2_with fail
  refine (h4 w4).mono ?_
  rintro e w5 ⟨rfl, hb5⟩
  have hB5 := hB4.trans (hb5.mono hB4.size)
  go_wp2_with fail
  go_ret
  exact ⟨rfl, hB5⟩
end Go.Proofs.YtgmopbgcimekhaaDoor.wo
