/-
  What alive answers.
-/
import Derived.Test.YtgmopbgcimekhaaDoorWordFormP
namespace Go.Proofs.YtgmopbgcimekhaaDoor.wo
open Go.RowKit

theorem al_quote : quoteOf [97, 34, 98] = [34, 97, 92, 34, 98, 34] ∧ quoteOk [97, 34, 98] = true := by decide +kernel
theorem al_unquote : unquote [34, 120, 34, 32, 121] = some ([120], 3) := by
  rw [unquote_cons, if_pos rfl, unq_plain _ _ (by decide) (by decide) (by decide) (by decide), unq_end _ _ (by decide)]
  rfl
theorem al_box : boxOf [105, 110, 66, 111, 120] = inbox ∧ boxOk [105, 110, 66, 111, 120] = true := by decide +kernel
theorem al_form : formOf [110, 105, 108] = [34, 110, 105, 108, 34] := by
  unfold formOf
  rw [if_neg (by decide +kernel), if_pos (by decide +kernel)]
  decide +kernel
theorem al_dec : dec 70 = [55, 48] := by rw [dec_big (by decide), dec_small (by decide)]; decide

set_option maxHeartbeats 1000000 in
set_option maxRecDepth 100000 in
theorem alive_any (w : World) (hT : Tab w) :
    Calls Tryd.prog 11 #[] w fun e w' => e = .returned (.bool true) ∧ Below w.heap.size w w' := by
  have h1 := quote_any [97, 34, 98] (by decide)
  rw [al_quote.1, al_quote.2] at h1
  have h2 := unquote_any [34, 120, 34, 32, 121] (by decide)
  rw [al_unquote] at h2
  have h3 := box_any [105, 110, 66, 111, 120] (by decide)
  rw [al_box.1, al_box.2] at h3
  have h4 := fun W (hb : Below w.heap.size w W) => form_any [110, 105, 108] (by decide) W (hT.later hb)
  rw [al_form] at h4
  have h5 := fun W (hb : Below w.heap.size w W) => digits_any 70 (by decide) W (hT.later hb)
  rw [al_dec] at h5
  clear hT
  change ∀ w, Calls Tryd.prog 18 #[.string ⟨#[97, 34, 98]⟩] w fun e w' => e = .returned (.tuple #[.string ⟨#[34, 97, 92, 34, 98, 34]⟩, .bool true]) ∧ Below w.heap.size w w' at h1
  change ∀ w, Calls Tryd.prog 20 #[.string ⟨#[34, 120, 34, 32, 121]⟩] w fun e w' => e = .returned (.tuple #[.string ⟨#[120]⟩, .int .i64 3, .bool true]) ∧ Below w.heap.size w w' at h2
  change ∀ w, Calls Tryd.prog 24 #[.string ⟨#[105, 110, 66, 111, 120]⟩] w fun e w' => e = .returned (.tuple #[.string ⟨#[73, 78, 66, 79, 88]⟩, .bool true]) ∧ Below w.heap.size w w' at h3
  change ∀ W, Below w.heap.size w W → Calls Tryd.prog 26 #[.string ⟨#[110, 105, 108]⟩] W fun e w' => e = .returned (.string ⟨#[34, 110, 105, 108, 34]⟩) ∧ Below W.heap.size W w' at h4
  change ∀ W, Below w.heap.size w W → Calls Tryd.prog 16 #[.int .u64 70] W fun e w' => e = .returned (.string ⟨#[55, 48]⟩) ∧ Below W.heap.size W w' at h5
  go_enter Tryd.func11, Tryd.ntmps11
  go_wp2_with fail
  refine (h1 w).mono ?_
  rintro e w1 ⟨rfl, hb1⟩
  go_wp2_with fail
  refine (h2 w1).mono ?_
  rintro e w2 ⟨rfl, hb2⟩
  have hB2 := hb1.trans (hb2.mono hb1.size)
  go_wp2_with fail
  refine (h3 w2).mono ?_
  rintro e w3 ⟨rfl, hb3⟩
  have hB3 := hB2.trans (hb3.mono hB2.size)
  go_wp2_with fail
  refine (h4 w3 hB3).mono ?_
  rintro e w4 ⟨rfl, hb4⟩
  have hB4 := hB3.trans (hb4.mono hB3.size)
  go_wp2_with fail
  refine (h5 w4 hB4).mono ?_
  rintro e w5 ⟨rfl, hb5⟩
  have hB5 := hB4.trans (hb5.mono hB4.size)
  go_wp2_with fail
  go_ret
  exact ⟨rfl, hB5⟩
end Go.Proofs.YtgmopbgcimekhaaDoor.wo
