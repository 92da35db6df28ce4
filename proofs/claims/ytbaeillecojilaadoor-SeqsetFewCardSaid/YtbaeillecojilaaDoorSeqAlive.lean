/-
  What alive answers.
-/
import Derived.Test.YtbaeillecojilaaDoorSeqProg
namespace Go.Proofs.YtbaeillecojilaaDoor.sq
open Go.RowKit

theorem dec_1 {n : Nat} (h : n < 10) : dec n = [48 + UInt8.ofNat n] := dec_small h
def al : List (Nat × Nat) := [(2, 2), (4, 7), (9, 0)]
theorem al_text : text al = [50, 44, 52, 58, 55, 44, 57, 58, 42] := by
  have e : text al = told 2 ++ (44 :: (told 4 ++ 58 :: told 7) ++ (44 :: (told 9 ++ 58 :: told 0) ++ [])) := by simp [al, text, one]
  have t (n : Nat) (h : n < 10) (h0 : n ≠ 0) : told n = [48 + UInt8.ofNat n] := by unfold told; rw [if_neg h0, dec_1 h]
  rw [e, t 2 (by decide) (by decide), t 4 (by decide) (by decide), t 7 (by decide) (by decide), t 9 (by decide) (by decide)]
  decide
theorem al_ok : printOk al = true := by decide
theorem al_parse : parseOf [50, 44, 52, 58, 55, 44, 57, 58, 42] = al ∧ parseOk [50, 44, 52, 58, 55, 44, 57, 58, 42] = true := by
  have h := parse_print al_ok
  rw [al_text] at h
  exact ⟨h.2, h.1⟩
theorem al_print : printOf al = [50, 44, 52, 58, 55, 44, 57, 58, 42] := by unfold printOf; rw [if_pos al_ok, al_text]
theorem al_norm : IsNorm [3, 1, 2, 9, 0] [(1, 3), (9, 9)] := by
  have m (n : Nat) : n ∈ ([3, 1, 2, 9, 0] : List Nat) ↔ n = 3 ∨ n = 1 ∨ n = 2 ∨ n = 9 ∨ n = 0 := by simp
  refine NormFrom.cons.2 ⟨by decide, by decide, by decide, fun n h1 h2 h => ?_, fun n h1 h2 => ?_, by decide, NormFrom.cons.2 ⟨by decide, by decide, by decide, fun n h1 h2 h => ?_, fun n h1 h2 => ?_, by decide, fun n h1 h => ?_⟩⟩
  all_goals simp only at *
  · omega
  · exact (m n).2 (by omega)
  · rcases (m n).1 h with h | h | h | h | h <;> omega
  · exact (m n).2 (by omega)
  · rcases (m n).1 h with h | h | h | h | h <;> omega

set_option maxHeartbeats 2000000 in
set_option maxRecDepth 100000 in
theorem alive_any (w : World) (hL : Laid w) :
    Calls Tryd.prog 12 #[] w fun e w' => e = .returned (.bool true) ∧ Below w.heap.size w w' := by
  have h1 := parse_any [50, 44, 52, 58, 55, 44, 57, 58, 42] (by decide) w hL.e
  rw [al_parse.1, al_parse.2] at h1
  change Calls Tryd.prog 10 #[.string ⟨#[50, 44, 52, 58, 55, 44, 57, 58, 42]⟩] w fun e w' => (∃ a2 c2, e = .returned (.tuple #[.slice a2 3 c2, .bool true]) ∧ RowR w' a2 al) ∧ Below w.heap.size w w' at h1
  have HLD := Lib.hid hL
  clear hL
  go_enter Tryd.func12, Tryd.ntmps12
  go_wp2_with fail
  refine h1.mono ?_
  rintro e w1 ⟨⟨a1, c1, rfl, hr⟩, hb1⟩
  have HR := Lib.hid hr
  clear h1 hr
  have h2 := print_any a1 c1 al (by decide) w1 HR.out (HLD.out.later hb1).t
  clear HLD
  rw [al_print, al_ok] at h2
  change Calls Tryd.prog 14 #[.slice a1 3 c1] w1 fun e w' => e = .returned (.tuple #[.string ⟨#[50, 44, 52, 58, 55, 44, 57, 58, 42]⟩, .bool true]) ∧ Below w1.heap.size w1 w' at h2
  go_wp2_with fail
  refine h2.mono ?_
  rintro e w2 ⟨rfl, hb2⟩
  clear h2
  have HB2 := hb1.trans (hb2.mono hb1.size)
  clear hb1
  have HR2 := Lib.hid (HR.out.later hb2)
  clear hb2 HR
  have h3 := norm_any 12 (by decide) sort_at12 (some ⟨w2.heap.size, 0, none⟩) 5 [3, 1, 2, 9, 0] (by decide) (Lib.hid (by decide)) (w2.alloc (.cells #[.int .u64 3, .int .u64 1, .int .u64 2, .int .u64 9, .int .u64 0] 31))
    (.inr ⟨w2.heap.size, 0, rfl, by simp, fun j hj => by
      match j, hj with
      | 0, _ => simp
      | 1, _ => simp
      | 2, _ => simp
      | 3, _ => simp
      | 4, _ => simp⟩)
  go_wp2_with fail
  refine h3.mono ?_
  rintro e w3 ⟨⟨L, a3, c3, rfl, hr3, hn3⟩, hb3⟩
  obtain rfl := isNorm_one hn3 al_norm
  have HB3 := HB2.trans (((Below.refl _ w2).alloc (Nat.le_refl _) _).trans (hb3.mono (by simp)) |>.mono HB2.size)
  have HR3 := Lib.hid (HR2.out.later (((Below.refl _ w2).alloc (Nat.le_refl _) _).trans (hb3.mono (by simp))))
  have HN3 := Lib.hid hr3
  clear h3 hb3 hr3 hn3 HB2 HR2
  have h5 := fun W (hb : Below w3.heap.size w3 W) => has_any a1 c1 al 5 7 (by decide) W (HR3.out.later hb)
  have h6 := fun W (hb : Below w3.heap.size w3 W) => has_any a1 c1 al 5 3 (by decide) W (HR3.out.later hb)
  change ∀ W, Below w3.heap.size w3 W → Calls Tryd.prog 17 #[.slice a1 3 c1, .int .u64 5, .int .u64 7] W fun e w' => e = .returned (.bool true) ∧ Below W.heap.size W w' at h5
  change ∀ W, Below w3.heap.size w3 W → Calls Tryd.prog 17 #[.slice a1 3 c1, .int .u64 5, .int .u64 3] W fun e w' => e = .returned (.bool false) ∧ Below W.heap.size W w' at h6
  have H5 := Lib.hid h5
  have H6 := Lib.hid h6
  clear h5 h6
  rcases HR3.out with h0 | ⟨b1, o1, rfl, hb1, hc1⟩
  · exact absurd h0 (by decide)
  rcases HN3.out with h0 | ⟨b3, o3, rfl, hb3, hc3⟩
  · exact absurd h0 (by decide)
  obtain ⟨x1, x2⟩ := hc1 2 (by decide)
  obtain ⟨y1, y2⟩ := hc3 0 (by decide)
  have HX1 := Lib.hid (And.intro hb1 (And.intro x1 x2))
  have HY1 := Lib.hid (And.intro hb3 (And.intro y1 y2))
  change w3.cell? ⟨b1, o1 + 4, none⟩ = some (.int .u64 9) at x1
  change w3.cell? ⟨b1, o1 + 4 + 1, none⟩ = some (.int .u64 0) at x2
  change w3.cell? ⟨b3, o3, none⟩ = some (.int .u64 1) at y1
  change w3.cell? ⟨b3, o3 + 1, none⟩ = some (.int .u64 3) at y2
  clear hc1 hc3 HR3 HN3
  have hgd := range_guard
  have hn1 := range_neq 9 0 9 0
  have hn2 := range_neq 1 3 1 3
  change ∀ w, (binOp .neq 41 (.agg #[.int .u64 9, .int .u64 0]) (.agg #[.int .u64 9, .int .u64 0])).run Tryd.prog w = .ok (.bool false) w at hn1
  change ∀ w, (binOp .neq 41 (.agg #[.int .u64 1, .int .u64 3]) (.agg #[.int .u64 1, .int .u64 3])).run Tryd.prog w = .ok (.bool false) w at hn2
  go_wp2_with fail
  refine (H5.out w3 (Below.refl _ _)).mono ?_
  rintro e w4 ⟨rfl, hb4⟩
  clear x1 x2 hn1
  go_wp2_with fail
  refine (H6.out w4 hb4).mono ?_
  rintro e w5 ⟨rfl, hb5⟩
  have HB5 := HB3.trans ((hb4.trans (hb5.mono hb4.size)).mono HB3.size)
  have z1 := ((hb4.trans (hb5.mono hb4.size)).cell (p := ⟨b3, o3, none⟩) hb3).trans y1
  have z2 := ((hb4.trans (hb5.mono hb4.size)).cell (p := ⟨b3, o3 + 1, none⟩) hb3).trans y2
  clear y1 y2 H5 H6 hb4 hb5 HB3 HX1 HY1
  go_wp2
  go_ret
  exact ⟨rfl, HB5⟩
end Go.Proofs.YtbaeillecojilaaDoor.sq
