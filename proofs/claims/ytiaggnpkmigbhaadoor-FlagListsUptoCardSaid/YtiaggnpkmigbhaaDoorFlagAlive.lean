/-
  What 'alive' answers: true.
-/
import Derived.Test.YtiaggnpkmigbhaaDoorFlagText
namespace Go.Proofs.YtiaggnpkmigbhaaDoor.fl
open Go.RowKit Go.Shelf

def lstA : List (List UInt8) := [[98], [92, 68, 82, 65, 70, 84], [97], [66]]
theorem canonA : cf [92, 115, 101, 101, 110] = [92, 83, 101, 101, 110] ∧ (canon [92, 115, 101, 101, 110]).isSome = true := by decide
theorem makeA : make lstA = ([[92, 68, 114, 97, 102, 116], [97], [98]], 0) := by decide
theorem printA : print [[92, 68, 114, 97, 102, 116], [97], [98]] = [40, 92, 68, 114, 97, 102, 116, 32, 97, 32, 98, 41] := by decide
theorem shortA : Short lstA := fun x hx => by
  have : x.length ≤ 6 := by
    simp only [lstA, List.mem_cons, List.not_mem_nil, or_false] at hx
    rcases hx with rfl | rfl | rfl | rfl <;> decide
  omega

set_option maxHeartbeats 1000000 in
set_option maxRecDepth 100000 in
theorem alive_any (w : World) (hS : Sys w) :
    Calls Tryd.prog 12 #[] w fun e w' => e = .returned (.bool true) ∧ Below w.heap.size w w' := by
  have hca := canon_any [92, 115, 101, 101, 110] (by decide) w hS
  rw [canonA.1, canonA.2] at hca
  have HMK := Lib.hid (fun (W : World) (h : Sys W) => make_any (some ⟨W.heap.size, 0, none⟩) 4 lstA (by decide) shortA (W.alloc (.cells #[.string (S [98]), .string (S [92, 68, 82, 65, 70, 84]), .string (S [97]), .string (S [66])] 9))
    (.inr ⟨W.heap.size, 0, rfl, by simp, fun j hj => by
      rw [World.cell?_alloc_at _ _ _ _ rfl]
      match j, hj with
      | 0, _ => rfl
      | 1, _ => rfl
      | 2, _ => rfl
      | 3, _ => rfl⟩) (h.next ((Below.refl _ W).alloc (Nat.le_refl _) _)))
  rw [makeA] at HMK
  have HS := Lib.hid hS
  clear hS
  have hq1 : ((S [92, 83, 101, 101, 110]).toList == [92, 83, 101, 101, 110]) = true := by rw [S_toList]; rfl
  have hq2 : ((S [40, 92, 68, 114, 97, 102, 116, 32, 97, 32, 98, 41]).toList == [40, 92, 68, 114, 97, 102, 116, 32, 97, 32, 98, 41]) = true := by rw [S_toList]; rfl
  go_enter Tryd.func12, Tryd.ntmps12
  go_wp2_with fail
  refine hca.mono ?_
  rintro e w1 ⟨rfl, b1⟩
  have hmk := HMK.out w1 (HS.out.next b1)
  have hb1 : Below w.heap.size w (w1.alloc (.cells #[.string (S [98]), .string (S [92, 68, 82, 65, 70, 84]), .string (S [97]), .string (S [66])] 9)) := b1.trans ((Below.refl _ w1).alloc b1.size _)
  clear hca HMK
  go_wp2_with fail
  refine hmk.mono ?_
  rintro e w2 ⟨⟨v, rfl, hsl⟩, b2⟩
  have hpr := print_any v _ (by decide) (by decide) w2 hsl
  rw [printA] at hpr
  obtain ⟨a2, c2, rfl, _⟩ := hsl
  have hB2 := hb1.trans (b2.mono hb1.size)
  clear hmk b2 hb1
  go_wp2_with fail
  refine hpr.mono ?_
  rintro e w3 ⟨rfl, b3⟩
  go_wp2_with fail
  go_ret
  exact ⟨rfl, hB2.trans (b3.mono hB2.size)⟩
end Go.Proofs.YtiaggnpkmigbhaaDoor.fl
