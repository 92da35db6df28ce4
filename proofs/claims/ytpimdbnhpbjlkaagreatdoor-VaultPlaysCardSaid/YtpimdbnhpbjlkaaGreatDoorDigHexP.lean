/-
  What the program's Hex answers: two digits a byte.
-/
import Derived.Test.YtpimdbnhpbjlkaaGreatDoorDigBytes
import Derived.Deep.AppendLies
import Derived.Deep.RegionLaw
import Derived.Deep.CutRange
namespace Go.Proofs.YtpimdbnhpbjlkaaGreatDoor.dg
open Go.RowKit

theorem and15 (n : Nat) (h : n < 256) : bits .and .u8 (n : Int) 15 = ((n % 16 : Nat) : Int) := by
  have : ∀ i : Fin 256, bits .and .u8 (i.1 : Int) 15 = ((i.1 % 16 : Nat) : Int) := by decide +kernel
  exact this ⟨n, h⟩
theorem conv_nil (w : World) : (convert 81 9 (.slice none 0 0)).run Tryz.prog w = .ok (.string (S [])) w := by kernel_rfl

set_option maxHeartbeats 4000000 in
set_option maxRecDepth 100000 in
theorem hex_any (l : List UInt8) (hl : l.length ≤ 70368744177000) (w : World) :
    Calls Tryz.prog 21 #[.string (S l)] w fun e w' => e = .returned (.string (S (hex l))) ∧ Below w.heap.size w w' := by
  obtain ⟨i0, hi, hz0, hz1, hz2⟩ := info_parts infoU8
  have hz := S_size l
  obtain ⟨B, hB0⟩ : ∃ B, B = w.heap.size := ⟨_, rfl⟩
  have hBw : B ≤ w.heap.size := by omega
  go_enter Tryz.func21, Tryz.ntmps21
  go_wp2
  go_loopw [3, 7] (fun v i wr => ∃ k : Nat, i = .int .i64 k ∧ k ≤ l.length ∧ (k = 0 → v = .slice none 0 0) ∧ Hid (wr.ownsRow B 5 1 v (hex (l.take k)).length (Lib.byteCells (hex (l.take k)))) ∧ Below B w wr)
    (fun _ i _ => l.length - (intOf i).toNat)
  case atStart => exact ⟨0, rfl, Nat.zero_le _, fun _ => rfl, Lib.hid (World.ownsRow_nil _ _ _ _), Below.refl _ _⟩
  case round =>
    obtain ⟨k, rfl, hk, hv0, HO, hB⟩ := hrel
    have hBs : B ≤ wr.heap.size := Nat.le_trans hBw hB.size
    by_cases hlt : k < l.length
    · clear hv0
      have hlt' : k < (S l).size := by rw [S_size]; exact hlt
      have hht := hex_take l k hlt
      have hhl := hex_length (l.take k)
      rw [List.length_take] at hhl
      obtain ⟨x, hx2⟩ : ∃ x : Nat, (l[k]'hlt).toNat = x := ⟨_, rfl⟩
      have hx : ((S l)[k]'hlt').toNat = x := by rw [S_get l k hlt hlt']; exact hx2
      have hxl : x < 256 := hx2 ▸ UInt8.toNat_lt _
      obtain ⟨p, hp⟩ : ∃ p : Nat, x / 16 = p := ⟨_, rfl⟩
      obtain ⟨q, hq⟩ : ∃ q : Nat, x % 16 = q := ⟨_, rfl⟩
      have hpi : (x : Int) / 16 = (p : Int) := by omega
      have hqi : bits .and .u8 (x : Int) 15 = (q : Int) := by rw [and15 x hxl, hq]
      have hp16 : p < 16 := by omega
      have hq16 : q < 16 := by omega
      have dp := const_digit p hp16
      have dq := const_digit q hq16
      have hht2 : hex (l.take (k + 1)) = hex (l.take k) ++ [digit p, digit q] := by rw [hht]; unfold hex1; rw [hx2, hp, hq]
      clear hp hq
      have hpI : (p : Int) < 16 := by omega
      have hqI : (q : Int) < 16 := by omega
      have hki : (k : Int) < (l.length : Int) := by omega
      have HT := Lib.hid hht2
      have HHL := Lib.hid hhl
      clear hht hht2 hx2 hhl
      generalize hex (l.take k) = o at *
      have hOd : Hid (wr.drew.ownsRow B 5 1 u3 o.length (Lib.byteCells o)) := HO
      go_upto_region 5 with (fail)
      have hn2 : ∀ W : World, ∀ (j : Nat) (u : Value), ([.int .u8 ((digit p).toNat : Nat), .int .u8 ((digit q).toNat : Nat)] : List Value)[j]? = some u → (W.alloc (.cells #[.int .u8 ((digit p).toNat : Nat), .int .u8 ((digit q).toNat : Nat)] 5)).cell? ((⟨W.heap.size, 0, none⟩ : Addr).add j) = some u := by
        intro W j u hj
        match j, hj with
        | 0, hj => simp at hj; subst hj; simp [Addr.add]
        | 1, hj => simp at hj; subst hj; simp [Addr.add]
      have HN2 := Lib.hid hn2
      clear hn2
      have hone : ∀ u ∈ ([.int .u8 ((digit p).toNat : Nat), .int .u8 ((digit q).toNat : Nat)] : List Value), u.oneCell' = true := by intro u hu; simp at hu; rcases hu with rfl | rfl <;> rfl
      have HONE := Lib.hid hone
      clear hone
      have hol : o.length ≤ 2 * k := by have := HHL.out; omega
      have HOL := Lib.hid hol
      clear hol
      go_region_law (refine step_append_lies _ rfl (.tmp 10) (.tmp 21) 81 rfl B 5 i0 (.int .u8 0) 1 1 Tryz.underlying81 hi hz0 hz1 hz2 rfl (by decide) u3 o.length (Lib.byteCells o) (by simp [Act.eval]) (hOd.out.alloc _) ⟨wr.drew.heap.size, 0, none⟩ 2 2 [.int .u8 ((digit p).toNat : Nat), .int .u8 ((digit q).toNat : Nat)] (by simp [Act.eval]) rfl (HN2.out _) HONE.out (by decide) (by have := HOL.out; unfold maxLen; omega) (by have := HOL.out; omega) (by simp; omega) _ rfl ?_; intro g cap w' hown' hgrow _ hgl)
      all_goals have hb1 : Below B w w' := (hB.drew.alloc (by simpa using hBs) _).grown hgrow (by simp; omega) (fun j hj => (hOd.out.lt j hj).1)
      all_goals have hown2 : w'.ownsRow B 5 1 (Value.slice (some ⟨g, 0, none⟩) (o.length + 2) cap) (o ++ [digit p, digit q]).length (Lib.byteCells (o ++ [digit p, digit q])) := (by rw [List.length_append, Lib.byteCells_append]; exact hown')
      all_goals rw [← HT.out] at hown2
      all_goals have HO2 := Lib.hid hown2
      all_goals clear hown2 hown' hOd HO
      all_goals go_wp2_with fail
      all_goals (go_roundw; (case rel => exact ⟨k + 1, by go_num, by omega, fun h => absurd h (by omega), HO2, hb1⟩); (case measure => simp [intOf]; omega))
    · obtain rfl : k = l.length := by omega
      rw [List.take_length] at HO
      by_cases hnil : l = []
      · subst hnil
        obtain rfl := hv0 rfl
        rw [hB0] at hB
        clear HO
        have hcv := conv_nil wr
        go_wp2_with fail
        go_ret
        exact ⟨rfl, hB⟩
      · have hcv := conv_own wr _ _ _ (fun h => hnil (List.length_eq_zero_iff.1 (by have := hex_length l; rw [h, List.length_nil] at this; omega))) HO.out
        rw [hB0] at hB
        clear HO
        go_wp2_with fail
        go_ret
        exact ⟨rfl, hB⟩
end Go.Proofs.YtpimdbnhpbjlkaaGreatDoor.dg
