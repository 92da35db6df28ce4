/-
  What bytes.HasSuffix answers of 0D 0A; a cut of a row of bytes.
-/
import Derived.Test.YtnpikjobjmffgaaDoorLinNumb
namespace Go.Proofs.YtnpikjobjmffgaaDoor.li
open Go.RowKit

theorem cut_from (W : World) (g o n c k : Nat) (hk : k ≤ n) :
    (Instr.slice 48 (.slice (some ⟨g, o, none⟩) n c) (some (.int .i64 (k : Int))) none none).run Tryd.prog W = .ok (.slice (some ⟨g, if c = k then o else o + k, none⟩) (n - k) (c - k)) W := by
  rw [run_slice_l W 48 _ _ _ (show Tryd.prog.underlying 48 = some (.slice (Tryd.prog.elem 48)) by kernel_rfl) .i64 (k : Int) (by omega) (by omega)]
  have hsz : (sizeOf (Tryd.prog.elem 48)).run Tryd.prog W = .ok 1 W := by kernel_rfl
  rw [hsz]
  simp only [Result.andThen_ok, sliced, Int.toNat_natCast, Nat.mul_one]
  split
  · rfl
  · simp [addr_add]
theorem cut_to (W : World) (g o n c k : Nat) (hk : k ≤ n) (hn : n ≤ c) :
    (Instr.slice 48 (.slice (some ⟨g, o, none⟩) n c) none (some (.int .i64 (k : Int))) none).run Tryd.prog W = .ok (.slice (some ⟨g, o, none⟩) k c) W := by
  rw [run_slice_h (P := Tryd.prog) W 48 (some ⟨g, o, none⟩) n c (show Tryd.prog.underlying 48 = some (.slice (Tryd.prog.elem 48)) by kernel_rfl) .i64 (k : Int) (by omega) (by omega)]
  have hsz : (sizeOf (Tryd.prog.elem 48)).run Tryd.prog W = .ok 1 W := by kernel_rfl
  rw [hsz]
  simp only [Result.andThen_ok, sliced, Int.toNat_natCast, Nat.zero_mul, Nat.sub_zero]
  split <;> rfl

set_option maxRecDepth 100000 in
theorem bequal_any (g o c : Nat) (p : List UInt8) (h c2 : Nat) (r : List UInt8) (w : World) (h1 : Lie w g o p) (h2 : Lie w h 0 r) :
    Calls Tryd.prog 24 #[.slice (some ⟨g, o, none⟩) p.length c, .slice (some ⟨h, 0, none⟩) r.length c2] w fun e w' => e = .returned (.bool (decide (p = r))) ∧ w' = w := by
  have hc1 := conv_lie w g o c p h1
  have hc2 := conv_lie w h 0 c2 r h2
  have hq : ((S p).toList == (S r).toList) = decide (p = r) := by
    rw [ByteArray.toList_eq, ByteArray.toList_eq, S_data, S_data]
    by_cases e : p = r
    · subst e; simp
    · rw [decide_eq_false e, beq_eq_false_iff_ne]; exact e
  generalize decide (p = r) = b at *
  generalize p.length = n at *
  generalize r.length = m at *
  go_enter Tryd.func24, Tryd.ntmps24
  go_wp2
  go_ret
  exact ⟨rfl, rfl⟩

theorem ends_drop {p : List UInt8} (h : 2 ≤ p.length) : decide (p.drop (p.length - 2) = [13, 10]) = ends p := by
  unfold ends
  rw [decide_eq_true h, Bool.true_and, List.drop_eq_getElem_cons (by omega), List.drop_eq_getElem_cons (by omega), List.drop_of_length_le (by omega)]
  have e1 : p.getD (p.length - 2) 0 = p[p.length - 2] := by rw [List.getD_eq_getElem?_getD, List.getElem?_eq_getElem (by omega)]; rfl
  have e2 : p.getD (p.length - 1) 0 = p[p.length - 2 + 1]'(by omega) := by
    rw [List.getD_eq_getElem?_getD, List.getElem?_eq_getElem (by omega)]
    simp only [Option.getD_some]
    congr 1
    omega
  rw [e1, e2, ← Bool.decide_and]
  simp
theorem not_ends {p : List UInt8} (h : p.length < 2) : ends p = false := by
  unfold ends
  rw [decide_eq_false (by omega)]
  rfl
set_option maxHeartbeats 1000000 in
set_option maxRecDepth 100000 in
theorem bsuffix_any (g o c : Nat) (p : List UInt8) (hp : p.length ≤ 1000000) (hc : p.length ≤ c) (h : Nat) (w : World) (h1 : Lie w g o p) (h2 : Lie w h 0 [13, 10]) :
    Calls Tryd.prog 20 #[.slice (some ⟨g, o, none⟩) p.length c, .slice (some ⟨h, 0, none⟩) 2 2] w fun e w' => e = .returned (.bool (ends p)) ∧ w' = w := by
  by_cases h0 : 2 ≤ p.length
  · have hw1 : IntKind.i64.wrap ((p.length : Int) - 2) = ((p.length - 2 : Nat) : Int) := by rw [show (p.length : Int) - 2 = ((p.length - 2 : Nat) : Int) by omega]; exact IntWalk.i64_in _ (by omega)
    have hsl := fun W => cut_from W g o p.length c (p.length - 2) (by omega)
    have hne : ¬ c = p.length - 2 := by omega
    simp only [if_neg hne] at hsl
    have h22 : p.length - (p.length - 2) = 2 := by omega
    rw [h22] at hsl
    have hE := bequal_any g (o + (p.length - 2)) (c - (p.length - 2)) (p.drop (p.length - 2)) h 2 [13, 10] w (h1.drop _) h2
    rw [List.length_drop, h22, ends_drop h0] at hE
    have hi : (2 : Int) ≤ (p.length : Int) := by omega
    clear h1 h2 hne h22
    generalize ends p = b at *
    generalize p.length - 2 = k at *
    generalize p.length = n at *
    go_enter Tryd.func20, Tryd.ntmps20
    go_wp2_with fail
    refine hE.mono ?_
    rintro e w1 ⟨rfl, rfl⟩
    go_wp2
    go_ret
    exact ⟨rfl, rfl⟩
  · have hcl : Hid (ends p = false) := Lib.hid (not_ends (by omega))
    have hi : ¬ (2 : Int) ≤ (p.length : Int) := by omega
    clear h1 h2
    go_enter Tryd.func20, Tryd.ntmps20
    go_wp2
    go_ret
    exact ⟨by rw [hcl.out]; rfl, rfl⟩
end Go.Proofs.YtnpikjobjmffgaaDoor.li
