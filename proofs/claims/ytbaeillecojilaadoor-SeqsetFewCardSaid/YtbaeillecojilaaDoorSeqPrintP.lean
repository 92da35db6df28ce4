/-
  What the program's printRange answers.
-/
import Derived.Test.YtbaeillecojilaaDoorSeqParseP
import Derived.Test.YtbaeillecojilaaDoorSeqPrintR
import Derived.Deep.RegionWith
namespace Go.Proofs.YtbaeillecojilaaDoor.sq
open Go.RowKit

/-- What is kept from call to call: the table, the two cells. -/
structure Keep (g : Nat) (x y : Int) (w W : World) : Prop where
  b : Below (g + 1) w W
  c0 : W.cell? ⟨g, 0, none⟩ = some (.int .u64 x)
  c1 : W.cell? ⟨g, 1, none⟩ = some (.int .u64 y)
  t : Tab W
  s : g < W.heap.size

set_option maxHeartbeats 2000000 in
set_option maxRecDepth 100000 in
theorem prange_text (r : Nat × Nat) (h1 : r.1 < 18446744073709551616) (h2 : r.2 < 18446744073709551616) (w : World) (hT : Tab w) :
    Calls Tryd.prog 29 #[.agg #[.int .u64 (r.1 : Nat), .int .u64 (r.2 : Nat)]] w fun e w' => e = .returned (.string (S (one r))) ∧ Below w.heap.size w w' := by
  obtain ⟨p, q⟩ := r
  have hb0 : Below w.heap.size w (w.alloc (.cells #[.int .u64 (p : Nat), .int .u64 (q : Nat)] 41)) := (Below.refl _ _).alloc (Nat.le_refl _) _
  have ht0 := Two.made w p q 41
  have hs0 : w.heap.size < (w.alloc (.cells #[.int .u64 (p : Nat), .int .u64 (q : Nat)] 41)).heap.size := by simp
  have HT := Lib.hid (hT.later hb0)
  have hA : ∀ W, Keep w.heap.size p q (w.alloc (.cells #[.int .u64 (p : Nat), .int .u64 (q : Nat)] 41)) W → Calls Tryd.prog 42 #[.int .u64 (p : Nat)] W fun e w' => e = .returned (.string (S (told p))) ∧ Keep w.heap.size p q (w.alloc (.cells #[.int .u64 (p : Nat), .int .u64 (q : Nat)] 41)) w' := fun W k =>
    (printnum_any p h1 W k.t).mono fun e w' ⟨he, hb⟩ => ⟨he, ⟨k.b.trans (hb.mono (by have := k.s; omega)), (hb.cell (p := ⟨w.heap.size, 0, none⟩) k.s).trans k.c0, (hb.cell (p := ⟨w.heap.size, 1, none⟩) k.s).trans k.c1, k.t.later hb, by have := k.s; have := hb.size; omega⟩⟩
  have hB : ∀ W, Keep w.heap.size p q (w.alloc (.cells #[.int .u64 (p : Nat), .int .u64 (q : Nat)] 41)) W → Calls Tryd.prog 42 #[.int .u64 (q : Nat)] W fun e w' => e = .returned (.string (S (told q))) ∧ Keep w.heap.size p q (w.alloc (.cells #[.int .u64 (p : Nat), .int .u64 (q : Nat)] 41)) w' := fun W k =>
    (printnum_any q h2 W k.t).mono fun e w' ⟨he, hb⟩ => ⟨he, ⟨k.b.trans (hb.mono (by have := k.s; omega)), (hb.cell (p := ⟨w.heap.size, 0, none⟩) k.s).trans k.c0, (hb.cell (p := ⟨w.heap.size, 1, none⟩) k.s).trans k.c1, k.t.later hb, by have := k.s; have := hb.size; omega⟩⟩
  have k0 : Keep w.heap.size p q (w.alloc (.cells #[.int .u64 (p : Nat), .int .u64 (q : Nat)] 41)) (w.alloc (.cells #[.int .u64 (p : Nat), .int .u64 (q : Nat)] 41)) := ⟨Below.refl _ _, ht0.c0, ht0.c1, HT.out, hs0⟩
  have kd : ∀ {a W : World} {g : Nat} {x y : Int}, Keep g x y a W → ∀ n, Keep g x y a (W.drewN n) := fun k n => ⟨below_drewN k.b n, k.c0, k.c1, k.t.later (below_drewN (Below.refl _ _) n), k.s⟩
  have fin : ∀ W, Keep w.heap.size p q (w.alloc (.cells #[.int .u64 (p : Nat), .int .u64 (q : Nat)] 41)) W → Below w.heap.size w W := fun W k => hb0.trans (k.b.mono (by omega))
  have HA := Lib.hid hA
  have HB := Lib.hid hB
  have HF := Lib.hid fin
  have HK := Lib.hid k0
  have HD : Hid (∀ {a W : World} {g : Nat} {x y : Int}, Keep g x y a W → ∀ n, Keep g x y a (W.drewN n)) := kd
  clear hA hB fin k0 kd ht0 hs0 HT hT hb0
  by_cases hpq : p = q
  · subst hpq
    have HM : Hid (one (p, p) = told p) := Lib.hid (by unfold one; simp)
    go_enter Tryd.func29, Tryd.ntmps29
    go_wp2_with fail
    refine (HA.out _ HK.out).mono ?_
    rintro e w1 ⟨rfl, k1⟩
    go_wp2_with fail
    go_ret
    exact ⟨by rw [HM.out]; rfl, HF.out _ k1⟩
  · have HM : Hid (one (p, q) = told p ++ 58 :: told q) := Lib.hid (by unfold one; simp only; rw [if_neg hpq])
    have HS : Hid (S (told p) ++ ⟨#[58]⟩ ++ S (told q) = S (one (p, q))) := by
      refine Lib.hid ?_
      rw [HM.out, show (⟨#[58]⟩ : ByteArray) = S [58] from rfl, S_append, S_append, List.append_assoc]; rfl
    have hq : ((p : Int) == (q : Int)) = false := by rw [beq_eq_false_iff_ne]; omega
    have l1 := told_length h1
    have l2 := told_length h2
    have z1 := S_size (told p)
    have z2 := S_size (told q)
    go_enter Tryd.func29, Tryd.ntmps29
    go_wp2_with fail
    have kk := HK.out
    have kc0 := kk.c0
    have kc1 := kk.c1
    have KK := Lib.hid kk
    clear kk HK
    generalize w.alloc (.cells #[.int .u64 (p : Nat), .int .u64 (q : Nat)] 41) = w0 at *
    go_region_with (go_at_call 42; first
      | (refine (HA.out _ (by first | exact KK.out | exact HD.out KK.out 1)).mono ?_; rintro e w4 ⟨rfl, k4⟩; have d0 := k4.c0; have d1 := k4.c1; have K4 := Lib.hid k4; clear k4)
      | (refine (HB.out _ (by first | exact K4.out | exact HD.out K4.out 1)).mono ?_; rintro e w5 ⟨rfl, k5⟩; have K5 := Lib.hid k5; clear k5))
    all_goals go_wp2_with fail
    all_goals go_ret
    all_goals exact ⟨congrArg (fun x => Ending.returned (.string x)) HS.out, HF.out _ (by first | exact K5.out | exact HD.out K5.out _)⟩
end Go.Proofs.YtbaeillecojilaaDoor.sq
