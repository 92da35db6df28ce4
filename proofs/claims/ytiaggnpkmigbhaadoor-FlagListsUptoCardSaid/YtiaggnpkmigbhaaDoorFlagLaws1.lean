/-
  The laws FlagNames, FlagMakes, FlagChanges, walked.
-/
import Derived.Test.YtiaggnpkmigbhaaDoorFlagAlive
import Derived.Test.YtiaggnpkmigbhaaDoorFlagChange
namespace Go.Proofs.YtiaggnpkmigbhaaDoor.fl
open Go.RowKit Go.Shelf

theorem sl_row {w : World} {a : Option Addr} {c : Nat} {l : List (List UInt8)} (h : Sl w (.slice a l.length c) l) : RowS w a l := by
  obtain ⟨_, _, he, h, _⟩ := h
  cases he; exact h

set_option maxHeartbeats 2000000 in
set_option maxRecDepth 100000 in
theorem names_any (s : List UInt8) (a : Option Addr) (cap : Nat) (l : List (List UInt8)) (hs : s.length ≤ 140737488355328) (hl : l.length ≤ 8796093021952) (hx : Short l) (w : World) (hu : Sl w (.slice a l.length cap) l) (hS : Sys w) :
    Calls Tryd.prog 3 #[.string (S s), .slice a l.length cap] w fun e w' => e = .returned (.bool true) ∧ Below w.heap.size w w' := by
  have hr := sl_row hu
  have h1 := canon_any s hs w hS
  have H2 := Lib.hid (refcanon_any s hs)
  have H3 := Lib.hid alive_any
  have H4 := Lib.hid (fun W h1 h2 => right_any a cap l (by omega) hx W h1 h2)
  have H5 := Lib.hid (fun W h1 => refright_any a cap l (by omega) hx W h1)
  have H6 := Lib.hid (fun W h1 => has_any a cap l s (by omega) W h1)
  have H7 := Lib.hid (fun W h1 => refhas_any a cap l s (by omega) W h1)
  have HR := Lib.hid (And.intro hr hS)
  clear hu hr hS hx
  generalize cf s = g at *
  generalize (canon s).isSome = k at *
  generalize right l = r at *
  generalize decide (s ∈ l) = m at *
  go_enter Tryd.func3, Tryd.ntmps3
  go_wp2_with fail
  refine h1.mono ?_
  rintro e w1 ⟨rfl, b1⟩
  have h2 := H2.out w1
  clear h1
  go_wp2_with fail
  refine h2.mono ?_
  rintro e w2 ⟨rfl, b2⟩
  have B2 := b1.trans (b2.mono b1.size)
  have h3 := H3.out w2 (HR.out.2.next B2)
  clear h2 b1 b2
  go_wp2_with fail
  refine h3.mono ?_
  rintro e w3 ⟨rfl, b3⟩
  have B3 := B2.trans (b3.mono B2.size)
  have h4 := H4.out w3 (HR.out.1.later B3) (HR.out.2.next B3)
  clear h3 b3 B2
  go_wp2_with fail
  refine h4.mono ?_
  rintro e w4 ⟨rfl, b4⟩
  have B4 := B3.trans (b4.mono B3.size)
  have h5 := H5.out w4 (HR.out.1.later B4)
  clear h4 b4 B3
  go_wp2_with fail
  refine h5.mono ?_
  rintro e w5 ⟨rfl, b5⟩
  have B5 := B4.trans (b5.mono B4.size)
  have h6 := H6.out w5 (HR.out.1.later B5)
  clear h5 b5 B4
  go_wp2_with fail
  refine h6.mono ?_
  rintro e w6 ⟨rfl, rfl⟩
  have h7 := H7.out w6 (HR.out.1.later B5)
  clear h6
  go_wp2_with fail
  refine h7.mono ?_
  rintro e w7 ⟨rfl, b7⟩
  go_wp2_with fail
  go_ret
  exact ⟨rfl, B5.trans (b7.mono B5.size)⟩

theorem same_true (a a' : Option Addr) (cap cap' : Nat) (l : List (List UInt8)) (hl : l.length ≤ 140737488355328) (w : World) (hr : RowS w a l) (hs : RowS w a' l) :
    Calls Tryd.prog 19 #[.slice a l.length cap, .slice a' l.length cap'] w fun e w' => e = .returned (.bool true) ∧ Below w.heap.size w w' := by
  refine (refsame_any a a' cap cap' l l hl w hr hs).mono ?_
  rintro e w' ⟨rfl, h⟩
  exact ⟨by rw [decide_eq_true rfl], h⟩
theorem make_short (l : List (List UInt8)) : (make l).1.length ≤ 140737488355328 := by
  unfold make
  split
  · unfold full; split
    · simp
    · simp; omega
  · simp
theorem change_short (l bs : List (List UInt8)) (how : Int) : (change l how bs).1.length ≤ 140737488355328 := by
  unfold change
  split
  · unfold full; split
    · simp
    · simp; omega
  · simp
/-- 'append([]string{}, l...)'. -/
theorem copyS (w : World) (u : Value) (l : List (List UInt8)) (hlen : l.length ≤ 8796093021952) (hu : Sl w u l) :
    ∃ v' w', (∀ ty, (Builtin.append_ #[22, 22] ty #[.slice (some ⟨w.heap.size, 0, none⟩) 0 0, u]).run Tryd.prog (w.alloc (.cells #[] 9)) = .ok v' w') ∧ Sl w' v' l ∧ Below w.heap.size w w' := by
  have hown := World.ownsRow_made (base := w.heap.size) (e := 9) (size := 1) w #[] 0 (Nat.le_refl _) (by unfold maxLen; omega) (by simp)
  have hb0 : Below w.heap.size w (w.alloc (.cells #[] 9)) := (Below.refl _ w).alloc (Nat.le_refl _) _
  obtain ⟨v', w', h1, h2, h3⟩ := append_row 22 Tryd.underlying22 w.heap.size (.slice (some ⟨w.heap.size, 0, none⟩) 0 0) [] l u (by simp; omega) (w.alloc (.cells #[] 9)) hown (by simp) (hu.later hb0)
  refine ⟨v', w', h1, sl_own h2, hb0.trans (below_own h3 hown (Nat.le_refl _) (by simp))⟩

set_option maxHeartbeats 2000000 in
set_option maxRecDepth 100000 in
theorem makes_any (a : Option Addr) (cap : Nat) (l : List (List UInt8)) (hl : l.length ≤ 8796093021952) (hx : Short l) (w : World) (hu : Sl w (.slice a l.length cap) l) (hS : Sys w) :
    Calls Tryd.prog 4 #[.slice a l.length cap] w fun e w' => e = .returned (.bool true) ∧ Below w.heap.size w w' := by
  obtain ⟨v1, w1, hrun, hsl, B1⟩ := copyS w _ l hl hu
  obtain ⟨a1, c1, rfl, hr1, _⟩ := hsl
  have h2 := make_any a1 c1 l (by omega) hx w1 hr1 (hS.next B1)
  have H3 := Lib.hid (fun W h => refmake_any a cap l (by omega) hx W h)
  have H4 := Lib.hid alive_any
  have HR := Lib.hid (And.intro (sl_row hu) (And.intro hr1 hS))
  have H5 := Lib.hid same_true
  have HL := Lib.hid (make_short l)
  clear hu hS hx hr1
  cases hmk : make l with
  | mk m k =>
    rw [hmk] at h2 H3 HL
    clear hmk
    go_enter Tryd.func4, Tryd.ntmps4
    go_wp2_with (at_builtin; refine Lib.wpList_append_run _ rfl _ _ _ _ rfl _ _ rfl rfl _ _ (hrun _) ?_)
    refine h2.mono ?_
    rintro e w2 ⟨⟨v2, rfl, a2, c2, rfl, hr2, _⟩, b2⟩
    have B2 := B1.trans (b2.mono B1.size)
    have h3 := H3.out w2 (HR.out.1.later B2)
    have HR2 := Lib.hid (And.intro hr2 (HR.out.2.1.later b2))
    clear h2 hr2 b2 B1 hrun
    go_wp2_with fail
    refine h3.mono ?_
    rintro e w3 ⟨⟨a3, c3, rfl, hr3⟩, b3⟩
    have B3 := B2.trans (b3.mono B2.size)
    have h4 := H4.out w3 (HR.out.2.2.next B3)
    have HR3 := Lib.hid (And.intro hr3 (And.intro (HR2.out.1.later b3) (HR2.out.2.later b3)))
    clear h3 hr3 b3 B2
    go_wp2_with fail
    refine h4.mono ?_
    rintro e w4 ⟨rfl, b4⟩
    have B4 := B3.trans (b4.mono B3.size)
    have h5 := H5.out a2 a3 c2 c3 m HL.out w4 (HR3.out.2.1.later b4) (HR3.out.1.later b4)
    have HR4 := Lib.hid (HR3.out.2.2.later b4)
    clear h4 b4 B3
    go_wp2_with fail
    refine h5.mono ?_
    rintro e w5 ⟨rfl, b5⟩
    have B5 := B4.trans (b5.mono B4.size)
    have h6 := H5.out a1 a c1 cap l (by omega) w5 (HR4.out.later b5) (HR.out.1.later B5)
    clear h5 b5 B4
    go_wp2_with fail
    refine h6.mono ?_
    rintro e w6 ⟨rfl, b6⟩
    go_wp2_with fail
    go_ret
    exact ⟨rfl, B5.trans (b6.mono B5.size)⟩
end Go.Proofs.YtiaggnpkmigbhaaDoor.fl
