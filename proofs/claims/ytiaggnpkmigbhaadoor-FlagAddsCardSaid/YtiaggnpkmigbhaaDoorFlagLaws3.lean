/-
  The law FlagAdds, walked. Written by gen_adds.py.
-/
import Derived.Test.YtiaggnpkmigbhaaDoorFlagLaws1
namespace Go.Proofs.YtiaggnpkmigbhaaDoor.fl
open Go.RowKit Go.Shelf

theorem change_to {l bs m : List (List UInt8)} {how : Int} {k : Nat} (hch : change l how bs = (m, k)) (hl : l.length ≤ 140737488355328) (hb' : bs.length ≤ 140737488355328) (hx : Short l) (hy : Short bs) (a a' : Option Addr) (cap cap' : Nat) (w : World)
    (hu : Sl w (.slice a l.length cap) l) (hu' : Sl w (.slice a' bs.length cap') bs) (hS : Sys w) :
    Calls Tryd.prog 20 #[.slice a l.length cap, .int .i64 how, .slice a' bs.length cap'] w fun e w' => (∃ v, e = .returned (.tuple #[v, .int .i64 (k : Nat)]) ∧ Sl w' v m) ∧ Below w.heap.size w w' := by
  have h := change_any a a' cap cap' l bs how hl hb' hx hy w hu hu' hS
  rw [hch] at h
  exact h

set_option maxHeartbeats 2000000 in
set_option maxRecDepth 100000 in
theorem adds_no (a a' : Option Addr) (cap cap' : Nat) (l bs : List (List UInt8)) (f : List UInt8) (hl : l.length ≤ 8796093021952) (hl' : bs.length ≤ 8796093021952) (hx : Short l) (hy : Short bs) (w : World) (hu : Sl w (.slice a l.length cap) l) (hu' : Sl w (.slice a' bs.length cap') bs) (hS : Sys w)
    (hno : right l = false ∨ right bs = false) :
    Calls Tryd.prog 8 #[.slice a l.length cap, .slice a' bs.length cap', .string (S f)] w fun e w' => e = .returned (.bool true) ∧ Below w.heap.size w w' := by
  have hch : change l 1 bs = ([], 1) := if_neg fun h => by
    rcases hno with h1 | h1
    · exact absurd h.1 (of_decide_eq_false h1)
    · exact absurd h.2.1 (of_decide_eq_false h1)
  have h1 := alive_any w hS
  have H2 := Lib.hid (fun W h1 h2 => right_any a cap l (by omega) hx W h1 h2)
  have H3 := Lib.hid (fun W h1 h2 => right_any a' cap' bs (by omega) hy W h1 h2)
  have H4 := Lib.hid (fun W h1 h2 h3 => change_to hch (by omega) (by omega) hx hy a a' cap cap' W h1 h2 h3)
  have HR := Lib.hid (And.intro hu (And.intro hu' hS))
  clear hu hu' hS hx hy hch
  go_enter Tryd.func8, Tryd.ntmps8
  go_wp2_with fail
  refine h1.mono ?_
  rintro e w1 ⟨rfl, b1⟩
  have h2 := H2.out w1 (sl_row (HR.out.1.later b1)) (HR.out.2.2.next b1)
  clear h1
  cases hr1 : right l with
  | false =>
    rw [hr1] at h2
    clear hno
    go_wp2_with fail
    refine h2.mono ?_
    rintro e w2 ⟨rfl, b2⟩
    have B2 := b1.trans (b2.mono b1.size)
    have h4 := H4.out w2 (HR.out.1.later B2) (HR.out.2.1.later B2) (HR.out.2.2.next B2)
    clear h2 b1 b2
    go_wp2_with fail
    refine h4.mono ?_
    rintro e w3 ⟨⟨v3, rfl, _⟩, b3⟩
    go_wp2_with fail
    go_ret
    exact ⟨rfl, B2.trans (b3.mono B2.size)⟩
  | true =>
    have hr2 : right bs = false := by
      rcases hno with h | h
      · rw [hr1] at h; cases h
      · exact h
    rw [hr1] at h2
    clear hno
    go_wp2_with fail
    refine h2.mono ?_
    rintro e w2 ⟨rfl, b2⟩
    have B2 := b1.trans (b2.mono b1.size)
    have h3 := H3.out w2 (sl_row (HR.out.2.1.later B2)) (HR.out.2.2.next B2)
    rw [hr2] at h3
    clear h2 b1 b2
    go_wp2_with fail
    refine h3.mono ?_
    rintro e w3 ⟨rfl, b3⟩
    have B3 := B2.trans (b3.mono B2.size)
    have h4 := H4.out w3 (HR.out.1.later B3) (HR.out.2.1.later B3) (HR.out.2.2.next B3)
    clear h3 B2 b3
    go_wp2_with fail
    refine h4.mono ?_
    rintro e w4 ⟨⟨v4, rfl, _⟩, b4⟩
    go_wp2_with fail
    go_ret
    exact ⟨rfl, B3.trans (b4.mono B3.size)⟩


set_option maxHeartbeats 4000000 in
set_option maxRecDepth 100000 in
theorem adds_true_true (a a' : Option Addr) (cap cap' : Nat) (l bs L2 M : List (List UInt8)) (k : Nat) (f : List UInt8) (hl : l.length ≤ 16) (hl' : bs.length ≤ 16) (hL2 : L2.length ≤ 16) (hM : M.length ≤ 16) (hx : Short l) (hy : Short bs) (hx2 : Short L2) (hxM : Short M)
    (hr1 : right l = true) (hr2 : right bs = true) (hc1 : change l 2 bs = (L2, 0)) (hc2 : change L2 2 bs = (L2, 0)) (hc3 : change l 1 bs = (M, k)) (hk : (k = 0 ∧ change M 1 bs = (M, 0) ∧ decide (f ∈ M) = true) ∨ (k = 7 ∧ 16 < l.length + bs.length)) (hc5 : change l 0 bs = (bs, 0))
    (hp : decide (f ∈ l) = true) (hq : decide (f ∈ bs) = true) (hd : decide (f ∈ L2) = false)
    (w : World) (hu : Sl w (.slice a l.length cap) l) (hu' : Sl w (.slice a' bs.length cap') bs) (hS : Sys w) :
    Calls Tryd.prog 8 #[.slice a l.length cap, .slice a' bs.length cap', .string (S f)] w fun e w' => e = .returned (.bool true) ∧ Below w.heap.size w w' := by
  have h1 := alive_any w hS
  have H2 := Lib.hid (fun W h1 h2 => right_any a cap l (by omega) hx W h1 h2)
  have H3 := Lib.hid (fun W h1 h2 => right_any a' cap' bs (by omega) hy W h1 h2)
  have H4 := Lib.hid (fun W h1 h2 h3 => change_to hc1 (by omega) (by omega) hx hy a a' cap cap' W h1 h2 h3)
  have H5 := Lib.hid (fun a1 cap1 W h1 h2 h3 => change_to hc2 (by omega) (by omega) hx2 hy a1 a' cap1 cap' W h1 h2 h3)
  have H6 := Lib.hid (fun W h1 h2 h3 => change_to hc3 (by omega) (by omega) hx hy a a' cap cap' W h1 h2 h3)
  have H8 := Lib.hid (fun W h1 h2 h3 => change_to hc5 (by omega) (by omega) hx hy a a' cap cap' W h1 h2 h3)
  have HE := Lib.hid same_true
  have HH := Lib.hid has_any
  have HR := Lib.hid (And.intro hu (And.intro hu' hS))
  have HP := Lib.hid (And.intro hp (And.intro hq hd))
  have HK : Hid ((k = 0 ∧ change M 1 bs = (M, 0) ∧ decide (f ∈ M) = true) ∨ (k = 7 ∧ 16 < l.length + bs.length)) := Lib.hid hk
  have HX := Lib.hid (And.intro hxM hy)
  have hri := Lib.hid (And.intro hr1 hr2)
  clear hu hu' hS hx hy hx2 hxM hp hq hd hk hc1 hc2 hc3 hc5 hr1 hr2
  go_enter Tryd.func8, Tryd.ntmps8
  go_wp2_with fail
  refine h1.mono ?_
  rintro e w1 ⟨rfl, B1⟩
  have h2 := H2.out w1 (sl_row (HR.out.1.later B1)) (HR.out.2.2.next B1)
  rw [hri.out.1] at h2
  clear h1 H2
  go_wp2_with fail
  refine h2.mono ?_
  rintro e w2 ⟨rfl, b2⟩
  have B2 := B1.trans (b2.mono B1.size)
  have h3 := H3.out w2 (sl_row (HR.out.2.1.later B2)) (HR.out.2.2.next B2)
  rw [hri.out.2] at h3
  clear h2 B1 b2 H3 hri
  go_wp2_with fail
  refine h3.mono ?_
  rintro e w3 ⟨rfl, b3⟩
  have B3 := B2.trans (b3.mono B2.size)
  have h4 := H4.out w3 (HR.out.1.later B3) (HR.out.2.1.later B3) (HR.out.2.2.next B3)
  clear h3 B2 b3 H4
  go_wp2_with fail
  refine h4.mono ?_
  rintro e w4 ⟨⟨v4, rfl, a4, c4, rfl, hs4⟩, b4⟩
  have B4 := B3.trans (b4.mono B3.size)
  have h5 := H5.out a4 c4 w4 ⟨a4, c4, rfl, hs4⟩ (HR.out.2.1.later B4) (HR.out.2.2.next B4)
  have HS4 := Lib.hid hs4.1
  clear h4 B3 b4 H5 hs4
  go_wp2_with fail
  refine h5.mono ?_
  rintro e w5 ⟨⟨v5, rfl, a5, c5, rfl, hs5⟩, b5⟩
  have B5 := B4.trans (b5.mono B4.size)
  have h6 := HE.out a5 a4 c5 c4 L2 (by omega) w5 hs5.1 (HS4.out.later b5)
  have HS5 := Lib.hid (HS4.out.later b5)
  clear h5 B4 b5 hs5 HS4
  go_wp2_with fail
  refine h6.mono ?_
  rintro e w6 ⟨rfl, b6⟩
  have B6 := B5.trans (b6.mono B5.size)
  have h7 := HH.out a4 c4 L2 f (by omega) w6 (HS5.out.later b6)
  have h8 := HH.out a cap l f (by omega) w6 (sl_row (HR.out.1.later B6))
  have h9 := HH.out a' cap' bs f (by omega) w6 (sl_row (HR.out.2.1.later B6))
  rw [HP.out.2.2] at h7
  rw [HP.out.1] at h8
  rw [HP.out.2.1] at h9
  clear h6 B5 b6 HS5
  go_wp2_with fail
  refine h7.mono ?_
  rintro e w7 ⟨rfl, rfl⟩
  clear h7
  go_wp2_with fail
  refine h8.mono ?_
  rintro e w8 ⟨rfl, rfl⟩
  clear h8
  go_wp2_with fail
  refine h9.mono ?_
  rintro e w9 ⟨rfl, rfl⟩
  clear h9
  go_wp2_with fail
  have h10 := H6.out _ (HR.out.1.later B6) (HR.out.2.1.later B6) (HR.out.2.2.next B6)
  refine h10.mono ?_
  rintro e w10 ⟨⟨v10, rfl, a10, c10, rfl, hs10⟩, b10⟩
  have B10 := B6.trans (b10.mono B6.size)
  clear h10 B6 b10 H6
  rcases HK.out with ⟨rfl, hc4, hm⟩ | ⟨rfl, h16⟩
  · have h11 := change_to hc4 (by omega) (by omega) HX.out.1 HX.out.2 a10 a' c10 cap' w10 ⟨a10, c10, rfl, hs10⟩ (HR.out.2.1.later B10) (HR.out.2.2.next B10)
    have HM := Lib.hid hm
    have HS10 := Lib.hid hs10.1
    clear hc4 hm HK hs10
    go_wp2_with fail
    refine h11.mono ?_
    rintro e w11 ⟨⟨v11, rfl, a11, c11, rfl, hs11⟩, b11⟩
    have B11 := B10.trans (b11.mono B10.size)
    have h12 := H8.out w11 (HR.out.1.later B11) (HR.out.2.1.later B11) (HR.out.2.2.next B11)
    have HS11 := Lib.hid (And.intro (HS10.out.later b11) hs11.1)
    clear h11 b11 B10 HS10 hs11
    go_wp2_with fail
    refine h12.mono ?_
    rintro e w12 ⟨⟨v12, rfl, a12, c12, rfl, hs12⟩, b12⟩
    have B12 := B11.trans (b12.mono B11.size)
    have h13 := HE.out a11 a10 c11 c10 M (by omega) w12 (HS11.out.2.later b12) (HS11.out.1.later b12)
    have HS12 := Lib.hid (And.intro (HS11.out.1.later b12) hs12.1)
    clear h12 b12 B11 HS11 hs12
    go_wp2_with fail
    refine h13.mono ?_
    rintro e w13 ⟨rfl, b13⟩
    have B13 := B12.trans (b13.mono B12.size)
    have HS13 := Lib.hid (HS12.out.2.later b13)
    have h14 := HH.out a10 c10 M f (by omega) w13 (HS12.out.1.later b13)
    have h15 := HH.out a cap l f (by omega) w13 (sl_row (HR.out.1.later B13))
    have h16 := HH.out a' cap' bs f (by omega) w13 (sl_row (HR.out.2.1.later B13))
    rw [HM.out] at h14
    rw [HP.out.1] at h15
    rw [HP.out.2.1] at h16
    clear h13 b13 B12 HS12
    go_wp2_with fail
    refine h14.mono ?_
    rintro e w14 ⟨rfl, rfl⟩
    clear h14
    go_wp2_with fail
    refine h15.mono ?_
    rintro e w15 ⟨rfl, rfl⟩
    clear h15
    go_wp2_with fail
    have h17 := HE.out a12 a' c12 cap' bs (by omega) _ HS13.out (sl_row (HR.out.2.1.later B13))
    refine h17.mono ?_
    rintro e w17 ⟨rfl, b17⟩
    go_wp2_with fail
    go_ret
    exact ⟨rfl, B13.trans (b17.mono B13.size)⟩
  · have h16i : (l.length : Int) + (bs.length : Int) > 16 := by omega
    clear hs10
    go_wp2_with fail
    go_ret
    exact ⟨rfl, B10⟩


set_option maxHeartbeats 4000000 in
set_option maxRecDepth 100000 in
theorem adds_true_false (a a' : Option Addr) (cap cap' : Nat) (l bs L2 M : List (List UInt8)) (k : Nat) (f : List UInt8) (hl : l.length ≤ 16) (hl' : bs.length ≤ 16) (hL2 : L2.length ≤ 16) (hM : M.length ≤ 16) (hx : Short l) (hy : Short bs) (hx2 : Short L2) (hxM : Short M)
    (hr1 : right l = true) (hr2 : right bs = true) (hc1 : change l 2 bs = (L2, 0)) (hc2 : change L2 2 bs = (L2, 0)) (hc3 : change l 1 bs = (M, k)) (hk : (k = 0 ∧ change M 1 bs = (M, 0) ∧ decide (f ∈ M) = true) ∨ (k = 7 ∧ 16 < l.length + bs.length)) (hc5 : change l 0 bs = (bs, 0))
    (hp : decide (f ∈ l) = true) (hq : decide (f ∈ bs) = false) (hd : decide (f ∈ L2) = true)
    (w : World) (hu : Sl w (.slice a l.length cap) l) (hu' : Sl w (.slice a' bs.length cap') bs) (hS : Sys w) :
    Calls Tryd.prog 8 #[.slice a l.length cap, .slice a' bs.length cap', .string (S f)] w fun e w' => e = .returned (.bool true) ∧ Below w.heap.size w w' := by
  have h1 := alive_any w hS
  have H2 := Lib.hid (fun W h1 h2 => right_any a cap l (by omega) hx W h1 h2)
  have H3 := Lib.hid (fun W h1 h2 => right_any a' cap' bs (by omega) hy W h1 h2)
  have H4 := Lib.hid (fun W h1 h2 h3 => change_to hc1 (by omega) (by omega) hx hy a a' cap cap' W h1 h2 h3)
  have H5 := Lib.hid (fun a1 cap1 W h1 h2 h3 => change_to hc2 (by omega) (by omega) hx2 hy a1 a' cap1 cap' W h1 h2 h3)
  have H6 := Lib.hid (fun W h1 h2 h3 => change_to hc3 (by omega) (by omega) hx hy a a' cap cap' W h1 h2 h3)
  have H8 := Lib.hid (fun W h1 h2 h3 => change_to hc5 (by omega) (by omega) hx hy a a' cap cap' W h1 h2 h3)
  have HE := Lib.hid same_true
  have HH := Lib.hid has_any
  have HR := Lib.hid (And.intro hu (And.intro hu' hS))
  have HP := Lib.hid (And.intro hp (And.intro hq hd))
  have HK : Hid ((k = 0 ∧ change M 1 bs = (M, 0) ∧ decide (f ∈ M) = true) ∨ (k = 7 ∧ 16 < l.length + bs.length)) := Lib.hid hk
  have HX := Lib.hid (And.intro hxM hy)
  have hri := Lib.hid (And.intro hr1 hr2)
  clear hu hu' hS hx hy hx2 hxM hp hq hd hk hc1 hc2 hc3 hc5 hr1 hr2
  go_enter Tryd.func8, Tryd.ntmps8
  go_wp2_with fail
  refine h1.mono ?_
  rintro e w1 ⟨rfl, B1⟩
  have h2 := H2.out w1 (sl_row (HR.out.1.later B1)) (HR.out.2.2.next B1)
  rw [hri.out.1] at h2
  clear h1 H2
  go_wp2_with fail
  refine h2.mono ?_
  rintro e w2 ⟨rfl, b2⟩
  have B2 := B1.trans (b2.mono B1.size)
  have h3 := H3.out w2 (sl_row (HR.out.2.1.later B2)) (HR.out.2.2.next B2)
  rw [hri.out.2] at h3
  clear h2 B1 b2 H3 hri
  go_wp2_with fail
  refine h3.mono ?_
  rintro e w3 ⟨rfl, b3⟩
  have B3 := B2.trans (b3.mono B2.size)
  have h4 := H4.out w3 (HR.out.1.later B3) (HR.out.2.1.later B3) (HR.out.2.2.next B3)
  clear h3 B2 b3 H4
  go_wp2_with fail
  refine h4.mono ?_
  rintro e w4 ⟨⟨v4, rfl, a4, c4, rfl, hs4⟩, b4⟩
  have B4 := B3.trans (b4.mono B3.size)
  have h5 := H5.out a4 c4 w4 ⟨a4, c4, rfl, hs4⟩ (HR.out.2.1.later B4) (HR.out.2.2.next B4)
  have HS4 := Lib.hid hs4.1
  clear h4 B3 b4 H5 hs4
  go_wp2_with fail
  refine h5.mono ?_
  rintro e w5 ⟨⟨v5, rfl, a5, c5, rfl, hs5⟩, b5⟩
  have B5 := B4.trans (b5.mono B4.size)
  have h6 := HE.out a5 a4 c5 c4 L2 (by omega) w5 hs5.1 (HS4.out.later b5)
  have HS5 := Lib.hid (HS4.out.later b5)
  clear h5 B4 b5 hs5 HS4
  go_wp2_with fail
  refine h6.mono ?_
  rintro e w6 ⟨rfl, b6⟩
  have B6 := B5.trans (b6.mono B5.size)
  have h7 := HH.out a4 c4 L2 f (by omega) w6 (HS5.out.later b6)
  have h8 := HH.out a cap l f (by omega) w6 (sl_row (HR.out.1.later B6))
  have h9 := HH.out a' cap' bs f (by omega) w6 (sl_row (HR.out.2.1.later B6))
  rw [HP.out.2.2] at h7
  rw [HP.out.1] at h8
  rw [HP.out.2.1] at h9
  clear h6 B5 b6 HS5
  go_wp2_with fail
  refine h7.mono ?_
  rintro e w7 ⟨rfl, rfl⟩
  clear h7
  go_wp2_with fail
  refine h8.mono ?_
  rintro e w8 ⟨rfl, rfl⟩
  clear h8
  go_wp2_with fail
  refine h9.mono ?_
  rintro e w9 ⟨rfl, rfl⟩
  clear h9
  go_wp2_with fail
  have h10 := H6.out _ (HR.out.1.later B6) (HR.out.2.1.later B6) (HR.out.2.2.next B6)
  refine h10.mono ?_
  rintro e w10 ⟨⟨v10, rfl, a10, c10, rfl, hs10⟩, b10⟩
  have B10 := B6.trans (b10.mono B6.size)
  clear h10 B6 b10 H6
  rcases HK.out with ⟨rfl, hc4, hm⟩ | ⟨rfl, h16⟩
  · have h11 := change_to hc4 (by omega) (by omega) HX.out.1 HX.out.2 a10 a' c10 cap' w10 ⟨a10, c10, rfl, hs10⟩ (HR.out.2.1.later B10) (HR.out.2.2.next B10)
    have HM := Lib.hid hm
    have HS10 := Lib.hid hs10.1
    clear hc4 hm HK hs10
    go_wp2_with fail
    refine h11.mono ?_
    rintro e w11 ⟨⟨v11, rfl, a11, c11, rfl, hs11⟩, b11⟩
    have B11 := B10.trans (b11.mono B10.size)
    have h12 := H8.out w11 (HR.out.1.later B11) (HR.out.2.1.later B11) (HR.out.2.2.next B11)
    have HS11 := Lib.hid (And.intro (HS10.out.later b11) hs11.1)
    clear h11 b11 B10 HS10 hs11
    go_wp2_with fail
    refine h12.mono ?_
    rintro e w12 ⟨⟨v12, rfl, a12, c12, rfl, hs12⟩, b12⟩
    have B12 := B11.trans (b12.mono B11.size)
    have h13 := HE.out a11 a10 c11 c10 M (by omega) w12 (HS11.out.2.later b12) (HS11.out.1.later b12)
    have HS12 := Lib.hid (And.intro (HS11.out.1.later b12) hs12.1)
    clear h12 b12 B11 HS11 hs12
    go_wp2_with fail
    refine h13.mono ?_
    rintro e w13 ⟨rfl, b13⟩
    have B13 := B12.trans (b13.mono B12.size)
    have HS13 := Lib.hid (HS12.out.2.later b13)
    have h14 := HH.out a10 c10 M f (by omega) w13 (HS12.out.1.later b13)
    have h15 := HH.out a cap l f (by omega) w13 (sl_row (HR.out.1.later B13))
    have h16 := HH.out a' cap' bs f (by omega) w13 (sl_row (HR.out.2.1.later B13))
    rw [HM.out] at h14
    rw [HP.out.1] at h15
    rw [HP.out.2.1] at h16
    clear h13 b13 B12 HS12
    go_wp2_with fail
    refine h14.mono ?_
    rintro e w14 ⟨rfl, rfl⟩
    clear h14
    go_wp2_with fail
    refine h15.mono ?_
    rintro e w15 ⟨rfl, rfl⟩
    clear h15
    go_wp2_with fail
    have h17 := HE.out a12 a' c12 cap' bs (by omega) _ HS13.out (sl_row (HR.out.2.1.later B13))
    refine h17.mono ?_
    rintro e w17 ⟨rfl, b17⟩
    go_wp2_with fail
    go_ret
    exact ⟨rfl, B13.trans (b17.mono B13.size)⟩
  · have h16i : (l.length : Int) + (bs.length : Int) > 16 := by omega
    clear hs10
    go_wp2_with fail
    go_ret
    exact ⟨rfl, B10⟩


set_option maxHeartbeats 4000000 in
set_option maxRecDepth 100000 in
theorem adds_false_true (a a' : Option Addr) (cap cap' : Nat) (l bs L2 M : List (List UInt8)) (k : Nat) (f : List UInt8) (hl : l.length ≤ 16) (hl' : bs.length ≤ 16) (hL2 : L2.length ≤ 16) (hM : M.length ≤ 16) (hx : Short l) (hy : Short bs) (hx2 : Short L2) (hxM : Short M)
    (hr1 : right l = true) (hr2 : right bs = true) (hc1 : change l 2 bs = (L2, 0)) (hc2 : change L2 2 bs = (L2, 0)) (hc3 : change l 1 bs = (M, k)) (hk : (k = 0 ∧ change M 1 bs = (M, 0) ∧ decide (f ∈ M) = true) ∨ (k = 7 ∧ 16 < l.length + bs.length)) (hc5 : change l 0 bs = (bs, 0))
    (hp : decide (f ∈ l) = false) (hq : decide (f ∈ bs) = true) (hd : decide (f ∈ L2) = false)
    (w : World) (hu : Sl w (.slice a l.length cap) l) (hu' : Sl w (.slice a' bs.length cap') bs) (hS : Sys w) :
    Calls Tryd.prog 8 #[.slice a l.length cap, .slice a' bs.length cap', .string (S f)] w fun e w' => e = .returned (.bool true) ∧ Below w.heap.size w w' := by
  have h1 := alive_any w hS
  have H2 := Lib.hid (fun W h1 h2 => right_any a cap l (by omega) hx W h1 h2)
  have H3 := Lib.hid (fun W h1 h2 => right_any a' cap' bs (by omega) hy W h1 h2)
  have H4 := Lib.hid (fun W h1 h2 h3 => change_to hc1 (by omega) (by omega) hx hy a a' cap cap' W h1 h2 h3)
  have H5 := Lib.hid (fun a1 cap1 W h1 h2 h3 => change_to hc2 (by omega) (by omega) hx2 hy a1 a' cap1 cap' W h1 h2 h3)
  have H6 := Lib.hid (fun W h1 h2 h3 => change_to hc3 (by omega) (by omega) hx hy a a' cap cap' W h1 h2 h3)
  have H8 := Lib.hid (fun W h1 h2 h3 => change_to hc5 (by omega) (by omega) hx hy a a' cap cap' W h1 h2 h3)
  have HE := Lib.hid same_true
  have HH := Lib.hid has_any
  have HR := Lib.hid (And.intro hu (And.intro hu' hS))
  have HP := Lib.hid (And.intro hp (And.intro hq hd))
  have HK : Hid ((k = 0 ∧ change M 1 bs = (M, 0) ∧ decide (f ∈ M) = true) ∨ (k = 7 ∧ 16 < l.length + bs.length)) := Lib.hid hk
  have HX := Lib.hid (And.intro hxM hy)
  have hri := Lib.hid (And.intro hr1 hr2)
  clear hu hu' hS hx hy hx2 hxM hp hq hd hk hc1 hc2 hc3 hc5 hr1 hr2
  go_enter Tryd.func8, Tryd.ntmps8
  go_wp2_with fail
  refine h1.mono ?_
  rintro e w1 ⟨rfl, B1⟩
  have h2 := H2.out w1 (sl_row (HR.out.1.later B1)) (HR.out.2.2.next B1)
  rw [hri.out.1] at h2
  clear h1 H2
  go_wp2_with fail
  refine h2.mono ?_
  rintro e w2 ⟨rfl, b2⟩
  have B2 := B1.trans (b2.mono B1.size)
  have h3 := H3.out w2 (sl_row (HR.out.2.1.later B2)) (HR.out.2.2.next B2)
  rw [hri.out.2] at h3
  clear h2 B1 b2 H3 hri
  go_wp2_with fail
  refine h3.mono ?_
  rintro e w3 ⟨rfl, b3⟩
  have B3 := B2.trans (b3.mono B2.size)
  have h4 := H4.out w3 (HR.out.1.later B3) (HR.out.2.1.later B3) (HR.out.2.2.next B3)
  clear h3 B2 b3 H4
  go_wp2_with fail
  refine h4.mono ?_
  rintro e w4 ⟨⟨v4, rfl, a4, c4, rfl, hs4⟩, b4⟩
  have B4 := B3.trans (b4.mono B3.size)
  have h5 := H5.out a4 c4 w4 ⟨a4, c4, rfl, hs4⟩ (HR.out.2.1.later B4) (HR.out.2.2.next B4)
  have HS4 := Lib.hid hs4.1
  clear h4 B3 b4 H5 hs4
  go_wp2_with fail
  refine h5.mono ?_
  rintro e w5 ⟨⟨v5, rfl, a5, c5, rfl, hs5⟩, b5⟩
  have B5 := B4.trans (b5.mono B4.size)
  have h6 := HE.out a5 a4 c5 c4 L2 (by omega) w5 hs5.1 (HS4.out.later b5)
  have HS5 := Lib.hid (HS4.out.later b5)
  clear h5 B4 b5 hs5 HS4
  go_wp2_with fail
  refine h6.mono ?_
  rintro e w6 ⟨rfl, b6⟩
  have B6 := B5.trans (b6.mono B5.size)
  have h7 := HH.out a4 c4 L2 f (by omega) w6 (HS5.out.later b6)
  have h8 := HH.out a cap l f (by omega) w6 (sl_row (HR.out.1.later B6))
  have h9 := HH.out a' cap' bs f (by omega) w6 (sl_row (HR.out.2.1.later B6))
  rw [HP.out.2.2] at h7
  rw [HP.out.1] at h8
  rw [HP.out.2.1] at h9
  clear h6 B5 b6 HS5
  go_wp2_with fail
  refine h7.mono ?_
  rintro e w7 ⟨rfl, rfl⟩
  clear h7
  go_wp2_with fail
  refine h8.mono ?_
  rintro e w8 ⟨rfl, rfl⟩
  clear h8
  go_wp2_with fail
  have h10 := H6.out _ (HR.out.1.later B6) (HR.out.2.1.later B6) (HR.out.2.2.next B6)
  refine h10.mono ?_
  rintro e w10 ⟨⟨v10, rfl, a10, c10, rfl, hs10⟩, b10⟩
  have B10 := B6.trans (b10.mono B6.size)
  clear h10 B6 b10 H6
  rcases HK.out with ⟨rfl, hc4, hm⟩ | ⟨rfl, h16⟩
  · have h11 := change_to hc4 (by omega) (by omega) HX.out.1 HX.out.2 a10 a' c10 cap' w10 ⟨a10, c10, rfl, hs10⟩ (HR.out.2.1.later B10) (HR.out.2.2.next B10)
    have HM := Lib.hid hm
    have HS10 := Lib.hid hs10.1
    clear hc4 hm HK hs10
    go_wp2_with fail
    refine h11.mono ?_
    rintro e w11 ⟨⟨v11, rfl, a11, c11, rfl, hs11⟩, b11⟩
    have B11 := B10.trans (b11.mono B10.size)
    have h12 := H8.out w11 (HR.out.1.later B11) (HR.out.2.1.later B11) (HR.out.2.2.next B11)
    have HS11 := Lib.hid (And.intro (HS10.out.later b11) hs11.1)
    clear h11 b11 B10 HS10 hs11
    go_wp2_with fail
    refine h12.mono ?_
    rintro e w12 ⟨⟨v12, rfl, a12, c12, rfl, hs12⟩, b12⟩
    have B12 := B11.trans (b12.mono B11.size)
    have h13 := HE.out a11 a10 c11 c10 M (by omega) w12 (HS11.out.2.later b12) (HS11.out.1.later b12)
    have HS12 := Lib.hid (And.intro (HS11.out.1.later b12) hs12.1)
    clear h12 b12 B11 HS11 hs12
    go_wp2_with fail
    refine h13.mono ?_
    rintro e w13 ⟨rfl, b13⟩
    have B13 := B12.trans (b13.mono B12.size)
    have HS13 := Lib.hid (HS12.out.2.later b13)
    have h14 := HH.out a10 c10 M f (by omega) w13 (HS12.out.1.later b13)
    have h15 := HH.out a cap l f (by omega) w13 (sl_row (HR.out.1.later B13))
    have h16 := HH.out a' cap' bs f (by omega) w13 (sl_row (HR.out.2.1.later B13))
    rw [HM.out] at h14
    rw [HP.out.1] at h15
    rw [HP.out.2.1] at h16
    clear h13 b13 B12 HS12
    go_wp2_with fail
    refine h14.mono ?_
    rintro e w14 ⟨rfl, rfl⟩
    clear h14
    go_wp2_with fail
    refine h15.mono ?_
    rintro e w15 ⟨rfl, rfl⟩
    clear h15
    go_wp2_with fail
    refine h16.mono ?_
    rintro e w16 ⟨rfl, rfl⟩
    clear h16
    go_wp2_with fail
    have h17 := HE.out a12 a' c12 cap' bs (by omega) _ HS13.out (sl_row (HR.out.2.1.later B13))
    refine h17.mono ?_
    rintro e w17 ⟨rfl, b17⟩
    go_wp2_with fail
    go_ret
    exact ⟨rfl, B13.trans (b17.mono B13.size)⟩
  · have h16i : (l.length : Int) + (bs.length : Int) > 16 := by omega
    clear hs10
    go_wp2_with fail
    go_ret
    exact ⟨rfl, B10⟩


set_option maxHeartbeats 4000000 in
set_option maxRecDepth 100000 in
theorem adds_false_false (a a' : Option Addr) (cap cap' : Nat) (l bs L2 M : List (List UInt8)) (k : Nat) (f : List UInt8) (hl : l.length ≤ 16) (hl' : bs.length ≤ 16) (hL2 : L2.length ≤ 16) (hM : M.length ≤ 16) (hx : Short l) (hy : Short bs) (hx2 : Short L2) (hxM : Short M)
    (hr1 : right l = true) (hr2 : right bs = true) (hc1 : change l 2 bs = (L2, 0)) (hc2 : change L2 2 bs = (L2, 0)) (hc3 : change l 1 bs = (M, k)) (hk : (k = 0 ∧ change M 1 bs = (M, 0) ∧ decide (f ∈ M) = false) ∨ (k = 7 ∧ 16 < l.length + bs.length)) (hc5 : change l 0 bs = (bs, 0))
    (hp : decide (f ∈ l) = false) (hq : decide (f ∈ bs) = false) (hd : decide (f ∈ L2) = false)
    (w : World) (hu : Sl w (.slice a l.length cap) l) (hu' : Sl w (.slice a' bs.length cap') bs) (hS : Sys w) :
    Calls Tryd.prog 8 #[.slice a l.length cap, .slice a' bs.length cap', .string (S f)] w fun e w' => e = .returned (.bool true) ∧ Below w.heap.size w w' := by
  have h1 := alive_any w hS
  have H2 := Lib.hid (fun W h1 h2 => right_any a cap l (by omega) hx W h1 h2)
  have H3 := Lib.hid (fun W h1 h2 => right_any a' cap' bs (by omega) hy W h1 h2)
  have H4 := Lib.hid (fun W h1 h2 h3 => change_to hc1 (by omega) (by omega) hx hy a a' cap cap' W h1 h2 h3)
  have H5 := Lib.hid (fun a1 cap1 W h1 h2 h3 => change_to hc2 (by omega) (by omega) hx2 hy a1 a' cap1 cap' W h1 h2 h3)
  have H6 := Lib.hid (fun W h1 h2 h3 => change_to hc3 (by omega) (by omega) hx hy a a' cap cap' W h1 h2 h3)
  have H8 := Lib.hid (fun W h1 h2 h3 => change_to hc5 (by omega) (by omega) hx hy a a' cap cap' W h1 h2 h3)
  have HE := Lib.hid same_true
  have HH := Lib.hid has_any
  have HR := Lib.hid (And.intro hu (And.intro hu' hS))
  have HP := Lib.hid (And.intro hp (And.intro hq hd))
  have HK : Hid ((k = 0 ∧ change M 1 bs = (M, 0) ∧ decide (f ∈ M) = false) ∨ (k = 7 ∧ 16 < l.length + bs.length)) := Lib.hid hk
  have HX := Lib.hid (And.intro hxM hy)
  have hri := Lib.hid (And.intro hr1 hr2)
  clear hu hu' hS hx hy hx2 hxM hp hq hd hk hc1 hc2 hc3 hc5 hr1 hr2
  go_enter Tryd.func8, Tryd.ntmps8
  go_wp2_with fail
  refine h1.mono ?_
  rintro e w1 ⟨rfl, B1⟩
  have h2 := H2.out w1 (sl_row (HR.out.1.later B1)) (HR.out.2.2.next B1)
  rw [hri.out.1] at h2
  clear h1 H2
  go_wp2_with fail
  refine h2.mono ?_
  rintro e w2 ⟨rfl, b2⟩
  have B2 := B1.trans (b2.mono B1.size)
  have h3 := H3.out w2 (sl_row (HR.out.2.1.later B2)) (HR.out.2.2.next B2)
  rw [hri.out.2] at h3
  clear h2 B1 b2 H3 hri
  go_wp2_with fail
  refine h3.mono ?_
  rintro e w3 ⟨rfl, b3⟩
  have B3 := B2.trans (b3.mono B2.size)
  have h4 := H4.out w3 (HR.out.1.later B3) (HR.out.2.1.later B3) (HR.out.2.2.next B3)
  clear h3 B2 b3 H4
  go_wp2_with fail
  refine h4.mono ?_
  rintro e w4 ⟨⟨v4, rfl, a4, c4, rfl, hs4⟩, b4⟩
  have B4 := B3.trans (b4.mono B3.size)
  have h5 := H5.out a4 c4 w4 ⟨a4, c4, rfl, hs4⟩ (HR.out.2.1.later B4) (HR.out.2.2.next B4)
  have HS4 := Lib.hid hs4.1
  clear h4 B3 b4 H5 hs4
  go_wp2_with fail
  refine h5.mono ?_
  rintro e w5 ⟨⟨v5, rfl, a5, c5, rfl, hs5⟩, b5⟩
  have B5 := B4.trans (b5.mono B4.size)
  have h6 := HE.out a5 a4 c5 c4 L2 (by omega) w5 hs5.1 (HS4.out.later b5)
  have HS5 := Lib.hid (HS4.out.later b5)
  clear h5 B4 b5 hs5 HS4
  go_wp2_with fail
  refine h6.mono ?_
  rintro e w6 ⟨rfl, b6⟩
  have B6 := B5.trans (b6.mono B5.size)
  have h7 := HH.out a4 c4 L2 f (by omega) w6 (HS5.out.later b6)
  have h8 := HH.out a cap l f (by omega) w6 (sl_row (HR.out.1.later B6))
  have h9 := HH.out a' cap' bs f (by omega) w6 (sl_row (HR.out.2.1.later B6))
  rw [HP.out.2.2] at h7
  rw [HP.out.1] at h8
  rw [HP.out.2.1] at h9
  clear h6 B5 b6 HS5
  go_wp2_with fail
  refine h7.mono ?_
  rintro e w7 ⟨rfl, rfl⟩
  clear h7
  go_wp2_with fail
  refine h8.mono ?_
  rintro e w8 ⟨rfl, rfl⟩
  clear h8
  go_wp2_with fail
  have h10 := H6.out _ (HR.out.1.later B6) (HR.out.2.1.later B6) (HR.out.2.2.next B6)
  refine h10.mono ?_
  rintro e w10 ⟨⟨v10, rfl, a10, c10, rfl, hs10⟩, b10⟩
  have B10 := B6.trans (b10.mono B6.size)
  clear h10 B6 b10 H6
  rcases HK.out with ⟨rfl, hc4, hm⟩ | ⟨rfl, h16⟩
  · have h11 := change_to hc4 (by omega) (by omega) HX.out.1 HX.out.2 a10 a' c10 cap' w10 ⟨a10, c10, rfl, hs10⟩ (HR.out.2.1.later B10) (HR.out.2.2.next B10)
    have HM := Lib.hid hm
    have HS10 := Lib.hid hs10.1
    clear hc4 hm HK hs10
    go_wp2_with fail
    refine h11.mono ?_
    rintro e w11 ⟨⟨v11, rfl, a11, c11, rfl, hs11⟩, b11⟩
    have B11 := B10.trans (b11.mono B10.size)
    have h12 := H8.out w11 (HR.out.1.later B11) (HR.out.2.1.later B11) (HR.out.2.2.next B11)
    have HS11 := Lib.hid (And.intro (HS10.out.later b11) hs11.1)
    clear h11 b11 B10 HS10 hs11
    go_wp2_with fail
    refine h12.mono ?_
    rintro e w12 ⟨⟨v12, rfl, a12, c12, rfl, hs12⟩, b12⟩
    have B12 := B11.trans (b12.mono B11.size)
    have h13 := HE.out a11 a10 c11 c10 M (by omega) w12 (HS11.out.2.later b12) (HS11.out.1.later b12)
    have HS12 := Lib.hid (And.intro (HS11.out.1.later b12) hs12.1)
    clear h12 b12 B11 HS11 hs12
    go_wp2_with fail
    refine h13.mono ?_
    rintro e w13 ⟨rfl, b13⟩
    have B13 := B12.trans (b13.mono B12.size)
    have HS13 := Lib.hid (HS12.out.2.later b13)
    have h14 := HH.out a10 c10 M f (by omega) w13 (HS12.out.1.later b13)
    have h15 := HH.out a cap l f (by omega) w13 (sl_row (HR.out.1.later B13))
    have h16 := HH.out a' cap' bs f (by omega) w13 (sl_row (HR.out.2.1.later B13))
    rw [HM.out] at h14
    rw [HP.out.1] at h15
    rw [HP.out.2.1] at h16
    clear h13 b13 B12 HS12
    go_wp2_with fail
    refine h14.mono ?_
    rintro e w14 ⟨rfl, rfl⟩
    clear h14
    go_wp2_with fail
    refine h15.mono ?_
    rintro e w15 ⟨rfl, rfl⟩
    clear h15
    go_wp2_with fail
    refine h16.mono ?_
    rintro e w16 ⟨rfl, rfl⟩
    clear h16
    go_wp2_with fail
    have h17 := HE.out a12 a' c12 cap' bs (by omega) _ HS13.out (sl_row (HR.out.2.1.later B13))
    refine h17.mono ?_
    rintro e w17 ⟨rfl, b17⟩
    go_wp2_with fail
    go_ret
    exact ⟨rfl, B13.trans (b17.mono B13.size)⟩
  · have h16i : (l.length : Int) + (bs.length : Int) > 16 := by omega
    clear hs10
    go_wp2_with fail
    go_ret
    exact ⟨rfl, B10⟩


theorem adds_any (a a' : Option Addr) (cap cap' : Nat) (l bs : List (List UInt8)) (f : List UInt8) (hl : l.length ≤ 8796093021952) (hl' : bs.length ≤ 8796093021952) (hx : Short l) (hy : Short bs) (w : World) (hu : Sl w (.slice a l.length cap) l) (hu' : Sl w (.slice a' bs.length cap') bs) (hS : Sys w) :
    Calls Tryd.prog 8 #[.slice a l.length cap, .slice a' bs.length cap', .string (S f)] w fun e w' => e = .returned (.bool true) ∧ Below w.heap.size w w' := by
  cases hr1 : right l with
  | false => exact adds_no a a' cap cap' l bs f hl hl' hx hy w hu hu' hS (.inl hr1)
  | true =>
    cases hr2 : right bs with
    | false => exact adds_no a a' cap cap' l bs f hl hl' hx hy w hu hu' hS (.inr hr2)
    | true =>
      have h1 : IsRight l := of_decide_eq_true hr1
      have h2 : IsRight bs := of_decide_eq_true hr2
      have h3 : IsRight (l.filter fun x => decide (x ∉ bs)) := right_filter h1 _
      have hc2 : change (l.filter fun x => decide (x ∉ bs)) 2 bs = (l.filter fun x => decide (x ∉ bs), 0) := by
        rw [change_take h3 h2, List.filter_filter]
        simp
      have hd : decide (f ∈ l.filter fun x => decide (x ∉ bs)) = (decide (f ∈ l) && !decide (f ∈ bs)) := by
        rw [← decide_not, ← Bool.decide_and, decide_eq_decide, List.mem_filter]; simp
      have hK : ∃ M k, change l 1 bs = (M, k) ∧ M.length ≤ 16 ∧ Short M ∧ ((k = 0 ∧ change M 1 bs = (M, 0) ∧ decide (f ∈ M) = (decide (f ∈ l) || decide (f ∈ bs))) ∨ (k = 7 ∧ 16 < l.length + bs.length)) := by
        rcases change_add h1 h2 with ⟨hc, hM⟩ | ⟨hc, h16⟩
        · refine ⟨_, 0, hc, hM.n, short_right hM, .inl ⟨rfl, ?_, ?_⟩⟩
          · have ht : insAll (insAll l bs) bs = insAll l bs := insAll_there _ _ fun x hx => insAll_mem.2 (.inr hx)
            rcases change_add hM h2 with ⟨hc', _⟩ | ⟨hc', _⟩
            · rw [hc', ht]
            · exfalso
              have hn := hM.n
              unfold change body at hc'
              rw [if_pos ⟨hM, h2, by omega, by omega⟩, if_neg (by omega), if_pos rfl, insAll_append, insAll_self hM.s, ht] at hc'
              unfold full at hc'
              rw [if_neg (by omega)] at hc'
              have h70 : (0 : Nat) = 7 := congrArg Prod.snd hc'
              omega
          · rw [← Bool.decide_or, decide_eq_decide]; exact insAll_mem
        · exact ⟨[], 7, hc, by simp, (fun x hx => (by cases hx)), .inr ⟨rfl, h16⟩⟩
      obtain ⟨M, k, hc3, hM, hxM, hk⟩ := hK
      have hn1 := h1.n
      have hn2 := h2.n
      have hn3 := h3.n
      cases hp : decide (f ∈ l) with
      | true => cases hq : decide (f ∈ bs) with
        | true => exact adds_true_true a a' cap cap' l bs _ M k f hn1 hn2 hn3 hM hx hy (short_right h3) hxM hr1 hr2 (change_take h1 h2) hc2 hc3 (by rw [hp, hq] at hk; exact hk) (change_set h1 h2) hp hq (by rw [hd, hp, hq]; rfl) w hu hu' hS
        | false => exact adds_true_false a a' cap cap' l bs _ M k f hn1 hn2 hn3 hM hx hy (short_right h3) hxM hr1 hr2 (change_take h1 h2) hc2 hc3 (by rw [hp, hq] at hk; exact hk) (change_set h1 h2) hp hq (by rw [hd, hp, hq]; rfl) w hu hu' hS
      | false => cases hq : decide (f ∈ bs) with
        | true => exact adds_false_true a a' cap cap' l bs _ M k f hn1 hn2 hn3 hM hx hy (short_right h3) hxM hr1 hr2 (change_take h1 h2) hc2 hc3 (by rw [hp, hq] at hk; exact hk) (change_set h1 h2) hp hq (by rw [hd, hp, hq]; rfl) w hu hu' hS
        | false => exact adds_false_false a a' cap cap' l bs _ M k f hn1 hn2 hn3 hM hx hy (short_right h3) hxM hr1 hr2 (change_take h1 h2) hc2 hc3 (by rw [hp, hq] at hk; exact hk) (change_set h1 h2) hp hq (by rw [hd, hp, hq]; rfl) w hu hu' hS
end Go.Proofs.YtiaggnpkmigbhaaDoor.fl
