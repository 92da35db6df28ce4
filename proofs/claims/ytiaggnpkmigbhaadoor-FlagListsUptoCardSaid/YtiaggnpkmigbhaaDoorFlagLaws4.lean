/-
  The law FlagLists, walked.
-/
import Derived.Test.YtiaggnpkmigbhaaDoorFlagLaws1
import Derived.Test.YtiaggnpkmigbhaaDoorFlagRefQ
namespace Go.Proofs.YtiaggnpkmigbhaaDoor.fl
open Go.RowKit Go.Shelf

theorem parse_few (s : List UInt8) : (parse s).1.length ≤ 140737488355328 := by
  cases s with
  | nil => simp [parse]
  | cons c r =>
    by_cases h : c = 40 ∧ (41 : UInt8) ∈ r
    · obtain ⟨rfl, h⟩ := h
      rw [parse_good h]
      split
      · exact make_short _
      · simp
    · rw [parse_bad h]; simp

set_option maxHeartbeats 2000000 in
set_option maxRecDepth 100000 in
theorem lists_any (a : Option Addr) (cap : Nat) (l : List (List UInt8)) (s : List UInt8) (hl : l.flatten.length + l.length ≤ 2000000) (hs : s.length ≤ 2000000) (w : World) (hu : Sl w (.slice a l.length cap) l) (hS : Sys w) :
    Calls Tryd.prog 6 #[.slice a l.length cap, .string (S s)] w fun e w' => e = .returned (.bool true) ∧ Below w.heap.size w w' := by
  have hjl := join_le 32 l
  have h1 := parse_any s (by omega) w hS
  have H2 := Lib.hid (fun W => refparse_any s (by omega) W)
  have HF := Lib.hid (parse_few s)
  unfold Ans at H2
  have H3 := Lib.hid alive_any
  have H4 := Lib.hid (fun W h => print_any (.slice a l.length cap) l (by omega) (by omega) W h)
  have H5 := Lib.hid (fun W h => refprint_any a cap l hl W h)
  have HE := Lib.hid same_true
  have HR := Lib.hid (And.intro hu hS)
  clear hu hS hjl
  cases hp : parse s with
  | mk m r =>
  cases r with
  | mk n k =>
  rw [hp] at h1 H2 HF
  clear hp
  generalize print l = pr at *
  have hq : ((S pr).toList == (S pr).toList) = true := by simp
  go_enter Tryd.func6, Tryd.ntmps6
  go_wp2_with fail
  refine h1.mono ?_
  rintro e w1 ⟨⟨v1, rfl, a1, c1, rfl, hs1, _⟩, B1⟩
  have h2 := H2.out w1
  have HS1 := Lib.hid hs1
  clear h1 hs1
  go_wp2_with fail
  refine h2.mono ?_
  rintro e w2 ⟨⟨a2, c2, rfl, hs2⟩, b2⟩
  have B2 := B1.trans (b2.mono B1.size)
  have h3 := H3.out w2 (HR.out.2.next B2)
  have HS2 := Lib.hid (And.intro (HS1.out.later b2) hs2)
  clear h2 hs2 B1 b2 HS1
  go_wp2_with fail
  refine h3.mono ?_
  rintro e w3 ⟨rfl, b3⟩
  have B3 := B2.trans (b3.mono B2.size)
  have h4 := H4.out w3 (HR.out.1.later B3)
  have HS3 := Lib.hid (And.intro (HS2.out.1.later b3) (HS2.out.2.later b3))
  clear h3 B2 b3 HS2
  go_wp2_with fail
  refine h4.mono ?_
  rintro e w4 ⟨rfl, b4⟩
  have B4 := B3.trans (b4.mono B3.size)
  have h5 := H5.out w4 (sl_row (HR.out.1.later B4))
  have HS4 := Lib.hid (And.intro (HS3.out.1.later b4) (HS3.out.2.later b4))
  clear h4 B3 b4 HS3
  go_wp2_with fail
  refine h5.mono ?_
  rintro e w5 ⟨rfl, b5⟩
  have B5 := B4.trans (b5.mono B4.size)
  have h6 := HE.out a1 a2 c1 c2 m HF.out w5 (HS4.out.1.later b5) (HS4.out.2.later b5)
  clear h5 B4 b5 HS4
  go_wp2_with fail
  refine h6.mono ?_
  rintro e w6 ⟨rfl, b6⟩
  go_wp2_with fail
  go_ret
  exact ⟨rfl, B5.trans (b6.mono B5.size)⟩
end Go.Proofs.YtiaggnpkmigbhaaDoor.fl
