/-
  The law FlagBack, walked.
-/
import Derived.Test.YtiaggnpkmigbhaaDoorFlagLaws1
import Derived.Test.YtiaggnpkmigbhaaDoorFlagRows
namespace Go.Proofs.YtiaggnpkmigbhaaDoor.fl
open Go.RowKit Go.Shelf

theorem flat_le {n : Nat} : ∀ {l : List (List UInt8)}, (∀ x ∈ l, x.length ≤ n) → l.flatten.length ≤ n * l.length
  | [], _ => by simp
  | x :: r, h => by
    have h1 := h x (by simp)
    have h2 := flat_le (n := n) (l := r) (fun y hy => h y (by simp [hy]))
    rw [List.flatten_cons, List.length_append, List.length_cons, Nat.mul_succ]
    omega
theorem print_few {l : List (List UInt8)} (h : IsRight l) : (join 32 l).length ≤ 600 ∧ (print l).length ≤ 602 := by
  have h1 := join_le 32 l
  have h2 := flat_le (n := 32) (l := l) fun x hx => (canon_form (h.c x hx)).1
  have h3 := h.n
  have h4 : (print l).length = (join 32 l).length + 2 := by simp [print]
  omega

set_option maxHeartbeats 2000000 in
set_option maxRecDepth 100000 in
theorem back_any (a : Option Addr) (cap : Nat) (l : List (List UInt8)) (behind : List UInt8) (hl : l.length ≤ 8796093021952) (hx : Short l) (hb : behind.length ≤ 140737488351232) (w : World) (hu : Sl w (.slice a l.length cap) l) (hS : Sys w) :
    Calls Tryd.prog 9 #[.slice a l.length cap, .string (S behind)] w fun e w' => e = .returned (.bool true) ∧ Below w.heap.size w w' := by
  have h1 := alive_any w hS
  have H2 := Lib.hid (fun W h1 h2 => right_any a cap l (by omega) hx W h1 h2)
  have HA := Lib.hid alive_any
  have HE := Lib.hid same_true
  have HR := Lib.hid (And.intro hu hS)
  cases hr : right l with
  | false =>
    clear hu hS hx
    go_enter Tryd.func9, Tryd.ntmps9
    go_wp2_with fail
    refine h1.mono ?_
    rintro e w1 ⟨rfl, B1⟩
    have h2 := H2.out w1 (sl_row (HR.out.1.later B1)) (HR.out.2.next B1)
    rw [hr] at h2
    clear h1 H2
    go_wp2_with fail
    refine h2.mono ?_
    rintro e w2 ⟨rfl, b2⟩
    have B2 := B1.trans (b2.mono B1.size)
    have h3 := HA.out w2 (HR.out.2.next B2)
    clear h2 B1 b2
    go_wp2_with fail
    refine h3.mono ?_
    rintro e w3 ⟨rfl, b3⟩
    go_wp2_with fail
    go_ret
    exact ⟨rfl, B2.trans (b3.mono B2.size)⟩
  | true =>
    have hR : IsRight l := of_decide_eq_true hr
    obtain ⟨hj, hpl⟩ := print_few hR
    have H3 := Lib.hid (fun W h => print_any (.slice a l.length cap) l (by omega) (by omega) W h)
    have hn := hR.n
    have H4 : Hid (∀ W, Sys W → Calls Tryd.prog 22 #[.string (S (print l ++ behind))] W fun e w' => (∃ v, e = .returned (.tuple #[v, .int .i64 ((print l).length : Nat), .int .i64 0]) ∧ Sl w' v l) ∧ Below W.heap.size W w') := Lib.hid fun W h => by
      have h4 := parse_any (print l ++ behind) (by rw [List.length_append]; omega) W h
      rw [parse_print hR] at h4
      exact h4
    have e1 : S (print l) ++ S behind = S (print l ++ behind) := S_append _ _
    have z1 := S_size (print l)
    have z2 := S_size behind
    clear hu hS hx hR hj
    generalize print l ++ behind = t at *
    generalize print l = pr at *
    go_enter Tryd.func9, Tryd.ntmps9
    go_wp2_with fail
    refine h1.mono ?_
    rintro e w1 ⟨rfl, B1⟩
    have h2 := H2.out w1 (sl_row (HR.out.1.later B1)) (HR.out.2.next B1)
    rw [hr] at h2
    clear h1 H2
    go_wp2_with fail
    refine h2.mono ?_
    rintro e w2 ⟨rfl, b2⟩
    have B2 := B1.trans (b2.mono B1.size)
    have h3 := H3.out w2 (HR.out.1.later B2)
    clear h2 B1 b2 H3
    go_wp2_with fail
    refine h3.mono ?_
    rintro e w3 ⟨rfl, b3⟩
    have B3 := B2.trans (b3.mono B2.size)
    have h4 := H4.out w3 (HR.out.2.next B3)
    clear h3 B2 b3 H4
    go_wp2_with fail
    refine h4.mono ?_
    rintro e w4 ⟨⟨v4, rfl, a4, c4, rfl, hs4, _⟩, b4⟩
    have B4 := B3.trans (b4.mono B3.size)
    have h5 := HE.out a4 a c4 cap l (by omega) w4 hs4 (sl_row (HR.out.1.later B4))
    clear h4 B3 b4 hs4
    go_wp2_with fail
    refine h5.mono ?_
    rintro e w5 ⟨rfl, b5⟩
    go_wp2_with fail
    go_ret
    exact ⟨rfl, B4.trans (b5.mono B4.size)⟩
end Go.Proofs.YtiaggnpkmigbhaaDoor.fl
