/-
  The program's refuses, Read; a text copied; an append that tells where its row lies.
-/
import Derived.Test.YtpimdbnhpbjlkaaGreatDoorDkP3
namespace Go.Proofs.YtpimdbnhpbjlkaaGreatDoor.dk
set_option linter.unusedVariables false
open Go.RowKit
open fl (S S_size S_append S_inj str_eq str_ne)
open rw (Arr But Row Own bnext below_box below_drew below_drewN addr_add Fr RowB)
open mp (Mp Turned kget kput kwithout kmap KSorted)

set_option maxRecDepth 100000 in
theorem clone_any (s : Bs) (w : World) (hs : s.length ≤ 281474976710656) :
    Calls Tryz.prog 57 #[.string (S s)] w fun e w' => e = .returned (.string (S s)) ∧ Below w.heap.size w w' := by
  have hc := Tryz.stringslite_Clone (S s) w (by rw [S_size]; exact hs)
  go_enter Tryz.func57, Tryz.ntmps57
  go_wp2_with fail
  refine hc.mono ?_
  rintro e w1 ⟨rfl, b1⟩
  have HB := Lib.hid b1
  clear b1 hc
  go_wp2_with fail
  go_ret
  exact ⟨rfl, HB.out⟩
def refused (d : Dk) (n : Bs) : Nat := if n.length < 1 ∨ 80 < n.length then 1 else if off d = true then 8 else 0
set_option maxRecDepth 100000 in
theorem refuses_any (F : Nat → Prop) (p : Nat) (d : Dk) (n : Bs) (w : World) (h : PD w F p d) :
    Calls Tryz.prog 54 #[.pointer (some ⟨p, 0, none⟩), .string (S n)] w fun e w' => e = .returned (.int .i64 (refused d n : Nat)) ∧ w' = w := by
  have hO := off_any F p d w h
  have hz : ((S n).size : Int) = (n.length : Int) := by rw [S_size]
  unfold refused
  clear h
  by_cases h1 : n.length < 1
  · rw [if_pos (.inl h1)]
    have hi : (n.length : Int) < 1 := by omega
    go_enter Tryz.func54, Tryz.ntmps54
    go_wp2_with fail
    go_ret
    exact ⟨rfl, rfl⟩
  by_cases h2 : 80 < n.length
  · rw [if_pos (.inr h2)]
    have hi : ¬ (n.length : Int) < 1 := by omega
    have hi2 : (n.length : Int) > 80 := by omega
    go_enter Tryz.func54, Tryz.ntmps54
    go_wp2_with fail
    go_ret
    exact ⟨rfl, rfl⟩
  rw [if_neg (by omega)]
  have hi : ¬ (n.length : Int) < 1 := by omega
  have hi2 : ¬ (n.length : Int) > 80 := by omega
  cases ho : off d with
  | true =>
    rw [ho] at hO
    clear ho
    go_enter Tryz.func54, Tryz.ntmps54
    go_wp2_with fail
    refine hO.mono ?_
    rintro e w1 ⟨rfl, rfl⟩
    clear hO
    go_wp2_with fail
    go_ret
    exact ⟨rfl, rfl⟩
  | false =>
    rw [ho] at hO
    clear ho
    go_enter Tryz.func54, Tryz.ntmps54
    go_wp2_with fail
    refine hO.mono ?_
    rintro e w1 ⟨rfl, rfl⟩
    clear hO
    go_wp2_with fail
    go_ret
    exact ⟨rfl, rfl⟩
set_option maxHeartbeats 1000000 in
set_option maxRecDepth 100000 in
theorem read_any (F : Nat → Prop) (p : Nat) (d : Dk) (n : Bs) (hn : n.length ≤ maxLen) (w : World) (h : PD w F p d) :
    Calls Tryz.prog 42 #[.pointer (some ⟨p, 0, none⟩), .string (S n)] w fun e w' => e = .returned (.tuple #[.string (S (read d n).1), .int .i64 ((read d n).2 : Nat)]) ∧ Below w.heap.size w w' := by
  have hO := off_any F p d w h
  obtain ⟨bs, bl, Fs, Fl, pv, ts, fz, h1, _, hf, hF⟩ := h
  have c1 := h1.cell (j := 1) (v := .map (some bs)) rfl
  have hH := has_any Fs bs d.seen n hn w h1.s
  have h1s := h1.s
  obtain ⟨fs, g1, g2, _⟩ := h1.s
  have hlt := h1.a.lt
  unfold read
  cases ho : off d with
  | true =>
    rw [ho] at hO
    clear ho hH c1 h1 hf hF h1s g1 g2
    go_enter Tryz.func42, Tryz.ntmps42
    go_wp2_with fail
    refine hO.mono ?_
    rintro e w1 ⟨rfl, rfl⟩
    clear hO
    go_wp2_with fail
    go_ret2
    exact ⟨rfl, Below.refl _ _⟩
  | false =>
    rw [ho] at hO
    cases hg : get d.seen n with
    | none =>
      rw [hg] at hH
      simp only [Option.isSome_none] at hH
      clear ho h1 hf hF hg h1s g1 g2
      go_enter Tryz.func42, Tryz.ntmps42
      go_wp2_with fail
      refine hO.mono ?_
      rintro e w1 ⟨rfl, rfl⟩
      clear hO
      go_wp2_with fail
      refine hH.mono ?_
      rintro e w1 ⟨rfl, b1⟩
      have HB := Lib.hid b1
      clear hH b1
      go_wp2_with fail
      go_ret2
      exact ⟨rfl, HB.out⟩
    | some s =>
      rw [hg] at hH
      simp only [Option.isSome_some] at hH
      have hrow : ∃ v, kget (vals fs) n = some (.agg #[v]) ∧ RowB w v s := by
        rw [← get_k, ← g2] at hg
        rcases g1.at n with ⟨e1, _, _⟩ | ⟨o, v, _, _, e1, e2, e3⟩
        · rw [e1] at hg; cases hg
        · rw [e1] at hg; cases hg; exact ⟨v, e2, e3⟩
      obtain ⟨v, hk, hv⟩ := hrow
      have HL : Hid (∀ W, Below w.heap.size w W → (Instr.lookup tf (.map (some bs)) (.string (S n)) false).run Tryz.prog W = .ok (.agg #[v]) W ∧ (convert 81 9 v).run Tryz.prog W = .ok (.string (S s)) W ∧ W.cell? ⟨p, 1, none⟩ = some (.map (some bs))) := by
        intro W b
        have hlk := (g1.map.of (b.block bs g1.map.lt)).look und_f (zero_file W) n hn
        rw [hk] at hlk
        refine ⟨hlk, rw.conv_row v s W (hv.of fun q hq => ?_), (World.cell?_of_block (b.block p hlt)).trans c1⟩
        obtain ⟨g, e, hlt, _⟩ := hv.at
        rw [hq] at e
        cases e
        exact b.block q hlt
      obtain ⟨a, c, rfl, _⟩ := hv.form
      generalize s.length = L at *
      clear ho h1 hf hF hg h1s g1 g2 hk hv
      have hfl := fun x => field_file x
      go_enter Tryz.func42, Tryz.ntmps42
      go_wp2_with fail
      refine hO.mono ?_
      rintro e w1 ⟨rfl, rfl⟩
      clear hO
      go_wp2_with fail
      refine hH.mono ?_
      rintro e w2 ⟨rfl, b1⟩
      have HB := Lib.hid b1
      obtain ⟨l1, l2, l3⟩ := HL.out _ b1
      clear hH b1 HL c1
      go_wp2_with fail
      go_ret2
      exact ⟨rfl, HB.out⟩
end Go.Proofs.YtpimdbnhpbjlkaaGreatDoor.dk
