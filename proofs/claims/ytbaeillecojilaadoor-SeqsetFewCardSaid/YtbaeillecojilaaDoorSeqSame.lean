/-
  What the reference's Same, SameNumbers answer.
-/
import Derived.Test.YtbaeillecojilaaDoorSeqMem
import Derived.Laws.StructEq
namespace Go.Proofs.YtbaeillecojilaaDoor.sq
open Go.RowKit

theorem lists_ne {α : Type} [DecidableEq α] {l m : List α} (k : Nat) (h1 : k < l.length) (h2 : k < m.length) (hne : l[k] ≠ m[k]) : decide (l = m) = false :=
  decide_eq_false (fun e => hne (by subst e; rfl))
theorem lists_eq {α : Type} [DecidableEq α] {l m : List α} (hl : l.length = m.length) (H : ∀ j (h1 : j < l.length) (h2 : j < m.length), j < l.length → l[j] = m[j]) : decide (l = m) = true :=
  decide_eq_true (List.ext_getElem hl (fun j h1 h2 => H j h1 h2 h1))

set_option maxHeartbeats 1000000 in
set_option maxRecDepth 100000 in
theorem refsame64_any (a a' : Option Addr) (cap cap' : Nat) (l m : List Nat) (hl : l.length ≤ 140737488355328) (w : World) (hr : Row64 w a l) (hs : Row64 w a' m) :
    Calls Tryd.prog 19 #[.slice a l.length cap, .slice a' m.length cap'] w fun e w' => e = .returned (.bool (decide (l = m))) ∧ Below w.heap.size w w' := by
  go_enter Tryd.func19, Tryd.ntmps19
  by_cases hne : l.length = m.length
  · have hi : ((l.length : Int) != (m.length : Int)) = false := by simp; omega
    go_wp2
    go_loopw [5] (fun i wr => ∃ k : Nat, i = .int .i64 k ∧ k ≤ l.length ∧ Hid (∀ j (h : j < l.length) (h' : j < m.length), j < k → l[j] = m[j]) ∧ Below w.heap.size w wr)
      (fun i _ => l.length - (intOf i).toNat)
    case atStart => exact ⟨0, rfl, Nat.zero_le _, Lib.hid (fun j _ _ h => absurd h (by omega)), Below.refl _ _⟩
    case round =>
      obtain ⟨k, rfl, hk, HN, hB⟩ := hrel
      by_cases hlt : k < l.length
      · have hlt' : k < m.length := by omega
        rcases hr.later hB with h0 | ⟨b, off, rfl, hb, hc⟩
        · rw [h0] at hlt; simp at hlt
        rcases hs.later hB with h0 | ⟨b', off', rfl, hb', hc'⟩
        · rw [h0] at hlt'; simp at hlt'
        have c1 := hc k hlt
        have c2 := hc' k hlt'
        have hki : (k : Int) < (l.length : Int) := by omega
        have hki' : (k : Int) < (m.length : Int) := by omega
        obtain ⟨x, hx⟩ : ∃ x, l[k]'hlt = x := ⟨_, rfl⟩
        obtain ⟨y, hy⟩ : ∃ y, m[k]'hlt' = y := ⟨_, rfl⟩
        rw [hx] at c1
        rw [hy] at c2
        by_cases he : x = y
        · have hq : ((x : Int) != (y : Int)) = false := by simp; omega
          have HNN : Hid (∀ j (h : j < l.length) (h' : j < m.length), j < k + 1 → l[j] = m[j]) := fun j h h' hj => by
            by_cases h2 : j < k
            · exact HN.out j h h' h2
            · obtain rfl : j = k := by omega
              rw [hx, hy]; exact he
          clear hc hc' hx hy HN hr hs he
          go_wp2
          go_quiet (fail)
          have hBq := below_drewN hB nq
          clear hB c1 c2
          generalize wr.drewN nq = w2 at *
          go_wp2
          go_roundw
          case rel => exact ⟨k + 1, by go_num, by omega, HNN, hBq⟩
          case measure => simp [intOf]; omega
        · have HM := Lib.hid (lists_ne k hlt hlt' (by rw [hx, hy]; exact he))
          have hq : ((x : Int) != (y : Int)) = true := by simp; omega
          clear hc hc' hx hy HN hr hs he
          go_wp2
          go_quiet (fail)
          have hBq := below_drewN hB nq
          clear hB c1 c2
          generalize wr.drewN nq = w2 at *
          go_wp2
          go_ret
          exact ⟨by rw [HM.out]; rfl, hBq⟩
      · obtain rfl : k = l.length := by omega
        have HM := Lib.hid (lists_eq hne HN.out)
        clear HN hr hs
        go_wp2
        go_ret
        exact ⟨by rw [HM.out]; rfl, hB⟩
  · have hi : ((l.length : Int) != (m.length : Int)) = true := by simp; omega
    have HM : Hid (decide (l = m) = false) := Lib.hid (decide_eq_false (fun e => hne (by rw [e])))
    clear hne
    go_wp2
    go_ret
    exact ⟨by rw [HM.out]; rfl, Below.refl _ _⟩

set_option maxRecDepth 100000 in
theorem range_fields : Tryd.prog.fieldsOf 41 = (match Tryd.prog.underlying 41 with | some (.struct fs) => fs | _ => #[]) := rfl
set_option maxRecDepth 100000 in
theorem range_guard (op : BinOp) (x y : Operand) (xs ys : Array Value) (w : World) : (eqGuard op 41 x y (.agg xs) (.agg ys)).run Tryd.prog w = .ok () w :=
  run_eqGuard_agg w op 41 x y xs ys (by kernel_rfl)
theorem range_neq (x1 x2 y1 y2 : Int) (w : World) : (binOp .neq 41 (.agg #[.int .u64 x1, .int .u64 x2]) (.agg #[.int .u64 y1, .int .u64 y2])).run Tryd.prog w = .ok (.bool (!((x1 == y1) && (x2 == y2)))) w := by
  have hp : Tryd.prog.stoodInHeld 41 = false := by kernel_rfl
  rw [run_neq_struct, run_equalIn_agg w 9999 41 _ _ (by kernel_rfl) hp]
  simp only [Program.fieldsOf, Tryd.underlying41]
  have h64 := Tryd.underlying31
  go_simp
  by_cases h1 : x1 = y1
  · subst h1
    go_simp
    by_cases h2 : x2 = y2
    · rw [if_pos h2, h2]; simp
    · rw [if_neg h2]; simp [h2]
  · have : (x1 == y1) = false := by simpa using h1
    simp [this]
    intro h; exact absurd h h1

set_option maxHeartbeats 1000000 in
set_option maxRecDepth 100000 in
theorem refsame_any (a a' : Option Addr) (cap cap' : Nat) (l m : List (Nat × Nat)) (hl : l.length ≤ 140737488355328) (w : World) (hr : RowR w a l) (hs : RowR w a' m) :
    Calls Tryd.prog 13 #[.slice a l.length cap, .slice a' m.length cap'] w fun e w' => e = .returned (.bool (decide (l = m))) ∧ Below w.heap.size w w' := by
  go_enter Tryd.func13, Tryd.ntmps13
  by_cases hne : l.length = m.length
  · have hi : ((l.length : Int) != (m.length : Int)) = false := by simp; omega
    go_wp2
    go_loopw [5] (fun i wr => ∃ k : Nat, i = .int .i64 k ∧ k ≤ l.length ∧ Hid (∀ j (h : j < l.length) (h' : j < m.length), j < k → l[j] = m[j]) ∧ Below w.heap.size w wr)
      (fun i _ => l.length - (intOf i).toNat)
    case atStart => exact ⟨0, rfl, Nat.zero_le _, Lib.hid (fun j _ _ h => absurd h (by omega)), Below.refl _ _⟩
    case round =>
      obtain ⟨k, rfl, hk, HN, hB⟩ := hrel
      by_cases hlt : k < l.length
      · have hlt' : k < m.length := by omega
        rcases hr.later hB with h0 | ⟨b, off, rfl, hb, hc⟩
        · rw [h0] at hlt; simp at hlt
        rcases hs.later hB with h0 | ⟨b', off', rfl, hb', hc'⟩
        · rw [h0] at hlt'; simp at hlt'
        obtain ⟨c1, d1⟩ := hc k hlt
        obtain ⟨c2, d2⟩ := hc' k hlt'
        have hki : (k : Int) < (l.length : Int) := by omega
        have hki' : (k : Int) < (m.length : Int) := by omega
        obtain ⟨x, hx⟩ : ∃ x, l[k]'hlt = x := ⟨_, rfl⟩
        obtain ⟨y, hy⟩ : ∃ y, m[k]'hlt' = y := ⟨_, rfl⟩
        rw [hx] at c1 d1
        rw [hy] at c2 d2
        obtain ⟨x1, x2⟩ := x
        obtain ⟨y1, y2⟩ := y
        simp only at c1 c2 d1 d2
        have hgd := range_guard
        have hnq := range_neq (x1 : Nat) (x2 : Nat) (y1 : Nat) (y2 : Nat)
        by_cases he : (x1, x2) = (y1, y2)
        · have hv : ((((x1 : Nat) : Int) == ((y1 : Nat) : Int)) && (((x2 : Nat) : Int) == ((y2 : Nat) : Int))) = true := by
            simp only [Prod.mk.injEq] at he
            rw [he.1, he.2]; simp
          rw [hv] at hnq
          have HNN : Hid (∀ j (h : j < l.length) (h' : j < m.length), j < k + 1 → l[j] = m[j]) := fun j h h' hj => by
            by_cases h2 : j < k
            · exact HN.out j h h' h2
            · obtain rfl : j = k := by omega
              rw [hx, hy]; exact he
          clear hc hc' hx hy HN hr hs he hv
          go_wp2
          go_quiet (fail)
          have hBq := below_drewN hB nq
          clear hB c1 c2 d1 d2
          generalize wr.drewN nq = w2 at *
          go_wp2
          go_roundw
          case rel => exact ⟨k + 1, by go_num, by omega, HNN, hBq⟩
          case measure => simp [intOf]; omega
        · have hv : ((((x1 : Nat) : Int) == ((y1 : Nat) : Int)) && (((x2 : Nat) : Int) == ((y2 : Nat) : Int))) = false := by
            rw [Bool.eq_false_iff]
            intro h
            simp only [Bool.and_eq_true, beq_iff_eq] at h
            exact he (by rw [show x1 = y1 by omega, show x2 = y2 by omega])
          rw [hv] at hnq
          have HM := Lib.hid (lists_ne k hlt hlt' (by rw [hx, hy]; exact he))
          clear hc hc' hx hy HN hr hs he hv
          go_wp2
          go_quiet (fail)
          have hBq := below_drewN hB nq
          clear hB c1 c2 d1 d2
          generalize wr.drewN nq = w2 at *
          go_wp2
          go_ret
          exact ⟨by rw [HM.out]; rfl, hBq⟩
      · obtain rfl : k = l.length := by omega
        have HM := Lib.hid (lists_eq hne HN.out)
        clear HN hr hs
        go_wp2
        go_ret
        exact ⟨by rw [HM.out]; rfl, hB⟩
  · have hi : ((l.length : Int) != (m.length : Int)) = true := by simp; omega
    have HM : Hid (decide (l = m) = false) := Lib.hid (decide_eq_false (fun e => hne (by rw [e])))
    clear hne
    go_wp2
    go_ret
    exact ⟨by rw [HM.out]; rfl, Below.refl _ _⟩
end Go.Proofs.YtbaeillecojilaaDoor.sq
