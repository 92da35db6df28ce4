/-
  What the reference's In, AtomByte, Atom, quotable answer.
-/
import Derived.Test.YtiaggnpkmigbhaaDoorFlagUp
namespace Go.Proofs.YtiaggnpkmigbhaaDoor.fl
open Go.RowKit

theorem ne_int {a b : UInt8} (h : a ≠ b) : (((a.toNat : Nat) : Int) == ((b.toNat : Nat) : Int)) = false := by
  rw [beq_eq_false_iff_ne]
  intro e
  exact h (UInt8.toNat_inj.1 (by omega))

set_option maxRecDepth 100000 in
theorem refin_any (c : UInt8) (l : List UInt8) (hl : l.length ≤ 140737488355328) (w : World) :
    Calls Tryd.prog 62 #[.int .u8 (c.toNat : Nat), .string (S l)] w fun e w' => e = .returned (.bool (decide (c ∈ l))) ∧ w' = w := by
  have hz := S_size l
  go_enter Tryd.func62, Tryd.ntmps62
  go_wp2
  go_loopw [5] (fun i wr => ∃ k : Nat, i = .int .i64 k ∧ k ≤ l.length ∧ Hid (∀ j (h : j < l.length), j < k → l[j] ≠ c) ∧ wr = w)
    (fun i _ => l.length - (intOf i).toNat)
  case atStart => exact ⟨0, rfl, Nat.zero_le _, Lib.hid (fun j _ h => absurd h (by omega)), rfl⟩
  case round =>
    obtain ⟨k, rfl, hk, HN, rfl⟩ := hrel
    by_cases hlt : k < l.length
    · have hlt' : k < (S l).size := by rw [S_size]; exact hlt
      obtain ⟨d, hd⟩ : ∃ d, l[k]'hlt = d := ⟨_, rfl⟩
      have hx : ((S l)[k]'hlt').toNat = d.toNat := by rw [S_get l k hlt hlt', hd]
      have hki : (k : Int) < (l.length : Int) := by omega
      by_cases he : d = c
      · have hm : decide (c ∈ l) = true := by rw [decide_eq_true_iff, ← he, ← hd]; exact List.getElem_mem hlt
        have HM := Lib.hid hm
        subst he
        clear hd hm
        go_wp2
        go_ret
        exact ⟨by rw [HM.out]; rfl, rfl⟩
      · have hne := ne_int he
        have HNN : Hid (∀ j (h : j < l.length), j < k + 1 → l[j] ≠ c) := fun j h hj => by
          by_cases h2 : j < k
          · exact HN.out j h h2
          · obtain rfl : j = k := by omega
            rw [hd]; exact he
        clear hd he HN
        go_wp2
        go_roundw
        case rel => exact ⟨k + 1, by go_num, by omega, HNN, trivial⟩
        case measure => simp [intOf]; omega
    · obtain rfl : k = l.length := by omega
      have hm : decide (c ∈ l) = false := by
        rw [decide_eq_false_iff_not]
        intro h
        obtain ⟨j, hj, e⟩ := List.getElem_of_mem h
        exact HN.out j hj hj e
      have HM := Lib.hid hm
      clear hm
      go_wp2
      go_ret
      exact ⟨by rw [HM.out]; rfl, rfl⟩

def atomSpecials : List UInt8 := [40, 41, 123, 37, 42, 34, 92, 93]
def atomByte (c : UInt8) : Bool := decide (33 ≤ c.toNat) && decide (c.toNat ≤ 126) && !decide (c ∈ atomSpecials)
def atom (l : List UInt8) : Bool := l.all atomByte && decide (0 < l.length)

set_option maxRecDepth 100000 in
theorem refatombyte_any (c : UInt8) (w : World) :
    Calls Tryd.prog 45 #[.int .u8 (c.toNat : Nat)] w fun e w' => e = .returned (.bool (atomByte c)) ∧ w' = w := by
  have hin := refin_any c atomSpecials (by decide)
  rw [show S atomSpecials = ⟨#[40, 41, 123, 37, 42, 34, 92, 93]⟩ from rfl] at hin
  have hcl := UInt8.toNat_lt c
  have hdef : Hid (atomByte c = (decide (33 ≤ c.toNat) && decide (c.toNat ≤ 126) && !decide (c ∈ atomSpecials))) := rfl
  generalize decide (c ∈ atomSpecials) = b at *
  generalize atomByte c = r at *
  generalize c.toNat = x at *
  go_enter Tryd.func45, Tryd.ntmps45
  by_cases h1 : 33 ≤ x
  · have i1 : (33 : Int) ≤ (x : Int) := by omega
    by_cases h2 : x ≤ 126
    · have i2 : (x : Int) ≤ 126 := by omega
      go_wp2_with fail
      refine (hin w).mono ?_
      rintro e w' ⟨rfl, rfl⟩
      go_wp2_with fail
      go_ret
      exact ⟨by rw [hdef.out]; simp [h1, h2], rfl⟩
    · have i2 : ¬ (x : Int) ≤ 126 := by omega
      go_wp2_with fail
      go_ret
      exact ⟨by rw [hdef.out]; simp [h2], rfl⟩
  · have i1 : ¬ (33 : Int) ≤ (x : Int) := by omega
    go_wp2_with fail
    go_ret
    exact ⟨by rw [hdef.out]; simp [h1], rfl⟩

set_option maxRecDepth 100000 in
theorem refatom_any (l : List UInt8) (hl : l.length ≤ 140737488355328) (w : World) :
    Calls Tryd.prog 31 #[.string (S l)] w fun e w' => e = .returned (.bool (atom l)) ∧ w' = w := by
  have hz := S_size l
  go_enter Tryd.func31, Tryd.ntmps31
  go_wp2
  go_loopw [3] (fun i wr => ∃ k : Nat, i = .int .i64 k ∧ k ≤ l.length ∧ Hid (∀ j (h : j < l.length), j < k → atomByte l[j] = true) ∧ wr = w)
    (fun i _ => l.length - (intOf i).toNat)
  case atStart => exact ⟨0, rfl, Nat.zero_le _, Lib.hid (fun j _ h => absurd h (by omega)), rfl⟩
  case round =>
    obtain ⟨k, rfl, hk, HN, rfl⟩ := hrel
    by_cases hlt : k < l.length
    · have hlt' : k < (S l).size := by rw [S_size]; exact hlt
      obtain ⟨d, hd⟩ : ∃ d, l[k]'hlt = d := ⟨_, rfl⟩
      have hx : ((S l)[k]'hlt').toNat = d.toNat := by rw [S_get l k hlt hlt', hd]
      have hki : (k : Int) < (l.length : Int) := by omega
      have hab := refatombyte_any d
      cases he : atomByte d with
      | false =>
        have hm : atom l = false := by
          unfold atom
          have : l.all atomByte = false := by
            rw [List.all_eq_false]
            exact ⟨d, by rw [← hd]; exact List.getElem_mem hlt, by rw [he]; decide⟩
          rw [this]; rfl
        rw [he] at hab
        have HM := Lib.hid hm
        clear hd hm he
        go_wp2_with fail
        refine (hab _).mono ?_
        rintro e w' ⟨rfl, rfl⟩
        go_wp2_with fail
        go_ret
        exact ⟨by rw [HM.out]; rfl, rfl⟩
      | true =>
        rw [he] at hab
        have HNN : Hid (∀ j (h : j < l.length), j < k + 1 → atomByte l[j] = true) := fun j h hj => by
          by_cases h2 : j < k
          · exact HN.out j h h2
          · obtain rfl : j = k := by omega
            rw [hd]; exact he
        clear hd he HN
        go_wp2_with fail
        refine (hab _).mono ?_
        rintro e w' ⟨rfl, rfl⟩
        go_wp2_with fail
        go_roundw
        case rel => exact ⟨k + 1, by go_num, by omega, HNN, trivial⟩
        case measure => simp [intOf]; omega
    · obtain rfl : k = l.length := by omega
      have hm : atom l = decide (0 < l.length) := by
        unfold atom
        have : l.all atomByte = true := by
          rw [List.all_eq_true]
          intro x hx
          obtain ⟨j, hj, e⟩ := List.getElem_of_mem hx
          rw [← e]; exact HN.out j hj hj
        rw [this]; rfl
      have HM := Lib.hid hm
      clear hm HN
      go_wp2_with fail
      go_ret
      exact ⟨by rw [HM.out]; simp, rfl⟩
end Go.Proofs.YtiaggnpkmigbhaaDoor.fl
