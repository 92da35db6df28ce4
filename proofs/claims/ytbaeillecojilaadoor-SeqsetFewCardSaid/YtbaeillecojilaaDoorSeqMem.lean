/-
  Rows of numbers, rows of ranges: how they lie; what Has, Same, in, SameNumbers answer.
-/
import Derived.Test.YtbaeillecojilaaDoorSeqNum
import Derived.Deep.QuietTactic
import Derived.BigQuiet
import Derived.Deep.CutRange
namespace Go.Proofs.YtbaeillecojilaaDoor.sq
open Go.RowKit

/-- A row of numbers, or none. -/
def Row64 (w : World) (a : Option Addr) (l : List Nat) : Prop :=
  l = [] ∨ ∃ b off, a = some ⟨b, off, none⟩ ∧ b < w.heap.size ∧ ∀ j (h : j < l.length), w.cell? ⟨b, off + j, none⟩ = some (.int .u64 (l[j] : Nat))
theorem Row64.later {w w' : World} {a : Option Addr} {l : List Nat} (h : Row64 w a l) (k : Below w.heap.size w w') : Row64 w' a l := by
  rcases h with h | ⟨b, off, e, hb, hc⟩
  · exact .inl h
  · exact .inr ⟨b, off, e, Nat.lt_of_lt_of_le hb k.size, fun j hj => (k.cell (p := ⟨b, off + j, none⟩) hb).trans (hc j hj)⟩
/-- A row of ranges, or none. -/
def RowR (w : World) (a : Option Addr) (l : List (Nat × Nat)) : Prop :=
  l = [] ∨ ∃ b off, a = some ⟨b, off, none⟩ ∧ b < w.heap.size ∧ ∀ j (h : j < l.length), w.cell? ⟨b, off + j * 2, none⟩ = some (.int .u64 (l[j].1 : Nat)) ∧ w.cell? ⟨b, off + j * 2 + 1, none⟩ = some (.int .u64 (l[j].2 : Nat))
theorem RowR.later {w w' : World} {a : Option Addr} {l : List (Nat × Nat)} (h : RowR w a l) (k : Below w.heap.size w w') : RowR w' a l := by
  rcases h with h | ⟨b, off, e, hb, hc⟩
  · exact .inl h
  · exact .inr ⟨b, off, e, Nat.lt_of_lt_of_le hb k.size, fun j hj => ⟨(k.cell (p := ⟨b, _, none⟩) hb).trans (hc j hj).1, (k.cell (p := ⟨b, _, none⟩) hb).trans (hc j hj).2⟩⟩

theorem below_drewN {B : Nat} {a w : World} (h : Below B a w) (q : Nat) : Below B a (w.drewN q) := ⟨h.os, h.tape, h.output, h.size, h.block⟩
theorem list_not {α : Type} (p : α → Bool) (l : List α) (H : ∀ j (h : j < l.length), j < l.length → p l[j] = false) : l.any p = false := by
  rw [List.any_eq_false]
  intro x hx
  obtain ⟨j, hj, e⟩ := List.getElem_of_mem hx
  rw [← e, H j hj hj]; decide
theorem list_yes {α : Type} (p : α → Bool) (l : List α) (k : Nat) (h : k < l.length) (hp : p l[k] = true) : l.any p = true := by
  rw [List.any_eq_true]
  exact ⟨l[k], List.getElem_mem h, hp⟩

set_option maxHeartbeats 1000000 in
set_option maxRecDepth 100000 in
theorem refin_any (a : Option Addr) (cap : Nat) (l : List Nat) (n : Nat) (hl : l.length ≤ 140737488355328) (w : World) (hr : Row64 w a l) :
    Calls Tryd.prog 34 #[.slice a l.length cap, .int .u64 (n : Nat)] w fun e w' => e = .returned (.bool (l.any (fun x => decide (x = n)))) ∧ Below w.heap.size w w' := by
  go_enter Tryd.func34, Tryd.ntmps34
  go_wp2
  go_loopw [5] (fun i wr => ∃ k : Nat, i = .int .i64 k ∧ k ≤ l.length ∧ Hid (∀ j (h : j < l.length), j < k → decide (l[j] = n) = false) ∧ Below w.heap.size w wr)
    (fun i _ => l.length - (intOf i).toNat)
  case atStart => exact ⟨0, rfl, Nat.zero_le _, Lib.hid (fun j _ h => absurd h (by omega)), Below.refl _ _⟩
  case round =>
    obtain ⟨k, rfl, hk, HN, hB⟩ := hrel
    by_cases hlt : k < l.length
    · rcases hr.later hB with h0 | ⟨b, off, rfl, hb, hc⟩
      · rw [h0] at hlt; simp at hlt
      · have hcell := hc k hlt
        have hki : (k : Int) < (l.length : Int) := by omega
        obtain ⟨x, hx⟩ : ∃ x, l[k]'hlt = x := ⟨_, rfl⟩
        rw [hx] at hcell
        by_cases he : x = n
        · have HM := Lib.hid (list_yes (fun x => decide (x = n)) l k hlt (by rw [hx]; exact decide_eq_true he))
          have hq : ((x : Int) == (n : Int)) = true := by rw [he]; simp
          clear hc hx HN hr he
          go_wp2
          go_ret
          exact ⟨by rw [HM.out]; rfl, hB⟩
        · have hq : ((x : Int) == (n : Int)) = false := by rw [beq_eq_false_iff_ne]; omega
          have HNN : Hid (∀ j (h : j < l.length), j < k + 1 → decide (l[j] = n) = false) := fun j h hj => by
            by_cases h2 : j < k
            · exact HN.out j h h2
            · obtain rfl : j = k := by omega
              rw [hx]; exact decide_eq_false he
          clear hc hx HN hr he
          go_wp2
          go_roundw
          case rel => exact ⟨k + 1, by go_num, by omega, HNN, hB⟩
          case measure => simp [intOf]; omega
    · obtain rfl : k = l.length := by omega
      have HM := Lib.hid (list_not (fun x => decide (x = n)) l HN.out)
      clear HN hr
      go_wp2
      go_ret
      exact ⟨by rw [HM.out]; rfl, hB⟩

/-- Is a number in a range? -/
def inR (most n : Nat) (r : Nat × Nat) : Bool :=
  let a := if r.1 = 0 then most else r.1
  let b := if r.2 = 0 then most else r.2
  (decide (a ≤ n) && decide (n ≤ b)) || (decide (b ≤ n) && decide (n ≤ a))
def has (l : List (Nat × Nat)) (most n : Nat) : Bool := l.any (inR most n)

set_option maxHeartbeats 1000000 in
set_option maxRecDepth 100000 in
theorem refhas_any (a : Option Addr) (cap : Nat) (l : List (Nat × Nat)) (most n : Nat) (hl : l.length ≤ 140737488355328) (w : World) (hr : RowR w a l) :
    Calls Tryd.prog 18 #[.slice a l.length cap, .int .u64 (most : Nat), .int .u64 (n : Nat)] w fun e w' => e = .returned (.bool (has l most n)) ∧ Below w.heap.size w w' := by
  go_enter Tryd.func18, Tryd.ntmps18
  go_wp2
  go_loopw [7] (fun i wr => ∃ k : Nat, i = .int .i64 k ∧ k ≤ l.length ∧ Hid (∀ j (h : j < l.length), j < k → inR most n l[j] = false) ∧ Below w.heap.size w wr)
    (fun i _ => l.length - (intOf i).toNat)
  case atStart => exact ⟨0, rfl, Nat.zero_le _, Lib.hid (fun j _ h => absurd h (by omega)), Below.refl _ _⟩
  case round =>
    obtain ⟨k, rfl, hk, HN, hB⟩ := hrel
    by_cases hlt : k < l.length
    · rcases hr.later hB with h0 | ⟨b, off, rfl, hb, hc⟩
      · rw [h0] at hlt; simp at hlt
      · obtain ⟨c1, c2⟩ := hc k hlt
        have hki : (k : Int) < (l.length : Int) := by omega
        obtain ⟨r, hx⟩ : ∃ r, l[k]'hlt = r := ⟨_, rfl⟩
        rw [hx] at c1 c2
        have hnr : Hid (inR most n r = false → ∀ j (h : j < l.length), j < k + 1 → inR most n l[j] = false) := fun hf j h hj => by
          by_cases h2 : j < k
          · exact HN.out j h h2
          · obtain rfl : j = k := by omega
            rw [hx]; exact hf
        have hyr : Hid (inR most n r = true → has l most n = true) := fun ht => list_yes (inR most n) l k hlt (by rw [hx]; exact ht)
        obtain ⟨p, q⟩ := r
        have hdef : Hid (inR most n (p, q) = ((decide ((if p = 0 then most else p) ≤ n) && decide (n ≤ (if q = 0 then most else q))) || (decide ((if q = 0 then most else q) ≤ n) && decide (n ≤ (if p = 0 then most else p))))) := rfl
        have ep : ((p : Int) == 0) = true ∧ p = 0 ∨ ((p : Int) == 0) = false ∧ ¬ p = 0 := by
          by_cases h : p = 0
          · exact .inl ⟨by rw [h]; rfl, h⟩
          · exact .inr ⟨by rw [beq_eq_false_iff_ne]; omega, h⟩
        have eq' : ((q : Int) == 0) = true ∧ q = 0 ∨ ((q : Int) == 0) = false ∧ ¬ q = 0 := by
          by_cases h : q = 0
          · exact .inl ⟨by rw [h]; rfl, h⟩
          · exact .inr ⟨by rw [beq_eq_false_iff_ne]; omega, h⟩
        clear hc hr hx HN
        generalize inR most n (p, q) = res at *
        go_wp2
        go_quiet (fail)
        have hBq := below_drewN hB nq
        clear hB c1 c2
        generalize wr.drewN nq = w2 at *
        rcases ep with ⟨ep, zp⟩ | ⟨ep, zp⟩
        all_goals rcases eq' with ⟨eq', zq⟩ | ⟨eq', zq⟩
        all_goals have HD := hdef.out
        all_goals simp only [zp, zq, if_true, if_false] at HD
        all_goals have HDD := Lib.hid HD
        all_goals clear HD hdef zp zq
        all_goals go_wp2_with fail
        all_goals first
          | (go_ret; refine ⟨?_, hBq⟩; rw [hyr.out (by rw [HDD.out]; simp; omega)]; rfl)
          | (have hF := Lib.hid (hnr.out (by rw [HDD.out]; simp; omega)); clear hnr hyr HDD; go_roundw; (case rel => exact ⟨k + 1, by go_num, by omega, hF, hBq⟩); (case measure => simp [intOf]; omega))
    · obtain rfl : k = l.length := by omega
      have HM : Hid (has l most n = false) := Lib.hid (list_not (inR most n) l HN.out)
      clear HN hr
      go_wp2
      go_ret
      exact ⟨by rw [HM.out]; rfl, hB⟩
end Go.Proofs.YtbaeillecojilaaDoor.sq
