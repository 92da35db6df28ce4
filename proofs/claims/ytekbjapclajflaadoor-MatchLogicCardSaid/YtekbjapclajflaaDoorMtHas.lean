/-
  Rows of ranges, rows of texts; what seqset.Has and flag.Has answer.
-/
import Derived.Test.YtekbjapclajflaaDoorFlagBase
import Derived.Test.YtekbjapclajflaaDoorShelf
import Derived.Lib.SlicesS
import Derived.Deep.QuietTactic
import Derived.BigQuiet
import Derived.Deep.CutRange
namespace Go.Proofs.YtekbjapclajflaaDoor.sq
open Go.RowKit

/-- A row of ranges, or none. -/
def RowR (w : World) (a : Option Addr) (l : List (Nat × Nat)) : Prop :=
  l = [] ∨ ∃ b off, a = some ⟨b, off, none⟩ ∧ b < w.heap.size ∧ ∀ j (h : j < l.length), w.cell? ⟨b, off + j * 2, none⟩ = some (.int .u64 (l[j].1 : Nat)) ∧ w.cell? ⟨b, off + j * 2 + 1, none⟩ = some (.int .u64 (l[j].2 : Nat))
theorem RowR.later {w w' : World} {a : Option Addr} {l : List (Nat × Nat)} (h : RowR w a l) (k : Below w.heap.size w w') : RowR w' a l := by
  rcases h with h | ⟨b, off, e, hb, hc⟩
  · exact .inl h
  · exact .inr ⟨b, off, e, Nat.lt_of_lt_of_le hb k.size, fun j hj => ⟨(k.cell (p := ⟨b, _, none⟩) hb).trans (hc j hj).1, (k.cell (p := ⟨b, _, none⟩) hb).trans (hc j hj).2⟩⟩

theorem below_drewN {B : Nat} {a w : World} (h : Below B a w) (q : Nat) : Below B a (w.drewN q) := ⟨h.os, h.tape, h.output, h.size, h.block⟩
theorem list_not {α : Type} (p : α → Bool) (l : List α) (H : ∀ j (h : j < l.length), j < l.length → p l[j] = false) : l.any p = false := by
  rw [List.any_eq_false]
  intro x hx
  obtain ⟨j, hj, e⟩ := List.getElem_of_mem hx
  rw [← e, H j hj hj]; decide
theorem list_yes {α : Type} (p : α → Bool) (l : List α) (k : Nat) (h : k < l.length) (hp : p l[k] = true) : l.any p = true := by
  rw [List.any_eq_true]
  exact ⟨l[k], List.getElem_mem h, hp⟩

/-- Is a number in a range? -/
def inR (most n : Nat) (r : Nat × Nat) : Bool :=
  let a := if r.1 = 0 then most else r.1
  let b := if r.2 = 0 then most else r.2
  (decide (a ≤ n) && decide (n ≤ b)) || (decide (b ≤ n) && decide (n ≤ a))
def has (l : List (Nat × Nat)) (most n : Nat) : Bool := l.any (inR most n)

def res (x y : Int) : Int := if x = 0 then y else x
theorem res_nat (p m : Nat) : res (p : Int) (m : Int) = ((if p = 0 then m else p : Nat) : Int) := by
  unfold res
  by_cases h : p = 0
  · simp [h]
  · rw [if_neg (by omega), if_neg h]

set_option maxRecDepth 100000 in
theorem resolve_any (x y : Int) (w : World) :
    Calls Tryd.prog 25 #[.int .u64 x, .int .u64 y] w fun e w' => e = .returned (.int .u64 (res x y)) ∧ w' = w := by
  have hd : Hid (x = 0 → res x y = y) := fun h => by unfold res; rw [if_pos h]
  have hn : Hid (x ≠ 0 → res x y = x) := fun h => by unfold res; rw [if_neg h]
  generalize res x y = r at *
  by_cases h : x = 0
  · have hq : (x == 0) = true := by rw [h]; rfl
    have hr := Lib.hid (hd.out h)
    clear hd hn h
    go_enter Tryd.func25, Tryd.ntmps25
    go_wp2
    go_ret
    exact ⟨by rw [hr.out]; rfl, rfl⟩
  · have hq : (x == 0) = false := by rw [beq_eq_false_iff_ne]; exact h
    have hr := Lib.hid (hn.out h)
    clear hd hn h
    go_enter Tryd.func25, Tryd.ntmps25
    go_wp2
    go_ret
    exact ⟨by rw [hr.out]; rfl, rfl⟩

theorem inR_minmax (most n p q : Nat) : inR most n (p, q) = (decide (min (if p = 0 then most else p) (if q = 0 then most else q) ≤ n) && decide (n ≤ max (if p = 0 then most else p) (if q = 0 then most else q))) := by
  unfold inR
  simp only
  generalize (if p = 0 then most else p) = a
  generalize (if q = 0 then most else q) = b
  rw [Bool.eq_iff_iff]
  simp only [Bool.or_eq_true, Bool.and_eq_true, decide_eq_true_eq]
  omega

set_option maxHeartbeats 1000000 in
set_option maxRecDepth 100000 in
theorem has_any (a : Option Addr) (cap : Nat) (l : List (Nat × Nat)) (most n : Nat) (hl : l.length ≤ 140737488355328) (w : World) (hr : RowR w a l) :
    Calls Tryd.prog 20 #[.slice a l.length cap, .int .u64 (most : Nat), .int .u64 (n : Nat)] w fun e w' => e = .returned (.bool (has l most n)) ∧ Below w.heap.size w w' := by
  go_enter Tryd.func20, Tryd.ntmps20
  go_wp2
  go_loopw [13] (fun i wr => ∃ k : Nat, i = .int .i64 k ∧ k ≤ l.length ∧ Hid (∀ j (h : j < l.length), j < k → inR most n l[j] = false) ∧ Below w.heap.size w wr)
    (fun i _ => l.length - (intOf i).toNat)
  case atStart => exact ⟨0, rfl, Nat.zero_le _, Lib.hid (fun j _ h => absurd h (by omega)), Below.refl _ _⟩
  case round =>
    obtain ⟨k, rfl, hk, HN, hB⟩ := hrel
    by_cases hlt : k < l.length
    · rcases hr.later hB with h0 | ⟨b, off, rfl, hb, hc⟩
      · rw [h0] at hlt; simp at hlt
      · obtain ⟨c1, c2⟩ := hc k hlt
        have hki : (k : Int) < (l.length : Int) := by omega
        obtain ⟨r, hx⟩ : ∃ r, l[k]'hlt = r := ⟨_, rfl⟩
        rw [hx] at c1 c2
        have hnr : Hid (inR most n r = false → ∀ j (h : j < l.length), j < k + 1 → inR most n l[j] = false) := fun hf j h hj => by
          by_cases h2 : j < k
          · exact HN.out j h h2
          · obtain rfl : j = k := by omega
            rw [hx]; exact hf
        have hyr : Hid (inR most n r = true → has l most n = true) := fun ht => list_yes (inR most n) l k hlt (by rw [hx]; exact ht)
        obtain ⟨p, q⟩ := r
        have hdef : Hid (inR most n (p, q) = _) := inR_minmax most n p q
        have hB1 : Below w.heap.size w (wr.alloc (.cells #[.int .u64 p, .int .u64 q] 57)) := hB.alloc hB.size _
        have e1 := res_nat p most
        have e2 := res_nat q most
        clear hc hr hx HN
        generalize inR most n (p, q) = rr at *
        generalize (if p = 0 then most else p) = x at *
        generalize (if q = 0 then most else q) = y at *
        go_wp2
        go_quiet (first | (go_at_call 25; refine Calls.quiet_of_same (resolve_any _ _ _)))
        go_wp2
        all_goals have hBq := below_drewN hB1 nq
        all_goals clear hB1 c1 c2 e1 e2
        all_goals first
          | (have ht : rr = true := (by rw [hdef.out, Bool.and_eq_true, decide_eq_true_eq, decide_eq_true_eq]; constructor <;> omega); go_ret; exact ⟨by rw [hyr.out ht]; rfl, hBq⟩)
          | (have hf : rr = false := (by rw [hdef.out, Bool.and_eq_false_iff, decide_eq_false_iff_not, decide_eq_false_iff_not]; omega); have hF := Lib.hid (hnr.out hf); clear hnr hyr hdef hf; go_roundw; (case rel => exact ⟨k + 1, by go_num, by omega, hF, hBq⟩); (case measure => simp [intOf]; omega))
    · obtain rfl : k = l.length := by omega
      have HM : Hid (has l most n = false) := Lib.hid (list_not (inR most n) l HN.out)
      clear HN hr
      go_wp2
      go_ret
      exact ⟨by rw [HM.out]; rfl, hB⟩
end Go.Proofs.YtekbjapclajflaaDoor.sq
namespace Go.Proofs.YtekbjapclajflaaDoor.fl
open Go.RowKit Go.Shelf

/-- A row of texts, or none. -/
def RowS (w : World) (a : Option Addr) (l : List (List UInt8)) : Prop :=
  l = [] ∨ ∃ b off, a = some ⟨b, off, none⟩ ∧ b < w.heap.size ∧ ∀ j (h : j < l.length), w.cell? ⟨b, off + j, none⟩ = some (.string (S l[j]))
theorem RowS.later {w w' : World} {a : Option Addr} {l : List (List UInt8)} (h : RowS w a l) (k : Below w.heap.size w w') : RowS w' a l := by
  rcases h with h | ⟨b, off, e, hb, hc⟩
  · exact .inl h
  · exact .inr ⟨b, off, e, Nat.lt_of_lt_of_le hb k.size, fun j hj => (k.cell (p := ⟨b, off + j, none⟩) hb).trans (hc j hj)⟩
theorem row_getD {w : World} {b off : Nat} {l : List (List UInt8)} (hc : ∀ j (h : j < l.length), w.cell? ⟨b, off + j, none⟩ = some (.string (S l[j]))) : ∀ j, j < (l.map S).length → w.cell? ⟨b, off + j, none⟩ = some (.string ((l.map S).getD j ByteArray.empty)) := fun j hj => by
  rw [List.length_map] at hj
  rw [hc j hj]
  simp [hj]
theorem contains_eq (l : List (List UInt8)) (f : List UInt8) : Lib.containsS ((l.map S).take l.length) (S f) = decide (f ∈ l) := by
  rw [List.take_of_length_le (by simp), Bool.eq_iff_iff, Lib.containsS_iff, decide_eq_true_eq, List.mem_map]
  exact ⟨fun ⟨x, hx, e⟩ => S_inj e ▸ hx, fun h => ⟨f, h, rfl⟩⟩
set_option maxRecDepth 100000 in
theorem has_any (a : Option Addr) (cap : Nat) (l : List (List UInt8)) (f : List UInt8) (hl : l.length ≤ 140737488355328) (w : World) (hr : RowS w a l) :
    Calls Tryd.prog 21 #[.slice a l.length cap, .string (S f)] w fun e w' => e = .returned (.bool (decide (f ∈ l))) ∧ w' = w := by
  rcases hr with rfl | ⟨b, off, rfl, hb, hc⟩
  · have h := Tryd.slices_Contains_string_empty a cap (S f) w
    go_enter Tryd.func21, Tryd.ntmps21
    go_wp2_with fail
    refine h.mono ?_
    rintro e w1 ⟨rfl, rfl⟩
    go_wp2_with fail
    go_ret
    exact ⟨by simp, rfl⟩
  · have h := Tryd.slices_Contains_string b off l.length cap (l.map S) (S f) w (by simp) (by omega) (row_getD hc)
    rw [contains_eq] at h
    generalize decide (f ∈ l) = r at *
    clear hc
    go_enter Tryd.func21, Tryd.ntmps21
    go_wp2_with fail
    refine h.mono ?_
    rintro e w1 ⟨rfl, rfl⟩
    go_wp2_with fail
    go_ret
    exact ⟨rfl, rfl⟩
end Go.Proofs.YtekbjapclajflaaDoor.fl
