/-
  How members may change, as plain mathematics. No walk.
-/
import Derived.Test.YtnodgpbahlaccaaQmMath
import Derived.KernelRfl
namespace Go.Proofs.Ytnodgpbahlaccaa.qm
set_option linter.unusedVariables false

/-- Rising rows above 5 - k. -/
def ups : Nat → List (List Int)
  | 0 => [[]]
  | k + 1 => ups k ++ (ups k).map (((5 - k : Nat) : Int) :: ·)
theorem ups_nil : ∀ k, [] ∈ ups k
  | 0 => List.mem_cons_self
  | k + 1 => List.mem_append_left _ (ups_nil k)
theorem ups_of : ∀ (k : Nat), k ≤ 5 → ∀ (l : List Int) (a : Int), (5 : Int) - k ≤ a → rises a l = true → l ∈ ups k
  | 0, _, [], a, _, _ => List.mem_cons_self
  | 0, _, x :: l, a, ha, h => by
    simp only [rises, Bool.and_eq_true, decide_eq_true_eq] at h
    omega
  | k + 1, hk, [], a, _, _ => ups_nil _
  | k + 1, hk, x :: l, a, ha, h => by
    have h2 := h
    simp only [rises, Bool.and_eq_true, decide_eq_true_eq] at h2
    by_cases hx : x = ((5 - k : Nat) : Int)
    · refine List.mem_append_right _ (List.mem_map.2 ⟨l, ups_of k (by omega) l x (by omega) h2.2, by rw [hx]⟩)
    · refine List.mem_append_left _ (ups_of k (by omega) (x :: l) ((5 - k : Nat) : Int) (by omega) ?_)
      simp only [rises, Bool.and_eq_true, decide_eq_true_eq]
      exact ⟨⟨by omega, h2.1.2⟩, h2.2⟩
theorem ups_right {l : List Int} (h : right l = true) : l ∈ ups 5 := by
  simp only [right, Bool.and_eq_true] at h
  exact ups_of 5 (Nat.le_refl _) l 0 (by omega) h.1
def five : List Int := [1, 2, 3, 4, 5]
theorem five_of {n : Int} (h1 : 1 ≤ n) (h2 : n ≤ 5) : n ∈ five := by
  have : n = 1 ∨ n = 2 ∨ n = 3 ∨ n = 4 ∨ n = 5 := by omega
  rcases this with rfl | rfl | rfl | rfl | rfl <;> simp [five]

/-! ### The document's way -/
def withL (l : List Int) (n : Int) : List Int := five.filter fun m => l.contains m || m == n
def withoutL (l : List Int) (n : Int) : List Int := l.filter fun m => m != n
def stepAt (a b : List Int) (n : Int) : Bool := (!a.contains n && decide (withL a n = b)) || (a.contains n && decide (withoutL a n = b))
def stepR (a b : List Int) : Bool := right a && right b && five.any (stepAt a b)
def mayR (l : List Int) (add : Bool) (n : Int) : Bool := right l && decide (1 ≤ n ∧ n ≤ 5) && (l.contains n != add) && (add || l.length != 1)
def thenR (l : List Int) (add : Bool) (n : Int) : List Int := if add then withL l n else withoutL l n
def applR (l : List Int) (add : Bool) (n : Int) : Option (List Int) := if mayR l add n then some (thenR l add n) else none

/-! ### The program's way -/
def oneMoreP (o m : List Int) : Bool := decide (m.length = o.length + 1) && o.all fun x => m.contains x
def stepP (a b : List Int) : Bool := right a && right b && (oneMoreP a b || oneMoreP b a)
def at_ (l : List Int) (n : Int) : Nat := l.countP (· < n)
def nextP (l : List Int) (add : Bool) (n : Int) : List Int := if add then l.take (at_ l n) ++ [n] ++ l.drop (at_ l n) else l.take (at_ l n) ++ l.drop (at_ l n + 1)
def mayP (l : List Int) (add : Bool) (n : Int) : Bool := right l && (l.contains n != add) && right (nextP l add n)

theorem next_all : (ups 5).all (fun l => five.all fun n => [true, false].all fun add => !(right l && (l.contains n != add)) || (right (nextP l add n) == mayR l add n && (!mayR l add n || nextP l add n == thenR l add n))) = true := by decide
theorem may_eq (l : List Int) (add : Bool) (n : Int) : mayP l add n = mayR l add n ∧ (mayR l add n = true → nextP l add n = thenR l add n) := by
  by_cases hr : right l = true
  · by_cases hc : (l.contains n != add) = true
    · by_cases hn : 1 ≤ n ∧ n ≤ 5
      · have h := next_all
        rw [List.all_eq_true] at h
        have h := h l (ups_right hr)
        rw [List.all_eq_true] at h
        have h := h n (five_of hn.1 hn.2)
        rw [List.all_eq_true] at h
        have h := h add (by cases add <;> simp)
        simp only [hr, hc, Bool.and_self, Bool.not_true, Bool.false_or, Bool.and_eq_true, Bool.or_eq_true, Bool.not_eq_true', beq_iff_eq] at h
        refine ⟨by simp only [mayP, hr, hc, Bool.true_and]; exact h.1, fun hm => ?_⟩
        rcases h.2 with h2 | h2
        · rw [h2] at hm; cases hm
        · exact h2
      · have hadd : add = true := by
          cases add with
          | true => rfl
          | false =>
            exfalso
            have : n ∈ l := by simpa using hc
            exact hn (right_mem hr this)
        subst hadd
        have h1 : mayR l true n = false := by simp [mayR, hn]
        have h2 : right (nextP l true n) = false := by
          rw [Bool.eq_false_iff]
          intro h
          exact hn (right_mem h (by simp [nextP]))
        refine ⟨by rw [h1]; simp [mayP, h2], fun h => by rw [h1] at h; cases h⟩
    · rw [Bool.not_eq_true] at hc
      have h1 : mayR l add n = false := by simp only [mayR, hc, Bool.and_false, Bool.false_and]
      refine ⟨by rw [h1]; simp only [mayP, hc, Bool.and_false, Bool.false_and], fun h => by rw [h1] at h; cases h⟩
  · rw [Bool.not_eq_true] at hr
    have h1 : mayR l add n = false := by simp [mayR, hr]
    refine ⟨by rw [h1]; simp [mayP, hr], fun h => by rw [h1] at h; cases h⟩
set_option maxRecDepth 100000 in
theorem step_all : (ups 5).all (fun a => (ups 5).all fun b => stepP a b == stepR a b) = true := by kernel_rfl
theorem step_eq (a b : List Int) : stepP a b = stepR a b := by
  by_cases ha : right a = true
  · by_cases hb : right b = true
    · have h := step_all
      rw [List.all_eq_true] at h
      have h := h a (ups_right ha)
      rw [List.all_eq_true] at h
      have h := h b (ups_right hb)
      simpa using h
    · rw [Bool.not_eq_true] at hb
      simp [stepP, stepR, hb]
  · rw [Bool.not_eq_true] at ha
    simp [stepP, stepR, ha]
/-- P15.7. -/
theorem back_all : (ups 5).all (fun l => five.all fun n => [true, false].all fun add => !mayR l add n || (right (thenR l add n) && stepR l (thenR l add n) && stepR (thenR l add n) l && !stepR l l && mayR (thenR l add n) (!add) n && (thenR (thenR l add n) (!add) n == l))) = true := by kernel_rfl
theorem back_of {l : List Int} {add : Bool} {n : Int} (h : mayR l add n = true) : right (thenR l add n) = true ∧ stepR l (thenR l add n) = true ∧ stepR (thenR l add n) l = true ∧ stepR l l = false ∧ mayR (thenR l add n) (!add) n = true ∧ thenR (thenR l add n) (!add) n = l := by
  have h0 := h
  simp only [mayR, Bool.and_eq_true, decide_eq_true_eq] at h0
  have k := back_all
  rw [List.all_eq_true] at k
  have k := k l (ups_right h0.1.1.1)
  rw [List.all_eq_true] at k
  have k := k n (five_of h0.1.1.2.1 h0.1.1.2.2)
  rw [List.all_eq_true] at k
  have k := k add (by cases add <;> simp)
  simp only [h, Bool.not_true, Bool.false_or, Bool.and_eq_true, Bool.not_eq_true', beq_iff_eq] at k
  exact ⟨k.1.1.1.1.1, k.1.1.1.1.2, k.1.1.1.2, k.1.1.2, k.1.2, k.2⟩

/-! ### P15.5 -/
theorem nodup_le : ∀ (C S : List Int), C.Nodup → (∀ x ∈ C, x ∈ S) → C.length ≤ S.length
  | [], S, _, _ => Nat.zero_le _
  | c :: C, S, hn, hs => by
    have hc := hs c List.mem_cons_self
    have hn2 := List.nodup_cons.1 hn
    have ih := nodup_le C (S.erase c) hn2.2 fun x hx => by
      refine (List.mem_erase_of_ne ?_).2 (hs x (List.mem_cons_of_mem _ hx))
      rintro rfl
      exact hn2.1 hx
    have := List.length_erase_of_mem hc
    have hp := List.length_pos_of_mem hc
    simp only [List.length_cons]
    omega
theorem cnt_sum {l m x y S : List Int} (hl : l.Nodup) (hm : m.Nodup) (hls : ∀ a ∈ l, a ∈ S) (hms : ∀ a ∈ m, a ∈ S) (hxy : ∀ a, a ∈ x → a ∉ y) : cnt l x + cnt m y ≤ S.length := by
  unfold cnt
  rw [← List.length_append]
  refine nodup_le _ _ (List.nodup_append.2 ⟨hl.filter _, hm.filter _, ?_⟩) fun a ha => ?_
  · rintro a ha b hb rfl
    have h1 := List.mem_filter.1 ha
    have h2 := List.mem_filter.1 hb
    exact hxy a (by simpa using h1.2) (by simpa using h2.2)
  · rcases List.mem_append.1 ha with h | h
    · exact hls a (List.mem_filter.1 h).1
    · exact hms a (List.mem_filter.1 h).1
theorem meets {l m x y : List Int} (h1 : most l x = true) (h2 : most m y = true) (h3 : l = m ∨ stepR l m = true) : ∃ a, a ∈ x ∧ a ∈ y := by
  by_cases hc : ∃ a, a ∈ x ∧ a ∈ y
  · exact hc
  · exfalso
    have hxy : ∀ a, a ∈ x → a ∉ y := fun a ha hb => hc ⟨a, ha, hb⟩
    simp only [most, Bool.and_eq_true, decide_eq_true_eq] at h1 h2
    have hl := right_nodup h1.1
    have hm := right_nodup h2.1
    rcases h3 with rfl | h3
    · have := cnt_sum hl hm (fun a h => h) (fun a h => h) hxy
      omega
    · rw [← step_eq] at h3
      simp only [stepP, oneMoreP, Bool.and_eq_true, Bool.or_eq_true, decide_eq_true_eq, List.all_eq_true, List.contains_iff_mem] at h3
      rcases h3.2 with h | h
      · have := cnt_sum hl hm (S := m) h.2 (fun a h => h) hxy
        omega
      · have := cnt_sum hl hm (S := l) (fun a h => h) h.2 hxy
        omega
end Go.Proofs.Ytnodgpbahlaccaa.qm
