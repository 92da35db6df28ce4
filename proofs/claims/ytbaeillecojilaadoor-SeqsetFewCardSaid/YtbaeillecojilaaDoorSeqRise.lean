/-
  Rising numbers as ranges. No walk.
-/
import Derived.Test.YtbaeillecojilaaDoorSeqNorm
namespace Go.Proofs.YtbaeillecojilaaDoor.sq
open Go.RowKit

/-- L are the numbers of a list but 0, rising. -/
def Rising (of L : List Nat) : Prop := L.Pairwise (· < ·) ∧ ∀ x, x ∈ L ↔ x ∈ of ∧ x ≠ 0
/-- The ranges from (p, q) on. -/
def runs : Nat → Nat → List Nat → List (Nat × Nat)
  | p, q, [] => [(p, q)]
  | p, q, n :: R => if n = q + 1 then runs p n R else (p, q) :: runs n n R
def ranges : List Nat → List (Nat × Nat)
  | [] => []
  | n :: R => runs n n R
theorem runs_norm {of : List Nat} : ∀ (R : List Nat) (lo p q : Nat), lo < p → p ≤ q → q < 18446744073709551616 → (∀ x ∈ R, x < 18446744073709551616) → (q :: R).Pairwise (· < ·) →
    (∀ n, lo < n → n < p → n ∉ of) → (∀ n, p ≤ n → n ≤ q → n ∈ of) → (∀ x, q < x → (x ∈ of ↔ x ∈ R)) → NormFrom of lo (runs p q R)
  | [], lo, p, q, h1, h2, h3, _, _, h4, h5, h6 => by
    refine NormFrom.cons.2 ⟨h1, h2, h3, h4, h5, fun h => ?_, fun n hn h => ?_⟩
    · have := (h6 (q + 1) (by omega)).1 h; simp at this
    · have := (h6 n hn).1 h; simp at this
  | n :: R, lo, p, q, h1, h2, h3, h64, hp, h4, h5, h6 => by
    have hqn : q < n := (List.pairwise_cons.1 hp).1 n (List.mem_cons_self ..)
    have hR := (List.pairwise_cons.1 hp).2
    have hnR := (List.pairwise_cons.1 hR).1
    unfold runs
    by_cases hn : n = q + 1
    · rw [if_pos hn]
      refine runs_norm R lo p n h1 (by omega) (h64 n (List.mem_cons_self ..)) (fun x hx => h64 x (List.mem_cons_of_mem _ hx)) hR h4 (fun x hx1 hx2 => ?_) (fun x hx => ?_)
      · by_cases hxq : x ≤ q
        · exact h5 x hx1 hxq
        · have : x = n := by omega
          rw [this]; exact (h6 n hqn).2 (List.mem_cons_self ..)
      · rw [h6 x (by omega), List.mem_cons]
        constructor
        · rintro (h | h)
          · omega
          · exact h
        · exact Or.inr
    · rw [if_neg hn]
      refine NormFrom.cons.2 ⟨h1, h2, h3, h4, h5, fun h => ?_, ?_⟩
      · rcases List.mem_cons.1 ((h6 (q + 1) (by omega)).1 h) with h | h
        · exact hn h.symm
        · have := hnR _ h; omega
      · refine runs_norm R q n n hqn (Nat.le_refl _) (h64 n (List.mem_cons_self ..)) (fun x hx => h64 x (List.mem_cons_of_mem _ hx)) hR (fun x hx1 hx2 h => ?_) (fun x hx1 hx2 => ?_) (fun x hx => ?_)
        · rcases List.mem_cons.1 ((h6 x hx1).1 h) with h | h
          · omega
          · have := hnR _ h; omega
        · have : x = n := by omega
          rw [this]; exact (h6 n hqn).2 (List.mem_cons_self ..)
        · rw [h6 x (by omega), List.mem_cons]
          constructor
          · rintro (h | h)
            · omega
            · exact h
          · exact Or.inr
theorem ranges_norm {of L : List Nat} (h : Rising of L) (h64 : ∀ x ∈ of, x < 18446744073709551616) : IsNorm of (ranges L) := by
  obtain ⟨hp, hm⟩ := h
  have h64L : ∀ x ∈ L, x < 18446744073709551616 := fun x hx => h64 x ((hm x).1 hx).1
  match L, hp, hm, h64L with
  | [], _, hm, _ =>
    intro n hn h
    have := (hm n).2 ⟨h, by omega⟩
    simp at this
  | n :: R, hp, hm, h64L =>
    have hnR := (List.pairwise_cons.1 hp).1
    have hn := (hm n).1 (List.mem_cons_self ..)
    refine runs_norm R 0 n n (by omega) (Nat.le_refl _) (h64L n (List.mem_cons_self ..)) (fun x hx => h64L x (List.mem_cons_of_mem _ hx)) hp (fun x hx1 hx2 h => ?_) (fun x hx1 hx2 => ?_) (fun x hx => ?_)
    · rcases List.mem_cons.1 ((hm x).2 ⟨h, by omega⟩) with h | h
      · omega
      · have := hnR _ h; omega
    · have : x = n := by omega
      rw [this]; exact hn.1
    · constructor
      · intro h
        rcases List.mem_cons.1 ((hm x).2 ⟨h, by omega⟩) with h | h
        · omega
        · exact h
      · intro h; exact ((hm x).1 (List.mem_cons_of_mem _ h)).1
/-- The state of the loop behind k numbers: the ranges told so far, the last of them open. -/
def Told (L : List Nat) (k : Nat) (M : List (Nat × Nat)) : Prop :=
  (k = 0 ∧ M = []) ∨ ∃ D p q, M = D ++ [(p, q)] ∧ ranges L = D ++ runs p q (L.drop k) ∧ (q :: L.drop k).Pairwise (· < ·) ∧ 0 < k
theorem Told.start (L : List Nat) : Told L 0 [] := .inl ⟨rfl, rfl⟩
theorem Told.first {L : List Nat} (h : 0 < L.length) (hp : L.Pairwise (· < ·)) : Told L 1 [(L[0], L[0])] := by
  match L, h, hp with
  | n :: R, _, hp => exact .inr ⟨[], n, n, rfl, rfl, hp, by decide⟩
theorem drop_at {L : List Nat} {k : Nat} (h : k < L.length) : L.drop k = L[k] :: L.drop (k + 1) := List.drop_eq_getElem_cons h
theorem Told.next {L : List Nat} {k : Nat} {D : List (Nat × Nat)} {p q : Nat} (h1 : ranges L = D ++ runs p q (L.drop k)) (h2 : (q :: L.drop k).Pairwise (· < ·)) (hk : k < L.length) :
    q < L[k] ∧ (L[k] = q + 1 → Told L (k + 1) (D ++ [(p, L[k])])) ∧ (L[k] ≠ q + 1 → Told L (k + 1) (D ++ [(p, q)] ++ [(L[k], L[k])])) := by
  rw [drop_at hk] at h1 h2
  have hq := (List.pairwise_cons.1 h2).1 L[k] (List.mem_cons_self ..)
  have hp := (List.pairwise_cons.1 h2).2
  refine ⟨hq, fun he => .inr ⟨D, p, L[k], rfl, ?_, hp, by omega⟩, fun he => .inr ⟨D ++ [(p, q)], L[k], L[k], rfl, ?_, hp, by omega⟩⟩
  · rw [h1, runs, if_pos he]
  · rw [h1, runs, if_neg he]; simp
theorem Told.done {L : List Nat} {M : List (Nat × Nat)} (h : Told L L.length M) : M = ranges L := by
  rcases h with ⟨h0, rfl⟩ | ⟨D, p, q, rfl, h1, _, _⟩
  · rw [List.eq_nil_of_length_eq_zero h0]; rfl
  · rw [h1, List.drop_length]; rfl
end Go.Proofs.YtbaeillecojilaaDoor.sq
