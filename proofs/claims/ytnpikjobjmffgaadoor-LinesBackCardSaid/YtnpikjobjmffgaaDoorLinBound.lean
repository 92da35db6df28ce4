/-
  The law LinesBound: the call answers true. (The walk.)
-/
import Derived.Test.YtnpikjobjmffgaaDoorLinTwins
import Derived.Test.YtnpikjobjmffgaaDoorLinRows
namespace Go.Proofs.YtnpikjobjmffgaaDoor.li
open Go.RowKit

/-- What the inner loop asks of one thing that is heard. -/
theorem heard_last {st : St} {s : List UInt8} (h : Ends st (run st s)) {k : Nat} (hk : k < (run st s).1.length) (h4 : (run st s).1[k].kind = 4) : ¬ (k < (run st s).1.length - 1) := by
  intro hl
  cases hd : (run st s).2.deaf with
  | false => exact h.n hd _ (List.getElem_mem hk) h4
  | true =>
    rcases h.y hd with ⟨_, h2⟩ | ⟨_, pre, h2, h3⟩
    · rw [h2] at hk; simp at hk
    · have hkp : k < pre.length := by rw [h2, List.length_append, List.length_singleton] at hl; omega
      have e : (run st s).1[k] = pre[k] := by
        have : (run st s).1[k]? = pre[k]? := by rw [h2, List.getElem?_append_left hkp]
        rw [List.getElem?_eq_getElem hk, List.getElem?_eq_getElem hkp] at this
        exact Option.some.inj this
      rw [e] at h4
      exact h3 _ (List.getElem_mem hkp) h4
/-- Is a feeder deaf behind a piece? -/
theorem heard_deaf {st : St} {s : List UInt8} (h : Ends st (run st s)) :
    (st.deaf = true ∧ (run st s).2.deaf = true ∧ (run st s).1 = []) ∨ (st.deaf = false ∧ (run st s).1 = [] ∧ (run st s).2.deaf = false) ∨
    (st.deaf = false ∧ ∃ h0 : 0 < (run st s).1.length, ((run st s).1[(run st s).1.length - 1].kind = 4 ∧ (run st s).2.deaf = true) ∨ ((run st s).1[(run st s).1.length - 1].kind ≠ 4 ∧ (run st s).2.deaf = false)) := by
  cases hs : st.deaf with
  | true =>
    have := run_deaf hs s
    left
    rw [this]
    exact ⟨rfl, hs, rfl⟩
  | false =>
    cases hd : (run st s).2.deaf with
    | true =>
      rcases h.y hd with ⟨h2, _⟩ | ⟨_, pre, h2, h3⟩
      · rw [hs] at h2; cases h2
      · right; right
        refine ⟨rfl, by rw [h2]; simp, .inl ⟨?_, rfl⟩⟩
        have : (run st s).1[(run st s).1.length - 1]? = some ⟨4, []⟩ := by rw [h2]; simp
        rw [List.getElem?_eq_getElem (by rw [h2]; simp)] at this
        rw [Option.some.inj this]
    | false =>
      by_cases h0 : (run st s).1 = []
      · exact .inr (.inl ⟨rfl, h0, rfl⟩)
      · have hp : 0 < (run st s).1.length := List.length_pos_iff.2 h0
        right; right
        exact ⟨rfl, hp, .inr ⟨h.n hd _ (List.getElem_mem _), rfl⟩⟩
theorem flat_take {L : List (List UInt8)} {k : Nat} (h : k < L.length) : (L.take (k + 1)).flatten = (L.take k).flatten ++ L[k] := by
  rw [List.take_succ_eq_append_getElem h, List.flatten_append]; simp
theorem run_flat (L : List (List UInt8)) (k : Nat) (h : k < L.length) : run st0 ((L.take (k + 1)).flatten) = ((run st0 (L.take k).flatten).1 ++ (run (run st0 (L.take k).flatten).2 L[k]).1, (run (run st0 (L.take k).flatten).2 L[k]).2) := by
  rw [flat_take h, run_append]
theorem piece_le {L : List (List UInt8)} {k : Nat} (h : k < L.length) : (L[k]).length ≤ L.flatten.length := by
  induction L generalizing k with
  | nil => simp at h
  | cons a r ih =>
    rw [List.flatten_cons, List.length_append]
    cases k with
    | zero => rw [List.getElem_cons_zero]; omega
    | succ k =>
      have := ih (k := k) (by simpa using h)
      rw [List.getElem_cons_succ]
      omega
theorem flat_le (L : List (List UInt8)) (k : Nat) : ((L.take k).flatten).length ≤ L.flatten.length := by
  conv => rhs; rw [← List.take_append_drop k L]
  rw [List.flatten_append, List.length_append]
  omega
end Go.Proofs.YtnpikjobjmffgaaDoor.li
