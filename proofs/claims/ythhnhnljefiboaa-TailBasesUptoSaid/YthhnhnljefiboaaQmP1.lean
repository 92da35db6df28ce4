/-
  Does a number stand in a list: the program's way, the document's way.
-/
import Derived.Test.YthhnhnljefiboaaQmMem
namespace Go.Proofs.Ythhnhnljefiboaa.qm
set_option linter.unusedVariables false
open Go.RowKit
open rw (Arr But Own bnext below_box below_drew below_drewN)

theorem in_no {l : List Int} {n : Int} (h : ∀ j (h : j < l.length), j < l.length → l[j] ≠ n) : l.contains n = false := by
  rw [Bool.eq_false_iff]
  intro hc
  obtain ⟨j, hj, e⟩ := List.mem_iff_getElem.1 (List.contains_iff_mem.1 hc)
  exact h j hj hj e
theorem in_yes {l : List Int} {n : Int} {k : Nat} (hk : k < l.length) (h : l[k] = n) : l.contains n = true := by
  rw [List.contains_iff_mem, ← h]; exact List.getElem_mem hk
theorem in_next {l : List Int} {n : Int} {k : Nat} (hk : k < l.length) (h : ∀ j (h : j < l.length), j < k → l[j] ≠ n) (hn : l[k] ≠ n) : ∀ j (h : j < l.length), j < k + 1 → l[j] ≠ n := fun j hj h2 => by
  by_cases h3 : j < k
  · exact h j hj h3
  · obtain rfl : j = k := by omega
    exact hn
end Go.Proofs.Ythhnhnljefiboaa.qm
