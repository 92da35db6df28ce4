/-
  Rows of one's own: what stays. No walk.
-/
import Derived.Test.YtmgmhnohocamfaaGreatQmR2
import Derived.BigRegion
import Derived.BigCall
namespace Go.Proofs.YtmgmhnohocamfaaGreat.qm
set_option linter.unusedVariables false
open Go.RowKit
open rw (Arr But Own bnext below_box below_drew below_drewN)

def NewN (w w' : World) (u : Value) (l : List Int) : Prop := Own noSh w' w.heap.size u l ∧ Below w.heap.size w w'
theorem own_mono {α : Type} {s : rw.Sh α} {w : World} {B B' : Nat} {v : Value} {l : List α} (h : Own s w B v l) (hb : B' ≤ B) : Own s w B' v l := by
  obtain ⟨h1, h2 | ⟨g, cap, cur, h3, h4, h5⟩⟩ := h
  · exact ⟨h1, .inl h2⟩
  · exact ⟨h1, .inr ⟨g, cap, cur, h3, Nat.le_trans hb h4, h5⟩⟩
theorem NewN.after {w w1 w2 : World} {u : Value} {l : List Int} (h : NewN w1 w2 u l) (b : Below w.heap.size w w1) : NewN w w2 u l := ⟨own_mono h.1 b.size, b.trans (h.2.mono b.size)⟩
theorem own_but {α : Type} {s : rw.Sh α} {q B : Nat} {w w' : World} {v : Value} {l : List α} (h : Own s w B v l) (k : But q w w') (hv : v.ownBlock ≠ some q) : Own s w' B v l := by
  obtain ⟨h1, h2 | ⟨g, cap, cur, h3, h4, h5, h6⟩⟩ := h
  · exact ⟨h1, .inl h2⟩
  · refine ⟨h1, .inr ⟨g, cap, cur, h3, h4, (k.block g (Array.getElem?_eq_some_iff.1 h5).1 (fun e => hv ?_)).trans h5, h6⟩⟩
    rw [h3, e]; simp [Value.ownBlock]
theorem own_keep {α : Type} {s : rw.Sh α} {B : Nat} {w w' : World} {v : Value} {l : List α} (h : Own s w B v l) (k : ∀ i, i < w.heap.size → v.ownBlock = some i → w'.heap[i]? = w.heap[i]?) : Own s w' B v l := by
  obtain ⟨h1, h2 | ⟨g, cap, cur, h3, h4, h5, h6⟩⟩ := h
  · exact ⟨h1, .inl h2⟩
  · exact ⟨h1, .inr ⟨g, cap, cur, h3, h4, (k g (Array.getElem?_eq_some_iff.1 h5).1 (by rw [h3]; simp [Value.ownBlock])).trans h5, h6⟩⟩
end Go.Proofs.YtmgmhnohocamfaaGreat.qm
