/-
  Rows of nodes and of indices, as they lie. No walk.
-/
import Derived.Test.YtmgmhnohocamfaaGreatRw
import Derived.Test.YtmgmhnohocamfaaGreatQmHeap
import Derived.Deep.RegionHeld3
import Derived.Deep.RegionWith
import Derived.Deep.RegionLaw
import Derived.IntWalk
import Derived.Laws.EntriesVeiled
namespace Go.Proofs.YtmgmhnohocamfaaGreat.qm
set_option linter.unusedVariables false
open Go.RowKit
open rw (Arr But Own bnext below_box below_drew below_drewN)

def noSh : rw.Sh Int where
  t := 3
  st := 36
  k := 1
  bytes := 8
  z := .int .i64 0
  enc := fun x => [.int .i64 x]
  hu := Tryz.underlying36
  hi := by kernel_rfl
  hz := by rfl
  hk := by decide
  hb := by decide
  len := fun _ => rfl
  one := fun x u hu => by
    simp only [List.mem_cons, List.not_mem_nil, or_false] at hu
    rcases hu with rfl; rfl
def ixSh : rw.Sh Ix where
  t := 152
  st := 153
  k := 2
  bytes := 16
  z := .agg #[.int .i64 0, .int .u64 0]
  enc := fun x => [.int .i64 x.node, .int .u64 x.idx]
  hu := Tryz.underlying153
  hi := by kernel_rfl
  hz := by rfl
  hk := by decide
  hb := by decide
  len := fun _ => rfl
  one := fun x u hu => by
    simp only [List.mem_cons, List.not_mem_nil, or_false] at hu
    rcases hu with rfl | rfl <;> rfl
/-- The heap's own slice type. -/
def hpSh : rw.Sh Ix where
  t := 152
  st := 202
  k := 2
  bytes := 16
  z := .agg #[.int .i64 0, .int .u64 0]
  enc := fun x => [.int .i64 x.node, .int .u64 x.idx]
  hu := Tryz.underlying202
  hi := by kernel_rfl
  hz := by rfl
  hk := by decide
  hb := by decide
  len := fun _ => rfl
  one := fun x u hu => by
    simp only [List.mem_cons, List.not_mem_nil, or_false] at hu
    rcases hu with rfl | rfl <;> rfl
abbrev Ns (w : World) (v : Value) (l : List Int) : Prop := rw.Sl noSh w v l
abbrev Is (w : World) (v : Value) (l : List Ix) : Prop := rw.Sl ixSh w v l
theorem sl_form {α : Type} {s : rw.Sh α} {w : World} {v : Value} {l : List α} (h : rw.Sl s w v l) : ∃ a c, v = .slice a l.length c := by
  obtain ⟨a, c, h1, h2, h3, h4⟩ := h
  exact ⟨a, c, h1⟩
theorem slN_at {w : World} {v : Value} {l : List Int} (h : Ns w v l) {j : Nat} (hj : j < l.length) :
    ∃ b off c, v = .slice (some ⟨b, off, none⟩) l.length c ∧ b < w.heap.size ∧ w.cell? ⟨b, off + j, none⟩ = some (.int .i64 (l[j]'hj)) := by
  obtain ⟨a, c, h1, h2, h3, h4⟩ := h
  obtain ⟨b, off, rfl, hb, hc⟩ := h3.at noSh hj
  refine ⟨b, off, c, h1, hb, ?_⟩
  have := hc 0 (by decide)
  simpa [noSh] using this
theorem slI_at {w : World} {v : Value} {l : List Ix} (h : Is w v l) {j : Nat} (hj : j < l.length) :
    ∃ b off c, v = .slice (some ⟨b, off, none⟩) l.length c ∧ b < w.heap.size ∧ w.cell? ⟨b, off + j * 2, none⟩ = some (.int .i64 (l[j]'hj).node) ∧ w.cell? ⟨b, off + j * 2 + 1, none⟩ = some (.int .u64 (l[j]'hj).idx) := by
  obtain ⟨a, c, h1, h2, h3, h4⟩ := h
  obtain ⟨b, off, rfl, hb, hc⟩ := h3.at ixSh hj
  refine ⟨b, off, c, h1, hb, ?_, ?_⟩
  · have := hc 0 (by decide)
    simpa [ixSh] using this
  · have := hc 1 (by decide)
    simpa [ixSh] using this
end Go.Proofs.YtmgmhnohocamfaaGreat.qm
