/-
  A slice of texts that came in, as the walk takes it; and how long what came in is where its bulk is bounded.
-/
import Derived.Test.YtjgkjhenfapjeaaDoorRows
import Derived.Test.YtjgkjhenfapjeaaDoorDigPiecesWalk
import Derived.ProofKit
import Derived.OpenShut
import Derived.SliceStrings
namespace Go.Proofs.YtjgkjhenfapjeaaDoor.dg
open Go.ChangeShapes Go.WideShapes Go.ChangeAt Go.RowKit

theorem bulk_strs {H : Type} (ss : List ByteArray) : (ss.map fun s => s.data.toList).flatten.length + ss.length ≤ Rows.uptoBulkAll (Go.ChangeShapes.strs (H := H) ss) := by
  induction ss with
  | nil => simp [Go.ChangeShapes.strs, Rows.uptoBulkAll]
  | cons s ss ih =>
    have e : Go.ChangeShapes.strs (H := H) (s :: ss) = .lit (.string s.data.toList) :: Go.ChangeShapes.strs ss := by simp [Go.ChangeShapes.strs]
    rw [e, Rows.uptoBulkAll, Rows.uptoBulk, List.map_cons, List.flatten_cons, List.length_append, List.length_cons]
    omega

/-- What the reading of a slice of texts gives: its texts; and, of its bulk, how long they are at most. -/
theorem texts_in {H : Type} {enc : TypeId × Value → H} {W : World} {a : Option Addr} {len cap : Nat} {d : DataW H} {p : List MemPlace}
    (h : DataW.Trod enc Tryd.prog W 0 (fun _ => true) true 27 (.slice a len cap) d p) :
    ∃ L : List (List UInt8), SV W (.slice a len cap) L ∧ L.flatten.length ≤ Rows.uptoBulk d ∧ L.length ≤ Rows.uptoBulk d := by
  obtain ⟨fuel, hf⟩ := h
  rcases open_strings Tryd.underlying27 Tryd.underlying9 (by kernel_rfl) hf with ⟨hcs, hx⟩ | ⟨x, l', c', ss, hcs, _, hl, hm, hz, hx, hcell, hsz⟩
  · simp [Value.cells] at hcs
    obtain ⟨rfl, rfl, rfl⟩ := hcs
    exact ⟨[], ⟨none, 0, rfl, .inl rfl⟩, by simp, by simp⟩
  · simp [Value.cells] at hcs
    obtain ⟨rfl, rfl, rfl⟩ := hcs
    simp only [if_true] at hz
    simp only [Prod.mk.injEq] at hx
    obtain ⟨rfl, _⟩ := hx
    have hlen : ((ss.take len).map fun s => s.data.toList).length = len := by simp; omega
    have hb := bulk_strs (H := H) (ss.take len)
    have hlt : (ss.take len).length = len := by simp; omega
    refine ⟨(ss.take len).map fun s => s.data.toList, ⟨_, _, by rw [hlen], ?_⟩, ?_, ?_⟩
    · by_cases h0 : len = 0
      · subst h0
        exact Or.inl (by simp)
      · obtain ⟨b, off, spot⟩ := x
        have hspot : spot = none := by simpa [Addr.add] using World.cell?_spot (hcell 0 (by omega))
        subst hspot
        refine Or.inr ⟨b, off, rfl, World.block_lt_of_cell? W _ (hcell 0 (by omega)), fun j hj => ?_⟩
        have hj' : j < len := by omega
        have hc := hcell j (by omega)
        have e : ((⟨b, off, none⟩ : Addr).add j) = ⟨b, off + j, none⟩ := by unfold Addr.add; split <;> simp_all
        rw [e] at hc
        rw [hc]
        have hjz : j < ss.length := by omega
        simp only [List.getElem_map, List.getElem_take]
        rw [S_of, List.getD_eq_getElem?_getD, List.getElem?_eq_getElem hjz]
        rfl
    · rw [Rows.uptoBulk]
      omega
    · rw [Rows.uptoBulk, hlen]
      omega
end Go.Proofs.YtjgkjhenfapjeaaDoor.dg
