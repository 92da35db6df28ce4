/-
  A slice of texts that came in, as the walks take it; what the listed variables give; the door's own heap meets it.
-/
import Derived.Test.YtnpikjobjmffgaaDoorRows
import Derived.Test.YtnpikjobjmffgaaDoorLinNumP
import Derived.Test.YtnpikjobjmffgaaDoorLinMem
import Derived.ProofKit
import Derived.OpenShut
import Derived.SliceStrings
import Derived.SizedLaws
import Derived.LaidMore
import Derived.MakeChecks
import Derived.Stop.Joined
import Derived.Stop.LaidErr
import Derived.Lib.LaidTab
import Derived.Deep.DeepWitnessRowRef
namespace Go.Proofs.YtnpikjobjmffgaaDoor.li
open Go.ChangeShapes Go.WideShapes Go.ChangeAt Go.RowKit

/-- A row of texts, or none. -/
def RowS (w : World) (a : Option Addr) (l : List (List UInt8)) : Prop :=
  l = [] ∨ ∃ b off, a = some ⟨b, off, none⟩ ∧ b < w.heap.size ∧ ∀ j (h : j < l.length), w.cell? ⟨b, off + j, none⟩ = some (.string (S l[j]))
theorem RowS.later {w w' : World} {a : Option Addr} {l : List (List UInt8)} (h : RowS w a l) (k : Below w.heap.size w w') : RowS w' a l := by
  rcases h with h | ⟨b, off, e, hb, hc⟩
  · exact .inl h
  · exact .inr ⟨b, off, e, Nat.lt_of_lt_of_le hb k.size, fun j hj => (k.cell (p := ⟨b, off + j, none⟩) hb).trans (hc j hj)⟩
theorem rowS_cell {w : World} {a : Option Addr} {l : List (List UInt8)} (h : RowS w a l) {k : Nat} (hk : k < l.length) : ∃ b off, a = some ⟨b, off, none⟩ ∧ b < w.heap.size ∧ w.cell? ⟨b, off + k, none⟩ = some (.string (S l[k])) := by
  rcases h with rfl | ⟨b, off, e, hb, hc⟩
  · simp at hk
  · exact ⟨b, off, e, hb, hc k hk⟩
/-- A slice that holds a list of texts. -/
def Sl (w : World) (v : Value) (m : List (List UInt8)) : Prop := ∃ a c, v = .slice a m.length c ∧ RowS w a m ∧ m.length ≤ c ∧ (a = none → c = 0)

theorem bulk_strs {H : Type} (ss : List ByteArray) : (ss.map fun s => s.data.toList).flatten.length + ss.length ≤ Rows.uptoBulkAll (Go.ChangeShapes.strs (H := H) ss) := by
  induction ss with
  | nil => simp [Go.ChangeShapes.strs, Rows.uptoBulkAll]
  | cons s ss ih =>
    have e : Go.ChangeShapes.strs (H := H) (s :: ss) = .lit (.string s.data.toList) :: Go.ChangeShapes.strs ss := by simp [Go.ChangeShapes.strs]
    rw [e, Rows.uptoBulkAll, Rows.uptoBulk, List.map_cons, List.flatten_cons, List.length_append, List.length_cons]
    omega

/-- What the reading of a slice of texts gives. -/
theorem texts_of {H : Type} {enc : TypeId × Value → H} {W : World} {a : Option Addr} {len cap : Nat} {d : DataW H} {p : List MemPlace}
    (h : DataW.Trod enc Tryd.prog W 0 (fun _ => true) true 22 (.slice a len cap) d p) :
    ∃ l : List (List UInt8), l.length = len ∧ Sl W (.slice a l.length cap) l ∧ l.flatten.length + l.length ≤ Rows.uptoBulk d ∧ (l = [] ∨ ∃ es sp, d = .slice es sp ∧ es.length = len ∧ ∀ x ∈ l, (.lit (.string x) : DataW H) ∈ es) := by
  obtain ⟨fuel, hf⟩ := h
  rcases open_strings Tryd.underlying22 Tryd.underlying9 (by kernel_rfl) hf with ⟨hcs, hx⟩ | ⟨x, l', c', ss, hcs, _, hl, hm, hz, hx, hcell, hsz⟩
  · simp [Value.cells] at hcs
    obtain ⟨rfl, rfl, rfl⟩ := hcs
    simp only [Prod.mk.injEq] at hx
    obtain ⟨rfl, _⟩ := hx
    exact ⟨[], rfl, ⟨none, 0, rfl, .inl rfl, by simp, fun _ => rfl⟩, by simp, .inl rfl⟩
  · simp [Value.cells] at hcs
    obtain ⟨rfl, rfl, rfl⟩ := hcs
    simp only [if_true] at hz
    simp only [Prod.mk.injEq] at hx
    obtain ⟨rfl, _⟩ := hx
    have hlen : ((ss.take len).map fun s => s.data.toList).length = len := by simp; omega
    have hb := bulk_strs (H := H) (ss.take len)
    have hlt : (ss.take len).length = len := by simp; omega
    refine ⟨(ss.take len).map fun s => s.data.toList, hlen, ⟨some x, cap, rfl, ?_, by omega, fun h => by cases h⟩, ?_, .inr ⟨_, _, rfl, by simp [Go.ChangeShapes.strs]; omega, ?_⟩⟩
    · by_cases h0 : len = 0
      · subst h0
        exact Or.inl (by simp)
      · obtain ⟨b, off, spot⟩ := x
        have hspot : spot = none := by simpa [Addr.add] using World.cell?_spot (hcell 0 (by omega))
        subst hspot
        refine Or.inr ⟨b, off, rfl, World.block_lt_of_cell? W _ (hcell 0 (by omega)), fun j hj => ?_⟩
        have hj' : j < len := by omega
        have hc := hcell j (by omega)
        rw [addr_add] at hc
        rw [hc]
        have hjz : j < ss.length := by omega
        simp only [List.getElem_map, List.getElem_take]
        rw [S_of, List.getD_eq_getElem?_getD, List.getElem?_eq_getElem hjz]
        rfl
    · rw [Rows.uptoBulk, List.length_map]
      omega
    · intro y hy
      obtain ⟨s, hs, rfl⟩ := List.mem_map.1 hy
      simp only [Go.ChangeShapes.strs, List.mem_map]
      exact ⟨s, hs, rfl⟩

theorem own : ownKnob Tryd.prog.godebug = none := by kernel_rfl
def laid5 : List (String × DataW Unit) := [("math/bits.deBruijn32tab", Rows.laid_math_bits_deBruijn32tab), ("math/bits.deBruijn64tab", Rows.laid_math_bits_deBruijn64tab), ("internal/strconv.uint64pow10", Rows.laid_internal_strconv_uint64pow10), ("strconv.ErrRange", Rows.laid_strconv_ErrRange), ("strconv.ErrSyntax", Rows.laid_strconv_ErrSyntax)]
theorem door_met5 (os : Os) (args : Array Value) : laidMetH Tryd.prog laid5 ((World.doorLaid Tryd.prog 400 os).forCall (fun _ _ => 0) ⟨#[], args, []⟩).memory :=
  laidMetH_of_parts3 (fuel := 8) (laidMet_of_run' 8 (by kernel_rfl) (by kernel_rfl)) (by kernel_rfl) (by kernel_rfl)

theorem laid_met5 (os : Os) (args : Array Value) : laidMet Tryd.prog laid5 ((World.doorLaid Tryd.prog 400 os).forCall (fun _ _ => 0) ⟨#[], args, []⟩).memory :=
  laidMet_of_run' 8 (by kernel_rfl) (by kernel_rfl)
theorem laidOut : laidOutB Tryd.prog = true := by kernel_rfl
theorem gSyn : Tryd.prog.globalNamed "strconv.ErrSyntax" = some 1 := by kernel_rfl
theorem gRan : Tryd.prog.globalNamed "strconv.ErrRange" = some 2 := by kernel_rfl
theorem tSyn : (Tryd.prog.globals[1]?).map (·.type) = some 62 := by kernel_rfl
theorem tRan : (Tryd.prog.globals[2]?).map (·.type) = some 62 := by kernel_rfl
theorem star : "*" ++ "errors.errorString" = "*errors.errorString" := by decide
theorem errRow (u : TypeId) (h : Tryd.prog.typeName? 3 u = some "*errors.errorString") : u = 80 :=
  typeName_ptr_named (nm := "errors.errorString") (by rw [star]; kernel_rfl) (by kernel_rfl) (by decide) u (by rw [star]; exact h)
theorem errs5 {W : World} (h : laidMetH Tryd.prog laid5 W) : Errs W := by
  rw [MakeChecks.laidMetH_plain _ _ _ (by kernel_rfl)] at h
  have h1 := h.tail.tail.tail
  have h2 := h1.tail
  obtain ⟨a1, _, e1, _⟩ := laid_sentinel h1 gRan tRan Tryd.underlying62 errRow Tryd.underlying80 Tryd.underlying82 rfl rfl Tryd.underlying9 (by kernel_rfl) (by kernel_rfl)
  obtain ⟨a2, _, e2, _⟩ := laid_sentinel h2 gSyn tSyn Tryd.underlying62 errRow Tryd.underlying80 Tryd.underlying82 rfl rfl Tryd.underlying9 (by kernel_rfl) (by kernel_rfl)
  exact ⟨⟨_, _, World.var?_cell gSyn e2 0⟩, ⟨_, _, World.var?_cell gRan e1 0⟩⟩
end Go.Proofs.YtnpikjobjmffgaaDoor.li
