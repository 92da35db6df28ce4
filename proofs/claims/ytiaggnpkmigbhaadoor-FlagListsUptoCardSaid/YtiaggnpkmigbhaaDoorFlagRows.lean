/-
  A slice of texts that came in, as the walks take it; how long it is; what the listed variables give.
-/
import Derived.Test.YtiaggnpkmigbhaaDoorRows
import Derived.Test.YtiaggnpkmigbhaaDoorFlagProg
import Derived.ProofKit
import Derived.OpenShut
import Derived.SliceStrings
import Derived.SizedLaws
import Derived.LaidMore
import Derived.MakeChecks
namespace Go.Proofs.YtiaggnpkmigbhaaDoor.fl
open Go.ChangeShapes Go.WideShapes Go.ChangeAt Go.RowKit

theorem bulk_strs {H : Type} (ss : List ByteArray) : (ss.map fun s => s.data.toList).flatten.length + ss.length ≤ Rows.uptoBulkAll (Go.ChangeShapes.strs (H := H) ss) := by
  induction ss with
  | nil => simp [Go.ChangeShapes.strs, Rows.uptoBulkAll]
  | cons s ss ih =>
    have e : Go.ChangeShapes.strs (H := H) (s :: ss) = .lit (.string s.data.toList) :: Go.ChangeShapes.strs ss := by simp [Go.ChangeShapes.strs]
    rw [e, Rows.uptoBulkAll, Rows.uptoBulk, List.map_cons, List.flatten_cons, List.length_append, List.length_cons]
    omega

/-- What the reading of a slice of texts gives. -/
theorem texts_of {H : Type} {enc : TypeId × Value → H} {W : World} {a : Option Addr} {len cap : Nat} {d : DataW H} {p : List MemPlace}
    (h : DataW.Trod enc Tryd.prog W 0 (fun _ => true) true 22 (.slice a len cap) d p) :
    ∃ l : List (List UInt8), l.length = len ∧ Sl W (.slice a l.length cap) l ∧ l.flatten.length + l.length ≤ Rows.uptoBulk d ∧ (l = [] ∨ ∃ es sp, d = .slice es sp ∧ es.length = len ∧ ∀ x ∈ l, (.lit (.string x) : DataW H) ∈ es) := by
  obtain ⟨fuel, hf⟩ := h
  rcases open_strings Tryd.underlying22 Tryd.underlying9 (by kernel_rfl) hf with ⟨hcs, hx⟩ | ⟨x, l', c', ss, hcs, _, hl, hm, hz, hx, hcell, hsz⟩
  · simp [Value.cells] at hcs
    obtain ⟨rfl, rfl, rfl⟩ := hcs
    simp only [Prod.mk.injEq] at hx
    obtain ⟨rfl, _⟩ := hx
    exact ⟨[], rfl, ⟨none, 0, rfl, .inl rfl, by simp, fun _ => rfl⟩, by simp, .inl rfl⟩
  · simp [Value.cells] at hcs
    obtain ⟨rfl, rfl, rfl⟩ := hcs
    simp only [if_true] at hz
    simp only [Prod.mk.injEq] at hx
    obtain ⟨rfl, _⟩ := hx
    have hlen : ((ss.take len).map fun s => s.data.toList).length = len := by simp; omega
    have hb := bulk_strs (H := H) (ss.take len)
    have hlt : (ss.take len).length = len := by simp; omega
    refine ⟨(ss.take len).map fun s => s.data.toList, hlen, ⟨some x, cap, rfl, ?_, by omega, fun h => by cases h⟩, ?_, .inr ⟨_, _, rfl, by simp [Go.ChangeShapes.strs]; omega, ?_⟩⟩
    · by_cases h0 : len = 0
      · subst h0
        exact Or.inl (by simp)
      · obtain ⟨b, off, spot⟩ := x
        have hspot : spot = none := by simpa [Addr.add] using World.cell?_spot (hcell 0 (by omega))
        subst hspot
        refine Or.inr ⟨b, off, rfl, World.block_lt_of_cell? W _ (hcell 0 (by omega)), fun j hj => ?_⟩
        have hj' : j < len := by omega
        have hc := hcell j (by omega)
        rw [addr_add] at hc
        rw [hc]
        have hjz : j < ss.length := by omega
        simp only [List.getElem_map, List.getElem_take]
        rw [S_of, List.getD_eq_getElem?_getD, List.getElem?_eq_getElem hjz]
        rfl
    · rw [Rows.uptoBulk, List.length_map]
      omega
    · intro y hy
      obtain ⟨s, hs, rfl⟩ := List.mem_map.1 hy
      simp only [Go.ChangeShapes.strs, List.mem_map]
      exact ⟨s, hs, rfl⟩

theorem weights_all {H : Type} {P : Program} {e : TypeId} {n : Nat} : ∀ {es : List (DataW H)} {d : DataW H}, d ∈ es → n ∈ d.weights P e → n ∈ DataW.weightsAll P e es
  | x :: r, d, h, hn => by
    rw [DataW.weightsAll, List.mem_append]
    rcases List.mem_cons.1 h with rfl | h
    · exact .inl hn
    · exact .inr (weights_all h hn)
/-- How much a slice of texts may hold, where the form bounds each of its values. -/
theorem sized_texts {H : Type} {ts : List TypeId} {ds : List (DataW H)} (h : (DataW.weightsEach Tryd.prog ts ds).all (· ≤ reachBytes) = true) {j : Nat} {d : DataW H} {l : List (List UInt8)} (ht : ts[j]? = some 22) (hd : ds[j]? = some d)
    (hl : l = [] ∨ ∃ es sp, d = .slice es sp ∧ es.length = l.length ∧ ∀ x ∈ l, (.lit (.string x) : DataW H) ∈ es) : l.length ≤ 8796093021952 ∧ Short l := by
  rcases hl with rfl | ⟨es, sp, rfl, he, hx⟩
  · exact ⟨by simp, fun x hx => by cases hx⟩
  · have hz := sized_slice h ht hd Tryd.underlying22
    have h1 : 16 ≤ Tryd.prog.bytesOf 9 := of_decide_eq_true (by kernel_rfl)
    have h2 := Nat.mul_le_mul_left (es.length + sp.length) h1
    simp only [reachBytes] at hz
    refine ⟨by omega, fun x hm => ?_⟩
    have hw := List.all_eq_true.1 h _ (DataW.weights_mem_each ht hd x.length (by
      simp only [DataW.weights, Tryd.underlying22]
      refine List.mem_cons_of_mem _ (List.mem_append.2 (.inl (weights_all (hx x hm) ?_)))
      simp [DataW.weights]))
    have hw2 : x.length ≤ reachBytes := by simpa using hw
    simp only [reachBytes] at hw2
    omega
theorem join_le (c : UInt8) (l : List (List UInt8)) : (join c l).length ≤ l.flatten.length + l.length := by
  cases l with
  | nil => simp [join]
  | cons a L =>
    have : ∀ L : List (List UInt8), (L.flatMap (fun b => c :: b)).length = L.flatten.length + L.length := fun L => by
      induction L with
      | nil => rfl
      | cons b L ih => rw [List.flatMap_cons, List.length_append, ih, List.flatten_cons, List.length_append, List.length_cons, List.length_cons]; omega
    rw [join, List.length_append, this, List.flatten_cons, List.length_append, List.length_cons]; omega
theorem short_bulk {l : List (List UInt8)} (h : l.flatten.length ≤ 140737488355328) : Short l := fun x hx => by
  have : x.length ≤ l.flatten.length := by
    induction l with
    | nil => cases hx
    | cons a L ih =>
      rw [List.flatten_cons, List.length_append] at h ⊢
      rcases List.mem_cons.1 hx with rfl | hx
      · omega
      · have := ih (by omega) hx; omega
  omega

theorem own : ownKnob Tryd.prog.godebug = none := by kernel_rfl
theorem laidOut : laidOutB Tryd.prog = true := by kernel_rfl
def laid1 : List (String × DataW Unit) := [("posthorn/flag.system", Rows.laid_posthorn_flag_system)]
theorem door_met1 (os : Os) (args : Array Value) : laidMetH Tryd.prog laid1 ((World.doorLaid Tryd.prog 400 os).forCall (fun _ _ => 0) ⟨#[], args, []⟩).memory :=
  laidMetH_of_parts3 (fuel := 8) (laidMet_of_run' 8 (by kernel_rfl) (by kernel_rfl)) (by kernel_rfl) (by kernel_rfl)

theorem gSys : Tryd.prog.globalNamed "posthorn/flag.system" = some 0 := by kernel_rfl
theorem tSys : (Tryd.prog.globals[0]?).map (·.type) = some 45 := by kernel_rfl
theorem sys_parts : (Rows.laid_posthorn_flag_system : DataW Unit) = .agg (sysL.map fun f => .lit (.string f)) := by kernel_rfl
theorem sys_len : sysL.length = 5 := rfl
theorem sys_of {rest : List (String × DataW Unit)} {W : World} (h : laidMet Tryd.prog (("posthorn/flag.system", Rows.laid_posthorn_flag_system) :: rest) W) : Sys W := by
  obtain ⟨ps, ⟨g0, t0, cs0, f0, p0, q0, hg0, ht0, hv0, hd0, _, _⟩, _, _⟩ := h
  obtain rfl := Option.some.inj (gSys.symm.trans hg0)
  obtain rfl := Option.some.inj (tSys.symm.trans ht0)
  obtain ⟨xs, m1, rfl, hx1, hlen, hn3, hel⟩ := DataW.trod_array Tryd.underlying45 hd0
  have c1 : Tryd.prog.cellsOf 9 = 1 := by kernel_rfl
  simp only [Prod.mk.injEq] at hx1
  have hx2 := hx1.1
  rw [sys_parts] at hx2
  simp only [DataW.agg.injEq] at hx2
  have key : ∀ t (ht : t < 5), W.cell? ⟨0, t, none⟩ = some (.string (S (sysL[t]'(by rw [sys_len]; exact ht)))) := by
    intro t ht
    have ht2 : t < sysL.length := by rw [sys_len]; exact ht
    have h0 := hel t (by omega)
    rw [c1, Nat.mul_one, List.getElem?_eq_getElem (by omega)] at h0
    obtain ⟨k, e1, e2, _⟩ := DataW.trod_string Tryd.underlying9 h0
    have e3 := congrArg (fun l => l[t]?) hx2
    simp only [List.getElem?_map, List.getElem?_eq_getElem (show t < xs.length by omega), List.getElem?_eq_getElem ht2, Option.map_some, e2, Option.some.injEq, DataW.lit.injEq, Lit.string.injEq] at e3
    have e4 := congrArg (fun l => l[0]?) e1
    simp only [List.getElem?_take_of_lt (show 0 < 1 by decide), List.getElem?_drop, Nat.add_zero, List.getElem?_cons_zero] at e4
    have hv := World.var?_cell hg0 hv0 t
    rw [hv, ← Array.getElem?_toList, e4, e3, S_of]
  exact ⟨key 0 (by decide), key 1 (by decide), key 2 (by decide), key 3 (by decide), key 4 (by decide)⟩
theorem sys1 {W : World} (h : laidMetH Tryd.prog laid1 W) : Sys W := by
  rw [MakeChecks.laidMetH_plain _ _ _ (by kernel_rfl)] at h
  exact sys_of h
end Go.Proofs.YtiaggnpkmigbhaaDoor.fl
