/-
  Slices of nodes, of indices, a single index that came in, as the walks take them.
-/
import Derived.Test.YtnodgpbahlaccaaRows
import Derived.Test.YtnodgpbahlaccaaQmMem
import Derived.ProofKit
import Derived.OpenShut
import Derived.Deep.Slices
import Derived.Deep.SlicePairs
import Derived.Laws.EntriesVeiled
import Derived.SizedLaws
import Derived.Test.YtnodgpbahlaccaaQmHeap
namespace Go.Proofs.Ytnodgpbahlaccaa.qm
set_option linter.unusedVariables false
open Go.ChangeShapes Go.WideShapes Go.ChangeAt Go.RowKit
open rw (addr_add)

/-! ### What holds of any shape -/
def Lite {H : Type} (d : DataW H) (t : TypeId) : Prop := ∀ n ∈ d.weights Try.prog t, n ≤ reachBytes
theorem lite_len {H : Type} {t e : TypeId} {es sp : List (DataW H)} (ht : Try.prog.underlying t = some (.slice e)) (he : 1 ≤ Try.prog.bytesOf e) (h : Lite (.slice es sp) t) : es.length ≤ reachBytes := by
  unfold Lite at *
  simp only [DataW.weights, ht] at h
  have := h _ List.mem_cons_self
  exact Nat.le_trans (Nat.le_trans (Nat.le_add_right _ _) (Nat.le_mul_of_pos_right _ he)) this
theorem lite_arg {H : Type} {ts : List TypeId} {ds : List (DataW H)} (h : (DataW.weightsEach Try.prog ts ds).all (· ≤ reachBytes) = true) {j : Nat} {t : TypeId} {d : DataW H} (ht : ts[j]? = some t) (hd : ds[j]? = some d) : Lite d t := fun n hn => by
  have := List.all_eq_true.1 h _ (DataW.weights_mem_each ht hd n hn)
  simpa using this
theorem reach47 : reachBytes ≤ 140737488355328 := by decide
section
variable {H : Type} {enc : TypeId × Value → H} {W : World} {fuel : Nat} {cs : List Value} {x : DataW H × List MemPlace}
theorem int_of (h : DataW.trod enc Try.prog W 0 (fun _ => true) true fuel 3 cs = some x) : ∃ n : Int, cs = [.int .i64 n] ∧ -9223372036854775808 ≤ n ∧ n ≤ 9223372036854775807 := by
  obtain ⟨p, rfl, _, wp⟩ := DataW.trod_int Try.underlying3 h
  have bp : -9223372036854775808 ≤ p ∧ p ≤ 9223372036854775807 := by simpa [Lit.wf, IntKind.min, IntKind.max, IntKind.signed, IntKind.bits] using wp
  exact ⟨p, rfl, bp⟩
theorem u64_of (h : DataW.trod enc Try.prog W 0 (fun _ => true) true fuel 27 cs = some x) : ∃ n : Int, cs = [.int .u64 n] ∧ 0 ≤ n ∧ n ≤ 18446744073709551615 := by
  obtain ⟨p, rfl, _, wp⟩ := DataW.trod_int Try.underlying27 h
  have bp : 0 ≤ p ∧ p ≤ 18446744073709551615 := by simpa [Lit.wf, IntKind.min, IntKind.max, IntKind.signed, IntKind.bits] using wp
  exact ⟨p, rfl, bp⟩
/-- A struct's field. -/
theorem field_of {t : TypeId} {fs : Array Field} (ht : Try.prog.underlying t = some (.struct fs)) (h : DataW.trod enc Try.prog W 0 (fun _ => true) true fuel t cs = some x) (i : Nat) (t' : TypeId) (o : Nat) (hm : fs[i]?.map (fun f => (f.type, f.offset)) = some (t', o)) :
    ∃ n y, DataW.trod enc Try.prog W 0 (fun _ => true) true n t' ((cs.drop o).take (Try.prog.cellsOf t')) = some y := by
  obtain ⟨xs, n, rfl, rfl, hl, hxl, hx⟩ := DataW.trod_struct ht h
  obtain ⟨f, hf, he⟩ := Option.map_eq_some_iff.1 hm
  cases he
  have hi : i < xs.length := by
    rw [hxl]
    obtain ⟨h1, _⟩ := Array.getElem?_eq_some_iff.1 hf
    exact h1
  have h1 := hx i f hf
  rw [List.getElem?_eq_getElem hi] at h1
  exact ⟨n, xs[i], h1⟩
theorem struct_len {t : TypeId} {fs : Array Field} (ht : Try.prog.underlying t = some (.struct fs)) (h : DataW.trod enc Try.prog W 0 (fun _ => true) true fuel t cs = some x) : cs.length = Try.prog.cellsOf t := by
  obtain ⟨xs, n, rfl, rfl, hl, hxl, hx⟩ := DataW.trod_struct ht h
  exact hl
/-- An index's bounds. -/
def FitX (x : Ix) : Prop := 0 ≤ x.idx ∧ x.idx ≤ 18446744073709551615
set_option maxRecDepth 100000 in
theorem ix_of (h : DataW.trod enc Try.prog W 0 (fun _ => true) true fuel 31 cs = some x) : ∃ k : Ix, cs = ixSh.enc k ∧ FitX k := by
  have hu := Try.underlying31
  have hl2 : cs.length = 2 := (struct_len hu h).trans (by kernel_rfl)
  obtain ⟨c0, c1, rfl⟩ : ∃ c0 c1, cs = [c0, c1] := by
    match cs, hl2 with
    | [a, b], _ => exact ⟨a, b, rfl⟩
  have eI : Try.prog.cellsOf 3 = 1 := by kernel_rfl
  have eU : Try.prog.cellsOf 27 = 1 := by kernel_rfl
  obtain ⟨n0, y0, f0⟩ := field_of hu h 0 3 0 rfl
  obtain ⟨n1, y1, f1⟩ := field_of hu h 1 27 1 rfl
  simp only [eI, eU, List.drop_zero, List.drop_succ_cons, List.take_succ_cons, List.take_zero] at f0 f1
  obtain ⟨z0, e0, _⟩ := int_of f0
  obtain ⟨z1, e1, b1⟩ := u64_of f1
  simp only [List.cons.injEq, and_true] at e0 e1
  subst e0 e1
  exact ⟨⟨z0, z1⟩, rfl, b1⟩
end
set_option maxRecDepth 100000 in
/-- What the reading of a slice gives, whatever its elements are. -/
theorem row_of {α : Type} [Inhabited α] (s : rw.Sh α) (Fit : α → Prop) (hk : Try.prog.cellsOf s.t = s.k) (hb : 1 ≤ Try.prog.bytesOf s.t) {H : Type} {enc : TypeId × Value → H} {W : World}
    (hel : ∀ {fuel : Nat} {cs : List Value} {x : DataW H × List MemPlace}, DataW.trod enc Try.prog W 0 (fun _ => true) true fuel s.t cs = some x → ∃ k, cs = s.enc k ∧ Fit k)
    {a : Option Addr} {len cap : Nat} {d : DataW H} {p : List MemPlace}
    (h : DataW.Trod enc Try.prog W 0 (fun _ => true) true s.st (.slice a len cap) d p) (hw : Lite d s.st) :
    ∃ l : List α, rw.Sl s W (.slice a len cap) l ∧ l.length ≤ 140737488355328 ∧ ∀ x ∈ l, Fit x := by
  obtain ⟨fuel, hf⟩ := h
  rcases Deep.open_slice s.hu hf with ⟨hcs, hx⟩ | ⟨x, l', c', m, n, D, Pl, hcs, _, hl, hm, hmm, hx, hcell⟩
  · simp [Value.cells] at hcs
    obtain ⟨rfl, rfl, rfl⟩ := hcs
    exact ⟨[], rw.Sl.nil s W, by simp, fun x hx => by cases hx⟩
  · simp [Value.cells] at hcs
    obtain ⟨rfl, rfl, rfl⟩ := hcs
    simp only [if_true] at hmm
    simp only [Prod.mk.injEq] at hx
    obtain ⟨rfl, _⟩ := hx
    rw [hk] at hcell
    have key : ∀ i, i < len → ∃ k : α, (∀ j, j < s.k → W.cell? (x.add (i * s.k + j)) = (s.enc k)[j]?) ∧ Fit k := fun i hi => by
      obtain ⟨cs', h1, h2⟩ := hcell i (by omega)
      obtain ⟨k, rfl, hkf⟩ := hel h2
      obtain ⟨_, _, hc⟩ := World.cells?_some h1
      refine ⟨k, fun j hj => ?_, hkf⟩
      have := hc j hj
      rw [Deep.add_add] at this
      exact this
    obtain ⟨f, hfr⟩ := Deep.choose_lt key
    have hk0 := s.hk
    refine ⟨(List.range len).map f, ⟨some x, cap, by simp, by simpa using hl, ?_, fun e => by cases e⟩, ?_, ?_⟩
    · by_cases h0 : len = 0
      · subst h0
        exact .inl (by simp)
      · obtain ⟨b, off, spot⟩ := x
        have h00 := (hfr 0 (by omega)).1 0 hk0
        have hen : (s.enc (f 0))[0]? = some ((s.enc (f 0))[0]'(by rw [s.len]; exact hk0)) := List.getElem?_eq_getElem _
        have hspot : spot = none := by simpa [Addr.add] using World.cell?_spot (h00.trans hen)
        subst hspot
        rw [addr_add] at h00
        refine .inr ⟨b, off, rfl, World.block_lt_of_cell? W _ (h00.trans hen), fun j hj i hi => ?_⟩
        have hj' : j < len := by simpa using hj
        have h1 := (hfr j hj').1 i hi
        rw [addr_add] at h1
        simp only [List.getElem_map, List.getElem_range]
        rw [Nat.add_assoc]
        exact h1
    · have := lite_len s.hu hb hw
      simp only [List.length_map, List.length_range] at this ⊢
      exact Nat.le_trans this reach47
    · intro k hk
      obtain ⟨i, hi, rfl⟩ := List.mem_map.1 hk
      rw [List.mem_range] at hi
      exact (hfr i hi).2
theorem nodes_of {H : Type} {enc : TypeId × Value → H} {W : World} {a : Option Addr} {len cap : Nat} {d : DataW H} {p : List MemPlace} (h : DataW.Trod enc Try.prog W 0 (fun _ => true) true 22 (.slice a len cap) d p) (hw : Lite d 22) :
    ∃ l : List Int, Ns W (.slice a len cap) l ∧ l.length ≤ 140737488355328 := by
  obtain ⟨l, h1, h2, _⟩ := row_of noSh (fun _ => True) (by kernel_rfl) (of_decide_eq_true (by kernel_rfl)) (fun h => by obtain ⟨n, h, _⟩ := int_of h; exact ⟨n, h, trivial⟩) h hw
  exact ⟨l, h1, h2⟩
theorem ats_of {H : Type} {enc : TypeId × Value → H} {W : World} {a : Option Addr} {len cap : Nat} {d : DataW H} {p : List MemPlace} (h : DataW.Trod enc Try.prog W 0 (fun _ => true) true 26 (.slice a len cap) d p) (hw : Lite d 26) :
    ∃ l : List Ix, Is W (.slice a len cap) l ∧ l.length ≤ 140737488355328 ∧ ∀ x ∈ l, FitX x :=
  haveI : Inhabited Ix := ⟨z0⟩
  row_of ixSh FitX (by kernel_rfl) (of_decide_eq_true (by kernel_rfl)) ix_of h hw
theorem at_of {H : Type} {enc : TypeId × Value → H} {W : World} {base : Nat} {v : Value} {d : DataW H} {p : List MemPlace} (hval : Value.okWide Try.prog W .any base 31 v) (h : DataW.Trod enc Try.prog W 0 (fun _ => true) true 31 v d p) :
    ∃ k : Ix, v = .agg #[.int .i64 k.node, .int .u64 k.idx] ∧ FitX k := by
  obtain ⟨cs, rfl, hsz⟩ := okWide_struct Try.underlying31 hval
  obtain ⟨fuel, hf⟩ := h
  obtain ⟨k, h1, h2⟩ := ix_of hf
  refine ⟨k, ?_, h2⟩
  simp only [Value.cells] at h1
  have : cs = (ixSh.enc k).toArray := by rw [← h1]
  rw [this]
  rfl
end Go.Proofs.Ytnodgpbahlaccaa.qm
