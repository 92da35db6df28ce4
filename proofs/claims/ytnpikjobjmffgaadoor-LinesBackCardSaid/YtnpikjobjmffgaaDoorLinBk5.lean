/-
  Requests that came in, where the form bounds each of their values.
-/
import Derived.Test.YtnpikjobjmffgaaDoorLinBk3
namespace Go.Proofs.YtnpikjobjmffgaaDoor.li
open Go.ChangeShapes Go.WideShapes Go.ChangeAt Go.RowKit

/-- Each value within is bounded. -/
def Light {H : Type} (d : DataW H) (t : TypeId) : Prop := ∀ n ∈ d.weights Tryd.prog t, n ≤ reachBytes
theorem weights_in {H : Type} {e : TypeId} {n : Nat} : ∀ {es : List (DataW H)} {d : DataW H}, d ∈ es → n ∈ d.weights Tryd.prog e → n ∈ DataW.weightsAll Tryd.prog e es
  | x :: r, d, h, hn => by
    rw [DataW.weightsAll, List.mem_append]
    rcases List.mem_cons.1 h with rfl | h
    · exact .inl hn
    · exact .inr (weights_in h hn)
theorem light_slice {H : Type} {t e : TypeId} {es sp : List (DataW H)} (ht : Tryd.prog.underlying t = some (.slice e)) (h : Light (.slice es sp) t) : (es.length + sp.length) * Tryd.prog.bytesOf e ≤ reachBytes ∧ ∀ d ∈ es, Light d e := by
  unfold Light at *
  simp only [DataW.weights, ht] at h
  exact ⟨h _ List.mem_cons_self, fun d hd n hn => h n (List.mem_cons_of_mem _ (List.mem_append.2 (.inl (weights_in hd hn))))⟩
theorem light_part {H : Type} {p q : List UInt8} (h : Light (.agg [.lit (.string p), .lit (.string q)] : DataW H) 42) : p.length ≤ reachBytes ∧ q.length ≤ reachBytes := by
  unfold Light at h
  have hu := Tryd.underlying42
  simp only [DataW.weights, hu] at h
  simp [DataW.weightsEach, DataW.weights] at h
  exact h
theorem light_arg {H : Type} {ts : List TypeId} {ds : List (DataW H)} (h : (DataW.weightsEach Tryd.prog ts ds).all (· ≤ reachBytes) = true) {j : Nat} {t : TypeId} {d : DataW H} (ht : ts[j]? = some t) (hd : ds[j]? = some d) : Light d t := fun n hn => by
  have := List.all_eq_true.1 h _ (DataW.weights_mem_each ht hd n hn)
  simpa using this

set_option maxRecDepth 100000 in
/-- What the reading of a request gives. -/
theorem parts_light {H : Type} {enc : TypeId × Value → H} {W : World} {fuel : Nat} {cs : List Value} {x : DataW H × List MemPlace} (h : DataW.trod enc Tryd.prog W 0 (fun _ => true) true fuel 39 cs = some x) (hw : Light x.1 39) :
    ∃ a cap l, cs = [.slice a (l : List (List UInt8 × List UInt8)).length cap] ∧ RowP W a l ∧ Few reachBytes l := by
  rcases Deep.open_slice_pairs Tryd.underlying39 Tryd.underlying42 (by kernel_rfl) rfl rfl (by kernel_rfl) (by kernel_rfl) h with ⟨hcs, hx⟩ | ⟨a, len, cap, m, n, V0, V1, D0, D1, P0, P1, hcs, _, hl, hm, hmm, hx, hcell⟩
  · subst hcs
    exact ⟨none, 0, [], rfl, .inl rfl, by simp, fun y hy => by cases hy⟩
  · subst hcs
    simp only [if_true] at hmm
    have key : ∀ i, i < len → ∃ r : List UInt8 × List UInt8, W.cell? (a.add (i * 2)) = some (.string (S r.1)) ∧ W.cell? (a.add (i * 2 + 1)) = some (.string (S r.2)) ∧ D0 i = .lit (.string r.1) ∧ D1 i = .lit (.string r.2) := fun i hi => by
      obtain ⟨h0, h1, t0, t1⟩ := hcell i (by omega)
      obtain ⟨s0, e0, d0, _⟩ := DataW.trod_string Tryd.underlying9 t0
      obtain ⟨s1, e1, d1, _⟩ := DataW.trod_string Tryd.underlying9 t1
      simp only [Prod.mk.injEq] at d0 d1
      refine ⟨(s0.data.toList, s1.data.toList), ?_, ?_, ?_, ?_⟩
      · rw [h0, S_of]; simpa using e0
      · rw [h1, S_of]; simpa using e1
      · exact d0.1
      · exact d1.1
    obtain ⟨f, hf⟩ := Deep.choose_lt key
    refine ⟨some a, cap, (List.range len).map f, by simp, ?_, ?_, ?_⟩
    · by_cases h0 : len = 0
      · subst h0
        exact .inl (by simp)
      · obtain ⟨b, off, spot⟩ := a
        have h00 := (hf 0 (by omega)).1
        have hspot : spot = none := by simpa [Addr.add] using World.cell?_spot h00
        subst hspot
        refine .inr ⟨b, off, rfl, World.block_lt_of_cell? W _ h00, fun j hj => ?_⟩
        have hj' : j < len := by simpa using hj
        obtain ⟨c0, c1, _⟩ := hf j hj'
        rw [addr_add] at c0 c1
        simp only [List.getElem_map, List.getElem_range]
        exact ⟨c0, by simpa [Nat.add_assoc] using c1⟩
    · rw [hx] at hw
      have := (light_slice Tryd.underlying39 hw).1
      have h1 : 1 ≤ Tryd.prog.bytesOf 42 := of_decide_eq_true (by kernel_rfl)
      simp only [List.length_map, List.length_range] at this ⊢
      exact Nat.le_trans (Nat.le_trans (Nat.le_add_right _ _) (Nat.le_mul_of_pos_right _ h1)) this
    · intro y hy
      obtain ⟨i, hi, rfl⟩ := List.mem_map.1 hy
      rw [List.mem_range] at hi
      obtain ⟨_, _, b0, b1⟩ := hf i hi
      rw [hx] at hw
      have hmem : (.agg [D0 i, D1 i] : DataW H) ∈ (List.range len).map fun i => (.agg [D0 i, D1 i] : DataW H) := List.mem_map.2 ⟨i, List.mem_range.2 hi, rfl⟩
      have hl := (light_slice Tryd.underlying39 hw).2 _ hmem
      rw [b0, b1] at hl
      exact light_part hl

set_option maxRecDepth 100000 in
/-- What the reading of requests gives. -/
theorem requests_light {H : Type} {enc : TypeId × Value → H} {W : World} {a : Option Addr} {len cap : Nat} {d : DataW H} {p : List MemPlace}
    (h : DataW.Trod enc Tryd.prog W 0 (fun _ => true) true 38 (.slice a len cap) d p) (hw : Light d 38) :
    ∃ L : List (List (List UInt8 × List UInt8)), L.length = len ∧ RowQ W a L ∧ len ≤ reachBytes ∧ ∀ l ∈ L, Few reachBytes l := by
  obtain ⟨fuel, hf⟩ := h
  rcases Deep.open_slice Tryd.underlying38 hf with ⟨hcs, hx⟩ | ⟨x, l', c', m, n, D, Pl, hcs, _, hl, hm, hmm, hx, hcell⟩
  · simp [Value.cells] at hcs
    obtain ⟨rfl, rfl, rfl⟩ := hcs
    exact ⟨[], rfl, .inl rfl, by omega, fun l hl => by cases hl⟩
  · simp [Value.cells] at hcs
    obtain ⟨rfl, rfl, rfl⟩ := hcs
    simp only [if_true] at hmm
    simp only [Prod.mk.injEq] at hx
    obtain ⟨rfl, _⟩ := hx
    have e1 : Tryd.prog.cellsOf 39 = 1 := by kernel_rfl
    rw [e1] at hcell
    have hls := light_slice Tryd.underlying38 hw
    have lightI : ∀ i, i < len → Light (D i) 39 := fun i hi => hls.2 _ (List.mem_map.2 ⟨i, List.mem_range.2 hi, rfl⟩)
    have key : ∀ i, i < len → ∃ r : (List (List UInt8 × List UInt8)), (∃ a' c', W.cell? (x.add i) = some (.slice a' r.length c') ∧ RowP W a' r) ∧ Few reachBytes r := fun i hi => by
      obtain ⟨cs', h1, h2⟩ := hcell i (by omega)
      obtain ⟨a', cap', l, rfl, hr, hfew⟩ := parts_light h2 (lightI i hi)
      obtain ⟨_, _, hc⟩ := World.cells?_some h1
      have c0 := hc 0 (by omega)
      rw [Deep.add_add] at c0
      exact ⟨l, ⟨a', cap', by simpa using c0, hr⟩, hfew⟩
    obtain ⟨f, hfr⟩ := Deep.choose_lt key
    refine ⟨(List.range len).map f, by simp, ?_, ?_, ?_⟩
    · by_cases h0 : len = 0
      · subst h0
        exact .inl (by simp)
      · obtain ⟨b, off, spot⟩ := x
        obtain ⟨a0, c0, h00, _⟩ := (hfr 0 (by omega)).1
        have hspot : spot = none := by simpa [Addr.add] using World.cell?_spot h00
        subst hspot
        refine .inr ⟨b, off, rfl, World.block_lt_of_cell? W _ h00, fun j hj => ?_⟩
        have hj' : j < len := by simpa using hj
        obtain ⟨a1, c1, h1, h2⟩ := (hfr j hj').1
        rw [addr_add] at h1
        simp only [List.getElem_map, List.getElem_range]
        exact ⟨a1, c1, h1, h2⟩
    · have := hls.1
      have h1 : 1 ≤ Tryd.prog.bytesOf 39 := of_decide_eq_true (by kernel_rfl)
      simp only [List.length_map, List.length_range] at this
      exact Nat.le_trans (Nat.le_trans (Nat.le_add_right _ _) (Nat.le_mul_of_pos_right _ h1)) this
    · intro l hl
      obtain ⟨i, hi, rfl⟩ := List.mem_map.1 hl
      rw [List.mem_range] at hi
      exact (hfr i hi).2
end Go.Proofs.YtnpikjobjmffgaaDoor.li
