/-
  Requests that came in, as the walk takes them.
-/
import Derived.Test.YtnpikjobjmffgaaDoorLinRows
import Derived.Deep.SlicePairs
namespace Go.Proofs.YtnpikjobjmffgaaDoor.li
open Go.ChangeShapes Go.WideShapes Go.ChangeAt Go.RowKit

/-- A row of parts, or none. -/
def RowP (w : World) (a : Option Addr) (l : List (List UInt8 × List UInt8)) : Prop :=
  l = [] ∨ ∃ b off, a = some ⟨b, off, none⟩ ∧ b < w.heap.size ∧ ∀ j (h : j < l.length), w.cell? ⟨b, off + j * 2, none⟩ = some (.string (S l[j].1)) ∧ w.cell? ⟨b, off + j * 2 + 1, none⟩ = some (.string (S l[j].2))
theorem RowP.later {w w' : World} {a : Option Addr} {l : List (List UInt8 × List UInt8)} (h : RowP w a l) (k : Below w.heap.size w w') : RowP w' a l := by
  rcases h with h | ⟨b, off, e, hb, hc⟩
  · exact .inl h
  · exact .inr ⟨b, off, e, Nat.lt_of_lt_of_le hb k.size, fun j hj => ⟨(k.cell (p := ⟨b, _, none⟩) hb).trans (hc j hj).1, (k.cell (p := ⟨b, _, none⟩) hb).trans (hc j hj).2⟩⟩
theorem rowP_cell {w : World} {a : Option Addr} {l : List (List UInt8 × List UInt8)} (h : RowP w a l) {k : Nat} (hk : k < l.length) : ∃ b off, a = some ⟨b, off, none⟩ ∧ b < w.heap.size ∧ w.cell? ⟨b, off + k * 2, none⟩ = some (.string (S l[k].1)) ∧ w.cell? ⟨b, off + k * 2 + 1, none⟩ = some (.string (S l[k].2)) := by
  rcases h with rfl | ⟨b, off, e, hb, hc⟩
  · simp at hk
  · exact ⟨b, off, e, hb, hc k hk⟩
/-- A row of requests, or none. -/
def RowQ (w : World) (a : Option Addr) (L : List (List (List UInt8 × List UInt8))) : Prop :=
  L = [] ∨ ∃ b off, a = some ⟨b, off, none⟩ ∧ b < w.heap.size ∧ ∀ j (h : j < L.length), ∃ a' c', w.cell? ⟨b, off + j, none⟩ = some (.slice a' L[j].length c') ∧ RowP w a' L[j]
theorem rowQ_cell {w : World} {a : Option Addr} {L : List (List (List UInt8 × List UInt8))} (h : RowQ w a L) {k : Nat} (hk : k < L.length) : ∃ b off, a = some ⟨b, off, none⟩ ∧ b < w.heap.size ∧ ∃ a' c', w.cell? ⟨b, off + k, none⟩ = some (.slice a' L[k].length c') ∧ RowP w a' L[k] := by
  rcases h with rfl | ⟨b, off, e, hb, hc⟩
  · simp at hk
  · exact ⟨b, off, e, hb, hc k hk⟩
/-- No part is longer than n. -/
def Few (n : Nat) (l : List (List UInt8 × List UInt8)) : Prop := l.length ≤ n ∧ ∀ y ∈ l, y.1.length ≤ n ∧ y.2.length ≤ n

theorem bulk_mem {H : Type} : ∀ {ds : List (DataW H)} {d : DataW H}, d ∈ ds → Rows.uptoBulk d ≤ Rows.uptoBulkAll ds
  | x :: r, d, h => by
    rw [Rows.uptoBulkAll]
    rcases List.mem_cons.1 h with rfl | h
    · omega
    · have := bulk_mem h; omega
theorem bulk_one {H : Type} (d : DataW H) : 1 ≤ Rows.uptoBulk d := by
  cases d with
  | lit v => cases v <;> simp [Rows.uptoBulk]
  | _ => simp [Rows.uptoBulk]
theorem bulk_len {H : Type} : ∀ ds : List (DataW H), ds.length ≤ Rows.uptoBulkAll ds
  | [] => by simp [Rows.uptoBulkAll]
  | d :: ds => by
    have := bulk_len ds
    have := bulk_one d
    simp only [Rows.uptoBulkAll, List.length_cons]
    omega

set_option maxRecDepth 100000 in
/-- What the reading of a request gives. -/
theorem parts_of {H : Type} {enc : TypeId × Value → H} {W : World} {fuel : Nat} {cs : List Value} {x : DataW H × List MemPlace} (h : DataW.trod enc Tryd.prog W 0 (fun _ => true) true fuel 39 cs = some x) :
    ∃ a cap l, cs = [.slice a (l : List (List UInt8 × List UInt8)).length cap] ∧ RowP W a l ∧ Few (Rows.uptoBulk x.1) l := by
  rcases Deep.open_slice_pairs Tryd.underlying39 Tryd.underlying42 (by kernel_rfl) rfl rfl (by kernel_rfl) (by kernel_rfl) h with ⟨hcs, hx⟩ | ⟨a, len, cap, m, n, V0, V1, D0, D1, P0, P1, hcs, _, hl, hm, hmm, hx, hcell⟩
  · subst hcs
    exact ⟨none, 0, [], rfl, .inl rfl, by simp, fun y hy => by cases hy⟩
  · subst hcs
    simp only [if_true] at hmm
    have key : ∀ i, i < len → ∃ r : List UInt8 × List UInt8, W.cell? (a.add (i * 2)) = some (.string (S r.1)) ∧ W.cell? (a.add (i * 2 + 1)) = some (.string (S r.2)) ∧ r.1.length ≤ Rows.uptoBulk (D0 i) ∧ r.2.length ≤ Rows.uptoBulk (D1 i) := fun i hi => by
      obtain ⟨h0, h1, t0, t1⟩ := hcell i (by omega)
      obtain ⟨s0, e0, d0, _⟩ := DataW.trod_string Tryd.underlying9 t0
      obtain ⟨s1, e1, d1, _⟩ := DataW.trod_string Tryd.underlying9 t1
      simp only [Prod.mk.injEq] at d0 d1
      refine ⟨(s0.data.toList, s1.data.toList), ?_, ?_, ?_, ?_⟩
      · rw [h0, S_of]; simpa using e0
      · rw [h1, S_of]; simpa using e1
      · rw [d0.1, Rows.uptoBulk]; exact Nat.le_add_right _ _
      · rw [d1.1, Rows.uptoBulk]; exact Nat.le_add_right _ _
    obtain ⟨f, hf⟩ := Deep.choose_lt key
    refine ⟨some a, cap, (List.range len).map f, by simp, ?_, ?_, ?_⟩
    · by_cases h0 : len = 0
      · subst h0
        exact .inl (by simp)
      · obtain ⟨b, off, spot⟩ := a
        have h00 := (hf 0 (by omega)).1
        have hspot : spot = none := by simpa [Addr.add] using World.cell?_spot h00
        subst hspot
        refine .inr ⟨b, off, rfl, World.block_lt_of_cell? W _ h00, fun j hj => ?_⟩
        have hj' : j < len := by simpa using hj
        obtain ⟨c0, c1, _⟩ := hf j hj'
        rw [addr_add] at c0 c1
        simp only [List.getElem_map, List.getElem_range]
        exact ⟨c0, by simpa [Nat.add_assoc] using c1⟩
    · rw [hx]
      show _ ≤ Rows.uptoBulk (.slice _ _)
      rw [Rows.uptoBulk]
      have := bulk_len ((List.range len).map fun i => (.agg [D0 i, D1 i] : DataW H))
      simp only [List.length_map, List.length_range] at this ⊢
      omega
    · intro y hy
      obtain ⟨i, hi, rfl⟩ := List.mem_map.1 hy
      rw [List.mem_range] at hi
      obtain ⟨_, _, b0, b1⟩ := hf i hi
      have hmem : (.agg [D0 i, D1 i] : DataW H) ∈ (List.range len).map fun i => (.agg [D0 i, D1 i] : DataW H) := List.mem_map.2 ⟨i, List.mem_range.2 hi, rfl⟩
      have hb := bulk_mem hmem
      have ha : Rows.uptoBulk (.agg [D0 i, D1 i] : DataW H) = Rows.uptoBulk (D0 i) + Rows.uptoBulk (D1 i) + 1 := by simp [Rows.uptoBulk, Rows.uptoBulkAll]
      rw [hx]
      show _ ≤ Rows.uptoBulk (.slice _ _) ∧ _ ≤ Rows.uptoBulk (.slice _ _)
      rw [Rows.uptoBulk]
      omega

set_option maxRecDepth 100000 in
/-- What the reading of requests gives. -/
theorem requests_of {H : Type} {enc : TypeId × Value → H} {W : World} {a : Option Addr} {len cap : Nat} {d : DataW H} {p : List MemPlace}
    (h : DataW.Trod enc Tryd.prog W 0 (fun _ => true) true 38 (.slice a len cap) d p) :
    ∃ L : List (List (List UInt8 × List UInt8)), L.length = len ∧ RowQ W a L ∧ len ≤ Rows.uptoBulk d ∧ ∀ l ∈ L, Few (Rows.uptoBulk d) l := by
  obtain ⟨fuel, hf⟩ := h
  rcases Deep.open_slice Tryd.underlying38 hf with ⟨hcs, hx⟩ | ⟨x, l', c', m, n, D, Pl, hcs, _, hl, hm, hmm, hx, hcell⟩
  · simp [Value.cells] at hcs
    obtain ⟨rfl, rfl, rfl⟩ := hcs
    exact ⟨[], rfl, .inl rfl, by omega, fun l hl => by cases hl⟩
  · simp [Value.cells] at hcs
    obtain ⟨rfl, rfl, rfl⟩ := hcs
    simp only [if_true] at hmm
    simp only [Prod.mk.injEq] at hx
    obtain ⟨rfl, _⟩ := hx
    have e1 : Tryd.prog.cellsOf 39 = 1 := by kernel_rfl
    rw [e1] at hcell
    have key : ∀ i, i < len → ∃ r : (List (List UInt8 × List UInt8)), (∃ a' c', W.cell? (x.add i) = some (.slice a' r.length c') ∧ RowP W a' r) ∧ Few (Rows.uptoBulk (D i)) r := fun i hi => by
      obtain ⟨cs', h1, h2⟩ := hcell i (by omega)
      obtain ⟨a', cap', l, rfl, hr, hfew⟩ := parts_of h2
      obtain ⟨_, _, hc⟩ := World.cells?_some h1
      have c0 := hc 0 (by omega)
      rw [Deep.add_add] at c0
      exact ⟨l, ⟨a', cap', by simpa using c0, hr⟩, hfew⟩
    obtain ⟨f, hfr⟩ := Deep.choose_lt key
    refine ⟨(List.range len).map f, by simp, ?_, ?_, ?_⟩
    · by_cases h0 : len = 0
      · subst h0
        exact .inl (by simp)
      · obtain ⟨b, off, spot⟩ := x
        obtain ⟨a0, c0, h00, _⟩ := (hfr 0 (by omega)).1
        have hspot : spot = none := by simpa [Addr.add] using World.cell?_spot h00
        subst hspot
        refine .inr ⟨b, off, rfl, World.block_lt_of_cell? W _ h00, fun j hj => ?_⟩
        have hj' : j < len := by simpa using hj
        obtain ⟨a1, c1, h1, h2⟩ := (hfr j hj').1
        rw [addr_add] at h1
        simp only [List.getElem_map, List.getElem_range]
        exact ⟨a1, c1, h1, h2⟩
    · rw [Rows.uptoBulk]
      have := bulk_len ((List.range len).map D)
      simp only [List.length_map, List.length_range] at this
      omega
    · intro l hl
      obtain ⟨i, hi, rfl⟩ := List.mem_map.1 hl
      rw [List.mem_range] at hi
      obtain ⟨_, h1, h2⟩ := hfr i hi
      have hb := bulk_mem (List.mem_map.2 ⟨i, List.mem_range.2 hi, rfl⟩ : D i ∈ (List.range len).map D)
      rw [Rows.uptoBulk]
      exact ⟨by omega, fun y hy => by have := h2 y hy; omega⟩
end Go.Proofs.YtnpikjobjmffgaaDoor.li
