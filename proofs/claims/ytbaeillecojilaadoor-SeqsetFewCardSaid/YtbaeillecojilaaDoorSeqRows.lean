/-
  Slices of numbers and of ranges that came in, as the walks take them; and how long what came in is where its bulk is bounded.
-/
import Derived.Test.YtbaeillecojilaaDoorRows
import Derived.Test.YtbaeillecojilaaDoorSeqMem
import Derived.ProofKit
import Derived.OpenShut
import Derived.Deep.Slices
namespace Go.Proofs.YtbaeillecojilaaDoor.sq
open Go.ChangeShapes Go.WideShapes Go.ChangeAt Go.RowKit

theorem add_plain (b off j : Nat) : ((⟨b, off, none⟩ : Addr).add j) = ⟨b, off + j, none⟩ := by unfold Addr.add; split <;> simp_all

theorem bulk_lits {H : Type} (k : IntKind) (zs : List Int) : Rows.uptoBulkAll (lits (H := H) k zs) = zs.length := by
  induction zs with
  | nil => simp [lits, Rows.uptoBulkAll]
  | cons z zs ih =>
    have e : lits (H := H) k (z :: zs) = .lit (.int k z) :: lits k zs := by simp [lits]
    rw [e, Rows.uptoBulkAll, ih, Rows.uptoBulk, List.length_cons]
    · omega
    · intro b h; cases h
theorem bulk_pos {H : Type} (d : DataW H) : 1 ≤ Rows.uptoBulk d := by
  cases d with
  | lit v => cases v <;> simp [Rows.uptoBulk]
  | _ => simp [Rows.uptoBulk]
theorem bulk_all {H : Type} : ∀ ds : List (DataW H), ds.length ≤ Rows.uptoBulkAll ds
  | [] => by simp [Rows.uptoBulkAll]
  | d :: ds => by
    have := bulk_all ds
    have := bulk_pos d
    simp only [Rows.uptoBulkAll, List.length_cons]
    omega

set_option maxRecDepth 100000 in
/-- What the reading of a slice of uint64 gives. -/
theorem row64_of {H : Type} {enc : TypeId × Value → H} {W : World} {a : Option Addr} {len cap : Nat} {d : DataW H} {p : List MemPlace}
    (h : DataW.Trod enc Tryd.prog W 0 (fun _ => true) true 32 (.slice a len cap) d p) :
    ∃ l : List Nat, l.length = len ∧ (∀ x ∈ l, x < 18446744073709551616) ∧ Row64 W a l ∧ len ≤ Rows.uptoBulk d ∧ (a = none → cap = 0 ∧ l = []) := by
  obtain ⟨fuel, hf⟩ := h
  rcases open_ints Tryd.underlying32 Tryd.underlying31 (by kernel_rfl) hf with ⟨hcs, hx⟩ | ⟨x, l', c', zs, hcs, _, hl, hm, hz, hx, hcell, hwz⟩
  · simp [Value.cells] at hcs
    obtain ⟨rfl, rfl, rfl⟩ := hcs
    exact ⟨[], rfl, by simp, Or.inl rfl, by omega, fun _ => ⟨rfl, rfl⟩⟩
  · simp [Value.cells] at hcs
    obtain ⟨rfl, rfl, rfl⟩ := hcs
    simp only [if_true] at hz
    simp only [Prod.mk.injEq] at hx
    obtain ⟨rfl, _⟩ := hx
    have hlen : ((zs.take len).map Int.toNat).length = len := by simp; omega
    have hb : ∀ j, j < zs.length → 0 ≤ zs.getD j 0 ∧ zs.getD j 0 ≤ 18446744073709551615 := by
      intro j hj
      have hw := hwz (zs.getD j 0) (by rw [List.getD_eq_getElem?_getD, List.getElem?_eq_getElem hj]; exact List.getElem_mem hj)
      simpa [Lit.wf, IntKind.min, IntKind.max, IntKind.signed, IntKind.bits] using hw
    refine ⟨(zs.take len).map Int.toNat, hlen, ?_, ?_, ?_, fun h => by cases h⟩
    · intro y hy
      obtain ⟨z, hz1, rfl⟩ := List.mem_map.1 hy
      have hw := hwz z (List.mem_of_mem_take hz1)
      have hw' : 0 ≤ z ∧ z ≤ 18446744073709551615 := by simpa [Lit.wf, IntKind.min, IntKind.max, IntKind.signed, IntKind.bits] using hw
      omega
    · by_cases h0 : len = 0
      · subst h0
        exact Or.inl (by simp)
      · obtain ⟨b, off, spot⟩ := x
        have hspot : spot = none := by simpa [Addr.add] using World.cell?_spot (hcell 0 (by omega))
        subst hspot
        refine Or.inr ⟨b, off, rfl, World.block_lt_of_cell? W _ (hcell 0 (by omega)), fun j hj => ?_⟩
        have hj' : j < len := by omega
        have hc := hcell j (by omega)
        rw [add_plain] at hc
        rw [hc]
        have hjz : j < zs.length := by omega
        have hbj := hb j hjz
        have hg : zs.getD j 0 = zs[j] := by rw [List.getD_eq_getElem?_getD, List.getElem?_eq_getElem hjz]; rfl
        simp only [List.getElem_map, List.getElem_take]
        rw [hg] at hbj ⊢
        rw [Int.toNat_of_nonneg hbj.1]
    · rw [Rows.uptoBulk, bulk_lits, List.length_take]
      omega

set_option maxRecDepth 100000 in
/-- What the reading of a range gives. -/
theorem range_of {H : Type} {enc : TypeId × Value → H} {W : World} {fuel : Nat} {cs : List Value} {x : DataW H × List MemPlace} (h : DataW.trod enc Tryd.prog W 0 (fun _ => true) true fuel 41 cs = some x) :
    ∃ p q : Nat, cs = [.int .u64 (p : Int), .int .u64 (q : Int)] ∧ p < 18446744073709551616 ∧ q < 18446744073709551616 := by
  obtain ⟨xs, n, rfl, rfl, hl, hxl, hf⟩ := DataW.trod_struct Tryd.underlying41 h
  have h2 : cs.length = 2 := by rw [hl]; kernel_rfl
  match cs, h2 with
  | [c0, c1], _ =>
    have f0 := hf 0 _ rfl
    have f1 := hf 1 _ rfl
    have hx2 : xs.length = 2 := hxl
    rw [List.getElem?_eq_getElem (by omega)] at f0 f1
    have e1 : Tryd.prog.cellsOf 31 = 1 := by kernel_rfl
    obtain ⟨p, hp, _, wp⟩ := DataW.trod_int Tryd.underlying31 f0
    obtain ⟨q, hq, _, wq⟩ := DataW.trod_int Tryd.underlying31 f1
    change List.take (Tryd.prog.cellsOf 31) [c0, c1] = _ at hp
    change List.take (Tryd.prog.cellsOf 31) [c1] = _ at hq
    rw [e1] at hp hq
    simp at hp hq
    subst hp hq
    have bp : 0 ≤ p ∧ p ≤ 18446744073709551615 := by simpa [Lit.wf, IntKind.min, IntKind.max, IntKind.signed, IntKind.bits] using wp
    have bq : 0 ≤ q ∧ q ≤ 18446744073709551615 := by simpa [Lit.wf, IntKind.min, IntKind.max, IntKind.signed, IntKind.bits] using wq
    exact ⟨p.toNat, q.toNat, by rw [Int.toNat_of_nonneg bp.1, Int.toNat_of_nonneg bq.1], by omega, by omega⟩

set_option maxRecDepth 100000 in
/-- What the reading of a slice of ranges gives. -/
theorem rowR_of {H : Type} {enc : TypeId × Value → H} {W : World} {a : Option Addr} {len cap : Nat} {d : DataW H} {p : List MemPlace}
    (h : DataW.Trod enc Tryd.prog W 0 (fun _ => true) true 22 (.slice a len cap) d p) :
    ∃ l : List (Nat × Nat), l.length = len ∧ RowR W a l ∧ len ≤ Rows.uptoBulk d ∧ (a = none → cap = 0 ∧ l = []) ∧ (len = 0 ∨ ∃ es sp, d = .slice es sp ∧ es.length = len) := by
  obtain ⟨fuel, hf⟩ := h
  rcases Deep.open_slice Tryd.underlying22 hf with ⟨hcs, hx⟩ | ⟨x, l', c', m, n, D, Pl, hcs, _, hl, hm, hmm, hx, hcell⟩
  · simp [Value.cells] at hcs
    obtain ⟨rfl, rfl, rfl⟩ := hcs
    exact ⟨[], rfl, Or.inl rfl, by omega, fun _ => ⟨rfl, rfl⟩, .inl rfl⟩
  · simp [Value.cells] at hcs
    obtain ⟨rfl, rfl, rfl⟩ := hcs
    simp only [if_true] at hmm
    simp only [Prod.mk.injEq] at hx
    obtain ⟨rfl, _⟩ := hx
    have e2 : Tryd.prog.cellsOf 41 = 2 := by kernel_rfl
    rw [e2] at hcell
    obtain ⟨f, hfr⟩ := Deep.choose_lt (α := Nat × Nat) (n := len) (p := fun i r => W.cell? (x.add (i * 2)) = some (.int .u64 (r.1 : Int)) ∧ W.cell? (x.add (i * 2 + 1)) = some (.int .u64 (r.2 : Int))) (fun i hi => by
      obtain ⟨cs', h1, h2⟩ := hcell i (by omega)
      obtain ⟨p, q, rfl, hp, hq⟩ := range_of h2
      obtain ⟨_, _, hc⟩ := World.cells?_some h1
      have c0 := hc 0 (by omega)
      have c1 := hc 1 (by omega)
      rw [Deep.add_add] at c0 c1
      exact ⟨(p, q), c0, c1⟩)
    refine ⟨(List.range len).map f, by simp, ?_, ?_, fun h => (by cases h), .inr ⟨_, _, rfl, by simp⟩⟩
    · by_cases h0 : len = 0
      · subst h0
        exact Or.inl (by simp)
      · obtain ⟨b, off, spot⟩ := x
        have h00 := (hfr 0 (by omega)).1
        have hspot : spot = none := by simpa [Addr.add] using World.cell?_spot h00
        subst hspot
        refine Or.inr ⟨b, off, rfl, World.block_lt_of_cell? W _ h00, fun j hj => ?_⟩
        have hj' : j < len := by simpa using hj
        have hc := hfr j hj'
        rw [add_plain, add_plain] at hc
        simpa [Nat.add_assoc] using hc
    · rw [Rows.uptoBulk]
      have := bulk_all ((List.range len).map D)
      simp only [List.length_map, List.length_range] at this
      omega
end Go.Proofs.YtbaeillecojilaaDoor.sq
