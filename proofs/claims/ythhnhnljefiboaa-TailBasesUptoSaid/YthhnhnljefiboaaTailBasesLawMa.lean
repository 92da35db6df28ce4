/-
  What the law's walk stands on, part 1 of 1: the texts TlRows, TlRowU, TlS1, TlS4, TlR5, TlR6, TlTw, TlSp, TlA2, TlL4, TlR7, TlS3, TlR9, TlL6, one behind the other.
-/
import Derived.Test.YthhnhnljefiboaaRows
import Derived.Test.YthhnhnljefiboaaTlA1
import Derived.ProofKit
import Derived.OpenShut
import Derived.Deep.Slices
import Derived.Deep.SlicePairs
import Derived.SizedLaws
import Derived.Test.YthhnhnljefiboaaTlR3
import Derived.Test.YthhnhnljefiboaaTlP8
import Derived.Test.YthhnhnljefiboaaTlLg
import Derived.Test.YthhnhnljefiboaaTlMm
/-! TlRows -/
namespace Go.Proofs.Ythhnhnljefiboaa.tl
set_option linter.unusedVariables false
open Go.ChangeShapes Go.WideShapes Go.ChangeAt Go.RowKit
open pk (S)
open qm (noSh)
open rw (addr_add)

theorem S_of (s : ByteArray) : S s.data.toList = s := by simp [S]
instance : Inhabited EnIn := ⟨⟨0, 0, []⟩⟩
/-! ### What holds of any shape -/
def Lite {H : Type} (d : DataW H) (t : TypeId) : Prop := ∀ n ∈ d.weights Try.prog t, n ≤ reachBytes
theorem weights_in {H : Type} {e : TypeId} {n : Nat} : ∀ {es : List (DataW H)} {d : DataW H}, d ∈ es → n ∈ d.weights Try.prog e → n ∈ DataW.weightsAll Try.prog e es
  | x :: r, d, h, hn => by
    rw [DataW.weightsAll, List.mem_append]
    rcases List.mem_cons.1 h with rfl | h
    · exact .inl hn
    · exact .inr (weights_in h hn)
theorem lite_slice {H : Type} {t e : TypeId} {es sp : List (DataW H)} (ht : Try.prog.underlying t = some (.slice e)) (h : Lite (.slice es sp) t) : (es.length + sp.length) * Try.prog.bytesOf e ≤ reachBytes ∧ ∀ d ∈ es, Lite d e := by
  unfold Lite at *
  simp only [DataW.weights, ht] at h
  exact ⟨h _ List.mem_cons_self, fun d hd n hn => h n (List.mem_cons_of_mem _ (List.mem_append.2 (.inl (weights_in hd hn))))⟩
theorem lite_len {H : Type} {t e : TypeId} {es sp : List (DataW H)} (ht : Try.prog.underlying t = some (.slice e)) (he : 1 ≤ Try.prog.bytesOf e) (h : Lite (.slice es sp) t) : es.length ≤ reachBytes := by
  have := (lite_slice ht h).1
  exact Nat.le_trans (Nat.le_trans (Nat.le_add_right _ _) (Nat.le_mul_of_pos_right _ he)) this
theorem lite_arg {H : Type} {ts : List TypeId} {ds : List (DataW H)} (h : (DataW.weightsEach Try.prog ts ds).all (· ≤ reachBytes) = true) {j : Nat} {t : TypeId} {d : DataW H} (ht : ts[j]? = some t) (hd : ds[j]? = some d) : Lite d t := fun n hn => by
  have := List.all_eq_true.1 h _ (DataW.weights_mem_each ht hd n hn)
  simpa using this
section
variable {H : Type} {enc : TypeId × Value → H} {W : World} {fuel : Nat} {cs : List Value} {x : DataW H × List MemPlace}
/-- A struct's field. -/
theorem field_of {t : TypeId} {fs : Array Field} (ht : Try.prog.underlying t = some (.struct fs)) (h : DataW.trod enc Try.prog W 0 (fun _ => true) true fuel t cs = some x) (hw : Lite x.1 t) (i : Nat) (t' : TypeId) (o : Nat) (hm : fs[i]?.map (fun f => (f.type, f.offset)) = some (t', o)) :
    ∃ n y, DataW.trod enc Try.prog W 0 (fun _ => true) true n t' ((cs.drop o).take (Try.prog.cellsOf t')) = some y ∧ Lite y.1 t' := by
  obtain ⟨xs, n, rfl, rfl, hl, hxl, hx⟩ := DataW.trod_struct ht h
  obtain ⟨f, hf, he⟩ := Option.map_eq_some_iff.1 hm
  cases he
  have hi : i < xs.length := by
    rw [hxl]
    obtain ⟨h1, _⟩ := Array.getElem?_eq_some_iff.1 hf
    exact h1
  have h1 := hx i f hf
  rw [List.getElem?_eq_getElem hi] at h1
  refine ⟨n, xs[i], h1, fun m hm => hw m ?_⟩
  simp only [DataW.weights, ht]
  refine DataW.weights_mem_each (j := i) (t := f.type) (d := xs[i].1) ?_ ?_ m hm
  · simp [hf]
  · simp [List.getElem?_eq_getElem hi]
theorem struct_len {t : TypeId} {fs : Array Field} (ht : Try.prog.underlying t = some (.struct fs)) (h : DataW.trod enc Try.prog W 0 (fun _ => true) true fuel t cs = some x) : cs.length = Try.prog.cellsOf t := by
  obtain ⟨xs, n, rfl, rfl, hl, hxl, hx⟩ := DataW.trod_struct ht h
  exact hl
theorem u64_of (h : DataW.trod enc Try.prog W 0 (fun _ => true) true fuel 22 cs = some x) : ∃ n : Nat, cs = [.int .u64 (n : Nat)] ∧ n < 18446744073709551616 := by
  obtain ⟨p, rfl, _, wp⟩ := DataW.trod_int Try.underlying22 h
  have bp : 0 ≤ p ∧ p ≤ 18446744073709551615 := by simpa [Lit.wf, IntKind.min, IntKind.max, IntKind.signed, IntKind.bits] using wp
  exact ⟨p.toNat, by rw [Int.toNat_of_nonneg bp.1], by omega⟩
theorem int_of (h : DataW.trod enc Try.prog W 0 (fun _ => true) true fuel 3 cs = some x) : ∃ n : Int, cs = [.int .i64 n] ∧ n ≤ 9223372036854775807 ∧ -9223372036854775808 ≤ n := by
  obtain ⟨p, rfl, _, wp⟩ := DataW.trod_int Try.underlying3 h
  have bp : -9223372036854775808 ≤ p ∧ p ≤ 9223372036854775807 := by simpa [Lit.wf, IntKind.min, IntKind.max, IntKind.signed, IntKind.bits] using wp
  exact ⟨p, rfl, bp.2, bp.1⟩
theorem str_of (h : DataW.trod enc Try.prog W 0 (fun _ => true) true fuel 9 cs = some x) (hw : Lite x.1 9) : ∃ l : List UInt8, cs = [.string (S l)] ∧ l.length ≤ reachBytes := by
  obtain ⟨s, rfl, d0, _⟩ := DataW.trod_string Try.underlying9 h
  refine ⟨s.data.toList, by rw [S_of], ?_⟩
  subst d0
  exact hw _ (by simp [DataW.weights])
/-- A slice of structs: what its reading gives. -/
theorem slice_of {α : Type} [Inhabited α] (s : rw.Sh α) (P : α → Prop) {t : TypeId} (ht : Try.prog.underlying t = some (.slice s.t)) (hk : Try.prog.cellsOf s.t = s.k)
    (hb : 1 ≤ Try.prog.bytesOf s.t) (hel : ∀ {n : Nat} {cs : List Value} {x : DataW H × List MemPlace}, DataW.trod enc Try.prog W 0 (fun _ => true) true n s.t cs = some x → Lite x.1 s.t → ∃ e, cs = s.enc e ∧ P e)
    (h : DataW.trod enc Try.prog W 0 (fun _ => true) true fuel t cs = some x) (hw : Lite x.1 t) : ∃ v l, cs = [v] ∧ rw.Sl s W v l ∧ (∀ e ∈ l, P e) ∧ l.length ≤ reachBytes := by
  rcases Deep.open_slice ht h with ⟨hcs, hx⟩ | ⟨x, l', c', m, n, D, Pl, hcs, _, hl, hm, hmm, hx, hcell⟩
  · exact ⟨_, [], hcs, rw.Sl.nil s W, fun e he => (by cases he), Nat.zero_le _⟩
  · simp only [if_true] at hmm
    subst hx
    rw [hk] at hcell
    have hls := lite_slice ht hw
    have liteI : ∀ i, i < l' → Lite (D i) s.t := fun i hi => hls.2 _ (List.mem_map.2 ⟨i, List.mem_range.2 hi, rfl⟩)
    have key : ∀ i, i < l' → ∃ k : α, (∀ j, j < s.k → W.cell? (x.add (i * s.k + j)) = (s.enc k)[j]?) ∧ P k := fun i hi => by
      obtain ⟨cs', h1, h2⟩ := hcell i (by omega)
      obtain ⟨k, rfl, hk⟩ := hel h2 (liteI i hi)
      obtain ⟨_, _, hc⟩ := World.cells?_some h1
      refine ⟨k, fun j hj => ?_, hk⟩
      have := hc j hj
      rw [Deep.add_add] at this
      exact this
    obtain ⟨f, hfr⟩ := Deep.choose_lt key
    refine ⟨_, (List.range l').map f, hcs, ⟨some x, c', by simp, by simpa using hl, ?_, fun e => by cases e⟩, ?_, ?_⟩
    · by_cases h0 : l' = 0
      · subst h0
        exact .inl (by simp)
      · obtain ⟨b, off, spot⟩ := x
        have hk0 := s.hk
        have h00 := (hfr 0 (by omega)).1 0 hk0
        have hen : 0 < (s.enc (f 0)).length := by rw [s.len]; exact hk0
        rw [List.getElem?_eq_getElem hen] at h00
        have hspot : spot = none := by simpa [Addr.add] using World.cell?_spot h00
        subst hspot
        refine .inr ⟨b, off, rfl, by have := World.block_lt_of_cell? W _ h00; rw [addr_add] at this; exact this, fun j hj i hi => ?_⟩
        have hj' : j < l' := by simpa using hj
        have h1 := (hfr j hj').1 i hi
        rw [addr_add] at h1
        simp only [List.getElem_map, List.getElem_range]
        rw [Nat.add_assoc]
        exact h1
    · intro k hk
      obtain ⟨i, hi, rfl⟩ := List.mem_map.1 hk
      rw [List.mem_range] at hi
      exact (hfr i hi).2
    · have h9 := lite_len ht hb hw
      simp only [List.length_map, List.length_range] at h9 ⊢
      exact h9
end
theorem reach47 : reachBytes ≤ 140737488355328 := by decide

section
variable {H : Type} {enc : TypeId × Value → H} {W : World} {fuel : Nat} {cs : List Value} {x : DataW H × List MemPlace}
set_option maxRecDepth 100000 in
theorem ent_of (h : DataW.trod enc Try.prog W 0 (fun _ => true) true fuel 54 cs = some x) (hw : Lite x.1 54) :
    ∃ e : EnIn, cs = enSh.enc e ∧ (e.term < 18446744073709551616 ∧ e.data.length ≤ 281474976710656) := by
  have hu := Try.underlying54
  have hl : cs.length = 3 := (struct_len hu h).trans (by kernel_rfl)
  obtain ⟨c0, c1, c2, rfl⟩ : ∃ c0 c1 c2, cs = [c0, c1, c2] := by
    match cs, hl with
    | [a, b, c], _ => exact ⟨a, b, c, rfl⟩
  have eI : Try.prog.cellsOf 3 = 1 := by kernel_rfl
  have eU : Try.prog.cellsOf 22 = 1 := by kernel_rfl
  have eS : Try.prog.cellsOf 9 = 1 := by kernel_rfl
  obtain ⟨n0, y0, f0, _⟩ := field_of hu h hw 0 22 0 rfl
  obtain ⟨n1, y1, f1, _⟩ := field_of hu h hw 1 3 1 rfl
  obtain ⟨n2, y2, f2, g2⟩ := field_of hu h hw 2 9 2 rfl
  simp only [eI, eU, eS, List.drop_zero, List.drop_succ_cons, List.take_succ_cons, List.take_zero] at f0 f1 f2
  obtain ⟨z0, e0, b0⟩ := u64_of f0
  obtain ⟨z1, e1, _⟩ := int_of f1
  obtain ⟨s2, e2, b2⟩ := str_of f2 g2
  simp only [List.cons.injEq, and_true] at e0 e1 e2
  subst e0 e1 e2
  exact ⟨⟨z0, z1, s2⟩, rfl, b0, Nat.le_trans b2 (by decide)⟩
theorem no_of (h : DataW.trod enc Try.prog W 0 (fun _ => true) true fuel 3 cs = some x) (_ : Lite x.1 3) :
    ∃ e : Int, cs = noSh.enc e ∧ True := by
  obtain ⟨z, e, _⟩ := int_of h
  exact ⟨z, e, trivial⟩
set_option maxRecDepth 100000 in
theorem es_of (h : DataW.trod enc Try.prog W 0 (fun _ => true) true fuel 24 cs = some x) (hw : Lite x.1 24) :
    ∃ v l, cs = [v] ∧ rw.Sl enSh W v l ∧ (∀ e ∈ l, e.term < 18446744073709551616 ∧ e.data.length ≤ 281474976710656) ∧ l.length ≤ reachBytes :=
  slice_of enSh (fun e => e.term < 18446744073709551616 ∧ e.data.length ≤ 281474976710656) Try.underlying24 (by kernel_rfl) (of_decide_eq_true (by kernel_rfl)) ent_of h hw
set_option maxRecDepth 100000 in
theorem nos_of (h : DataW.trod enc Try.prog W 0 (fun _ => true) true fuel 23 cs = some x) (hw : Lite x.1 23) :
    ∃ v l, cs = [v] ∧ rw.Sl noSh W v l ∧ (∀ e ∈ l, True) ∧ l.length ≤ reachBytes :=
  slice_of noSh (fun _ => True) Try.underlying23 (by kernel_rfl) (of_decide_eq_true (by kernel_rfl)) no_of h hw
set_option maxRecDepth 100000 in
theorem lg_of (h : DataW.trod enc Try.prog W 0 (fun _ => true) true fuel 26 cs = some x) (hw : Lite x.1 26) :
    ∃ (g : Lg) (cv ev : Value), cs = (lgC g.base g.bt cv ev).toList ∧ LV W cv ev g ∧ Came g := by
  have hu := Try.underlying26
  have hl : cs.length = 4 := (struct_len hu h).trans (by kernel_rfl)
  obtain ⟨c0, c1, c2, c3, rfl⟩ : ∃ c0 c1 c2 c3, cs = [c0, c1, c2, c3] := by
    match cs, hl with
    | [a, b, c, d], _ => exact ⟨a, b, c, d, rfl⟩
  have eU : Try.prog.cellsOf 22 = 1 := by kernel_rfl
  have eN : Try.prog.cellsOf 23 = 1 := by kernel_rfl
  have eE : Try.prog.cellsOf 24 = 1 := by kernel_rfl
  obtain ⟨n0, y0, f0, _⟩ := field_of hu h hw 0 22 0 rfl
  obtain ⟨n1, y1, f1, _⟩ := field_of hu h hw 1 22 1 rfl
  obtain ⟨n2, y2, f2, g2⟩ := field_of hu h hw 2 23 2 rfl
  obtain ⟨n3, y3, f3, g3⟩ := field_of hu h hw 3 24 3 rfl
  simp only [eU, eN, eE, List.drop_zero, List.drop_succ_cons, List.take_succ_cons, List.take_zero] at f0 f1 f2 f3
  obtain ⟨z0, e0, b0⟩ := u64_of f0
  obtain ⟨z1, e1, b1⟩ := u64_of f1
  obtain ⟨cv, c, e2, s2, _, l2⟩ := nos_of f2 g2
  obtain ⟨ev, l, e3, s3, t3, l3⟩ := es_of f3 g3
  simp only [List.cons.injEq, and_true] at e0 e1 e2 e3
  subst e0 e1 e2 e3
  exact ⟨⟨z0, z1, c, l⟩, _, _, rfl, ⟨s2, s3⟩, ⟨b0, b1, Nat.le_trans l2 reach47, Nat.le_trans l3 reach47, t3⟩⟩
end
theorem log_of {H : Type} {enc : TypeId × Value → H} {W : World} {base : Nat} {v : Value} {d : DataW H} {p : List MemPlace} (hval : Value.okWide Try.prog W .any base 26 v) (h : DataW.Trod enc Try.prog W 0 (fun _ => true) true 26 v d p) (hw : Lite d 26) :
    ∃ (g : Lg) (cv ev : Value), v = g.v cv ev ∧ LV W cv ev g ∧ Came g := by
  obtain ⟨cs, rfl, hsz⟩ := okWide_struct Try.underlying26 hval
  obtain ⟨fuel, hf⟩ := h
  obtain ⟨g, cv, ev, h1, h2, h3⟩ := lg_of hf hw
  refine ⟨g, cv, ev, ?_, h2, h3⟩
  simp only [Value.cells] at h1
  have : cs = lgC g.base g.bt cv ev := by rw [← Array.toList_inj]; exact h1
  rw [this]
  rfl
theorem entries_of {H : Type} {enc : TypeId × Value → H} {W : World} {a : Option Addr} {len cap : Nat} {d : DataW H} {p : List MemPlace} (h : DataW.Trod enc Try.prog W 0 (fun _ => true) true 24 (.slice a len cap) d p) (hw : Lite d 24) :
    ∃ l : List EnIn, rw.Sl enSh W (.slice a len cap) l ∧ (∀ e ∈ l, e.term < 18446744073709551616 ∧ e.data.length ≤ 281474976710656) ∧ l.length ≤ 140737488355328 := by
  obtain ⟨fuel, hf⟩ := h
  obtain ⟨v, l, h1, h2, h3, h4⟩ := es_of hf hw
  simp only [Value.cells, List.cons.injEq, and_true] at h1
  subst h1
  exact ⟨l, h2, h3, Nat.le_trans h4 reach47⟩
theorem ints_of {H : Type} {enc : TypeId × Value → H} {W : World} {a : Option Addr} {len cap : Nat} {d : DataW H} {p : List MemPlace} (h : DataW.Trod enc Try.prog W 0 (fun _ => true) true 23 (.slice a len cap) d p) (hw : Lite d 23) :
    ∃ l : List Int, rw.Sl noSh W (.slice a len cap) l ∧ l.length ≤ 140737488355328 := by
  obtain ⟨fuel, hf⟩ := h
  obtain ⟨v, l, h1, h2, h3, h4⟩ := nos_of hf hw
  simp only [Value.cells, List.cons.injEq, and_true] at h1
  subst h1
  exact ⟨l, h2, Nat.le_trans h4 reach47⟩
theorem u64_in_ {n : Int} (h : (Lit.int .u64 n).wf = true) : ∃ k : Nat, n = (k : Nat) ∧ k < 18446744073709551616 := by
  have bp : 0 ≤ n ∧ n ≤ 18446744073709551615 := by simpa [Lit.wf, IntKind.min, IntKind.max, IntKind.signed, IntKind.bits] using h
  exact ⟨n.toNat, by omega, by omega⟩
theorem i64_in_ {n : Int} (h : (Lit.int .i64 n).wf = true) : -9223372036854775808 ≤ n ∧ n ≤ 9223372036854775807 := by
  simpa [Lit.wf, IntKind.min, IntKind.max, IntKind.signed, IntKind.bits] using h
end Go.Proofs.Ythhnhnljefiboaa.tl
/-! TlRowU -/
namespace Go.Proofs.Ythhnhnljefiboaa.tlu
open Go.Proofs.Ythhnhnljefiboaa.tl
set_option linter.unusedVariables false
open Go.ChangeShapes Go.WideShapes Go.ChangeAt Go.RowKit
open pk (S)
open qm (noSh)
open rw (addr_add)

/-! ### What holds of any shape -/
def Lite {H : Type} (d : DataW H) : Prop := Rows.uptoBulk d ≤ 1048576
theorem bulk_pos {H : Type} (d : DataW H) : 1 ≤ Rows.uptoBulk d := by
  unfold Rows.uptoBulk
  split <;> omega
theorem bulk_mem {H : Type} : ∀ {es : List (DataW H)} {d : DataW H}, d ∈ es → Rows.uptoBulk d ≤ Rows.uptoBulkAll es
  | x :: r, d, h => by
    rw [Rows.uptoBulkAll]
    rcases List.mem_cons.1 h with rfl | h
    · omega
    · have := bulk_mem h
      omega
theorem bulk_len {H : Type} : ∀ (es : List (DataW H)), es.length ≤ Rows.uptoBulkAll es
  | [] => Nat.zero_le _
  | x :: r => by
    rw [Rows.uptoBulkAll, List.length_cons]
    have h1 := bulk_pos x
    have h2 := bulk_len r
    omega
theorem lite_slice {H : Type} {es sp : List (DataW H)} (h : Lite (.slice es sp)) : es.length ≤ 1048576 ∧ ∀ d ∈ es, Lite d := by
  unfold Lite at *
  rw [Rows.uptoBulk] at h
  have h1 := bulk_len es
  exact ⟨by omega, fun d hd => by have := bulk_mem hd; omega⟩
section
variable {H : Type} {enc : TypeId × Value → H} {W : World} {fuel : Nat} {cs : List Value} {x : DataW H × List MemPlace}
/-- A struct's field. -/
theorem field_of {t : TypeId} {fs : Array Field} (ht : Try.prog.underlying t = some (.struct fs)) (h : DataW.trod enc Try.prog W 0 (fun _ => true) true fuel t cs = some x) (hw : Lite x.1) (i : Nat) (t' : TypeId) (o : Nat) (hm : fs[i]?.map (fun f => (f.type, f.offset)) = some (t', o)) :
    ∃ n y, DataW.trod enc Try.prog W 0 (fun _ => true) true n t' ((cs.drop o).take (Try.prog.cellsOf t')) = some y ∧ Lite y.1 := by
  obtain ⟨xs, n, rfl, rfl, hl, hxl, hx⟩ := DataW.trod_struct ht h
  obtain ⟨f, hf, he⟩ := Option.map_eq_some_iff.1 hm
  cases he
  have hi : i < xs.length := by
    rw [hxl]
    obtain ⟨h1, _⟩ := Array.getElem?_eq_some_iff.1 hf
    exact h1
  have h1 := hx i f hf
  rw [List.getElem?_eq_getElem hi] at h1
  refine ⟨n, xs[i], h1, ?_⟩
  unfold Lite at hw ⊢
  rw [Rows.uptoBulk] at hw
  have hm : xs[i].1 ∈ xs.map (·.1) := List.mem_map.2 ⟨xs[i], List.getElem_mem hi, rfl⟩
  have := bulk_mem hm
  omega
theorem struct_len {t : TypeId} {fs : Array Field} (ht : Try.prog.underlying t = some (.struct fs)) (h : DataW.trod enc Try.prog W 0 (fun _ => true) true fuel t cs = some x) : cs.length = Try.prog.cellsOf t := by
  obtain ⟨xs, n, rfl, rfl, hl, hxl, hx⟩ := DataW.trod_struct ht h
  exact hl
theorem u64_of (h : DataW.trod enc Try.prog W 0 (fun _ => true) true fuel 22 cs = some x) : ∃ n : Nat, cs = [.int .u64 (n : Nat)] ∧ n < 18446744073709551616 := by
  obtain ⟨p, rfl, _, wp⟩ := DataW.trod_int Try.underlying22 h
  have bp : 0 ≤ p ∧ p ≤ 18446744073709551615 := by simpa [Lit.wf, IntKind.min, IntKind.max, IntKind.signed, IntKind.bits] using wp
  exact ⟨p.toNat, by rw [Int.toNat_of_nonneg bp.1], by omega⟩
theorem int_of (h : DataW.trod enc Try.prog W 0 (fun _ => true) true fuel 3 cs = some x) : ∃ n : Int, cs = [.int .i64 n] ∧ n ≤ 9223372036854775807 ∧ -9223372036854775808 ≤ n := by
  obtain ⟨p, rfl, _, wp⟩ := DataW.trod_int Try.underlying3 h
  have bp : -9223372036854775808 ≤ p ∧ p ≤ 9223372036854775807 := by simpa [Lit.wf, IntKind.min, IntKind.max, IntKind.signed, IntKind.bits] using wp
  exact ⟨p, rfl, bp.2, bp.1⟩
theorem str_of (h : DataW.trod enc Try.prog W 0 (fun _ => true) true fuel 9 cs = some x) (hw : Lite x.1) : ∃ l : List UInt8, cs = [.string (S l)] ∧ l.length ≤ 1048576 := by
  obtain ⟨s, rfl, d0, _⟩ := DataW.trod_string Try.underlying9 h
  refine ⟨s.data.toList, by rw [S_of], ?_⟩
  unfold Lite at hw
  rw [d0, Rows.uptoBulk] at hw
  omega
/-- A slice of structs: what its reading gives. -/
theorem slice_of {α : Type} [Inhabited α] (s : rw.Sh α) (P : α → Prop) {t : TypeId} (ht : Try.prog.underlying t = some (.slice s.t)) (hk : Try.prog.cellsOf s.t = s.k)
    (hel : ∀ {n : Nat} {cs : List Value} {x : DataW H × List MemPlace}, DataW.trod enc Try.prog W 0 (fun _ => true) true n s.t cs = some x → Lite x.1 → ∃ e, cs = s.enc e ∧ P e)
    (h : DataW.trod enc Try.prog W 0 (fun _ => true) true fuel t cs = some x) (hw : Lite x.1) : ∃ v l, cs = [v] ∧ rw.Sl s W v l ∧ (∀ e ∈ l, P e) ∧ l.length ≤ 1048576 := by
  rcases Deep.open_slice ht h with ⟨hcs, hx⟩ | ⟨x, l', c', m, n, D, Pl, hcs, _, hl, hm, hmm, hx, hcell⟩
  · exact ⟨_, [], hcs, rw.Sl.nil s W, fun e he => (by cases he), Nat.zero_le _⟩
  · simp only [if_true] at hmm
    subst hx
    rw [hk] at hcell
    have hls := lite_slice hw
    have liteI : ∀ i, i < l' → Lite (D i) := fun i hi => hls.2 _ (List.mem_map.2 ⟨i, List.mem_range.2 hi, rfl⟩)
    have key : ∀ i, i < l' → ∃ k : α, (∀ j, j < s.k → W.cell? (x.add (i * s.k + j)) = (s.enc k)[j]?) ∧ P k := fun i hi => by
      obtain ⟨cs', h1, h2⟩ := hcell i (by omega)
      obtain ⟨k, rfl, hk⟩ := hel h2 (liteI i hi)
      obtain ⟨_, _, hc⟩ := World.cells?_some h1
      refine ⟨k, fun j hj => ?_, hk⟩
      have := hc j hj
      rw [Deep.add_add] at this
      exact this
    obtain ⟨f, hfr⟩ := Deep.choose_lt key
    refine ⟨_, (List.range l').map f, hcs, ⟨some x, c', by simp, by simpa using hl, ?_, fun e => by cases e⟩, ?_, ?_⟩
    · by_cases h0 : l' = 0
      · subst h0
        exact .inl (by simp)
      · obtain ⟨b, off, spot⟩ := x
        have hk0 := s.hk
        have h00 := (hfr 0 (by omega)).1 0 hk0
        have hen : 0 < (s.enc (f 0)).length := by rw [s.len]; exact hk0
        rw [List.getElem?_eq_getElem hen] at h00
        have hspot : spot = none := by simpa [Addr.add] using World.cell?_spot h00
        subst hspot
        refine .inr ⟨b, off, rfl, by have := World.block_lt_of_cell? W _ h00; rw [addr_add] at this; exact this, fun j hj i hi => ?_⟩
        have hj' : j < l' := by simpa using hj
        have h1 := (hfr j hj').1 i hi
        rw [addr_add] at h1
        simp only [List.getElem_map, List.getElem_range]
        rw [Nat.add_assoc]
        exact h1
    · intro k hk
      obtain ⟨i, hi, rfl⟩ := List.mem_map.1 hk
      rw [List.mem_range] at hi
      exact (hfr i hi).2
    · have h9 := hls.1
      simp only [List.length_map, List.length_range] at h9 ⊢
      exact h9
end
theorem reach47 : 1048576 ≤ 140737488355328 := by decide

section
variable {H : Type} {enc : TypeId × Value → H} {W : World} {fuel : Nat} {cs : List Value} {x : DataW H × List MemPlace}
set_option maxRecDepth 100000 in
theorem ent_of (h : DataW.trod enc Try.prog W 0 (fun _ => true) true fuel 54 cs = some x) (hw : Lite x.1) :
    ∃ e : EnIn, cs = enSh.enc e ∧ (e.term < 18446744073709551616 ∧ e.data.length ≤ 1048576) := by
  have hu := Try.underlying54
  have hl : cs.length = 3 := (struct_len hu h).trans (by kernel_rfl)
  obtain ⟨c0, c1, c2, rfl⟩ : ∃ c0 c1 c2, cs = [c0, c1, c2] := by
    match cs, hl with
    | [a, b, c], _ => exact ⟨a, b, c, rfl⟩
  have eI : Try.prog.cellsOf 3 = 1 := by kernel_rfl
  have eU : Try.prog.cellsOf 22 = 1 := by kernel_rfl
  have eS : Try.prog.cellsOf 9 = 1 := by kernel_rfl
  obtain ⟨n0, y0, f0, _⟩ := field_of hu h hw 0 22 0 rfl
  obtain ⟨n1, y1, f1, _⟩ := field_of hu h hw 1 3 1 rfl
  obtain ⟨n2, y2, f2, g2⟩ := field_of hu h hw 2 9 2 rfl
  simp only [eI, eU, eS, List.drop_zero, List.drop_succ_cons, List.take_succ_cons, List.take_zero] at f0 f1 f2
  obtain ⟨z0, e0, b0⟩ := u64_of f0
  obtain ⟨z1, e1, _⟩ := int_of f1
  obtain ⟨s2, e2, b2⟩ := str_of f2 g2
  simp only [List.cons.injEq, and_true] at e0 e1 e2
  subst e0 e1 e2
  exact ⟨⟨z0, z1, s2⟩, rfl, b0, b2⟩
theorem no_of (h : DataW.trod enc Try.prog W 0 (fun _ => true) true fuel 3 cs = some x) (_ : Lite x.1) :
    ∃ e : Int, cs = noSh.enc e ∧ True := by
  obtain ⟨z, e, _⟩ := int_of h
  exact ⟨z, e, trivial⟩
set_option maxRecDepth 100000 in
theorem es_of (h : DataW.trod enc Try.prog W 0 (fun _ => true) true fuel 24 cs = some x) (hw : Lite x.1) :
    ∃ v l, cs = [v] ∧ rw.Sl enSh W v l ∧ (∀ e ∈ l, e.term < 18446744073709551616 ∧ e.data.length ≤ 1048576) ∧ l.length ≤ 1048576 :=
  slice_of enSh (fun e => e.term < 18446744073709551616 ∧ e.data.length ≤ 1048576) Try.underlying24 (by kernel_rfl) ent_of h hw
set_option maxRecDepth 100000 in
theorem nos_of (h : DataW.trod enc Try.prog W 0 (fun _ => true) true fuel 23 cs = some x) (hw : Lite x.1) :
    ∃ v l, cs = [v] ∧ rw.Sl noSh W v l ∧ (∀ e ∈ l, True) ∧ l.length ≤ 1048576 :=
  slice_of noSh (fun _ => True) Try.underlying23 (by kernel_rfl) no_of h hw
set_option maxRecDepth 100000 in
theorem lg_of (h : DataW.trod enc Try.prog W 0 (fun _ => true) true fuel 26 cs = some x) (hw : Lite x.1) :
    ∃ (g : Lg) (cv ev : Value), cs = (lgC g.base g.bt cv ev).toList ∧ LV W cv ev g ∧ Came g ∧ ∀ x ∈ g.es, x.data.length ≤ 1048576 := by
  have hu := Try.underlying26
  have hl : cs.length = 4 := (struct_len hu h).trans (by kernel_rfl)
  obtain ⟨c0, c1, c2, c3, rfl⟩ : ∃ c0 c1 c2 c3, cs = [c0, c1, c2, c3] := by
    match cs, hl with
    | [a, b, c, d], _ => exact ⟨a, b, c, d, rfl⟩
  have eU : Try.prog.cellsOf 22 = 1 := by kernel_rfl
  have eN : Try.prog.cellsOf 23 = 1 := by kernel_rfl
  have eE : Try.prog.cellsOf 24 = 1 := by kernel_rfl
  obtain ⟨n0, y0, f0, _⟩ := field_of hu h hw 0 22 0 rfl
  obtain ⟨n1, y1, f1, _⟩ := field_of hu h hw 1 22 1 rfl
  obtain ⟨n2, y2, f2, g2⟩ := field_of hu h hw 2 23 2 rfl
  obtain ⟨n3, y3, f3, g3⟩ := field_of hu h hw 3 24 3 rfl
  simp only [eU, eN, eE, List.drop_zero, List.drop_succ_cons, List.take_succ_cons, List.take_zero] at f0 f1 f2 f3
  obtain ⟨z0, e0, b0⟩ := u64_of f0
  obtain ⟨z1, e1, b1⟩ := u64_of f1
  obtain ⟨cv, c, e2, s2, _, l2⟩ := nos_of f2 g2
  obtain ⟨ev, l, e3, s3, t3, l3⟩ := es_of f3 g3
  simp only [List.cons.injEq, and_true] at e0 e1 e2 e3
  subst e0 e1 e2 e3
  exact ⟨⟨z0, z1, c, l⟩, _, _, rfl, ⟨s2, s3⟩, ⟨b0, b1, Nat.le_trans l2 reach47, Nat.le_trans l3 reach47, fun x hx => ⟨(t3 x hx).1, Nat.le_trans (t3 x hx).2 (by decide)⟩⟩, fun x hx => (t3 x hx).2⟩
end
theorem log_of {H : Type} {enc : TypeId × Value → H} {W : World} {base : Nat} {v : Value} {d : DataW H} {p : List MemPlace} (hval : Value.okWide Try.prog W .any base 26 v) (h : DataW.Trod enc Try.prog W 0 (fun _ => true) true 26 v d p) (hw : Lite d) :
    ∃ (g : Lg) (cv ev : Value), v = g.v cv ev ∧ LV W cv ev g ∧ Came g ∧ ∀ x ∈ g.es, x.data.length ≤ 1048576 := by
  obtain ⟨cs, rfl, hsz⟩ := okWide_struct Try.underlying26 hval
  obtain ⟨fuel, hf⟩ := h
  obtain ⟨g, cv, ev, h1, h2, h3⟩ := lg_of hf hw
  refine ⟨g, cv, ev, ?_, h2, h3⟩
  simp only [Value.cells] at h1
  have : cs = lgC g.base g.bt cv ev := by rw [← Array.toList_inj]; exact h1
  rw [this]
  rfl
theorem entries_of {H : Type} {enc : TypeId × Value → H} {W : World} {a : Option Addr} {len cap : Nat} {d : DataW H} {p : List MemPlace} (h : DataW.Trod enc Try.prog W 0 (fun _ => true) true 24 (.slice a len cap) d p) (hw : Lite d) :
    ∃ l : List EnIn, rw.Sl enSh W (.slice a len cap) l ∧ (∀ e ∈ l, e.term < 18446744073709551616 ∧ e.data.length ≤ 1048576) ∧ l.length ≤ 140737488355328 := by
  obtain ⟨fuel, hf⟩ := h
  obtain ⟨v, l, h1, h2, h3, h4⟩ := es_of hf hw
  simp only [Value.cells, List.cons.injEq, and_true] at h1
  subst h1
  exact ⟨l, h2, h3, Nat.le_trans h4 reach47⟩
theorem ints_of {H : Type} {enc : TypeId × Value → H} {W : World} {a : Option Addr} {len cap : Nat} {d : DataW H} {p : List MemPlace} (h : DataW.Trod enc Try.prog W 0 (fun _ => true) true 23 (.slice a len cap) d p) (hw : Lite d) :
    ∃ l : List Int, rw.Sl noSh W (.slice a len cap) l ∧ l.length ≤ 140737488355328 := by
  obtain ⟨fuel, hf⟩ := h
  obtain ⟨v, l, h1, h2, h3, h4⟩ := nos_of hf hw
  simp only [Value.cells, List.cons.injEq, and_true] at h1
  subst h1
  exact ⟨l, h2, Nat.le_trans h4 reach47⟩
end Go.Proofs.Ythhnhnljefiboaa.tlu
/-! TlS1 -/
namespace Go.Proofs.Ythhnhnljefiboaa.tl
set_option linter.unusedVariables false

theorem right_good {g : Lg} (h : g.right = true) {j : Nat} (hj : j < g.es.length) : Good g j := (rises_good g).1 (g.right_iff.1 h).2.2.2 j hj
theorem slice_at {g : Lg} {f : Nat} {m : Int} {j : Nat} (hj : j < (g.slice f m).length) : g.base < f ∧ f ≤ g.last ∧ ∃ h : f - g.base - 1 + j < g.es.length, (g.slice f m)[j] = g.es[f - g.base - 1 + j] := by
  unfold Lg.slice at hj
  split at hj
  · rename_i c
    refine ⟨c.1, c.2.1, ?_⟩
    simp only [List.length_take, List.length_drop] at hj
    refine ⟨by omega, ?_⟩
    have e : g.slice f m = (g.es.drop (f - g.base - 1)).take m.toNat := if_pos c
    simp only [e, List.getElem_take, List.getElem_drop]
  · simp at hj
/-- What is told of a log that entries were merged into. -/
structure Into (h k : Lg) (prev t n : Nat) (L : List EnIn) : Prop where
  has : h.term prev = (t, true)
  base : k.base = h.base
  bt : k.bt = h.bt
  conf : k.conf = h.conf
  len : k.es.length ≤ 120
  sub : ∀ x ∈ k.es, x ∈ h.es ∨ x ∈ L
  term : ∀ j (hj : j < L.length), k.term (prev + 1 + j) = (L[j].term, true)
  at_ : n = 0 ∨ (prev < n ∧ k.last = prev + L.length)
  n : n ≤ 4611686018427387904 + 1000
  right : k.right = true
  ahead : k.slice (k.base + 1) ((prev : Int) - (k.base : Int)) = h.slice (h.base + 1) ((prev : Int) - (h.base : Int))
theorem into_term {h k : Lg} {prev : Nat} {L M : List EnIn} (hb : k.base = h.base) (hr : h.rch prev = true) (he : k.es = h.es.take (prev - h.base) ++ M) (hM : L.length ≤ M.length) (ht : ∀ j (hj : j < L.length), (M.getD j e0).term = L[j].term) :
    ∀ j (hj : j < L.length), k.term (prev + 1 + j) = (L[j].term, true) := by
  intro j hj
  have hi := Lg.rch_iff.1 hr
  unfold Lg.last at hi
  have hkl : k.es.length = prev - h.base + M.length := by rw [he, List.length_append, List.length_take]; omega
  have hk : k.rch (prev + 1 + j) = true := by
    rw [Lg.rch_iff, Lg.last, hb, hkl]; omega
  rw [Lg.term_yes hk, Lg.upTo_of hk, hb, ← ht j hj]
  have e : k.tb (prev + 1 + j - h.base) = (M.getD j e0).term := by
    unfold Lg.tb
    rw [if_neg (by omega), he, List.getD_eq_getElem?_getD, List.getElem?_append_right (by rw [List.length_take]; omega), List.getD_eq_getElem?_getD]
    rw [List.length_take, show prev + 1 + j - h.base - 1 - min (prev - h.base) h.es.length = j by omega]
  rw [e]
theorem into_ahead {h k : Lg} {prev : Nat} {M : List EnIn} (hb : k.base = h.base) (hr : h.rch prev = true) (he : k.es = h.es.take (prev - h.base) ++ M) :
    k.slice (k.base + 1) ((prev : Int) - (k.base : Int)) = h.slice (h.base + 1) ((prev : Int) - (h.base : Int)) := by
  have hi := Lg.rch_iff.1 hr
  unfold Lg.last at hi
  have hkl : k.es.length = prev - h.base + M.length := by rw [he, List.length_append, List.length_take]; omega
  unfold Lg.slice Lg.last
  rw [hb]
  by_cases c : h.base < prev
  · rw [if_pos ⟨by omega, by omega, by omega⟩, if_pos ⟨by omega, by omega, by omega⟩, he]
    rw [show h.base + 1 - h.base - 1 = 0 by omega, List.drop_zero, List.drop_zero, show ((prev : Int) - (h.base : Int)).toNat = prev - h.base by omega]
    rw [List.take_append_of_le_length (by rw [List.length_take]; omega), List.take_take, Nat.min_self]
  · rw [if_neg (by omega), if_neg (by omega)]
theorem behind_all {h : Lg} {prev t : Nat} {L : List EnIn} (c : h.term prev = (t, true)) (e : alike (h.es.drop (h.upTo prev)) L = L.length) : h.behind prev t L = (h, 0, true) := by
  unfold Lg.behind
  rw [if_pos c]
  exact if_pos e
theorem behind_some {h : Lg} {prev t s : Nat} {L : List EnIn} (c : h.term prev = (t, true)) (e : alike (h.es.drop (h.upTo prev)) L = s) (ne : s ≠ L.length) : h.behind prev t L = (⟨h.base, h.bt, h.conf, h.es.take (h.upTo prev + s) ++ L.drop s⟩, h.base + (h.upTo prev + s) + 1, true) := by
  subst e
  unfold Lg.behind
  rw [if_pos c]
  exact if_neg ne
theorem merge_into (g h : Lg) (prev t : Nat) (most : Int) (hg : g.right = true) (hh : h.right = true) (g60 : g.es.length ≤ 60) (h60 : h.es.length ≤ 60) (ht : g.term prev = (t, true)) (hp : h.base ≤ prev) :
    ∃ k n is, h.merge prev t (g.slice (prev + 1) most) = (k, n, is) ∧ ((is = false ∧ n = 0 ∧ k = h ∧ h.term prev ≠ (t, true)) ∨ (is = true ∧ Into h k prev t n (g.slice (prev + 1) most))) := by
  have hL60 := slice_len g (prev + 1) most
  have hsub := slice_sub g (prev + 1) most
  have hlt : ∀ j (hj : j < (g.slice (prev + 1) most).length), (if j = 0 then t else ((g.slice (prev + 1) most).getD (j - 1) e0).term) ≤ (g.slice (prev + 1) most)[j].term := by
    intro j hj
    obtain ⟨s1, s2, s3, s4⟩ := slice_at hj
    have hgd := right_good hg s3
    unfold Good at hgd
    rw [getD_at s3, ← s4] at hgd
    have hr : g.rch prev = true := by
      rcases hr : g.rch prev with _ | _
      · rw [Lg.term_no hr] at ht; cases ht
      · rfl
    have hi := Lg.rch_iff.1 hr
    rw [Lg.term_yes hr, Lg.upTo_of hr] at ht
    cases j with
    | zero =>
      rw [if_pos rfl]
      have : g.tb (prev - g.base) = t := (Prod.mk.inj ht).1
      rw [show prev + 1 - g.base - 1 + 0 = prev - g.base by omega, this] at hgd
      exact hgd.2.2
    | succ j =>
      rw [if_neg (by omega), Nat.add_sub_cancel, getD_at (by omega)]
      obtain ⟨r1, r2, r3, r4⟩ := slice_at (show j < (g.slice (prev + 1) most).length by omega)
      rw [r4]
      have e := tb_succ g r3
      rw [show prev + 1 - g.base - 1 + (j + 1) = prev + 1 - g.base - 1 + j + 1 by omega, e] at hgd
      exact hgd.2.2
  have hkd : ∀ x ∈ g.slice (prev + 1) most, 1 ≤ x.kind ∧ x.kind ≤ 3 := by
    intro x hx
    obtain ⟨i, hi, rfl⟩ := List.getElem_of_mem (hsub x hx)
    have hgd := right_good hg hi
    unfold Good at hgd
    rw [getD_at hi] at hgd
    exact ⟨hgd.1, hgd.2.1⟩
  generalize g.slice (prev + 1) most = L at *
  have hbase := (h.right_iff.1 hh).1
  unfold Lg.merge
  rw [if_neg (by omega)]
  by_cases c : h.term prev = (t, true)
  · have hr : h.rch prev = true := by
      rcases hr : h.rch prev with _ | _
      · rw [Lg.term_no hr] at c; cases c
      · rfl
    have hi := Lg.rch_iff.1 hr
    unfold Lg.last at hi
    have hup := Lg.upTo_of hr
    have htb : h.tb (prev - h.base) = t := by rw [Lg.term_yes hr, hup] at c; exact (Prod.mk.inj c).1
    have hB1 := fun e => behind_all (L := L) c e
    have hB2 := fun e ne => behind_some (L := L) (s := alike (h.es.drop (h.upTo prev)) L) c e ne
    rw [hup] at hB1 hB2
    have hal := alike_le (h.es.drop (prev - h.base)) L
    have hae := alike_eq (h.es.drop (prev - h.base)) L
    simp only [List.length_drop, List.getElem_drop] at hal hae
    generalize alike (h.es.drop (prev - h.base)) L = s at *
    by_cases cs : s = L.length
    · rw [hB1 cs]
      refine ⟨_, _, _, rfl, .inr ⟨rfl, c, rfl, rfl, rfl, by omega, fun x hx => .inl hx, ?_, .inl rfl, by omega, hh, rfl⟩⟩
      refine into_term (M := h.es.drop (prev - h.base)) rfl hr (List.take_append_drop _ _).symm (by rw [List.length_drop]; omega) fun j hj => ?_
      rw [getD_at (by rw [List.length_drop]; omega), List.getElem_drop]
      exact hae j (by omega) (by omega) hj
    · rw [hB2 rfl cs]
      have he : h.es.take (prev - h.base + s) ++ L.drop s = h.es.take (prev - h.base) ++ ((h.es.drop (prev - h.base)).take s ++ L.drop s) := by
        rw [← List.append_assoc, List.take_add]
      have hlen : (h.es.take (prev - h.base + s) ++ L.drop s).length = prev - h.base + L.length := by
        rw [List.length_append, List.length_take, List.length_drop]; omega
      have hterm := into_term (h := h) (k := ⟨h.base, h.bt, h.conf, h.es.take (prev - h.base + s) ++ L.drop s⟩) (prev := prev) (L := L) rfl hr he (by rw [List.length_append, List.length_take, List.length_drop, List.length_drop]; omega) (fun j hj => by
        by_cases c2 : j < s
        · rw [List.getD_eq_getElem?_getD, List.getElem?_append_left (by rw [List.length_take, List.length_drop]; omega), List.getElem?_take_of_lt c2, List.getElem?_drop, List.getElem?_eq_getElem (by omega), Option.getD_some]
          exact hae j c2 (by omega) hj
        · rw [List.getD_eq_getElem?_getD, List.getElem?_append_right (by rw [List.length_take, List.length_drop]; omega), List.length_take, List.length_drop, List.getElem?_drop, List.getElem?_eq_getElem (by omega), Option.getD_some]
          congr 2
          omega)
      refine ⟨_, _, _, rfl, .inr ⟨rfl, c, rfl, rfl, rfl, ?_, ?_, hterm, .inr ⟨by omega, ?_⟩, by omega, ?_, ?_⟩⟩
      · show (_ ++ _ : List EnIn).length ≤ _; rw [hlen]; omega
      · intro x hx
        rcases List.mem_append.1 hx with hx | hx
        · exact .inl (List.mem_of_mem_take hx)
        · exact .inr (List.mem_of_mem_drop hx)
      · show h.base + (_ ++ _ : List EnIn).length = _; rw [hlen]; omega
      · obtain ⟨q1, q2, q3, q4⟩ := h.right_iff.1 hh
        refine (Lg.right_iff _).2 ⟨q1, ?_, q3, ?_⟩
        · show (_ ++ _ : List EnIn).length ≤ _; rw [hlen]; omega
        · refine (rises_good ⟨h.base, h.bt, h.conf, h.es.take (prev - h.base + s) ++ L.drop s⟩).2 fun j hj => ?_
          rw [hlen] at hj
          by_cases c2 : j < prev - h.base + s
          · have hgd := right_good hh (show j < h.es.length by omega)
            have e1 : (h.es.take (prev - h.base + s) ++ L.drop s).getD j e0 = h.es.getD j e0 := by
              rw [List.getD_eq_getElem?_getD, List.getElem?_append_left (by rw [List.length_take]; omega), List.getElem?_take_of_lt c2, ← List.getD_eq_getElem?_getD]
            have e2 : Lg.tb ⟨h.base, h.bt, h.conf, h.es.take (prev - h.base + s) ++ L.drop s⟩ j = h.tb j := by
              unfold Lg.tb
              split
              · rfl
              · show ((h.es.take (prev - h.base + s) ++ L.drop s).getD (j - 1) e0).term = _
                rw [List.getD_eq_getElem?_getD, List.getElem?_append_left (by rw [List.length_take]; omega), List.getElem?_take_of_lt (by omega), ← List.getD_eq_getElem?_getD]
            unfold Good at hgd ⊢
            rw [e2]
            show 1 ≤ ((h.es.take (prev - h.base + s) ++ L.drop s).getD j e0).kind ∧ ((h.es.take (prev - h.base + s) ++ L.drop s).getD j e0).kind ≤ 3 ∧ h.tb j ≤ ((h.es.take (prev - h.base + s) ++ L.drop s).getD j e0).term
            rw [e1]
            exact hgd
          · obtain ⟨i, rfl⟩ : ∃ i, j = prev - h.base + i := ⟨j - (prev - h.base), by omega⟩
            have hiL : i < L.length := by omega
            have e1 : (h.es.take (prev - h.base + s) ++ L.drop s).getD (prev - h.base + i) e0 = L[i] := by
              rw [List.getD_eq_getElem?_getD, List.getElem?_append_right (by rw [List.length_take]; omega), List.length_take, List.getElem?_drop, List.getElem?_eq_getElem (by omega), Option.getD_some]
              congr 1
              omega
            have e2 : Lg.tb ⟨h.base, h.bt, h.conf, h.es.take (prev - h.base + s) ++ L.drop s⟩ (prev - h.base + i) = if i = 0 then t else (L.getD (i - 1) e0).term := by
              by_cases c3 : i = 0
              · subst c3
                rw [if_pos rfl, ← htb]
                rw [Nat.add_zero]
                unfold Lg.tb
                by_cases z : prev - h.base = 0
                · rw [if_pos z, if_pos z]
                · rw [if_neg z, if_neg z]
                  show ((h.es.take (prev - h.base + s) ++ L.drop s).getD (prev - h.base - 1) e0).term = _
                  rw [List.getD_eq_getElem?_getD, List.getElem?_append_left (by rw [List.length_take]; omega), List.getElem?_take_of_lt (by omega), ← List.getD_eq_getElem?_getD]
              · rw [if_neg c3, getD_at (by omega)]
                have k1 := hterm (i - 1) (by omega)
                have hk : Lg.rch ⟨h.base, h.bt, h.conf, h.es.take (prev - h.base + s) ++ L.drop s⟩ (prev + 1 + (i - 1)) = true := by
                  rw [Lg.rch_iff, Lg.last]
                  show h.base ≤ _ ∧ _ ≤ h.base + (_ ++ _ : List EnIn).length
                  rw [hlen]; omega
                rw [Lg.term_yes hk, Lg.upTo_of hk] at k1
                have k2 := (Prod.mk.inj k1).1
                rw [← k2]
                congr 1
                show _ = prev + 1 + (i - 1) - h.base
                omega
            have hk2 := hkd L[i] (List.getElem_mem hiL)
            unfold Good
            rw [e2]
            show 1 ≤ ((h.es.take (prev - h.base + s) ++ L.drop s).getD (prev - h.base + i) e0).kind ∧ ((h.es.take (prev - h.base + s) ++ L.drop s).getD (prev - h.base + i) e0).kind ≤ 3 ∧ _ ≤ ((h.es.take (prev - h.base + s) ++ L.drop s).getD (prev - h.base + i) e0).term
            rw [e1]
            exact ⟨hk2.1, hk2.2, hlt i hiL⟩
      · exact into_ahead (k := ⟨h.base, h.bt, h.conf, h.es.take (prev - h.base + s) ++ L.drop s⟩) rfl hr he
  · unfold Lg.behind
    rw [if_neg c]
    exact ⟨_, _, _, rfl, .inl ⟨rfl, rfl, rfl, c⟩⟩
theorem Into.fit {h k : Lg} {prev t n : Nat} {L : List EnIn} (i : Into h k prev t n L) (hf : Fit h) (hL : ∀ x ∈ L, x.term < 18446744073709551616 ∧ x.data.length ≤ 281474976710656) : Fit k := by
  refine ⟨by rw [i.base]; exact hf.base, by rw [i.bt]; exact hf.bt, by rw [i.conf]; exact hf.conf, by have := i.len; omega, fun x hx => ?_⟩
  rcases i.sub x hx with h1 | h1
  · exact hf.e x h1
  · exact hL x h1
end Go.Proofs.Ythhnhnljefiboaa.tl
/-! TlS4 -/
namespace Go.Proofs.Ythhnhnljefiboaa.tl
set_option linter.unusedVariables false
open Go.RowKit
open pk (S S_size S_data)
open qm (Bs noSh)
open rw (Arr But below_box bnext below_drew below_drewN)

/-- Where the walk over l stands behind k of its entries. -/
structure Mix (g : Lg) (n : Nat) (l : List EnIn) (k at_ : Nat) (L : List EnIn) : Prop where
  h : (at_ = 0 ∧ k ≤ alike (g.es.drop n) l ∧ L = g.es.take (n + k)) ∨ (at_ = g.base + (n + alike (g.es.drop n) l) + 1 ∧ alike (g.es.drop n) l < k ∧ L = g.es.take (n + alike (g.es.drop n) l) ++ (l.take k).drop (alike (g.es.drop n) l))
theorem Mix.start (g : Lg) (n : Nat) (l : List EnIn) : Mix g n l 0 0 (g.es.take n) := ⟨.inl ⟨rfl, Nat.zero_le _, rfl⟩⟩
theorem take_drop_succ {l : List EnIn} {k s : Nat} (hk : k < l.length) (hs : s ≤ k) : (l.take (k + 1)).drop s = (l.take k).drop s ++ [l[k]] := by
  rw [List.take_succ_eq_append_getElem hk, List.drop_append_of_le_length (by rw [List.length_take]; omega)]
theorem Mix.same {g : Lg} {n k : Nat} {l L : List EnIn} (h : Mix g n l k 0 L) (hk : k < l.length) (h1 : n + k < g.es.length) (ht : g.es[n + k].term = l[k].term) : Mix g n l (k + 1) 0 (L ++ [g.es[n + k]]) := by
  rcases h.h with ⟨_, h2, h3⟩ | ⟨h2, _⟩
  · refine ⟨.inl ⟨rfl, ?_, ?_⟩⟩
    · have hal := alike_le (g.es.drop n) l
      rcases Nat.lt_or_ge k (alike (g.es.drop n) l) with hh | hh
      · omega
      · have e : alike (g.es.drop n) l = k := by omega
        have hn := alike_ne (g.es.drop n) l (by rw [e, List.length_drop]; omega) (by omega)
        simp only [e, List.getElem_drop] at hn
        exact absurd ht hn
    · rw [h3, ← Nat.add_assoc, List.take_succ_eq_append_getElem h1]
  · omega
theorem Mix.turn {g : Lg} {n k : Nat} {l L : List EnIn} (h : Mix g n l k 0 L) (hk : k < l.length) (hx : ∀ h1 : n + k < g.es.length, g.es[n + k].term ≠ l[k].term) : Mix g n l (k + 1) (g.base + (n + k) + 1) (L ++ [l[k]]) := by
  rcases h.h with ⟨_, h2, h3⟩ | ⟨h2, _⟩
  · have hal := alike_le (g.es.drop n) l
    rw [List.length_drop] at hal
    have e : alike (g.es.drop n) l = k := by
      rcases Nat.lt_or_ge k (alike (g.es.drop n) l) with hh | hh
      · have hn := alike_eq (g.es.drop n) l k hh (by rw [List.length_drop]; omega) hk
        rw [List.getElem_drop] at hn
        exact absurd hn (hx (by omega))
      · omega
    refine ⟨.inr ⟨by rw [e], by omega, ?_⟩⟩
    rw [e, h3, take_drop_succ hk (Nat.le_refl _), List.drop_of_length_le (by rw [List.length_take]; omega), List.nil_append]
  · omega
theorem Mix.on {g : Lg} {n k a : Nat} {l L : List EnIn} (h : Mix g n l k a L) (ha : a ≠ 0) (hk : k < l.length) : Mix g n l (k + 1) a (L ++ [l[k]]) := by
  rcases h.h with ⟨h1, _⟩ | ⟨h1, h2, h3⟩
  · exact absurd h1 ha
  · refine ⟨.inr ⟨h1, by omega, ?_⟩⟩
    rw [h3, take_drop_succ hk (by omega), List.append_assoc]
theorem Mix.all {g : Lg} {prev t : Nat} {l L : List EnIn} (h : Mix g (g.upTo prev) l l.length 0 L) (c : g.term prev = (t, true)) : g.behind prev t l = (g, 0, true) := by
  have hal := alike_le (g.es.drop (g.upTo prev)) l
  rcases h.h with ⟨_, h2, _⟩ | ⟨h2, _⟩
  · exact behind_all c (by omega)
  · omega
theorem Mix.some {g : Lg} {prev t a : Nat} {l L : List EnIn} (h : Mix g (g.upTo prev) l l.length a L) (ha : a ≠ 0) (c : g.term prev = (t, true)) : g.behind prev t l = (⟨g.base, g.bt, g.conf, L⟩, a, true) := by
  rcases h.h with ⟨h1, _⟩ | ⟨h1, h2, h3⟩
  · exact absurd h1 ha
  · rw [behind_some c rfl (by omega), h1, h3, List.take_length]
theorem Mix.len {g : Lg} {n k a : Nat} {l L : List EnIn} (h : Mix g n l k a L) : L.length ≤ g.es.length + k := by
  rcases h.h with ⟨_, _, h3⟩ | ⟨_, _, h3⟩
  · rw [h3, List.length_take]; omega
  · rw [h3, List.length_append, List.length_take, List.length_drop, List.length_take]; omega
/-- The log in its box, the result's box, the box of what is laid. -/
structure Bh (w W : World) (cv ev : Value) (g : Lg) (ob : Nat) (ov : Value) (L : List EnIn) : Prop where
  gb : Bx w W w.heap.size cv ev g
  r : Arr W (w.heap.size + 1) 26 #[.int .u64 0, .int .u64 0, .slice none 0 0, .slice none 0 0]
  x : Arr W ob 26 (lgC g.base g.bt cv ov)
  xb : w.heap.size + 1 < ob
  l : rw.Own enSh W (ob + 1) ov L
theorem Bh.below {w W W' : World} {cv ev ov : Value} {g : Lg} {ob : Nat} {L : List EnIn} (h : Bh w W cv ev g ob ov L) (b : Below W.heap.size W W') : Bh w W' cv ev g ob ov L := ⟨h.gb.below b, h.r.below b, h.x.below b, h.xb, h.l.below _ b⟩
theorem Bh.at_ {w W W' : World} {cv ev ov : Value} {g : Lg} {ob : Nat} {L : List EnIn} (h : Bh w W cv ev g ob ov L) (b : Below (ob + 1) W W') : Arr W' ob 26 (lgC g.base g.bt cv ov) := h.x.of (b.block _ (Nat.lt_succ_self _))
theorem Bh.push {w W W' : World} {cv ev ov v' : Value} {g : Lg} {ob : Nat} {L L' : List EnIn} (h0 : LV w cv ev g) (h : Bh w W cv ev g ob ov L) (o : rw.Own enSh W' (ob + 1) v' L') (b : Below (ob + 1) W W') : Bh w (W'.setCell ⟨ob, 3, none⟩ v') cv ev g ob v' L' := by
  have hx := h.at_ b
  have hb := h.xb
  have kb : But ob W' (W'.setCell ⟨ob, 3, none⟩ v') := (But.refl _ W').set 3 v'
  have b1 : Below w.heap.size w W' := h.gb.b.trans (b.mono (by omega))
  have b2 : Below w.heap.size w (W'.setCell ⟨ob, 3, none⟩ v') := b1.trans (kb.below b1.size (by omega))
  exact ⟨⟨kb.arr (h.gb.a.of (b.block _ (by omega))) (by omega), h0.later b2, b2⟩, kb.arr (h.r.of (b.block _ (by omega))) (by omega), hx.set 3 v', hb, own_but o hx (by decide) kb⟩
end Go.Proofs.Ythhnhnljefiboaa.tl
/-! TlR5 -/
namespace Go.Proofs.Ythhnhnljefiboaa.tl
set_option linter.unusedVariables false
open Go.RowKit
open pk (S S_size S_data)
open qm (Bs noSh)
open rw (Arr But below_box bnext below_drew below_drewN)

/-- A log handed out, with an index and an answer; its members are the old row, its entries may be. -/
def RmOut (w : World) (cv ev : Value) (r : Lg × Nat × Bool) (e : Ending) (w' : World) : Prop :=
  ∃ eu, e = .returned (.tuple #[.agg (lgC r.1.base r.1.bt cv eu), .int .u64 (r.2.1 : Nat), .bool r.2.2]) ∧ rw.Sl noSh w' cv r.1.conf ∧ rw.Sl enSh w' eu r.1.es ∧ (eu = ev ∨ rw.Own enSh w' w.heap.size eu r.1.es) ∧ Below w.heap.size w w'
theorem In2.same {w W : World} {cv ev : Value} {g : Lg} {n : Nat} {b : Bool} {r : Lg × Nat × Bool} (h0 : LV w cv ev g) (a : In2 w W cv ev g) (hr : r = (g, n, b)) : RmOut w cv ev r (.returned (.tuple #[.agg (lgC g.base g.bt cv ev), .int .u64 (n : Nat), .bool b])) (layL W (w.heap.size + 1) g.base g.bt cv ev) := by
  subst hr
  have k := layL_but W (w.heap.size + 1) g.base g.bt cv ev
  have b := a.b.trans (k.below a.b.size (by omega))
  exact ⟨ev, rfl, h0.c.later _ b, h0.l.later _ b, .inl rfl, b⟩
theorem Bh.same {w W : World} {cv ev ov : Value} {g : Lg} {ob n : Nat} {L : List EnIn} {b : Bool} {r : Lg × Nat × Bool} (h0 : LV w cv ev g) (a : Bh w W cv ev g ob ov L) (hr : r = (g, n, b)) : RmOut w cv ev r (.returned (.tuple #[.agg (lgC g.base g.bt cv ev), .int .u64 (n : Nat), .bool b])) (layL W (w.heap.size + 1) g.base g.bt cv ev) := by
  subst hr
  have k := layL_but W (w.heap.size + 1) g.base g.bt cv ev
  have b := a.gb.b.trans (k.below a.gb.b.size (by omega))
  exact ⟨ev, rfl, h0.c.later _ b, h0.l.later _ b, .inl rfl, b⟩
theorem Bh.done {w W : World} {cv ev ov : Value} {g : Lg} {ob n : Nat} {L : List EnIn} {r : Lg × Nat × Bool} (h0 : LV w cv ev g) (a : Bh w W cv ev g ob ov L) (hr : r = (⟨g.base, g.bt, g.conf, L⟩, n, true)) : RmOut w cv ev r (.returned (.tuple #[.agg (lgC g.base g.bt cv ov), .int .u64 (n : Nat), .bool true])) (layL W (w.heap.size + 1) g.base g.bt cv ov) := by
  subst hr
  have k := layL_but W (w.heap.size + 1) g.base g.bt cv ov
  have b := a.gb.b.trans (k.below a.gb.b.size (by omega))
  have o := own_lower (own_but a.l a.r (by decide) k) (B' := w.heap.size) (by have := a.xb; omega)
  exact ⟨ov, rfl, h0.c.later _ b, o.sl, .inr o, b⟩
/-- An append in a region that draws its order. -/
theorem step_apb {α : Type} (s : rw.Sh α) {ops : Array Oper} {o : Oper} {a : Act} {w : World} {K : Act → World → Prop} {Q : Exit → Act → World → Prop} {E : Prop} (hgd : o.guard = none) (x y : Operand)
    (ho : o.op = .call { callee := .builtin .append, args := #[x, y], argTypes := #[s.st, s.st] }) (hty : o.type = s.st) (B : Nat) (v u : Value) (m l : List α) (hx : a.eval x = v) (hy : a.eval y = u)
    (hlen : m.length + l.length ≤ 34359738368) (hown : rw.Own s w B v m) (hB : B ≤ w.heap.size) (hu : rw.Sl s w u l)
    (h : ∀ v' w', rw.Own s w' B v' (m ++ l) → Below B w w' → K (a.put o.dst v') w') :
    if Region.wanted o (yielded ops a.tmps) = true then Oper.wp Try.prog o a w K Q else E := by
  have hw : Region.wanted o (yielded ops a.tmps) = true := by simp [Region.wanted, hgd]
  rw [if_pos hw]
  obtain ⟨v', w', hr, h2, h3, h4⟩ := rw.append_own s B v m l u hlen w hown hB hu
  unfold rw.App at hr
  unfold Oper.wp execOp
  simp only [ho, hty, resolve, invoke, builtin, Sem.run_bind, Sem.run_pure, Result.andThen_ok, List.map_toArray, List.map_cons, List.map_nil, hx, hy, hr]
  exact h v' w' h2 h3
set_option maxHeartbeats 8000000 in
set_option maxRecDepth 100000 in
theorem rbehind_any (g : Lg) (cv ev : Value) (prev t : Nat) (lv : Value) (l : List EnIn) (hp : prev < 18446744073709551616) (ht : t < 18446744073709551616) (hl : l.length ≤ 1000000) (hf : Fit g) (w : World) (h : LV w cv ev g) (hlv : rw.Sl enSh w lv l) :
    Calls Try.prog 49 #[g.v cv ev, .int .u64 (prev : Nat), .int .u64 (t : Nat), lv] w (RmOut w cv ev (g.behind prev t l)) := by
  obtain ⟨ca, cc, rfl⟩ := sl_form h.c
  obtain ⟨ea, ec, rfl⟩ := sl_form h.l
  obtain ⟨nc, hnc⟩ : ∃ n, g.conf.length = n := ⟨_, rfl⟩
  obtain ⟨ne, hne⟩ : ∃ n, g.es.length = n := ⟨_, rfl⟩
  rw [hnc, hne] at h ⊢
  have HN := Lib.hid (And.intro hnc hne)
  clear hnc hne
  obtain ⟨cv, hcv⟩ : ∃ v, Value.slice ca nc cc = v := ⟨_, rfl⟩
  obtain ⟨ev, hev⟩ : ∃ v, Value.slice ea ne ec = v := ⟨_, rfl⟩
  rw [hcv, hev] at h ⊢
  have H0 := Lib.hid (In2.start h)
  have HV := Lib.hid h
  have HF := Lib.hid hf
  have HX := Lib.hid hlv
  obtain ⟨la, lc, rfl⟩ := sl_form hlv
  obtain ⟨R, hR⟩ : ∃ R, g.behind prev t l = R := ⟨_, rfl⟩
  have HR := Lib.hid hR
  rw [hR]
  have HE : Hid (∀ z (hz : z < 18446744073709551616) W (b : Below w.heap.size w W), Calls Try.prog 40 #[.agg #[.int .u64 (g.base : Nat), .int .u64 (g.bt : Nat), cv, ev], .int .u64 (z : Nat)] W fun e w' => e = .returned (.tuple #[.agg #[.int .u64 ((g.ent z).1.term : Nat), .int .i64 (g.ent z).1.kind, .string (S (g.ent z).1.data)], .bool (g.ent z).2]) ∧ Below W.heap.size W w') := fun z hz W b => entry_any g cv ev z hz hf W (h.later b)
  have HT := Lib.hid fun W (b : Below w.heap.size w W) => rterm_any g cv ev prev hp hf W (h.later b)
  obtain ⟨T, hT⟩ : ∃ T, g.term prev = T := ⟨_, rfl⟩
  rw [hT] at HT
  have HTT := Lib.hid hT
  obtain ⟨tt, tb⟩ := T
  clear h hf hlv hR hT
  subst hcv hev
  go_enter Try.func49, Try.ntmps49
  go_upto_region 1 with (fail)
  generalize (w.alloc (.cells #[.int .u64 (g.base : Nat), .int .u64 (g.bt : Nat), .slice ca nc cc, .slice ea ne ec] 26)).alloc (.cells #[.int .u64 0, .int .u64 0, .slice none 0 0, .slice none 0 0] 26) = W0 at *
  obtain ⟨x0, x1, x2, x3⟩ := H0.out.cg
  have hT := HT.out W0 H0.out.b
  go_wp2_with fail
  with_reducible refine hT.mono ?_
  clear hT x0 x1 x2 x3 HT
  rintro e w1 ⟨rfl, b1⟩
  have H1 := Lib.hid (H0.out.below b1)
  clear b1 H0
  obtain ⟨x0, x1, x2, x3⟩ := H1.out.cg
  obtain ⟨y0, y1, y2, y3, f0, f1, f2, f3⟩ := H1.out.cr
  by_cases c : (tt, tb) = (t, true)
  · obtain ⟨rfl, rfl⟩ := Prod.mk.inj c
    clear c
    have hrr : g.rch prev = true := by
      rcases hr : g.rch prev with _ | _
      · have := HTT.out; rw [Lg.term_no hr] at this; cases this
      · rfl
    have hup := Lg.upTo_of hrr
    have hri := Lg.rch_iff.1 hrr
    unfold Lg.last at hri
    have hfb := HF.out.base
    have hfe := HF.out.es
    rw [HN.out.2] at hri hfe
    have hob := H1.out.fr.lt
    have HB0 : Hid (Bh w (w1.alloc (.cells #[.int .u64 (g.base : Nat), .int .u64 (g.bt : Nat), .slice ca nc cc, .slice none 0 0] 26)) (.slice ca nc cc) (.slice ea ne ec) g w1.heap.size (.slice none 0 0) (g.es.take 0)) := by
      have k := below_box w1 (.cells #[.int .u64 (g.base : Nat), .int .u64 (g.bt : Nat), .slice ca nc cc, .slice none 0 0] 26)
      exact ⟨⟨H1.out.fg.below k, H1.out.v.later k, H1.out.b.trans (k.mono H1.out.b.size)⟩, H1.out.fr.below k, Arr.new w1 _ _, hob, rw.Own.nil _ _ _⟩
    clear y0 y1 y2 y3 f0 f1 f2 f3
    have f1 : IntKind.u64.wrap ((g.base : Int) + 1) = (g.base : Int) + 1 := u64_in _ (by omega)
    go_upto_region 6 with (fail)
    clear x0 x1 x2 x3 H1
    generalize w1.alloc (.cells #[.int .u64 (g.base : Nat), .int .u64 (g.bt : Nat), .slice ca nc cc, .slice none 0 0] 26) = F at *
    obtain ⟨ob, hobe⟩ : ∃ b, w1.heap.size = b := ⟨_, rfl⟩
    rw [hobe] at HB0 hob ⊢
    clear hobe
    obtain ⟨y0, y1, y2, y3⟩ := HB0.out.gb.cells
    go_wp2_with fail
    clear y0 y1 y2 y3
    go_loopw [15] (fun iv wr => ∃ (z j : Nat) (oa : Option Addr) (oc : Nat), iv = .int .u64 (z : Nat) ∧ z ≤ prev + 1 ∧ z = g.base + 1 + j ∧ Hid (Bh w wr (.slice ca nc cc) (.slice ea ne ec) g ob (.slice oa j oc) (g.es.take j)))
      (fun iv _ => prev + 1 - (intOf iv).toNat)
    case atStart => exact ⟨g.base + 1, 0, none, 0, by rw [Int.natCast_add]; rfl, by omega, rfl, HB0.out⟩
    case round =>
      obtain ⟨z, j, oa, oc, rfl, hz, hzj, HI⟩ := hrel
      by_cases hzp : z ≤ prev
      · have hki : (z : Int) ≤ (prev : Int) := by omega
        have hjl : j < g.es.length := by rw [HN.out.2]; omega
        have hent : g.ent z = (g.es[j], true) := by
          unfold Lg.ent
          rw [if_pos ⟨by omega, by unfold Lg.last; omega⟩, show z - g.base - 1 = j by omega, getD_at hjl]
        have hE := HE.out z (by omega) wr HI.out.gb.b
        rw [hent] at hE
        obtain ⟨x, hx⟩ : ∃ x, g.es[j] = x := ⟨_, rfl⟩
        rw [hx] at hE
        have htk : g.es.take (j + 1) = g.es.take j ++ [x] := by rw [List.take_succ_eq_append_getElem hjl, hx]
        have hlj : (g.es.take j).length = j := by rw [List.length_take]; omega
        have hlj1 : (g.es.take (j + 1)).length = j + 1 := by rw [List.length_take]; omega
        obtain ⟨xt, xk, xd⟩ := x
        dsimp only at hE
        have f2 : IntKind.u64.wrap ((z : Int) + 1) = ((z + 1 : Nat) : Int) := by rw [u64_in _ (by omega)]; omega
        obtain ⟨z1, hz1⟩ : ∃ z1, z + 1 = z1 := ⟨_, rfl⟩
        rw [hz1] at f2
        have HTK := Lib.hid (And.intro htk (And.intro hlj hlj1))
        have HZ : Hid (z1 ≤ prev + 1 ∧ z1 = g.base + 1 + (j + 1) ∧ prev + 1 - z1 < prev + 1 - z ∧ j < 100000000) := ⟨by omega, by omega, by omega, by omega⟩
        obtain ⟨x0, x1, x2, x3⟩ := HI.out.gb.cells
        clear hent hx htk hlj hlj1 hz1 hjl hzj hz
        go_wp2_with fail
        with_reducible refine hE.mono ?_
        clear hE x0 x1 x2 x3
        rintro e w2 ⟨rfl, b2⟩
        have kb := below_box w2 (.cells #[.int .u64 (xt : Nat), .int .i64 xk, .string (S xd)] 54)
        have H3 := Lib.hid ((HI.out.below b2).below kb)
        clear b2 kb HI
        obtain ⟨o', w', g1, g2, g3⟩ := rw.append_one enSh (ob + 1) _ (g.es.take j) ⟨xt, xk, xd⟩ (by rw [HTK.out.2.1]; have := HZ.out.2.2.2; omega) (w2.alloc (.cells #[.int .u64 (xt : Nat), .int .i64 xk, .string (S xd)] 54)) H3.out.l H3.out.x.lt
        rw [← HTK.out.1] at g2
        obtain ⟨a', c', ho'⟩ := g2.form
        rw [HTK.out.2.2] at ho'
        subst ho'
        have HR1 : Hid ((Builtin.append_ #[24, 24] 24 #[.slice oa j oc, .slice (some ⟨w2.heap.size + 1, 0, none⟩) 1 1]).run Try.prog ((w2.alloc (.cells #[.int .u64 (xt : Nat), .int .i64 xk, .string (S xd)] 54)).alloc (.cells #[.int .u64 (xt : Nat), .int .i64 xk, .string (S xd)] 54)) = .ok (.slice a' (j + 1) c') w') := by
          have g := g1
          rw [World.size_alloc] at g
          exact g
        have hx' := H3.out.at_ g3
        have kx : (w2.alloc (.cells #[.int .u64 (xt : Nat), .int .i64 xk, .string (S xd)] 54)).cell? ⟨ob, 3, none⟩ = some (.slice oa j oc) := H3.out.x.cell rfl
        have kx' : w'.cell? ⟨ob, 3, none⟩ = some (.slice oa j oc) := hx'.cell rfl
        have kf' : w'.frozen? ⟨ob, 3, none⟩ = false := hx'.frozen 3
        have HI2 := Lib.hid (H3.out.push HV.out g2 g3)
        clear g1 g2 g3 hx' H3
        go_wp2_with (at_builtin; refine rw.wpList_append_at _ _ _ rfl rfl _ _ _ _ rfl rfl HR1.out ?_)
        exact ⟨⟨z1, j + 1, a', c', rfl, HZ.out.1, HZ.out.2.1, HI2⟩, by simp only [intOf]; have := HZ.out.2.2.1; omega⟩
      · have hki : ¬ (z : Int) ≤ (prev : Int) := by omega
        have hj : j = g.upTo prev := by rw [hup]; omega
        have f4 : IntKind.u64.wrap ((prev : Int) + 1) = (prev : Int) + 1 := u64_in _ (by omega)
        have HJ : Hid (∃ L, Mix g (g.upTo prev) l 0 0 L ∧ L.length = j ∧ Bh w wr (.slice ca nc cc) (.slice ea ne ec) g ob (.slice oa j oc) L) :=
          ⟨g.es.take j, hj ▸ Mix.start g _ l, by rw [List.length_take, HN.out.2]; omega, HI.out⟩
        have HUP : Hid (g.upTo prev = prev - g.base ∧ g.base ≤ prev ∧ prev ≤ g.base + ne) := ⟨hup, hri.1, hri.2⟩
        clear HI hz hzj hj
        go_wp2_with fail
        go_loopw [14, 18] (fun av iv wr => ∃ (a k m : Nat) (oa : Option Addr) (oc : Nat), av = .int .u64 (a : Nat) ∧ iv = .int .i64 (k : Nat) ∧ k ≤ l.length ∧ a < 18446744073709551616 ∧ Hid (∃ L, Mix g (g.upTo prev) l k a L ∧ L.length = m ∧ Bh w wr (.slice ca nc cc) (.slice ea ne ec) g ob (.slice oa m oc) L))
          (fun _ iv _ => l.length - (intOf iv).toNat)
        case atStart => exact ⟨0, 0, j, oa, oc, rfl, rfl, Nat.zero_le _, by decide, HJ.out⟩
        case round =>
          clear HJ
          obtain ⟨a, k, m, oa, oc, rfl, rfl, hk, ha, HS⟩ := hrel
          by_cases hlt : k < l.length
          · have hki2 : (k : Int) < (l.length : Int) := by omega
            obtain ⟨L, hM, hLm, hB⟩ := HS.out
            obtain ⟨q, hq⟩ : ∃ q, prev + 1 + k = q := ⟨_, rfl⟩
            have f3 : IntKind.u64.wrap (k : Int) = (k : Int) := u64_in _ (by omega)
            have f5 : IntKind.u64.wrap ((prev : Int) + 1 + (k : Int)) = (q : Int) := by rw [u64_in _ (by omega)]; omega
            have hE := HE.out q (by omega) wr hB.gb.b
            have hqq := HUP.out
            obtain ⟨E, hEE⟩ : ∃ E, g.ent q = E := ⟨_, rfl⟩
            rw [hEE] at hE
            obtain ⟨⟨xt, xk, xd⟩, xb⟩ := E
            dsimp only at hE
            have HQ : Hid (q = g.base + (g.upTo prev + k) + 1 ∧ (xb = true → ∃ h1 : g.upTo prev + k < g.es.length, g.es[g.upTo prev + k] = ⟨xt, xk, xd⟩) ∧ (xb = false → ¬ g.upTo prev + k < g.es.length) ∧ q < 18446744073709551616 ∧ q ≠ 0) := by
              refine ⟨by omega, fun hb => ?_, fun hb => ?_, by omega, by omega⟩
              · obtain ⟨h1, h2, h3, h4⟩ := Lg.ent_yes (g := g) (z := q) (by rw [hEE]; exact hb)
                have e : q - g.base - 1 = g.upTo prev + k := by omega
                rw [hEE] at h4
                simp only [e] at h3 h4
                exact ⟨h3, h4.symm⟩
              · have h1 := Lg.ent_none (g := g) (z := q) (by rw [hEE]; exact hb)
                unfold Lg.last at h1
                omega
            have HM := Lib.hid (And.intro hM hLm)
            have HB := Lib.hid hB
            obtain ⟨x0, x1, x2, x3⟩ := HB.out.gb.cells
            clear hEE hqq hM hLm hB hq HS
            go_wp2_with fail
            with_reducible refine hE.mono ?_
            clear hE x0 x1 x2 x3
            rintro e w2 ⟨rfl, b2⟩
            have kb := below_box w2 (.cells #[.int .u64 (xt : Nat), .int .i64 xk, .string (S xd)] 54)
            have H3 := Lib.hid ((HB.out.below b2).below kb)
            have HA := Lib.hid (Arr.new w2 54 #[.int .u64 (xt : Nat), .int .i64 xk, .string (S xd)])
            clear b2 kb HB
            go_upto_region 17 with (fail)
            generalize w2.alloc (.cells #[.int .u64 (xt : Nat), .int .i64 xk, .string (S xd)] 54) = X1 at *
            generalize w2.heap.size = eb at *
            have HLm : Hid (m ≤ 2000000) := by
              have h1 := HM.out.1.len
              have h2 := HM.out.2
              have h3 := HN.out.2
              show m ≤ _
              omega
            obtain ⟨b, off, c, e, hbw, z0, z1, z2⟩ := slE_at (HX.out.later _ H3.out.gb.b) hlt
            injection e with e1 e2 e3
            subst e1 e3
            clear e2 hbw
            obtain ⟨y, hy⟩ : ∃ y, l[k] = y := ⟨_, rfl⟩
            rw [hy] at z0 z1 z2
            obtain ⟨yt, yk, yd⟩ := y
            simp only at z0 z1 z2
            obtain ⟨u0, u1, u2⟩ : X1.cell? ⟨eb, 0, none⟩ = some (.int .u64 (xt : Nat)) ∧ X1.cell? ⟨eb, 1, none⟩ = some (.int .i64 xk) ∧ X1.cell? ⟨eb, 2, none⟩ = some (.string (S xd)) := ⟨HA.out.cell rfl, HA.out.cell rfl, HA.out.cell rfl⟩
            have HY := Lib.hid hy
            clear hy
            have hq0 : ((q : Int) == 0) = false := beq_eq_false_iff_ne.2 (by have := HQ.out.2.2.2.2; omega)
            have HZ : Hid (∀ W (B : Below w.heap.size w W), W.cell? ⟨b, off + k * 3, none⟩ = some (.int .u64 (yt : Nat)) ∧ W.cell? ⟨b, off + k * 3 + 1, none⟩ = some (.int .i64 yk) ∧ W.cell? ⟨b, off + k * 3 + 2, none⟩ = some (.string (S yd))) := fun W B => by
              obtain ⟨b', off', c', e', _, z0', z1', z2'⟩ := slE_at (HX.out.later _ B) hlt
              injection e' with e1' e2' e3'
              injection e1' with e1'
              injection e1' with h1 h2 _
              subst h1 h2
              rw [HY.out] at z0' z1' z2'
              exact ⟨z0', z1', z2'⟩
            by_cases ca0 : a = 0
            · subst ca0
              cases xb with
              | true =>
                by_cases ct : xt = yt
                · subst ct
                  have HMs : Hid (Mix g (g.upTo prev) l (k + 1) 0 (L ++ [⟨xt, xk, xd⟩])) := by
                    obtain ⟨h1, h2⟩ := HQ.out.2.1 rfl
                    have := HM.out.1.same hlt h1 (by rw [h2, HY.out])
                    rw [h2] at this
                    exact this
                  go_quiet (fail)
                  have HB2 : Hid (Bh w (X1.drewN nq) (.slice ca nc cc) (.slice ea ne ec) g ob (.slice oa m oc) L) := H3.out.below (below_drewN (Below.refl _ _) nq)
                  have HA2 : Hid (Arr (X1.drewN nq) eb 54 #[.int .u64 (xt : Nat), .int .i64 xk, .string (S xd)]) := HA.out.below (below_drewN (Below.refl _ _) nq)
                  clear z0 z1 z2 u0 u1 u2
                  generalize X1.drewN nq = X2 at *
                  obtain ⟨u0, u1, u2⟩ : X2.cell? ⟨eb, 0, none⟩ = some (.int .u64 (xt : Nat)) ∧ X2.cell? ⟨eb, 1, none⟩ = some (.int .i64 xk) ∧ X2.cell? ⟨eb, 2, none⟩ = some (.string (S xd)) := ⟨HA2.out.cell rfl, HA2.out.cell rfl, HA2.out.cell rfl⟩
                  obtain ⟨o', w', g1, g2, g3⟩ := rw.append_one enSh (ob + 1) _ L ⟨xt, xk, xd⟩ (by rw [HM.out.2]; have := HLm.out; omega) X2 HB2.out.l HB2.out.x.lt
                  have HG2 : Hid (Mix g (g.upTo prev) l (k + 1) 0 (L ++ [⟨xt, xk, xd⟩]) ∧ (L ++ [(⟨xt, xk, xd⟩ : EnIn)]).length = m + 1) := ⟨HMs.out, by rw [List.length_append, HM.out.2]; rfl⟩
                  obtain ⟨a', c', ho'⟩ := g2.form
                  rw [HG2.out.2] at ho'
                  subst ho'
                  have HR1 : Hid ((Builtin.append_ #[24, 24] 24 #[.slice oa m oc, .slice (some ⟨X2.heap.size, 0, none⟩) 1 1]).run Try.prog (X2.alloc (.cells #[.int .u64 (xt : Nat), .int .i64 xk, .string (S xd)] 54)) = .ok (.slice a' (m + 1) c') w') := g1
                  have hx' := HB2.out.at_ g3
                  have kx : X2.cell? ⟨ob, 3, none⟩ = some (.slice oa m oc) := HB2.out.x.cell rfl
                  have kx' : w'.cell? ⟨ob, 3, none⟩ = some (.slice oa m oc) := hx'.cell rfl
                  have kf' : w'.frozen? ⟨ob, 3, none⟩ = false := hx'.frozen 3
                  have HI2 := Lib.hid (HB2.out.push HV.out g2 g3)
                  clear g1 g2 g3 hx' H3 HA HA2 HB2
                  go_wp2_with (at_builtin; refine rw.wpList_append_at _ _ _ rfl rfl _ _ _ _ rfl rfl HR1.out ?_)
                  exact ⟨⟨0, k + 1, m + 1, a', c', rfl, by rw [Int.natCast_add]; rfl, by omega, by decide, _, HG2.out.1, HG2.out.2, HI2.out⟩, by simp only [intOf]; omega⟩
                · have q1 : decide ((xt : Int) = (yt : Int)) = false := decide_eq_false (by omega)
                  have q2 : decide (xt = yt) = false := decide_eq_false ct
                  have HMs : Hid (Mix g (g.upTo prev) l (k + 1) q (L ++ [⟨yt, yk, yd⟩])) := by rw [HQ.out.1]; have := HM.out.1.turn hlt (fun h1 e => ct (by obtain ⟨h2, h3⟩ := HQ.out.2.1 rfl; rw [h3, HY.out] at e; exact e)); rw [HY.out] at this; exact this
                  have HG2 : Hid ((L ++ [(⟨yt, yk, yd⟩ : EnIn)]).length = m + 1) := by show (_ ++ _ : List EnIn).length = _; rw [List.length_append, HM.out.2]; rfl
                  go_quiet (fail)
                  have HB2 : Hid (Bh w (X1.drewN nq) (.slice ca nc cc) (.slice ea ne ec) g ob (.slice oa m oc) L) := H3.out.below (below_drewN (Below.refl _ _) nq)
                  go_upto_region 21 with (fail)
                  clear z0 z1 z2 u0 u1 u2
                  generalize X1.drewN nq = X2 at *
                  have HB3 : Hid (Bh w X2.drew (.slice ca nc cc) (.slice ea ne ec) g ob (.slice oa m oc) L) := HB2.out.below (below_drew (Below.refl _ _))
                  have HB4 : Hid (Bh w (X2.alloc (.cells #[.int .u64 (yt : Nat), .int .i64 yk, .string (S yd)] 54)).drew (.slice ca nc cc) (.slice ea ne ec) g ob (.slice oa m oc) L) := (HB2.out.below (below_box X2 _)).below (below_drew (Below.refl _ _))
                  have HSl : Hid (rw.Sl enSh (X2.alloc (.cells #[.int .u64 (yt : Nat), .int .i64 yk, .string (S yd)] 54)).drew (.slice (some ⟨X2.heap.size, 0, none⟩) 1 1) [⟨yt, yk, yd⟩]) := ((rw.Own.lit enSh X2 [⟨yt, yk, yd⟩] (by simp) (by simp)).sl).later _ (below_drew (Below.refl _ _))
                  obtain ⟨z0, z1, z2⟩ := HZ.out X2.drew HB3.out.gb.b
                  have kx : X2.drew.cell? ⟨ob, 3, none⟩ = some (.slice oa m oc) := HB3.out.x.cell rfl
                  have kx2 : (X2.alloc (.cells #[.int .u64 (yt : Nat), .int .i64 yk, .string (S yd)] 54)).drew.cell? ⟨ob, 3, none⟩ = some (.slice oa m oc) := HB4.out.x.cell rfl
                  go_region_law
                    (first
                      | (refine step_apb enSh rfl (.tmp 101) (.tmp 106) rfl rfl (ob + 1) _ _ L [⟨yt, yk, yd⟩] rfl rfl (by rw [HM.out.2]; have := HLm.out; simp only [List.length_cons, List.length_nil]; omega) HB4.out.l HB4.out.x.lt HSl.out ?_; intro v' w' o' b'; obtain ⟨a', c', ho'⟩ := o'.form; rw [HG2.out] at ho'; subst ho'; have hx' := HB4.out.at_ b'; have kx' : w'.cell? ⟨ob, 3, none⟩ = some (.slice oa m oc) := hx'.cell rfl; have kf' : w'.frozen? ⟨ob, 3, none⟩ = false := hx'.frozen 3; have HI2 := Lib.hid (HB4.out.push HV.out o' b'); clear o' b' hx'))
                  all_goals go_wp2_with fail
                  all_goals exact ⟨⟨q, k + 1, m + 1, a', c', rfl, by rw [Int.natCast_add]; rfl, by omega, by first | exact HQ.out.2.2.2.1 | omega, _, HMs.out, HG2.out, HI2.out⟩, by simp only [intOf]; omega⟩
              | false =>
                have HMs : Hid (Mix g (g.upTo prev) l (k + 1) q (L ++ [⟨yt, yk, yd⟩])) := by rw [HQ.out.1]; have := HM.out.1.turn hlt (fun h1 _ => HQ.out.2.2.1 rfl h1); rw [HY.out] at this; exact this
                have HG2 : Hid ((L ++ [(⟨yt, yk, yd⟩ : EnIn)]).length = m + 1) := by show (_ ++ _ : List EnIn).length = _; rw [List.length_append, HM.out.2]; rfl
                go_quiet (fail)
                have HB2 : Hid (Bh w (X1.drewN nq) (.slice ca nc cc) (.slice ea ne ec) g ob (.slice oa m oc) L) := H3.out.below (below_drewN (Below.refl _ _) nq)
                go_upto_region 21 with (fail)
                clear z0 z1 z2 u0 u1 u2
                generalize X1.drewN nq = X2 at *
                have HB3 : Hid (Bh w X2.drew (.slice ca nc cc) (.slice ea ne ec) g ob (.slice oa m oc) L) := HB2.out.below (below_drew (Below.refl _ _))
                have HB4 : Hid (Bh w (X2.alloc (.cells #[.int .u64 (yt : Nat), .int .i64 yk, .string (S yd)] 54)).drew (.slice ca nc cc) (.slice ea ne ec) g ob (.slice oa m oc) L) := (HB2.out.below (below_box X2 _)).below (below_drew (Below.refl _ _))
                have HSl : Hid (rw.Sl enSh (X2.alloc (.cells #[.int .u64 (yt : Nat), .int .i64 yk, .string (S yd)] 54)).drew (.slice (some ⟨X2.heap.size, 0, none⟩) 1 1) [⟨yt, yk, yd⟩]) := ((rw.Own.lit enSh X2 [⟨yt, yk, yd⟩] (by simp) (by simp)).sl).later _ (below_drew (Below.refl _ _))
                obtain ⟨z0, z1, z2⟩ := HZ.out X2.drew HB3.out.gb.b
                have kx : X2.drew.cell? ⟨ob, 3, none⟩ = some (.slice oa m oc) := HB3.out.x.cell rfl
                have kx2 : (X2.alloc (.cells #[.int .u64 (yt : Nat), .int .i64 yk, .string (S yd)] 54)).drew.cell? ⟨ob, 3, none⟩ = some (.slice oa m oc) := HB4.out.x.cell rfl
                go_region_law
                  (first
                    | (refine step_apb enSh rfl (.tmp 101) (.tmp 106) rfl rfl (ob + 1) _ _ L [⟨yt, yk, yd⟩] rfl rfl (by rw [HM.out.2]; have := HLm.out; simp only [List.length_cons, List.length_nil]; omega) HB4.out.l HB4.out.x.lt HSl.out ?_; intro v' w' o' b'; obtain ⟨a', c', ho'⟩ := o'.form; rw [HG2.out] at ho'; subst ho'; have hx' := HB4.out.at_ b'; have kx' : w'.cell? ⟨ob, 3, none⟩ = some (.slice oa m oc) := hx'.cell rfl; have kf' : w'.frozen? ⟨ob, 3, none⟩ = false := hx'.frozen 3; have HI2 := Lib.hid (HB4.out.push HV.out o' b'); clear o' b' hx'))
                all_goals go_wp2_with fail
                all_goals exact ⟨⟨q, k + 1, m + 1, a', c', rfl, by rw [Int.natCast_add]; rfl, by omega, by first | exact HQ.out.2.2.2.1 | omega, _, HMs.out, HG2.out, HI2.out⟩, by simp only [intOf]; omega⟩
            · have q1 : decide ((a : Int) = 0) = false := decide_eq_false (by omega)
              have q2 : decide (a = 0) = false := decide_eq_false ca0
              have q3 : ((a : Int) == 0) = false := beq_eq_false_iff_ne.2 (by omega)
              have HMs : Hid (Mix g (g.upTo prev) l (k + 1) a (L ++ [⟨yt, yk, yd⟩])) := by have := HM.out.1.on ca0 hlt; rw [HY.out] at this; exact this
              have HG2 : Hid ((L ++ [(⟨yt, yk, yd⟩ : EnIn)]).length = m + 1) := by show (_ ++ _ : List EnIn).length = _; rw [List.length_append, HM.out.2]; rfl
              go_quiet (fail)
              have HB2 : Hid (Bh w (X1.drewN nq) (.slice ca nc cc) (.slice ea ne ec) g ob (.slice oa m oc) L) := H3.out.below (below_drewN (Below.refl _ _) nq)
              go_upto_region 21 with (fail)
              clear z0 z1 z2 u0 u1 u2
              generalize X1.drewN nq = X2 at *
              have HB3 : Hid (Bh w X2.drew (.slice ca nc cc) (.slice ea ne ec) g ob (.slice oa m oc) L) := HB2.out.below (below_drew (Below.refl _ _))
              have HB4 : Hid (Bh w (X2.alloc (.cells #[.int .u64 (yt : Nat), .int .i64 yk, .string (S yd)] 54)).drew (.slice ca nc cc) (.slice ea ne ec) g ob (.slice oa m oc) L) := (HB2.out.below (below_box X2 _)).below (below_drew (Below.refl _ _))
              have HSl : Hid (rw.Sl enSh (X2.alloc (.cells #[.int .u64 (yt : Nat), .int .i64 yk, .string (S yd)] 54)).drew (.slice (some ⟨X2.heap.size, 0, none⟩) 1 1) [⟨yt, yk, yd⟩]) := ((rw.Own.lit enSh X2 [⟨yt, yk, yd⟩] (by simp) (by simp)).sl).later _ (below_drew (Below.refl _ _))
              obtain ⟨z0, z1, z2⟩ := HZ.out X2.drew HB3.out.gb.b
              have kx : X2.drew.cell? ⟨ob, 3, none⟩ = some (.slice oa m oc) := HB3.out.x.cell rfl
              have kx2 : (X2.alloc (.cells #[.int .u64 (yt : Nat), .int .i64 yk, .string (S yd)] 54)).drew.cell? ⟨ob, 3, none⟩ = some (.slice oa m oc) := HB4.out.x.cell rfl
              go_region_law
                (first
                  | (refine step_apb enSh rfl (.tmp 101) (.tmp 106) rfl rfl (ob + 1) _ _ L [⟨yt, yk, yd⟩] rfl rfl (by rw [HM.out.2]; have := HLm.out; simp only [List.length_cons, List.length_nil]; omega) HB4.out.l HB4.out.x.lt HSl.out ?_; intro v' w' o' b'; obtain ⟨a', c', ho'⟩ := o'.form; rw [HG2.out] at ho'; subst ho'; have hx' := HB4.out.at_ b'; have kx' : w'.cell? ⟨ob, 3, none⟩ = some (.slice oa m oc) := hx'.cell rfl; have kf' : w'.frozen? ⟨ob, 3, none⟩ = false := hx'.frozen 3; have HI2 := Lib.hid (HB4.out.push HV.out o' b'); clear o' b' hx'))
              all_goals go_wp2_with fail
              all_goals exact ⟨⟨a, k + 1, m + 1, a', c', rfl, by rw [Int.natCast_add]; rfl, by omega, by first | exact HQ.out.2.2.2.1 | omega, _, HMs.out, HG2.out, HI2.out⟩, by simp only [intOf]; omega⟩
          · obtain rfl : k = l.length := by omega
            obtain ⟨L, hM, hLm, hB⟩ := HS.out
            have hki2 : ¬ (l.length : Int) < (l.length : Int) := by omega
            have HB := Lib.hid hB
            obtain ⟨x0, x1, x2, x3⟩ := HB.out.gb.cells
            obtain ⟨y0, y1, y2, y3⟩ : wr.cell? ⟨w.heap.size + 1, 0, none⟩ = some (.int .u64 0) ∧ wr.cell? ⟨w.heap.size + 1, 1, none⟩ = some (.int .u64 0) ∧ wr.cell? ⟨w.heap.size + 1, 2, none⟩ = some (.slice none 0 0) ∧ wr.cell? ⟨w.heap.size + 1, 3, none⟩ = some (.slice none 0 0) := ⟨HB.out.r.cell rfl, HB.out.r.cell rfl, HB.out.r.cell rfl, HB.out.r.cell rfl⟩
            obtain ⟨g0, g1, g2, g3⟩ : wr.frozen? ⟨w.heap.size + 1, 0, none⟩ = false ∧ wr.frozen? ⟨w.heap.size + 1, 1, none⟩ = false ∧ wr.frozen? ⟨w.heap.size + 1, 2, none⟩ = false ∧ wr.frozen? ⟨w.heap.size + 1, 3, none⟩ = false := ⟨HB.out.r.frozen 0, HB.out.r.frozen 1, HB.out.r.frozen 2, HB.out.r.frozen 3⟩
            obtain ⟨v0, v1, v2, v3⟩ : wr.cell? ⟨ob, 0, none⟩ = some (.int .u64 (g.base : Nat)) ∧ wr.cell? ⟨ob, 1, none⟩ = some (.int .u64 (g.bt : Nat)) ∧ wr.cell? ⟨ob, 2, none⟩ = some (.slice ca nc cc) ∧ wr.cell? ⟨ob, 3, none⟩ = some (.slice oa m oc) := ⟨HB.out.x.cell rfl, HB.out.x.cell rfl, HB.out.x.cell rfl, HB.out.x.cell rfl⟩
            by_cases ca0 : a = 0
            · subst ca0
              have HRR : Hid (R = (g, 0, true)) := by
                show R = _
                rw [← HR.out]
                exact hM.all HTT.out
              have HD := Lib.hid (Bh.same HV.out HB.out HRR.out)
              have hz := Lib.hid (layL_arr (base := g.base) (bterm := g.bt) (cv := .slice ca nc cc) (ev := .slice ea ne ec) HB.out.r)
              clear hB hM HS HB
              go_wp2_with fail
              exact bodyPost_ret (results_lgm rfl rfl rfl rfl hz.out) rfl HD.out
            · have q1 : decide ((a : Int) = 0) = false := decide_eq_false (by omega)
              have q2 : decide (a = 0) = false := decide_eq_false ca0
              have q3 : ((a : Int) == 0) = false := beq_eq_false_iff_ne.2 (by omega)
              have HRR : Hid (R = (⟨g.base, g.bt, g.conf, L⟩, a, true)) := by
                show R = _
                rw [← HR.out]
                exact hM.some ca0 HTT.out
              have HD := Lib.hid (Bh.done HV.out HB.out HRR.out)
              have hz := Lib.hid (layL_arr (base := g.base) (bterm := g.bt) (cv := .slice ca nc cc) (ev := .slice oa m oc) HB.out.r)
              clear hB hM HS HB ca0
              go_wp2_with fail
              exact bodyPost_ret (results_lgm rfl rfl rfl rfl hz.out) rfl HD.out
  · have HRR : Hid (R = (g, 0, false)) := by
      show R = _
      rw [← HR.out, Lg.behind, if_neg (by rw [HTT.out]; exact c)]
    have HD := Lib.hid (In2.same HV.out H1.out HRR.out)
    have ha := Lib.hid (layL_arr (base := g.base) (bterm := g.bt) (cv := .slice ca nc cc) (ev := .slice ea ne ec) H1.out.fr)
    cases tb with
    | false =>
      clear c
      go_wp2_with fail
      exact bodyPost_ret (results_lgm rfl rfl rfl rfl ha.out) rfl HD.out
    | true =>
      have q1 : decide ((tt : Int) = (t : Int)) = false := decide_eq_false (fun e => c (by rw [Int.ofNat.inj e]))
      have q2 : ¬ tt = t := fun e => c (by rw [e])
      clear c
      go_wp2_with fail
      exact bodyPost_ret (results_lgm rfl rfl rfl rfl ha.out) rfl HD.out
end Go.Proofs.Ythhnhnljefiboaa.tl
/-! TlR6 -/
namespace Go.Proofs.Ythhnhnljefiboaa.tl
set_option linter.unusedVariables false
open Go.RowKit
open pk (S S_size S_data)
open qm (Bs noSh)
open rw (Arr But below_box bnext below_drew below_drewN)

theorem off_old {α : Type} {s : rw.Sh α} {w W : World} {v : Value} {l l' : List α} (h : rw.Sl s w v l) (h' : rw.Sl s W v l') {q : Nat} (hq : w.heap.size ≤ q) : rw.Off q v l' := by
  obtain ⟨a, c, e⟩ := sl_form h
  obtain ⟨a', c', e'⟩ := sl_form h'
  intro hne e2
  have hl : l.length = l'.length := by
    rw [e] at e'
    injection e'
  have hne2 : l ≠ [] := by
    intro e3
    rw [e3] at hl
    exact hne (List.length_eq_zero_iff.1 hl.symm)
  have := h.lt s hne2 e2
  omega
/-- What was told is laid into the result's box. -/
theorem RmOut.lay {w W1 W : World} {cv ev eu : Value} {g : Lg} {r : Lg × Nat × Bool} (h0 : LV w cv ev g) (hw : Below w.heap.size w W1) (a : In2 w W cv ev g) (o1 : rw.Sl noSh W cv r.1.conf) (o2 : rw.Sl enSh W eu r.1.es) (o3 : eu = ev ∨ rw.Own enSh W W1.heap.size eu r.1.es) :
    RmOut w cv ev r (.returned (.tuple #[.agg (lgC r.1.base r.1.bt cv eu), .int .u64 (r.2.1 : Nat), .bool r.2.2])) (layL W (w.heap.size + 1) r.1.base r.1.bt cv eu) := by
  have k := layL_but W (w.heap.size + 1) r.1.base r.1.bt cv eu
  have b := a.b.trans (k.below a.b.size (by omega))
  have o4 := o1.but noSh k (off_old h0.c o1 (by omega))
  rcases o3 with rfl | o3
  · exact ⟨_, rfl, o4, o2.but enSh k (off_old h0.l o2 (by omega)), .inl rfl, b⟩
  · have o5 := own_but o3 a.fr (by decide) k
    exact ⟨_, rfl, o4, o5.sl, .inr (own_lower o5 hw.size), b⟩
set_option maxHeartbeats 8000000 in
set_option maxRecDepth 100000 in
theorem rmerge_any (g : Lg) (cv ev : Value) (prev t : Nat) (lv : Value) (l : List EnIn) (hp : prev < 18446744073709551616) (ht : t < 18446744073709551616) (hl : l.length ≤ 1000000) (hf : Fit g) (w : World) (h : LV w cv ev g) (hlv : rw.Sl enSh w lv l) :
    Calls Try.prog 28 #[g.v cv ev, .int .u64 (prev : Nat), .int .u64 (t : Nat), lv] w (RmOut w cv ev (g.merge prev t l)) := by
  obtain ⟨ca, cc, rfl⟩ := sl_form h.c
  obtain ⟨ea, ec, rfl⟩ := sl_form h.l
  obtain ⟨nc, hnc⟩ : ∃ n, g.conf.length = n := ⟨_, rfl⟩
  obtain ⟨ne, hne⟩ : ∃ n, g.es.length = n := ⟨_, rfl⟩
  rw [hnc, hne] at h ⊢
  clear hnc hne
  have H0 := Lib.hid (In2.start h)
  have HV := Lib.hid h
  have HX := Lib.hid hlv
  obtain ⟨la, lc, rfl⟩ := sl_form hlv
  obtain ⟨R, hR⟩ : ∃ R, g.merge prev t l = R := ⟨_, rfl⟩
  have HR := Lib.hid hR
  have HB : Hid (∀ W (la : Option Addr) (lc n k p t : Nat), p < 18446744073709551616 → t < 18446744073709551616 → (l.drop k).length = n → Below w.heap.size w W → rw.Sl enSh W (.slice la n lc) (l.drop k) → g.behind p t (l.drop k) = R → Calls Try.prog 49 #[.agg #[.int .u64 (g.base : Nat), .int .u64 (g.bt : Nat), .slice ca nc cc, .slice ea ne ec], .int .u64 (p : Nat), .int .u64 (t : Nat), .slice la n lc] W (RmOut W (.slice ca nc cc) (.slice ea ne ec) R)) := fun W la lc n k p t hp ht hn b hs hr => by
    rw [← hr]
    exact rbehind_any g _ _ p t _ (l.drop k) hp ht (by rw [List.length_drop]; omega) hf W (h.later b) hs
  obtain ⟨R1, R2, R3⟩ := R
  rw [hR]
  have hb := hf.base
  have hbt := hf.bt
  obtain ⟨N, hN⟩ : ∃ N, l.length = N := ⟨_, rfl⟩
  have HN := Lib.hid hN
  rw [hN] at hl ⊢ HX
  clear h hf hlv hR hN
  go_enter Try.func28, Try.ntmps28
  go_upto_region 1 with (fail)
  generalize (w.alloc (.cells #[.int .u64 (g.base : Nat), .int .u64 (g.bt : Nat), .slice ca nc cc, .slice ea ne ec] 26)).alloc (.cells #[.int .u64 0, .int .u64 0, .slice none 0 0, .slice none 0 0] 26) = W0 at *
  obtain ⟨x0, x1, x2, x3⟩ := H0.out.cg
  by_cases c : prev < g.base
  · have q1 : ¬ (g.base : Int) ≤ (prev : Int) := by omega
    go_wp2_with fail
    clear x0 x1 x2 x3 q1
    go_loopw [1, 3] (fun pv nv wr => ∃ (k p n : Nat) (la : Option Addr) (lc : Nat), pv = .int .u64 (p : Nat) ∧ nv = .slice la n lc ∧ p = prev + k ∧ n + k = N ∧ p ≤ g.base ∧ Hid (In2 w wr (.slice ca nc cc) (.slice ea ne ec) g ∧ rw.Sl enSh wr (.slice la n lc) (l.drop k)))
      (fun pv _ _ => g.base - (intOf pv).toNat)
    case atStart => exact ⟨0, prev, N, la, lc, rfl, rfl, rfl, by omega, by omega, H0.out, HX.out.later _ H0.out.b⟩
    case round =>
      obtain ⟨k, p, n, la', lc', rfl, rfl, hpk, hnk, hpb, HI⟩ := hrel
      have hln : (l.drop k).length = n := by rw [List.length_drop, HN.out]; omega
      have HL := Lib.hid hln
      obtain ⟨x0, x1, x2, x3⟩ := HI.out.1.cg
      by_cases c1 : p < g.base
      · have q1 : (p : Int) < (g.base : Int) := by omega
        by_cases c2 : 0 < n
        · obtain ⟨m, rfl⟩ : ∃ m, n = m + 1 := ⟨n - 1, by omega⟩
          have q2 : (0 : Int) < ((m + 1 : Nat) : Int) := by omega
          obtain ⟨a3, k3, hs3, hS3⟩ := cut_from .i64 HI.out.2 1 m (by rw [HL.out]; omega)
          have hs4 : ∀ W, (Instr.slice 24 (.slice la' (m + 1) lc') (some (.int .i64 1)) none none).run Try.prog W = .ok (.slice a3 m k3) W := hs3
          have HS3 : Hid (rw.Sl enSh wr (.slice a3 m k3) (l.drop (k + 1))) := by
            have := hS3 wr HI.out.2
            rw [List.drop_drop] at this
            exact this
          have f1 : IntKind.u64.wrap ((p : Int) + 1) = ((p + 1 : Nat) : Int) := by rw [u64_in _ (by omega)]; omega
          obtain ⟨p1, hp1⟩ : ∃ p1, p + 1 = p1 := ⟨_, rfl⟩
          rw [hp1] at f1
          have HP : Hid (p1 = prev + (k + 1) ∧ m + (k + 1) = N ∧ p1 ≤ g.base ∧ g.base - p1 < g.base - p) := ⟨by omega, by omega, by omega, by omega⟩
          have HI2 : Hid (In2 w wr (.slice ca nc cc) (.slice ea ne ec) g) := HI.out.1
          clear hs3 hS3 hp1 HI hln hpk hnk c1 c2
          go_wp2_with fail
          exact ⟨⟨k + 1, p1, m, a3, k3, rfl, rfl, HP.out.1, HP.out.2.1, HP.out.2.2.1, HI2.out, HS3.out⟩, by have := HP.out.2.2.2; simp only [intOf]; omega⟩
        · obtain rfl : n = 0 := by omega
          have q2 : ¬ (0 : Int) < ((0 : Nat) : Int) := by decide
          have HRR : Hid (g.behind g.base g.bt (l.drop k) = (R1, R2, R3)) := by
            show _ = _
            rw [← HR.out, Lg.merge, if_pos c, List.drop_eq_nil_of_le (by rw [HN.out]; omega), List.drop_eq_nil_of_le (by rw [HN.out]; omega)]
          have hB := HB.out wr la' lc' 0 k g.base g.bt (by omega) hbt HL.out HI.out.1.b HI.out.2 HRR.out
          clear hpk hnk hpb hln HRR
          go_wp2_with fail
          with_reducible refine hB.mono ?_
          clear hB x0 x1 x2 x3
          rintro e w2 ⟨eu, rfl, o1, o2, o3, b2⟩
          have H2 : Hid (In2 w w2 (.slice ca nc cc) (.slice ea ne ec) g) := HI.out.1.below b2
          have HD := Lib.hid (RmOut.lay HV.out HI.out.1.b H2.out o1 o2 o3)
          obtain ⟨ua, uc, rfl⟩ := sl_form o2
          obtain ⟨va, vc, hv⟩ := sl_form o1
          clear o1 o2 o3 b2 hv
          obtain ⟨un, hun⟩ : ∃ n, R1.es.length = n := ⟨_, rfl⟩
          simp only [lgC]
          rw [show (R1, R2, R3).1.es.length = un from hun] at HD ⊢
          clear hun
          have hz := Lib.hid (layL_arr (base := R1.base) (bterm := R1.bt) (cv := .slice ca nc cc) (ev := .slice ua un uc) H2.out.fr)
          obtain ⟨y0, y1, y2, y3, f0, f1, f2, f3⟩ := H2.out.cr
          go_wp2_with fail
          exact bodyPost_ret (results_lgm rfl rfl rfl rfl hz.out) rfl HD.out
      · obtain rfl : p = g.base := by omega
        have q1 : ¬ (g.base : Int) < (g.base : Int) := by omega
        have HRR : Hid (g.behind g.base g.bt (l.drop k) = (R1, R2, R3)) := by
          show _ = _
          rw [← HR.out, Lg.merge, if_pos c, show g.base - prev = k by omega]
        have hB := HB.out wr la' lc' n k g.base g.bt (by omega) hbt HL.out HI.out.1.b HI.out.2 HRR.out
        clear hpk hnk hpb hln HRR
        go_wp2_with fail
        with_reducible refine hB.mono ?_
        clear hB x0 x1 x2 x3
        rintro e w2 ⟨eu, rfl, o1, o2, o3, b2⟩
        have H2 : Hid (In2 w w2 (.slice ca nc cc) (.slice ea ne ec) g) := HI.out.1.below b2
        have HD := Lib.hid (RmOut.lay HV.out HI.out.1.b H2.out o1 o2 o3)
        obtain ⟨ua, uc, rfl⟩ := sl_form o2
        obtain ⟨va, vc, hv⟩ := sl_form o1
        clear o1 o2 o3 b2 hv
        obtain ⟨un, hun⟩ : ∃ n, R1.es.length = n := ⟨_, rfl⟩
        simp only [lgC]
        rw [show (R1, R2, R3).1.es.length = un from hun] at HD ⊢
        clear hun
        have hz := Lib.hid (layL_arr (base := R1.base) (bterm := R1.bt) (cv := .slice ca nc cc) (ev := .slice ua un uc) H2.out.fr)
        obtain ⟨y0, y1, y2, y3, f0, f1, f2, f3⟩ := H2.out.cr
        go_wp2_with fail
        exact bodyPost_ret (results_lgm rfl rfl rfl rfl hz.out) rfl HD.out
  · have q1 : (g.base : Int) ≤ (prev : Int) := by omega
    have hB := HB.out W0 la lc N 0 prev t hp ht (by rw [List.drop_zero]; exact HN.out) H0.out.b (by rw [List.drop_zero]; exact HX.out.later _ H0.out.b) (by rw [List.drop_zero, ← HR.out, Lg.merge, if_neg c])
    go_wp2_with fail
    with_reducible refine hB.mono ?_
    clear hB x0 x1 x2 x3
    rintro e w2 ⟨eu, rfl, o1, o2, o3, b2⟩
    have H2 : Hid (In2 w w2 (.slice ca nc cc) (.slice ea ne ec) g) := H0.out.below b2
    have HD := Lib.hid (RmOut.lay HV.out H0.out.b H2.out o1 o2 o3)
    obtain ⟨ua, uc, rfl⟩ := sl_form o2
    obtain ⟨va, vc, hv⟩ := sl_form o1
    clear o1 o2 o3 b2 hv
    obtain ⟨un, hun⟩ : ∃ n, R1.es.length = n := ⟨_, rfl⟩
    simp only [lgC]
    rw [show (R1, R2, R3).1.es.length = un from hun] at HD ⊢
    clear hun
    have hz := Lib.hid (layL_arr (base := R1.base) (bterm := R1.bt) (cv := .slice ca nc cc) (ev := .slice ua un uc) H2.out.fr)
    obtain ⟨y0, y1, y2, y3, f0, f1, f2, f3⟩ := H2.out.cr
    go_wp2_with fail
    exact bodyPost_ret (results_lgm rfl rfl rfl rfl hz.out) rfl HD.out
end Go.Proofs.Ythhnhnljefiboaa.tl
/-! TlTw -/
namespace Go.Proofs.Ythhnhnljefiboaa.tl
set_option linter.unusedVariables false
open Go.RowKit
open pk (S S_size S_data)
open qm (Bs noSh)
open rw (Arr But below_box bnext below_drew below_drewN)

set_option maxHeartbeats 8000000 in
set_option maxRecDepth 100000 in
theorem twin_any (base bterm : Nat) (cv ev : Value) (c : List Int) (l : List EnIn) (hc : c.length ≤ 1000000000) (hl : l.length ≤ 1000000000) (w : World) (h1 : rw.Sl noSh w cv c) (h2 : rw.Sl enSh w ev l) :
    Calls Try.prog 26 #[.agg #[.int .u64 (base : Nat), .int .u64 (bterm : Nat), cv, ev]] w (LogOut w base bterm c l) := by
  obtain ⟨ca, cc, rfl⟩ := sl_form h1
  obtain ⟨ea, ec, rfl⟩ := sl_form h2
  have H0 : Hid (Lo w ((w.alloc (.cells #[.int .u64 (base : Nat), .int .u64 (bterm : Nat), .slice ca c.length cc, .slice ea l.length ec] 26)).alloc (.cells #[.int .u64 0, .int .u64 0, .slice none 0 0, .slice none 0 0] 26)) base bterm (.slice ca c.length cc) (.slice ea l.length ec) c l) := by
    have k1 := below_box w (.cells #[.int .u64 (base : Nat), .int .u64 (bterm : Nat), .slice ca c.length cc, .slice ea l.length ec] 26)
    have ho : rw.Off w.heap.size (.slice ea l.length ec) l := rw.Off.new enSh h2 (Nat.le_refl _)
    have a1 := Arr.new w 26 #[.int .u64 (base : Nat), .int .u64 (bterm : Nat), .slice ca c.length cc, .slice ea l.length ec]
    have hs : (w.alloc (.cells #[.int .u64 (base : Nat), .int .u64 (bterm : Nat), .slice ca c.length cc, .slice ea l.length ec] 26)).heap.size = w.heap.size + 1 := by simp
    have h1' := h1.later _ k1
    have h2' := h2.later _ k1
    generalize w.alloc (.cells #[.int .u64 (base : Nat), .int .u64 (bterm : Nat), .slice ca c.length cc, .slice ea l.length ec] 26) = W at *
    have k2 := below_box W (.cells #[.int .u64 0, .int .u64 0, .slice none 0 0, .slice none 0 0] 26)
    have a2 := Arr.new W 26 #[.int .u64 0, .int .u64 0, .slice none 0 0, .slice none 0 0]
    rw [hs] at a2
    exact ⟨ho, a1.below k2, a2, h1'.later _ k2, h2'.later _ k2, k1.trans (k2.mono k1.size)⟩
  clear h1 h2
  obtain ⟨n1, hn1⟩ : ∃ n, c.length = n := ⟨_, rfl⟩
  obtain ⟨n2, hn2⟩ : ∃ n, l.length = n := ⟨_, rfl⟩
  have HN : Hid (c.length = n1 ∧ l.length = n2) := ⟨hn1, hn2⟩
  rw [hn1, hn2] at H0 ⊢
  clear hn1 hn2
  go_enter Try.func26, Try.ntmps26
  go_upto_region 1 with (fail)
  generalize (w.alloc (.cells #[.int .u64 (base : Nat), .int .u64 (bterm : Nat), .slice ca n1 cc, .slice ea n2 ec] 26)).alloc (.cells #[.int .u64 0, .int .u64 0, .slice none 0 0, .slice none 0 0] 26) = W0 at *
  obtain ⟨u2, w2, g2, o2, b2⟩ := rw.append_none noSh (.slice ca n1 cc) c (by omega) W0 H0.out.c
  have HR := Lib.hid g2
  obtain ⟨k2, f2⟩ : W0.cell? ⟨w.heap.size, 2, none⟩ = some (.slice ca n1 cc) ∧ W0.frozen? ⟨w.heap.size, 2, none⟩ = false := ⟨H0.out.g.cell rfl, H0.out.g.frozen 2⟩
  have H2 := Lib.hid (H0.out.below b2)
  have O2 := own_lower o2 H0.out.b.size
  obtain ⟨k2', f2'⟩ : w2.cell? ⟨w.heap.size, 2, none⟩ = some (.slice ca n1 cc) ∧ w2.frozen? ⟨w.heap.size, 2, none⟩ = false := ⟨H2.out.g.cell rfl, H2.out.g.frozen 2⟩
  have H3 := Lib.hid (H2.out.two O2)
  obtain ⟨ca2, cc2, rfl⟩ : ∃ a c', u2 = .slice a c.length c' := o2.form
  rw [HN.out.1] at H3 HR
  have hkA : ∀ o, (W0.alloc o).cell? ⟨w.heap.size, 2, none⟩ = some (.slice ca n1 cc) := fun o => (H0.out.below (below_box _ o)).g.cell rfl
  clear o2 b2 O2 H2 g2
  go_upto_region 2 with (at_builtin; refine rw.wpList_append_at _ _ _ rfl rfl _ _ _ _ rfl rfl HR.out ?_)
  clear k2 f2 k2' f2' hkA HR H0
  generalize w2.setCell ⟨w.heap.size, 2, none⟩ (.slice ca2 n1 cc2) = W3 at *
  obtain ⟨u4, w4, g4, o4, b4⟩ := rw.append_none enSh (.slice ea n2 ec) l (by omega) W3 H3.out.l
  have HR := Lib.hid g4
  obtain ⟨k3, f3⟩ : W3.cell? ⟨w.heap.size, 3, none⟩ = some (.slice ea n2 ec) ∧ W3.frozen? ⟨w.heap.size, 3, none⟩ = false := ⟨H3.out.g.cell rfl, H3.out.g.frozen 3⟩
  have H4 := Lib.hid (H3.out.below b4)
  have O4 := own_lower o4 H3.out.b.size
  obtain ⟨k3', f3'⟩ : w4.cell? ⟨w.heap.size, 3, none⟩ = some (.slice ea n2 ec) ∧ w4.frozen? ⟨w.heap.size, 3, none⟩ = false := ⟨H4.out.g.cell rfl, H4.out.g.frozen 3⟩
  have H5 := Lib.hid (H4.out.three O4)
  obtain ⟨ea4, ec4, rfl⟩ : ∃ a c', u4 = .slice a l.length c' := o4.form
  rw [HN.out.2] at H5 HR
  have hkA : ∀ o, (W3.alloc o).cell? ⟨w.heap.size, 3, none⟩ = some (.slice ea n2 ec) := fun o => (H3.out.below (below_box _ o)).g.cell rfl
  clear o4 b4 O4 H4 g4
  go_upto_region 3 with (at_builtin; refine rw.wpList_append_at _ _ _ rfl rfl _ _ _ _ rfl rfl HR.out ?_)
  clear k3 f3 k3' f3' hkA HR H3
  generalize w4.setCell ⟨w.heap.size, 3, none⟩ (.slice ea4 n2 ec4) = W5 at *
  obtain ⟨x0, x1, x2, x3⟩ : W5.cell? ⟨w.heap.size, 0, none⟩ = some (.int .u64 (base : Nat)) ∧ W5.cell? ⟨w.heap.size, 1, none⟩ = some (.int .u64 (bterm : Nat)) ∧ W5.cell? ⟨w.heap.size, 2, none⟩ = some (.slice ca2 n1 cc2) ∧ W5.cell? ⟨w.heap.size, 3, none⟩ = some (.slice ea4 n2 ec4) := ⟨H5.out.g.cell rfl, H5.out.g.cell rfl, H5.out.g.cell rfl, H5.out.g.cell rfl⟩
  obtain ⟨y0, y1, y2, y3⟩ : W5.cell? ⟨w.heap.size + 1, 0, none⟩ = some (.int .u64 0) ∧ W5.cell? ⟨w.heap.size + 1, 1, none⟩ = some (.int .u64 0) ∧ W5.cell? ⟨w.heap.size + 1, 2, none⟩ = some (.slice none 0 0) ∧ W5.cell? ⟨w.heap.size + 1, 3, none⟩ = some (.slice none 0 0) := ⟨H5.out.r.cell rfl, H5.out.r.cell rfl, H5.out.r.cell rfl, H5.out.r.cell rfl⟩
  obtain ⟨f0, f1, f2, f3⟩ : W5.frozen? ⟨w.heap.size + 1, 0, none⟩ = false ∧ W5.frozen? ⟨w.heap.size + 1, 1, none⟩ = false ∧ W5.frozen? ⟨w.heap.size + 1, 2, none⟩ = false ∧ W5.frozen? ⟨w.heap.size + 1, 3, none⟩ = false := ⟨H5.out.r.frozen 0, H5.out.r.frozen 1, H5.out.r.frozen 2, H5.out.r.frozen 3⟩
  have HE := Lib.hid H5.out.done
  clear H5
  go_wp2_with fail
  exact bodyPost_ret (results_lg rfl rfl HE.out.1) rfl HE.out.2


end Go.Proofs.Ythhnhnljefiboaa.tl
/-! TlSp -/
namespace Go.Proofs.Ythhnhnljefiboaa.tl
set_option linter.unusedVariables false
open Go.RowKit
open pk (S S_size S_data)
open qm (Bs noSh)
open rw (Arr But below_box bnext below_drew below_drewN)

/-- All but the blocks of which P holds stay. -/
structure Sav (P : Nat → Prop) (w w' : World) : Prop where
  os : w'.os = w.os
  tape : w'.tape = w.tape
  output : w'.output = w.output
  size : w.heap.size ≤ w'.heap.size
  block : ∀ k, k < w.heap.size → ¬ P k → w'.heap[k]? = w.heap[k]?
theorem Sav.of {P : Nat → Prop} {w w' : World} (b : Below w.heap.size w w') : Sav P w w' := ⟨b.os, b.tape, b.output, b.size, fun k hk _ => b.block k hk⟩
theorem Sav.but {P : Nat → Prop} {w W W' : World} {q : Nat} (h : Sav P w W) (k : But q W W') (hq : P q) : Sav P w W' :=
  ⟨k.os.trans h.os, k.tape.trans h.tape, k.output.trans h.output, Nat.le_trans h.size k.size, fun i hi hn => (k.block i (Nat.lt_of_lt_of_le hi h.size) (fun e => hn (e ▸ hq))).trans (h.block i hi hn)⟩
theorem Sav.below {w w' : World} {P : Nat → Prop} {B : Nat} (h : Sav P w w') (hB : B ≤ w.heap.size) (hP : ∀ q, q < B → ¬ P q) : Below B w w' := ⟨h.os, h.tape, h.output, h.size, fun k hk => h.block k (Nat.lt_of_lt_of_le hk hB) (hP k hk)⟩
theorem Sav.arr {P : Nat → Prop} {w w' : World} (h : Sav P w w') {q : Nat} {t : TypeId} {cs : Array Value} (a : Arr w q t cs) (hq : ¬ P q) : Arr w' q t cs := (h.block q a.lt hq).trans a
theorem Sav.own {α : Type} {s : rw.Sh α} {P : Nat → Prop} {w w' : World} (h : Sav P w w') {B : Nat} {v : Value} {l : List α} (o : rw.Own s w B v l) (hP : ∀ q, B ≤ q → ¬ P q) : rw.Own s w' B v l := by
  obtain ⟨h1, h2 | ⟨g, cap, cur, h3, h4, h5, h6⟩⟩ := o
  · exact ⟨h1, .inl h2⟩
  · exact ⟨h1, .inr ⟨g, cap, cur, h3, h4, (h.block g (Array.getElem?_eq_some_iff.1 h5).1 (hP g h4)).trans h5, h6⟩⟩
/-- A row of n values of k cells that may be written over. -/
def Wr (W : World) (P : Nat → Prop) (t : TypeId) (k : Nat) (v : Value) (n : Nat) : Prop := (v = .slice none 0 0 ∧ n = 0) ∨ ∃ q cap cs, v = .slice (some ⟨q, 0, none⟩) n cap ∧ P q ∧ Arr W q t cs ∧ n * k ≤ cs.size
theorem Wr.of {α : Type} {s : rw.Sh α} {W : World} {B : Nat} {v : Value} {l : List α} {P : Nat → Prop} (h : rw.Own s W B v l) (hP : ∀ q, v.ownBlock = some q → P q) : Wr W P s.t s.k v l.length := by
  obtain ⟨h1, h2⟩ := h
  rcases h2 with h3 | ⟨q, cap, cs, h3, h4, h5, h6, h7, h8, h9⟩
  · exact .inl h3
  · exact .inr ⟨q, cap, cs, h3, hP q (by rw [h3]; rfl), h5, by rw [h8]; exact Nat.mul_le_mul_right _ h6⟩
theorem Wr.below {W W' : World} {P : Nat → Prop} {t : TypeId} {k : Nat} {v : Value} {n : Nat} (h : Wr W P t k v n) (b : Below W.heap.size W W') : Wr W' P t k v n := by
  rcases h with h | ⟨q, cap, cs, h1, h2, h3, h4⟩
  · exact .inl h
  · exact .inr ⟨q, cap, cs, h1, h2, h3.below b, h4⟩
theorem arr_ne {W : World} {q1 q2 : Nat} {t1 t2 : TypeId} {c1 c2 : Array Value} (h1 : Arr W q1 t1 c1) (h2 : Arr W q2 t2 c2) (ht : t1 ≠ t2) : q1 ≠ q2 := by
  rintro rfl
  have e : some (Obj.cells c1 t1) = some (Obj.cells c2 t2) := h1.symm.trans h2
  injection e with e
  injection e with _ e _
  exact ht e
theorem Wr.but {W W' : World} {P : Nat → Prop} {q : Nat} {t t' : TypeId} {k : Nat} {v : Value} {n : Nat} {cs' : Array Value} (h : Wr W P t k v n) (hq : Arr W q t' cs') (ht : t ≠ t') (kb : But q W W') : Wr W' P t k v n := by
  rcases h with h | ⟨q2, cap, cs, h1, h2, h3, h4⟩
  · exact .inl h
  · exact .inr ⟨q2, cap, cs, h1, h2, kb.arr h3 (arr_ne h3 hq ht), h4⟩
/-- Under way: the box, the two rows. -/
structure Sp (w W : World) (P : Nat → Prop) (base bt : Nat) (cv ev : Value) (nc nl : Nat) : Prop where
  x : Arr W w.heap.size 26 (lgC base bt cv ev)
  l : Wr W P 54 3 ev nl
  c : Wr W P 3 1 cv nc
  b : Sav P w W
theorem Sp.ent {w W : World} {P : Nat → Prop} {base bt q cap nc nl k : Nat} {cv : Value} {cs : Array Value} (h : Sp w W P base bt cv (.slice (some ⟨q, 0, none⟩) nl cap) nc nl) (hq : P q) (ha : Arr W q 54 cs) (hs : nl * 3 ≤ cs.size) (a b c : Value) :
    Sp w (((W.setCell ⟨q, k * 3, none⟩ a).setCell ⟨q, k * 3 + 1, none⟩ b).setCell ⟨q, k * 3 + 2, none⟩ c) P base bt cv (.slice (some ⟨q, 0, none⟩) nl cap) nc nl := by
  have kb : But q W (((W.setCell ⟨q, k * 3, none⟩ a).setCell ⟨q, k * 3 + 1, none⟩ b).setCell ⟨q, k * 3 + 2, none⟩ c) := (((But.refl q W).set _ _).set _ _).set _ _
  exact ⟨kb.arr h.x (arr_ne h.x ha (by decide)), .inr ⟨q, cap, _, rfl, hq, ((ha.set _ _).set _ _).set _ _, by simpa using hs⟩, h.c.but ha (by decide) kb, h.b.but kb hq⟩
theorem Sp.num {w W : World} {P : Nat → Prop} {base bt q cap nc nl k : Nat} {ev : Value} {cs : Array Value} (h : Sp w W P base bt (.slice (some ⟨q, 0, none⟩) nc cap) ev nc nl) (hq : P q) (ha : Arr W q 3 cs) (hs : nc * 1 ≤ cs.size) (a : Value) :
    Sp w (W.setCell ⟨q, k, none⟩ a) P base bt (.slice (some ⟨q, 0, none⟩) nc cap) ev nc nl := by
  have kb : But q W (W.setCell ⟨q, k, none⟩ a) := (But.refl q W).set _ _
  exact ⟨kb.arr h.x (arr_ne h.x ha (by decide)), h.l.but ha (by decide) kb, .inr ⟨q, cap, _, rfl, hq, ha.set _ _, by simpa using hs⟩, h.b.but kb hq⟩
set_option maxHeartbeats 4000000 in
set_option maxRecDepth 100000 in
theorem spoil_sav (g : Lg) (cv ev : Value) (B : Nat) (P : Nat → Prop) (hP1 : ∀ q, cv.ownBlock = some q → P q) (hP2 : ∀ q, ev.ownBlock = some q → P q) (w : World) (hc : g.conf.length ≤ 1000000000) (hl : g.es.length ≤ 1000000000) (o1 : rw.Own noSh w B cv g.conf) (o2 : rw.Own enSh w B ev g.es) :
    Calls Try.prog 30 #[g.v cv ev] w fun e w' => e = .returned (.tuple #[]) ∧ Sav P w w' := by
  obtain ⟨a1, k1, rfl⟩ := o1.form
  obtain ⟨a2, k2, rfl⟩ := o2.form
  have HI : Hid (Sp w (w.alloc (.cells #[.int .u64 (g.base : Nat), .int .u64 (g.bt : Nat), .slice a1 g.conf.length k1, .slice a2 g.es.length k2] 26)) P g.base g.bt (.slice a1 g.conf.length k1) (.slice a2 g.es.length k2) g.conf.length g.es.length) :=
    ⟨Arr.new w _ _, (Wr.of o2 hP2).below (below_box _ _), (Wr.of o1 hP1).below (below_box _ _), Sav.of (below_box _ _)⟩
  clear o1 o2 hP1 hP2
  generalize g.conf.length = nc at *
  generalize g.es.length = nl at *
  go_enter Try.func30, Try.ntmps30
  go_upto_region 1 with (fail)
  generalize w.alloc (.cells #[.int .u64 (g.base : Nat), .int .u64 (g.bt : Nat), .slice a1 nc k1, .slice a2 nl k2] 26) = W at *
  go_wp2_with fail
  go_loopw [2] (fun i wr => ∃ k : Nat, i = .int .i64 (k : Nat) ∧ k ≤ nl ∧ Hid (Sp w wr P g.base g.bt (.slice a1 nc k1) (.slice a2 nl k2) nc nl))
    (fun i _ => nl - (intOf i).toNat)
  case atStart => exact ⟨0, rfl, Nat.zero_le _, HI.out⟩
  case round =>
    obtain ⟨k, rfl, hk, HR⟩ := hrel
    obtain ⟨x2, x3⟩ : wr.cell? ⟨w.heap.size, 2, none⟩ = some (.slice a1 nc k1) ∧ wr.cell? ⟨w.heap.size, 3, none⟩ = some (.slice a2 nl k2) := ⟨HR.out.x.cell rfl, HR.out.x.cell rfl⟩
    by_cases hlt : k < nl
    · have hki : (k : Int) < (nl : Int) := by omega
      rcases HR.out.l with ⟨e, z⟩ | ⟨q, cap, cs, e, hq, ha, hs⟩
      · omega
      injection e with e1 e2 e3
      subst e1 e3
      clear e2
      obtain ⟨y0, z0⟩ : ∃ v, wr.cell? ⟨q, k * 3, none⟩ = some v := ⟨_, ha.cell (Array.getElem?_eq_getElem (by omega))⟩
      obtain ⟨y1, z1⟩ : ∃ v, wr.cell? ⟨q, k * 3 + 1, none⟩ = some v := ⟨_, ha.cell (Array.getElem?_eq_getElem (by omega))⟩
      obtain ⟨y2, z2⟩ : ∃ v, wr.cell? ⟨q, k * 3 + 2, none⟩ = some v := ⟨_, ha.cell (Array.getElem?_eq_getElem (by omega))⟩
      have f0 := ha.frozen (k * 3)
      have f1 := ha.frozen (k * 3 + 1)
      have f2 := ha.frozen (k * 3 + 2)
      have HN := Lib.hid (HR.out.ent (k := k) hq ha hs (.int .u64 0) (.int .i64 9) (.string ⟨#[]⟩))
      clear HR HI ha hs hq
      go_wp2_with fail
      exact ⟨⟨k + 1, by rw [Int.natCast_add]; rfl, by omega, HN⟩, by simp only [intOf]; omega⟩
    obtain rfl : k = nl := by omega
    have hki : ¬ (k : Int) < (k : Int) := by omega
    have HJ := Lib.hid HR.out
    clear HR HI
    go_wp2_with fail
    go_loopw [3] (fun i wr => ∃ j : Nat, i = .int .i64 (j : Nat) ∧ j ≤ nc ∧ Hid (Sp w wr P g.base g.bt (.slice a1 nc k1) (.slice a2 k k2) nc k))
      (fun i _ => nc - (intOf i).toNat)
    case atStart => exact ⟨0, rfl, Nat.zero_le _, HJ.out⟩
    case round =>
      clear x2 x3
      obtain ⟨j, rfl, hj, HR⟩ := hrel
      obtain ⟨x2, x3⟩ : wr.cell? ⟨w.heap.size, 2, none⟩ = some (.slice a1 nc k1) ∧ wr.cell? ⟨w.heap.size, 3, none⟩ = some (.slice a2 k k2) := ⟨HR.out.x.cell rfl, HR.out.x.cell rfl⟩
      by_cases hlt : j < nc
      · have hki : (j : Int) < (nc : Int) := by omega
        rcases HR.out.c with ⟨e, z⟩ | ⟨q, cap, cs, e, hq, ha, hs⟩
        · omega
        injection e with e1 e2 e3
        subst e1 e3
        clear e2
        obtain ⟨y0, z0⟩ : ∃ v, wr.cell? ⟨q, j, none⟩ = some v := ⟨_, ha.cell (Array.getElem?_eq_getElem (by omega))⟩
        have f0 := ha.frozen j
        have HN := Lib.hid (HR.out.num (k := j) hq ha hs (.int .i64 9))
        clear HR HJ ha hs hq
        go_wp2_with fail
        exact ⟨⟨j + 1, by rw [Int.natCast_add]; rfl, by omega, HN⟩, by simp only [intOf]; omega⟩
      obtain rfl : j = nc := by omega
      have hki : ¬ (j : Int) < (j : Int) := by omega
      have HX := Lib.hid HR.out.b
      clear HR HJ
      go_wp2_with fail
      go_end0
      exact ⟨rfl, HX.out⟩
theorem spoil_any (g : Lg) (cv ev : Value) (B : Nat) (w : World) (hB : B ≤ w.heap.size) (hc : g.conf.length ≤ 1000000000) (hl : g.es.length ≤ 1000000000) (o1 : rw.Own noSh w B cv g.conf) (o2 : rw.Own enSh w B ev g.es) :
    Calls Try.prog 30 #[g.v cv ev] w fun e w' => e = .returned (.tuple #[]) ∧ Below B w w' := by
  refine (spoil_sav g cv ev B (fun q => B ≤ q) (fun q e => (o1.lt q e).1) (fun q e => (o2.lt q e).1) w hc hl o1 o2).mono ?_
  rintro e w' ⟨h1, h2⟩
  exact ⟨h1, h2.below hB fun q hq => by omega⟩
end Go.Proofs.Ythhnhnljefiboaa.tl
/-! TlA2 -/
namespace Go.Proofs.Ythhnhnljefiboaa.tl
set_option linter.unusedVariables false
open Go.RowKit
open pk (S S_size S_data)
open qm (Bs noSh)
open rw (Arr But below_box bnext below_drew below_drewN)

theorem alX1 : lgX.last = 4 ∧ lgX.lastT = 2 := by decide
theorem alX2 : lgX.mem lgX.es.length = ([1, 3], 4) := by decide
theorem alX3 : lgX.merge 3 1 [⟨3, 1, []⟩] = (⟨2, 1, [1, 2], [⟨1, 3, [97]⟩, ⟨3, 1, []⟩]⟩, 4, true) := by rfl
theorem alX4 : lgX.compact 3 = (⟨3, 1, [1, 2], [⟨2, 2, [2, 1, 3]⟩]⟩, true) := by rfl
set_option maxHeartbeats 8000000 in
set_option maxRecDepth 100000 in
theorem alive_any (w : World) : Calls Try.prog 9 #[] w fun e w' => e = .returned (.bool true) ∧ Below w.heap.size w w' := by
  have HG := Lib.hid fun W => log_any W
  have HL : Hid (∀ (W : World) (cv ev : Value) (h : LV W cv ev lgX), Calls Try.prog 13 #[.agg #[.int .u64 2, .int .u64 1, cv, ev]] W fun e w' => e = .returned (.tuple #[.int .u64 4, .int .u64 2]) ∧ Below W.heap.size W w') := fun W cv ev h => by
    have k := last_any lgX cv ev fitX W h
    rw [alX1.1, alX1.2] at k
    exact k
  have HC : Hid (∀ (W : World) (cv ev : Value) (h : LV W cv ev lgX), Calls Try.prog 17 #[.agg #[.int .u64 2, .int .u64 1, cv, ev]] W fun e w' => ∃ u, e = .returned (.tuple #[u, .int .u64 4]) ∧ rw.Own noSh w' W.heap.size u [1, 3] ∧ Below W.heap.size W w') := fun W cv ev h => by
    have k := conf_any lgX cv ev fitX W h
    rw [alX2] at k
    exact k
  have HM : Hid (∀ (W : World) (cv ev lv : Value) (h : LV W cv ev lgX) (hl : rw.Sl enSh W lv [⟨3, 1, []⟩]), Calls Try.prog 27 #[.agg #[.int .u64 2, .int .u64 1, cv, ev], .int .u64 3, .int .u64 1, lv] W fun e w' => ∃ cv ev, e = .returned (.tuple #[.agg #[.int .u64 2, .int .u64 1, cv, ev], .int .u64 4, .bool true]) ∧ rw.Own noSh w' W.heap.size cv [1, 2] ∧ rw.Own enSh w' W.heap.size ev [⟨1, 3, [97]⟩, ⟨3, 1, []⟩] ∧ Below W.heap.size W w') := fun W cv ev lv h hl => by
    have k := merge_any lgX cv ev 3 1 lv [⟨3, 1, []⟩] (by decide) (by decide) (by decide) (by intro x hx; simp at hx; subst hx; exact ⟨by decide, by decide⟩) fitX W h hl
    rw [alX3] at k
    exact k
  have HK : Hid (∀ (W : World) (cv ev : Value) (h : LV W cv ev lgX), Calls Try.prog 31 #[.agg #[.int .u64 2, .int .u64 1, cv, ev], .int .u64 3] W fun e w' => ∃ cv ev, e = .returned (.tuple #[.agg #[.int .u64 3, .int .u64 1, cv, ev], .bool true]) ∧ rw.Own noSh w' W.heap.size cv [1, 2] ∧ rw.Own enSh w' W.heap.size ev [⟨2, 2, [2, 1, 3]⟩] ∧ Below W.heap.size W w') := fun W cv ev h => by
    have k := compact_any lgX cv ev 3 (by decide) fitX W h
    rw [alX4] at k
    exact k
  have HS := Lib.hid fun (W : World) (u v : Value) (h1 : qm.Ns W u [1, 3]) (h2 : qm.Ns W v [1, 3]) => qm.same_any u v [1, 3] [1, 3] (by decide) (by decide) W h1 h2
  rw [decide_eq_true rfl] at HS
  have hg := HG.out w
  go_enter Try.func9, Try.ntmps9
  go_wp2_with fail
  with_reducible refine hg.mono ?_
  clear hg
  rintro e w1 ⟨cv1, ev1, rfl, v1, b1⟩
  have hl := HL.out w1 cv1 ev1 v1
  have B1 := Lib.hid b1
  clear v1 b1
  go_wp2_with fail
  with_reducible refine hl.mono ?_
  clear hl
  rintro e w2 ⟨rfl, b2⟩
  have B2 : Hid (Below w.heap.size w w2) := B1.out.trans (b2.mono B1.out.size)
  have hg := HG.out w2
  clear b2
  go_wp2_with fail
  with_reducible refine hg.mono ?_
  clear hg
  rintro e w3 ⟨cv3, ev3, rfl, v3, b3⟩
  have hc := HC.out w3 cv3 ev3 v3
  have B3 : Hid (Below w.heap.size w w3) := B2.out.trans (b3.mono B2.out.size)
  clear v3 b3
  go_wp2_with fail
  with_reducible refine hc.mono ?_
  clear hc
  rintro e w4 ⟨u4, rfl, o4, b4⟩
  have H4 : Hid (Below w.heap.size w w4 ∧ qm.Ns w4 u4 [1, 3]) := ⟨B3.out.trans (b4.mono B3.out.size), o4.sl⟩
  obtain ⟨ua, uc, rfl⟩ := o4.form
  have hg := HG.out w4
  clear o4 b4
  go_wp2_with fail
  with_reducible refine hg.mono ?_
  clear hg
  rintro e w5 ⟨cv5, ev5, rfl, v5, b5⟩
  have H5 : Hid (Below w.heap.size w w5 ∧ qm.Ns w5 (.slice ua [(1 : Int), 3].length uc) [1, 3]) := ⟨H4.out.1.trans (b5.mono H4.out.1.size), H4.out.2.later _ b5⟩
  have k6 := below_box w5 (.cells #[.int .u64 3, .int .i64 1, .string ⟨#[]⟩] 54)
  have l6 : rw.Sl enSh (w5.alloc (.cells #[.int .u64 3, .int .i64 1, .string ⟨#[]⟩] 54)) (.slice (some ⟨w5.heap.size, 0, none⟩) 1 1) [⟨3, 1, []⟩] := (rw.Own.lit enSh w5 [⟨3, 1, []⟩] (by decide) (by simp)).sl
  have hm := HM.out _ cv5 ev5 _ (v5.later k6) l6
  have B6 : Hid (Below w.heap.size w (w5.alloc (.cells #[.int .u64 3, .int .i64 1, .string ⟨#[]⟩] 54)) ∧ qm.Ns (w5.alloc (.cells #[.int .u64 3, .int .i64 1, .string ⟨#[]⟩] 54)) (.slice ua [(1 : Int), 3].length uc) [1, 3]) := ⟨H5.out.1.trans (k6.mono H5.out.1.size), H5.out.2.later _ k6⟩
  clear k6 l6 v5 b5
  go_wp2_with fail
  generalize w5.alloc (.cells #[.int .u64 3, .int .i64 1, .string ⟨#[]⟩] 54) = w6 at *
  with_reducible refine hm.mono ?_
  clear hm
  rintro e w7 ⟨cv7, ev7, rfl, o7, p7, b7⟩
  have c7 := o7.sl
  have e7 := p7.sl
  obtain ⟨ca, cc, rfl⟩ := o7.form
  obtain ⟨ea, ec, rfl⟩ := p7.form
  simp only [List.length_cons, List.length_nil, Nat.reduceAdd] at c7 e7 ⊢
  have k8 := below_box w7 (.cells #[.int .u64 2, .int .u64 1, .slice ca 2 cc, .slice ea 2 ec] 26)
  have a8 := Arr.new w7 26 #[.int .u64 2, .int .u64 1, .slice ca 2 cc, .slice ea 2 ec]
  obtain ⟨q, hq⟩ : ∃ q, w7.heap.size = q := ⟨_, rfl⟩
  have H8 : Hid (Below w.heap.size w (w7.alloc (.cells #[.int .u64 2, .int .u64 1, .slice ca 2 cc, .slice ea 2 ec] 26)) ∧ qm.Ns (w7.alloc (.cells #[.int .u64 2, .int .u64 1, .slice ca 2 cc, .slice ea 2 ec] 26)) (.slice ua [(1 : Int), 3].length uc) [1, 3] ∧ Arr (w7.alloc (.cells #[.int .u64 2, .int .u64 1, .slice ca 2 cc, .slice ea 2 ec] 26)) q 26 #[.int .u64 2, .int .u64 1, .slice ca 2 cc, .slice ea 2 ec] ∧ rw.Sl enSh (w7.alloc (.cells #[.int .u64 2, .int .u64 1, .slice ca 2 cc, .slice ea 2 ec] 26)) (.slice ea 2 ec) [⟨1, 3, [97]⟩, ⟨3, 1, []⟩]) :=
    ⟨B6.out.1.trans ((b7.trans (k8.mono b7.size)).mono B6.out.1.size), (B6.out.2.later _ b7).later _ k8, hq ▸ a8, e7.later _ k8⟩
  have HQ := Lib.hid hq
  clear o7 p7 b7 c7 e7 k8 a8
  go_wp2_with fail
  try rw [HQ.out]
  generalize w7.alloc (.cells #[.int .u64 2, .int .u64 1, .slice ca 2 cc, .slice ea 2 ec] 26) = w8 at *
  clear HQ hq
  have hg := HG.out w8
  try go_wp2_with fail
  with_reducible refine hg.mono ?_
  clear hg
  rintro e w9 ⟨cv9, ev9, rfl, v9, b9⟩
  have H9 : Hid (Below w.heap.size w w9 ∧ qm.Ns w9 (.slice ua [(1 : Int), 3].length uc) [1, 3] ∧ Arr w9 q 26 #[.int .u64 2, .int .u64 1, .slice ca 2 cc, .slice ea 2 ec] ∧ rw.Sl enSh w9 (.slice ea 2 ec) [⟨1, 3, [97]⟩, ⟨3, 1, []⟩]) :=
    ⟨H8.out.1.trans (b9.mono H8.out.1.size), H8.out.2.1.later _ b9, H8.out.2.2.1.below b9, H8.out.2.2.2.later _ b9⟩
  have hk := HK.out w9 cv9 ev9 v9
  clear v9 b9
  go_wp2_with fail
  with_reducible refine hk.mono ?_
  clear hk
  rintro e wA ⟨cvA, evA, rfl, oA, pA, bA⟩
  obtain ⟨ca2, cc2, rfl⟩ := oA.form
  obtain ⟨ea2, ec2, rfl⟩ := pA.form
  simp only [List.length_cons, List.length_nil, Nat.reduceAdd]
  have kB := below_box wA (.cells #[.int .u64 3, .int .u64 1, .slice ca2 2 cc2, .slice ea2 1 ec2] 26)
  have aB := Arr.new wA 26 #[.int .u64 3, .int .u64 1, .slice ca2 2 cc2, .slice ea2 1 ec2]
  have bAB := bA.trans (kB.mono bA.size)
  obtain ⟨p, hp⟩ : ∃ p, wA.heap.size = p := ⟨_, rfl⟩
  have HB : Hid (Below w.heap.size w (wA.alloc (.cells #[.int .u64 3, .int .u64 1, .slice ca2 2 cc2, .slice ea2 1 ec2] 26)) ∧ qm.Ns (wA.alloc (.cells #[.int .u64 3, .int .u64 1, .slice ca2 2 cc2, .slice ea2 1 ec2] 26)) (.slice ua [(1 : Int), 3].length uc) [1, 3] ∧ Arr (wA.alloc (.cells #[.int .u64 3, .int .u64 1, .slice ca2 2 cc2, .slice ea2 1 ec2] 26)) q 26 #[.int .u64 2, .int .u64 1, .slice ca 2 cc, .slice ea 2 ec] ∧ rw.Sl enSh (wA.alloc (.cells #[.int .u64 3, .int .u64 1, .slice ca2 2 cc2, .slice ea2 1 ec2] 26)) (.slice ea 2 ec) [⟨1, 3, [97]⟩, ⟨3, 1, []⟩] ∧ Arr (wA.alloc (.cells #[.int .u64 3, .int .u64 1, .slice ca2 2 cc2, .slice ea2 1 ec2] 26)) p 26 #[.int .u64 3, .int .u64 1, .slice ca2 2 cc2, .slice ea2 1 ec2]) :=
    ⟨H9.out.1.trans (bAB.mono H9.out.1.size), H9.out.2.1.later _ bAB, H9.out.2.2.1.below bAB, H9.out.2.2.2.later _ bAB, hp ▸ aB⟩
  have HP := Lib.hid hp
  clear oA pA bA kB aB bAB
  go_upto_region 5 with (fail)
  try rw [HP.out]
  generalize wA.alloc (.cells #[.int .u64 3, .int .u64 1, .slice ca2 2 cc2, .slice ea2 1 ec2] 26) = wB at *
  clear HP hp
  have kC := below_box wB (.cells #[.int .i64 1, .int .i64 3] 3)
  have l3 : qm.Ns (wB.alloc (.cells #[.int .i64 1, .int .i64 3] 3)) (.slice (some ⟨wB.heap.size, 0, none⟩) 2 2) [1, 3] := (rw.Own.lit noSh wB [1, 3] (by decide) (by simp)).sl
  have hs := HS.out _ _ _ (HB.out.2.1.later _ kC) l3
  simp only [List.length_cons, List.length_nil, Nat.reduceAdd] at hs
  have HC : Hid (∀ W', Below (wB.alloc (.cells #[.int .i64 1, .int .i64 3] 3)).heap.size (wB.alloc (.cells #[.int .i64 1, .int .i64 3] 3)) W' → Below w.heap.size w W' ∧ W'.cell? ⟨q, 3, none⟩ = some (.slice ea 2 ec) ∧ W'.cell? ⟨p, 0, none⟩ = some (.int .u64 3) ∧ W'.cell? ⟨p, 3, none⟩ = some (.slice ea2 1 ec2) ∧ rw.Sl enSh W' (.slice ea 2 ec) [⟨1, 3, [97]⟩, ⟨3, 1, []⟩]) := fun W' b => by
    have bb := kC.trans (b.mono kC.size)
    exact ⟨HB.out.1.trans (bb.mono HB.out.1.size), (HB.out.2.2.1.below bb).cell rfl, (HB.out.2.2.2.2.below bb).cell rfl, (HB.out.2.2.2.2.below bb).cell rfl, HB.out.2.2.2.1.later _ bb⟩
  clear kC l3 HB
  go_wp2_with fail
  refine hs.mono ?_
  clear hs
  rintro e wC ⟨rfl, bC⟩
  obtain ⟨B, z0, z1, z2, z3⟩ := HC.out wC bC
  obtain ⟨b, off, c, e, hbw, y0, y1, y2⟩ := slE_at z3 (j := 1) (by decide)
  injection e with e1 e2 e3
  subst e1 e3
  simp only [List.getElem_cons_succ, List.getElem_cons_zero, Nat.one_mul] at y0
  have HBB := Lib.hid B
  clear bC B z3 hbw y1 y2 e2
  have y0' : wC.cell? ⟨b, off + 3, none⟩ = some (.int .u64 3) := y0
  go_wp2_with fail
  go_ret
  exact ⟨rfl, HBB.out⟩
end Go.Proofs.Ythhnhnljefiboaa.tl
/-! TlL4 -/
namespace Go.Proofs.Ythhnhnljefiboaa.tl
set_option linter.unusedVariables false
open Go.RowKit
open pk (S S_size S_data)
open qm (Bs noSh)
open rw (Arr But below_box bnext below_drew below_drewN)

theorem merge_len (g : Lg) (prev t : Nat) (l : List EnIn) : (g.merge prev t l).1.conf = g.conf ∧ (g.merge prev t l).1.es.length ≤ g.es.length + l.length := by
  have hb : ∀ p t (m : List EnIn), m.length ≤ l.length → (g.behind p t m).1.conf = g.conf ∧ (g.behind p t m).1.es.length ≤ g.es.length + l.length := by
    intro p t m hm
    unfold Lg.behind
    split
    · dsimp only
      split
      · exact ⟨rfl, by simp⟩
      · refine ⟨rfl, ?_⟩
        simp only [List.length_append, List.length_take, List.length_drop]
        omega
    · exact ⟨rfl, by simp⟩
  unfold Lg.merge
  split
  · exact hb _ _ _ (by rw [List.length_drop]; omega)
  · exact hb _ _ _ (Nat.le_refl _)
/-- What came in, its twin in a box, the entries' twin. -/
structure Mg (w W : World) (cv ev : Value) (g : Lg) (ob : Nat) (cu eu mv : Value) (l : List EnIn) : Prop where
  a : Bx w W w.heap.size cv ev g
  o : Bx w W ob cu eu g
  m : rw.Sl enSh W mv l
theorem Mg.below {w W W' : World} {cv ev cu eu mv : Value} {g : Lg} {ob : Nat} {l : List EnIn} (h : Mg w W cv ev g ob cu eu mv l) (b : Below W.heap.size W W') : Mg w W' cv ev g ob cu eu mv l := ⟨h.a.below b, h.o.below b, h.m.later _ b⟩
/-- A log of rows of one's own, in a box. -/
structure Ma (W : World) (B ab : Nat) (cw ew : Value) (k : Lg) : Prop where
  a : Arr W ab 26 (lgC k.base k.bt cw ew)
  c : rw.Own noSh W B cw k.conf
  e : rw.Own enSh W B ew k.es
theorem Ma.below {W W' : World} {B ab : Nat} {cw ew : Value} {k : Lg} (h : Ma W B ab cw ew k) (b : Below W.heap.size W W') : Ma W' B ab cw ew k := ⟨h.a.below b, h.c.below _ b, h.e.below _ b⟩
theorem Ma.cells {W : World} {B ab : Nat} {cw ew : Value} {k : Lg} (h : Ma W B ab cw ew k) :
    W.cell? ⟨ab, 0, none⟩ = some (.int .u64 (k.base : Nat)) ∧ W.cell? ⟨ab, 1, none⟩ = some (.int .u64 (k.bt : Nat)) ∧ W.cell? ⟨ab, 2, none⟩ = some cw ∧ W.cell? ⟨ab, 3, none⟩ = some ew := ⟨h.a.cell rfl, h.a.cell rfl, h.a.cell rfl, h.a.cell rfl⟩
theorem Ma.new {W : World} {B : Nat} {cw ew : Value} {k : Lg} (c : rw.Own noSh W B cw k.conf) (e : rw.Own enSh W B ew k.es) : Ma (W.alloc (.cells #[.int .u64 (k.base : Nat), .int .u64 (k.bt : Nat), cw, ew] 26)) B W.heap.size cw ew k :=
  have b := below_box W (.cells #[.int .u64 (k.base : Nat), .int .u64 (k.bt : Nat), cw, ew] 26)
  ⟨Arr.new W _ _, c.below _ b, e.below _ b⟩
set_option maxHeartbeats 8000000 in
set_option maxRecDepth 100000 in
theorem merges_walk (g : Lg) (cv ev : Value) (prev t : Nat) (lv : Value) (l : List EnIn) (hp : prev < 18446744073709551616) (ht : t < 18446744073709551616) (hll : l.length ≤ 140737488355328) (hle : ∀ x ∈ l, x.term < 18446744073709551616 ∧ x.data.length ≤ 281474976710656) (hg : Came g) (w : World) (vg : LV w cv ev g) (vl : rw.Sl enSh w lv l) :
    Calls Try.prog 4 #[g.v cv ev, .int .u64 (prev : Nat), .int .u64 (t : Nat), lv] w fun e w' => e = .returned (.bool true) ∧ Below w.heap.size w w' := by
  have H0 := Lib.hid vg.box
  have HAl := Lib.hid fun W => alive_any W
  have HAs := Lib.hid fun W b => asked_any g cv ev hg W (vg.later b)
  have HV := Lib.hid (And.intro vg vl)
  have HG := Lib.hid hg
  obtain ⟨r, hr⟩ : ∃ r, g.asked = r := ⟨_, rfl⟩
  rw [hr] at HAs
  have HRR := Lib.hid hr
  obtain ⟨la, lc, rfl⟩ := sl_form vl
  obtain ⟨N, hN⟩ : ∃ N, l.length = N := ⟨_, rfl⟩
  have HN := Lib.hid hN
  rw [hN] at hll HV ⊢
  have HE := Lib.hid hle
  clear vg vl hg hr hN hle
  go_enter Try.func4, Try.ntmps4
  go_upto_region 1 with (fail)
  generalize w.alloc (.cells #[.int .u64 (g.base : Nat), .int .u64 (g.bt : Nat), cv, ev] 26) = W at *
  have hAl := HAl.out W
  go_wp2_with fail
  with_reducible refine hAl.mono ?_
  clear hAl HAl
  rintro e w1 ⟨rfl, b1⟩
  have H1 := Lib.hid (H0.out.below b1)
  clear b1 H0
  obtain ⟨x0, x1, x2, x3⟩ := H1.out.cells
  have hAs := HAs.out w1 H1.out.b
  cases r with
  | false =>
    go_wp2_with fail
    with_reducible refine hAs.mono ?_
    clear hAs
    rintro e w2 ⟨rfl, b2⟩
    have B2 := Lib.hid (H1.out.b.trans (b2.mono H1.out.b.size))
    clear b2
    go_wp2_with fail
    go_ret
    exact ⟨rfl, B2.out⟩
  | true =>
  go_wp2_with fail
  with_reducible refine hAs.mono ?_
  clear hAs x0 x1 x2 x3 HAs
  rintro e w2 ⟨rfl, b2⟩
  have H2 := Lib.hid (H1.out.below b2)
  clear b2 H1
  by_cases c60 : 60 < N
  · have q1 : (60 : Int) < (N : Int) := by omega
    go_wp2_with fail
    go_ret
    exact ⟨rfl, H2.out.b⟩
  have q1 : ¬ (60 : Int) < (N : Int) := by omega
  have HF := Lib.hid (HG.out.fit HRR.out)
  have HG60 : Hid (g.es.length ≤ 60) := (Lg.asked_iff.1 HRR.out).2
  have hT := twin_any g.base g.bt cv ev g.conf g.es HF.out.conf (by have := HG60.out; omega) w2 H2.out.v.c H2.out.v.l
  obtain ⟨x0, x1, x2, x3⟩ := H2.out.cells
  go_wp2_with fail
  with_reducible refine hT.mono ?_
  clear hT x0 x1 x2 x3 q1
  rintro e w3 ⟨cu, eu, rfl, o1, o2, b3⟩
  have H3 := Lib.hid (H2.out.below b3)
  obtain ⟨u4, w4, g4, o4, b4⟩ := rw.append_none enSh (.slice la N lc) l (by rw [HN.out]; omega) w3 (HV.out.2.later _ H3.out.b)
  obtain ⟨a4, c4, rfl⟩ : ∃ a c', u4 = .slice a l.length c' := o4.form
  rw [HN.out] at g4 o4
  have HR := Lib.hid g4
  have O1 := o1.sl.later _ b4
  have O2 := o2.sl.later _ b4
  have O4 := o4.sl
  obtain ⟨u1, n1, rfl⟩ := sl_form O1
  obtain ⟨u2, n2, rfl⟩ := sl_form O2
  have kb := below_box w4 (.cells #[.int .u64 (g.base : Nat), .int .u64 (g.bt : Nat), .slice u1 g.conf.length n1, .slice u2 g.es.length n2] 26)
  have H5 : Hid (Mg w (w4.alloc (.cells #[.int .u64 (g.base : Nat), .int .u64 (g.bt : Nat), .slice u1 g.conf.length n1, .slice u2 g.es.length n2] 26)) cv ev g w4.heap.size (.slice u1 g.conf.length n1) (.slice u2 g.es.length n2) (.slice a4 N c4) l) := by
    have h4 := H3.out.below b4
    have h5 := h4.below kb
    exact ⟨h5, ⟨Arr.new w4 _ _, ⟨O1.later _ kb, O2.later _ kb⟩, h5.b⟩, O4.later _ kb⟩
  clear o1 o2 b3 o4 b4 g4 O1 O2 O4 kb H2 H3
  simp only [lgC]
  go_upto_region 6 with (at_builtin; refine rw.wpList_append_at _ _ _ rfl rfl _ _ _ _ rfl rfl HR.out ?_)
  clear HR
  obtain ⟨cu, hcu⟩ : ∃ v, Value.slice u1 g.conf.length n1 = v := ⟨_, rfl⟩
  obtain ⟨eu, heu⟩ : ∃ v, Value.slice u2 g.es.length n2 = v := ⟨_, rfl⟩
  rw [hcu, heu] at H5 ⊢
  clear hcu heu
  generalize w4.alloc (.cells #[.int .u64 (g.base : Nat), .int .u64 (g.bt : Nat), cu, eu] 26) = F at *
  generalize w4.heap.size = ob at *
  obtain ⟨R, hR⟩ : ∃ R, g.merge prev t l = R := ⟨_, rfl⟩
  have hlen := merge_len g prev t l
  have hM := merge_any g cu eu prev t (.slice a4 N c4) l hp ht (by rw [HN.out]; omega) HE.out HF.out F H5.out.o.v H5.out.m
  have HM2 : Hid (∀ W (b : Below w.heap.size w W), Calls Try.prog 28 #[g.v cv ev, .int .u64 (prev : Nat), .int .u64 (t : Nat), .slice la N lc] W (RmOut W cv ev (g.merge prev t l))) := fun W b => rmerge_any g cv ev prev t (.slice la N lc) l hp ht (by rw [HN.out]; omega) HF.out W (HV.out.1.later b) (HV.out.2.later _ b)
  rw [hR] at hM HM2 hlen
  obtain ⟨R1, R2, R3⟩ := R
  have HL : Hid (R1.conf.length ≤ 1000000000 ∧ R1.es.length ≤ 1000000000) := ⟨by have := HF.out.conf; rw [show R1.conf = g.conf from hlen.1]; exact this, by have h1 := hlen.2; have h2 := HG60.out; have h3 := HN.out; simp only at h1; omega⟩
  clear hlen hR
  obtain ⟨x0, x1, x2, x3⟩ := H5.out.o.cells
  go_wp2_with fail
  with_reducible refine hM.mono ?_
  clear hM x0 x1 x2 x3
  rintro e w6 ⟨cw, ew, rfl, o1, o2, b6⟩
  have kb := below_box w6 (.cells #[.int .u64 (R1.base : Nat), .int .u64 (R1.bt : Nat), cw, ew] 26)
  have HA := Lib.hid (Ma.new (k := R1) o1 o2)
  have HB6 := Lib.hid (b6.trans (kb.mono b6.size))
  obtain ⟨p1, p2, rfl⟩ := o1.form
  obtain ⟨p3, p4, rfl⟩ := o2.form
  clear o1 o2 b6 kb
  simp only [lgC]
  go_upto_region 7 with (fail)
  obtain ⟨cw, hcw⟩ : ∃ v, Value.slice p1 R1.conf.length p2 = v := ⟨_, rfl⟩
  obtain ⟨ew, hew⟩ : ∃ v, Value.slice p3 R1.es.length p4 = v := ⟨_, rfl⟩
  rw [hcw, hew] at HA HB6 ⊢
  clear hcw hew
  generalize w6.alloc (.cells #[.int .u64 (R1.base : Nat), .int .u64 (R1.bt : Nat), cw, ew] 26) = F7 at *
  generalize w6.heap.size = ab at *
  have H7 := Lib.hid (H5.out.below HB6.out)
  obtain ⟨x0, x1, x2, x3⟩ := H7.out.a.cells
  have hM := HM2.out F7 H7.out.a.b
  go_wp2_with fail
  with_reducible refine hM.mono ?_
  clear hM HM2 x0 x1 x2 x3 H7
  rintro e w8 ⟨ex, rfl, o1, o2, -, b8⟩
  have kb := below_box w8 (.cells #[.int .u64 (R1.base : Nat), .int .u64 (R1.bt : Nat), cv, ex] 26)
  have HA8 := Lib.hid ((HA.out.below b8).below kb)
  have HB8 := Lib.hid (HB6.out.trans ((b8.trans (kb.mono b8.size)).mono HB6.out.size))
  have HD : Hid (Bx F7 (w8.alloc (.cells #[.int .u64 (R1.base : Nat), .int .u64 (R1.bt : Nat), cv, ex] 26)) w8.heap.size cv ex R1) := ⟨Arr.new w8 _ _, ⟨o1.later _ kb, o2.later _ kb⟩, b8.trans (kb.mono b8.size)⟩
  obtain ⟨p1, p2, hcv⟩ := sl_form o1
  obtain ⟨p3, p4, rfl⟩ := sl_form o2
  clear o1 o2 b8 kb HA HB6
  simp only [lgC]
  subst hcv
  go_upto_region 8 with (fail)
  obtain ⟨cv, hcw⟩ : ∃ v, Value.slice p1 R1.conf.length p2 = v := ⟨_, rfl⟩
  obtain ⟨ex, hew⟩ : ∃ v, Value.slice p3 R1.es.length p4 = v := ⟨_, rfl⟩
  rw [hcw] at HA8 HB8 HD H5 HV ⊢
  rw [hew] at HA8 HB8 HD ⊢
  clear hcw hew
  generalize w8.alloc (.cells #[.int .u64 (R1.base : Nat), .int .u64 (R1.bt : Nat), cv, ex] 26) = F9 at *
  generalize w8.heap.size = bb at *
  have hS := sameLogs_any R1.base R1.bt R1.base R1.bt cw ew cv ex R1.conf R1.conf R1.es R1.es HL.out.1 HL.out.2 F9 HA8.out.c.sl HD.out.v.c HA8.out.e.sl HD.out.v.l
  rw [show decide (R1.base = R1.base ∧ R1.bt = R1.bt ∧ R1.conf = R1.conf ∧ R1.es = R1.es) = true from decide_eq_true ⟨rfl, rfl, rfl, rfl⟩] at hS
  obtain ⟨x0, x1, x2, x3⟩ := HA8.out.cells
  obtain ⟨y0, y1, y2, y3⟩ := HD.out.cells
  have q1 : ((R2 : Int) != (R2 : Int)) = false := by simp
  have q2 : (R3 != R3) = false := by cases R3 <;> rfl
  go_wp2_with fail
  with_reducible refine hS.mono ?_
  clear hS x0 x1 x2 x3 y0 y1 y2 y3 HD
  rintro e w10 ⟨rfl, b10⟩
  have HA10 := Lib.hid (HA8.out.below b10)
  have HB10 := Lib.hid (HB8.out.trans (b10.mono HB8.out.size))
  clear b10 HA8 HB8
  obtain ⟨x0, x1, x2, x3⟩ := HA10.out.cells
  have hP := spoil_any R1 cw ew F.heap.size w10 HB10.out.size HL.out.1 HL.out.2 HA10.out.c HA10.out.e
  go_wp2_with fail
  with_reducible refine hP.mono ?_
  clear hP x0 x1 x2 x3 HA10 q1 q2
  rintro e w11 ⟨rfl, b11⟩
  have H11 := Lib.hid (H5.out.below (HB10.out.trans b11))
  clear b11 HB10 H5
  obtain ⟨x0, x1, x2, x3⟩ := H11.out.o.cells
  obtain ⟨y0, y1, y2, y3⟩ := H11.out.a.cells
  have hS := sameLogs_any g.base g.bt g.base g.bt cu eu cv ev g.conf g.conf g.es g.es HF.out.conf (by have := HG60.out; omega) w11 H11.out.o.v.c H11.out.a.v.c H11.out.o.v.l H11.out.a.v.l
  rw [show decide (g.base = g.base ∧ g.bt = g.bt ∧ g.conf = g.conf ∧ g.es = g.es) = true from decide_eq_true ⟨rfl, rfl, rfl, rfl⟩] at hS
  go_wp2_with fail
  with_reducible refine hS.mono ?_
  clear hS x0 x1 x2 x3 y0 y1 y2 y3
  rintro e w12 ⟨rfl, b12⟩
  have H12 := Lib.hid (H11.out.below b12)
  clear b12 H11
  have hS := sameEntries_any (.slice a4 N c4) (.slice la N lc) l l (by rw [HN.out]; omega) w12 H12.out.m (HV.out.2.later _ H12.out.a.b)
  rw [show decide (l = l) = true from decide_eq_true rfl] at hS
  go_wp2_with fail
  with_reducible refine hS.mono ?_
  clear hS
  rintro e w13 ⟨rfl, b13⟩
  have HB := Lib.hid (H12.out.below b13).a.b
  clear b13
  go_wp2_with fail
  go_ret
  exact ⟨rfl, HB.out⟩
end Go.Proofs.Ythhnhnljefiboaa.tl
/-! TlR7 -/
namespace Go.Proofs.Ythhnhnljefiboaa.tl
set_option linter.unusedVariables false
open Go.RowKit
open pk (S S_size S_data)
open qm (Bs noSh readS RdOut rread_any)
open rw (Arr But below_box bnext below_drew below_drewN)

theorem term_last (g : Lg) : g.term g.last = (g.lastT, true) := by
  have hr : g.rch g.last = true := Lg.rch_iff.2 ⟨by unfold Lg.last; omega, Nat.le_refl _⟩
  rw [Lg.term_yes hr, Lg.upTo_of hr, Lg.lastT, show g.last - g.base = g.es.length by unfold Lg.last; omega]
theorem last_lt {g : Lg} (hf : Fit g) : g.last < 18446744073709551616 := by
  have h1 := hf.base
  have h2 := hf.es
  unfold Lg.last
  omega
set_option maxHeartbeats 4000000 in
set_option maxRecDepth 100000 in
theorem rnewer_any (g : Lg) (cv ev : Value) (i t : Nat) (hi : i < 18446744073709551616) (ht : t < 18446744073709551616) (hf : Fit g) (w : World) (h : LV w cv ev g) :
    Calls Try.prog 25 #[g.v cv ev, .int .u64 (i : Nat), .int .u64 (t : Nat)] w fun e w' => e = .returned (.bool (g.newer i t)) ∧ Below w.heap.size w w' := by
  have H0 := Lib.hid h.box
  have HL := Lib.hid fun W b => rlast_any g cv ev hf W (h.later b)
  have HT := Lib.hid fun W b => rterm_any g cv ev g.last (last_lt hf) hf W (h.later b)
  rw [term_last] at HT
  obtain ⟨la, hla⟩ : ∃ x, g.last = x := ⟨_, rfl⟩
  obtain ⟨lt, hlt⟩ : ∃ x, g.lastT = x := ⟨_, rfl⟩
  rw [hla] at HL HT
  rw [hlt] at HT
  obtain ⟨r, hr⟩ : ∃ r, g.newer i t = r := ⟨_, rfl⟩
  have HA : Hid (r = (decide (lt < t) || (decide (t = lt) && decide (la ≤ i)))) := by show _ = _; rw [← hr, Lg.newer, hla, hlt]
  rw [hr]
  clear h hla hlt hf hr
  go_enter Try.func25, Try.ntmps25
  go_upto_region 1 with (fail)
  generalize w.alloc (.cells #[.int .u64 (g.base : Nat), .int .u64 (g.bt : Nat), cv, ev] 26) = W at *
  have H1 := Lib.hid (H0.out.below (below_drew (Below.refl _ _)))
  have kA := H1.out.cells
  have hL := HL.out W.drew H1.out.b
  go_region_held3 (fun W => W.cell? ⟨w.heap.size, 0, none⟩ = some (.int .u64 (g.base : Nat)) ∧ W.cell? ⟨w.heap.size, 1, none⟩ = some (.int .u64 (g.bt : Nat)) ∧ W.cell? ⟨w.heap.size, 2, none⟩ = some cv ∧ W.cell? ⟨w.heap.size, 3, none⟩ = some ev)
    (first | (with_reducible exact kA) | (with_reducible exact kB) | (with_reducible exact kC))
    (first
      | (go_at_call 15; with_reducible refine hL.mono ?_; rintro e w2 ⟨rfl, b2⟩; have H2 := Lib.hid (H1.out.below b2); have kB := H2.out.cells; have hT := HT.out w2 H2.out.b; clear b2 hL)
      | (go_at_call 14; with_reducible refine hT.mono ?_; rintro e w3 ⟨rfl, b3⟩; have H3 := Lib.hid (H2.out.below b3); have kC := H3.out.cells; clear b3 hT))
  all_goals (
    clear kA kB kC H0 H1 H2
    rcases Nat.lt_trichotomy lt t with c | c | c
    · have HA2 : Hid (r = decide (lt < t)) := by show _ = _; rw [HA.out, show decide (t = lt) = false from decide_eq_false (by omega)]; simp
      have q1 : ((t : Int) != (lt : Int)) = true := by simp; omega
      clear HA c
      go_wp2_with fail
      go_ret
      rw [HA2.out]
      exact ⟨rfl, H3.out.b⟩
    · subst c
      have HA2 : Hid (r = decide (la ≤ i)) := by show _ = _; rw [HA.out, decide_eq_false (Nat.lt_irrefl _), decide_eq_true rfl]; rfl
      have q1 : ((lt : Int) != (lt : Int)) = false := by simp
      have hL := HL.out w3 H3.out.b
      obtain ⟨x0, x1, x2, x3⟩ := H3.out.cells
      clear HA
      go_wp2_with fail
      with_reducible refine hL.mono ?_
      clear hL x0 x1 x2 x3
      rintro e w4 ⟨rfl, b4⟩
      have H4 := Lib.hid (H3.out.below b4)
      clear b4 q1
      go_wp2_with fail
      go_ret
      rw [HA2.out]
      exact ⟨rfl, H4.out.b⟩
    · have HA2 : Hid (r = decide (lt < t)) := by show _ = _; rw [HA.out, show decide (t = lt) = false from decide_eq_false (by omega)]; simp
      have q1 : ((t : Int) != (lt : Int)) = true := by simp; omega
      clear HA c
      go_wp2_with fail
      go_ret
      rw [HA2.out]
      exact ⟨rfl, H3.out.b⟩)

/-! ### The members -/
/-- Members handed out, with where they are said. -/
def RcOut (w : World) (cv : Value) (M : List Int) (a : Nat) (e : Ending) (w' : World) : Prop :=
  ∃ mv, e = .returned (.tuple #[mv, .int .u64 (a : Nat)]) ∧ rw.Sl noSh w' mv M ∧ (mv = cv ∨ rw.Own noSh w' w.heap.size mv M) ∧ Below w.heap.size w w'
/-- Under way: after so many entries. -/
structure Cf (w W : World) (cv ev : Value) (g : Lg) (mv : Value) (M : List Int × Nat) (a : Nat) : Prop where
  b : Bx w W w.heap.size cv ev g
  a : a = M.2
  l : rw.Sl noSh W mv M.1
  o : mv = cv ∨ rw.Own noSh W w.heap.size mv M.1
theorem Cf.below {w W W' : World} {cv ev mv : Value} {g : Lg} {M : List Int × Nat} {a : Nat} (h : Cf w W cv ev g mv M a) (b : Below W.heap.size W W') : Cf w W' cv ev g mv M a := by
  refine ⟨h.b.below b, h.a, h.l.later _ b, ?_⟩
  rcases h.o with e | o
  · exact .inl e
  · exact .inr (o.below _ b)
theorem mem_on {g : Lg} {k U q tq : Nat} (hk : k < g.es.length) (hU : U = g.upTo tq) (hq : q = g.base + 1 + k) :
    (q ≤ tq → g.mem (min (k + 1) U) = match says (g.es[k]) with | some l => (l, q) | none => g.mem (min k U)) ∧ (¬ q ≤ tq → g.mem (min (k + 1) U) = g.mem (min k U)) := by
  unfold Lg.upTo at hU
  constructor
  · intro h
    have e1 : min (k + 1) U = k + 1 := by omega
    have e2 : min k U = k := by omega
    rw [e1, e2]
    show (match says (g.es.getD k e0) with | some l => (l, g.base + k + 1) | none => g.mem k) = _
    rw [getD_at hk, show g.base + k + 1 = q by omega]
  · intro h
    have e1 : min (k + 1) U = min k U := by omega
    rw [e1]
set_option maxHeartbeats 8000000 in
set_option maxRecDepth 100000 in
theorem rconf_any (g : Lg) (cv ev : Value) (tq : Nat) (htq : tq < 18446744073709551616) (hf : Fit g) (hd : ∀ x ∈ g.es, x.data.length ≤ 1000000000) (w : World) (h : LV w cv ev g) :
    Calls Try.prog 18 #[g.v cv ev, .int .u64 (tq : Nat)] w (RcOut w cv (g.mem (g.upTo tq)).1 (g.mem (g.upTo tq)).2) := by
  obtain ⟨ea, ec, rfl⟩ := sl_form h.l
  have H0 := Lib.hid h.box
  have HV := Lib.hid h
  have HRd : Hid (∀ x ∈ g.es, ∀ W, Calls Try.prog 44 #[.string (S x.data)] W fun e w' => RdOut W w' (readS x.data) e) := fun x hx W => rread_any x.data (hd x hx) W
  have hb := hf.base
  have hes := hf.es
  obtain ⟨U, hU⟩ : ∃ U, g.upTo tq = U := ⟨_, rfl⟩
  have hUl := g.upTo_le tq
  rw [hU] at hUl ⊢
  have HU : Hid (U = g.upTo tq) := hU.symm
  obtain ⟨N, hN⟩ : ∃ N, g.es.length = N := ⟨_, rfl⟩
  have HN := Lib.hid hN
  rw [hN] at H0 HV hes hUl ⊢
  have HUl := Lib.hid hUl
  clear h hf hd hU hN hUl
  go_enter Try.func18, Try.ntmps18
  go_upto_region 1 with (fail)
  generalize w.alloc (.cells #[.int .u64 (g.base : Nat), .int .u64 (g.bt : Nat), cv, .slice ea N ec] 26) = W0 at *
  obtain ⟨x0, x1, x2, x3⟩ := H0.out.cells
  go_quiet (fail)
  have H1 : Hid (Cf w (W0.drewN nq) cv (.slice ea N ec) g cv (g.mem (min 0 U)) g.base) := by
    have b := H0.out.below (below_drewN (Below.refl _ _) nq)
    rw [Nat.zero_min]
    exact ⟨b, rfl, b.v.c, .inl rfl⟩
  clear x0 x1 x2 x3 H0
  generalize W0.drewN nq = W1 at *
  go_wp2_with fail
  go_loopw [6, 7, 8] (fun xv av iv wr => ∃ (a k : Nat) (mv : Value), mv = xv ∧ av = .int .u64 (a : Nat) ∧ iv = .int .i64 (k : Nat) ∧ k ≤ N ∧ Hid (Cf w wr cv (.slice ea N ec) g mv (g.mem (min k U)) a))
    (fun _ _ iv _ => N - (intOf iv).toNat)
  case atStart => exact ⟨g.base, 0, cv, rfl, rfl, rfl, Nat.zero_le _, H1.out⟩
  case round =>
    clear H1
    obtain ⟨a, k, mv, rfl, rfl, rfl, hk, HI⟩ := hrel
    by_cases hlt : k < N
    · have hki : (k : Int) < (N : Int) := by omega
      have hkl : k < g.es.length := by rw [HN.out]; exact hlt
      obtain ⟨q, hq⟩ : ∃ q, g.base + 1 + k = q := ⟨_, rfl⟩
      have f1 : IntKind.u64.wrap ((g.base : Int) + 1) = (g.base : Int) + 1 := u64_in _ (by omega)
      have f2 : IntKind.u64.wrap (k : Int) = (k : Int) := u64_in _ (by omega)
      have f3 : IntKind.u64.wrap ((g.base : Int) + 1 + (k : Int)) = (q : Int) := by rw [u64_in _ (by omega)]; omega
      obtain ⟨m1, m2⟩ := mem_on (g := g) hkl HU.out hq.symm
      have hRd := HRd.out (g.es[k]) (List.getElem_mem hkl) wr
      obtain ⟨b, off, c, e, hbw, z0, z1, z2⟩ := slE_at HI.out.b.v.l hkl
      injection e with e1 e2 e3
      subst e1 e3
      clear e2 hbw
      obtain ⟨x, hx⟩ : ∃ x, g.es[k] = x := ⟨_, rfl⟩
      rw [hx] at hRd z0 z1 z2 m1
      obtain ⟨xt, xk, xd⟩ := x
      simp only at hRd z0 z1 z2
      obtain ⟨R, hR⟩ : ∃ R, readS xd = R := ⟨_, rfl⟩
      rw [hR] at hRd
      obtain ⟨rl, re⟩ := R
      have HM : Hid ((q ≤ tq → xk = 2 → re = 0 → g.mem (min (k + 1) U) = (rl, q)) ∧ (¬ (q ≤ tq ∧ xk = 2 ∧ re = 0) → g.mem (min (k + 1) U) = g.mem (min k U))) := by
        refine ⟨fun h1 h2 h3 => ?_, fun hn => ?_⟩
        · rw [m1 h1, says_yes (x := ⟨xt, xk, xd⟩) h2 (by show (readS xd).2 = 0; rw [hR]; exact h3)]
          show ((readS xd).1, q) = _
          rw [hR]
        · by_cases h1 : q ≤ tq
          · rw [m1 h1]
            by_cases h2 : xk = 2
            · have h3 : re ≠ 0 := fun h3 => hn ⟨h1, h2, h3⟩
              rw [says_no_text (x := ⟨xt, xk, xd⟩) (by show (readS xd).2 ≠ 0; rw [hR]; exact h3)]
            · rw [says_no_kind (x := ⟨xt, xk, xd⟩) h2]
          · exact m2 h1
      have HZ : Hid (∀ W (B : Below wr.heap.size wr W), W.cell? ⟨b, off + k * 3, none⟩ = some (.int .u64 (xt : Nat)) ∧ W.cell? ⟨b, off + k * 3 + 1, none⟩ = some (.int .i64 xk) ∧ W.cell? ⟨b, off + k * 3 + 2, none⟩ = some (.string (S xd))) := fun W B => by
        obtain ⟨b', off', c', e', _, z0', z1', z2'⟩ := slE_at (HI.out.b.v.l.later _ B) hkl
        injection e' with e1' e2' e3'
        injection e1' with e1'
        injection e1' with h1 h2 _
        subst h1 h2
        rw [hx] at z0' z1' z2'
        exact ⟨z0', z1', z2'⟩
      have HK : Hid (k + 1 ≤ N ∧ N - (k + 1) < N - k) := ⟨by omega, by omega⟩
      obtain ⟨x0, x1, x2, x3⟩ := HI.out.b.cells
      clear m1 m2 hR hq hx hkl
      go_wp2_with fail
      with_reducible refine hRd.mono ?_
      clear hRd x0 x1 x2 x3 z0 z1 z2
      rintro e w2 ⟨u, rfl, o2, b2⟩
      have H2 := Lib.hid (HI.out.below b2)
      have HO := Lib.hid (own_lower o2 HI.out.b.b.size)
      obtain ⟨z0, z1, z2⟩ := HZ.out w2 b2
      obtain ⟨x0, x1, x2, x3⟩ := H2.out.b.cells
      clear o2 b2 HI HZ
      by_cases c1 : q ≤ tq
      · have q1 : (q : Int) ≤ (tq : Int) := by omega
        by_cases c2 : xk = 2
        · have q2 : (xk == 2) = true := beq_iff_eq.2 c2
          by_cases c3 : re = 0
          · have q3 : ((re : Int) == 0) = true := beq_iff_eq.2 (by omega)
            have HX : Hid (Cf w w2 cv (.slice (some ⟨b, off, none⟩) N ec) g u (g.mem (min (k + 1) U)) q) := by
              show Cf _ _ _ _ _ _ _ _
              rw [HM.out.1 c1 c2 c3]
              exact ⟨H2.out.b, rfl, HO.out.sl, .inr HO.out⟩
            clear c1 c2 c3 HM
            go_wp2_with fail
            exact ⟨⟨q, k + 1, u, rfl, rfl, by rw [Int.natCast_add]; rfl, HK.out.1, HX.out⟩, by have := HK.out.2; simp only [intOf]; omega⟩
          · have q3 : ((re : Int) == 0) = false := beq_eq_false_iff_ne.2 (by omega)
            have HX : Hid (Cf w w2 cv (.slice (some ⟨b, off, none⟩) N ec) g mv (g.mem (min (k + 1) U)) a) := by
              show Cf _ _ _ _ _ _ _ _
              rw [HM.out.2 (fun h => c3 h.2.2)]
              exact H2.out
            clear c1 c2 c3 HM
            go_wp2_with fail
            exact ⟨⟨a, k + 1, mv, rfl, rfl, by rw [Int.natCast_add]; rfl, HK.out.1, HX.out⟩, by have := HK.out.2; simp only [intOf]; omega⟩
        · have q2 : (xk == 2) = false := beq_eq_false_iff_ne.2 c2
          have HX : Hid (Cf w w2 cv (.slice (some ⟨b, off, none⟩) N ec) g mv (g.mem (min (k + 1) U)) a) := by
            show Cf _ _ _ _ _ _ _ _
            rw [HM.out.2 (fun h => c2 h.2.1)]
            exact H2.out
          clear c1 c2 HM
          go_wp2_with fail
          exact ⟨⟨a, k + 1, mv, rfl, rfl, by rw [Int.natCast_add]; rfl, HK.out.1, HX.out⟩, by have := HK.out.2; simp only [intOf]; omega⟩
      · have q1 : ¬ (q : Int) ≤ (tq : Int) := by omega
        have HX : Hid (Cf w w2 cv (.slice (some ⟨b, off, none⟩) N ec) g mv (g.mem (min (k + 1) U)) a) := by
          show Cf _ _ _ _ _ _ _ _
          rw [HM.out.2 (fun h => c1 h.1)]
          exact H2.out
        clear c1 HM
        go_wp2_with fail
        exact ⟨⟨a, k + 1, mv, rfl, rfl, by rw [Int.natCast_add]; rfl, HK.out.1, HX.out⟩, by have := HK.out.2; simp only [intOf]; omega⟩
    · obtain rfl : k = N := by omega
      have hki : ¬ (k : Int) < (k : Int) := by omega
      have HX : Hid (Cf w wr cv (.slice ea k ec) g mv (g.mem U) a) := by
        have := HI.out
        rw [Nat.min_eq_right HUl.out] at this
        exact this
      clear HI
      obtain ⟨x0, x1, x2, x3⟩ := HX.out.b.cells
      go_wp2_with fail
      go_ret2
      refine ⟨mv, ?_, HX.out.l, HX.out.o, HX.out.b.b⟩
      rw [← HX.out.a]
      rfl
end Go.Proofs.Ythhnhnljefiboaa.tl
/-! TlS3 -/
namespace Go.Proofs.Ythhnhnljefiboaa.tl
set_option linter.unusedVariables false

theorem says_right {x : EnIn} {l : List Int} (h : says x = some l) : qm.right l = true := by
  unfold says at h
  split at h
  · rename_i hk
    cases h
    have h2 := hk.2
    unfold qm.readS at h2 ⊢
    split
    · rename_i hh
      have h3 := hh.2
      rcases hr : qm.right ((x.data.tail).map qm.toI) with _ | _
      · unfold qm.textL at h3
        rw [if_neg (by rw [hr]; decide)] at h3
        have h4 := hh.1
        rw [← h3] at h4
        simp at h4
      · rfl
    · rename_i hh
      rw [if_neg hh] at h2
      cases h2
  · cases h
theorem mem_ok {g : Lg} (h : confOk g.conf = true) : ∀ n, confOk (g.mem n).1 = true
  | 0 => h
  | n + 1 => by
    unfold Lg.mem
    split
    · rename_i l hl
      show confOk l = true
      rw [confOk, says_right hl, Bool.or_true]
    · exact mem_ok h n
/-- What is told of a log that was let go up to an index. -/
structure Cut (g k : Lg) (b : Nat) : Prop where
  in_ : g.rch b = true
  base : k.base = b
  es : k.es = g.es.drop (b - g.base)
  bt : k.bt = g.tb (b - g.base)
  conf : k.conf = (g.mem (b - g.base)).1
theorem compact_cut (g : Lg) (b : Nat) : (g.compact b = (g, false)) ∨ ∃ k, g.compact b = (k, true) ∧ Cut g k b := by
  unfold Lg.compact
  rcases hr : g.rch b with _ | _
  · exact .inl rfl
  · refine .inr ⟨_, rfl, hr, rfl, ?_, ?_, ?_⟩
    · have e : g.term b = ((g.term b).1, true) := by rw [Lg.term_yes hr]
      show (if g.term b = ((g.term b).1, true) then g.es.drop (g.upTo b) else []) = _
      rw [if_pos e, Lg.upTo_of hr]
    · show (g.term b).1 = _
      rw [Lg.term_yes hr, Lg.upTo_of hr]
    · show (g.mem (g.upTo b)).1 = _
      rw [Lg.upTo_of hr]
theorem Cut.len {g k : Lg} {b : Nat} (c : Cut g k b) : g.base ≤ b ∧ b - g.base ≤ g.es.length ∧ k.es.length = g.es.length - (b - g.base) := by
  have hi := Lg.rch_iff.1 c.in_
  unfold Lg.last at hi
  exact ⟨hi.1, by omega, by rw [c.es, List.length_drop]⟩
theorem Cut.tb {g k : Lg} {b : Nat} (c : Cut g k b) (n : Nat) : k.tb n = g.tb (b - g.base + n) := by
  unfold Lg.tb
  by_cases z : n = 0
  · subst z
    rw [if_pos rfl, Nat.add_zero, c.bt]
    rfl
  · rw [if_neg z, if_neg (by omega), c.es, List.getD_eq_getElem?_getD, List.getElem?_drop, List.getD_eq_getElem?_getD]
    congr 4
    omega
theorem Cut.last {g k : Lg} {b : Nat} (c : Cut g k b) : k.last = g.last ∧ k.lastT = g.lastT := by
  obtain ⟨h1, h2, h3⟩ := c.len
  constructor
  · unfold Lg.last; rw [c.base, h3]; omega
  · unfold Lg.lastT; rw [c.tb, h3]; congr 1; omega
theorem Cut.right {g k : Lg} {b : Nat} (c : Cut g k b) (hg : g.right = true) (hb : b ≤ 4611686018427387904) : k.right = true := by
  obtain ⟨h1, h2, h3⟩ := c.len
  obtain ⟨q1, q2, q3, q4⟩ := g.right_iff.1 hg
  refine (Lg.right_iff _).2 ⟨by rw [c.base]; exact hb, by omega, ?_, ?_⟩
  · have h4 : confOk g.conf = true := by
      rcases q3 with h | h
      · rw [h]; rfl
      · rw [confOk, h, Bool.or_true]
    have h5 := mem_ok h4 (b - g.base)
    rw [← c.conf] at h5
    unfold confOk at h5
    rw [Bool.or_eq_true, decide_eq_true_eq] at h5
    exact h5.imp List.eq_nil_of_length_eq_zero id
  · refine (rises_good k).2 fun j hj => ?_
    have hgd := right_good hg (show b - g.base + j < g.es.length by omega)
    have e : k.es.getD j e0 = g.es.getD (b - g.base + j) e0 := by
      rw [c.es, List.getD_eq_getElem?_getD, List.getElem?_drop, List.getD_eq_getElem?_getD]
    unfold Good at hgd ⊢
    rw [c.tb, e]
    exact hgd
theorem Cut.term {g k : Lg} {b i : Nat} (c : Cut g k b) (hi : b ≤ i) : k.term i = g.term i := by
  obtain ⟨h1, h2, h3⟩ := c.len
  obtain ⟨l1, l2⟩ := c.last
  rcases hr : g.rch i with _ | _
  · have : k.rch i = false := by
      rw [← Bool.not_eq_true, Lg.rch_iff] at hr ⊢
      rw [c.base, l1]
      omega
    rw [Lg.term_no hr, Lg.term_no this]
  · have h5 := Lg.rch_iff.1 hr
    have : k.rch i = true := by rw [Lg.rch_iff, c.base, l1]; omega
    rw [Lg.term_yes hr, Lg.term_yes this, Lg.upTo_of hr, Lg.upTo_of this, c.tb, c.base]
    congr 2
    omega
theorem Cut.mem {g k : Lg} {b : Nat} (c : Cut g k b) : ∀ n, (k.mem n).1 = (g.mem (b - g.base + n)).1
  | 0 => c.conf
  | n + 1 => by
    have ih := c.mem n
    have e : k.es.getD n e0 = g.es.getD (b - g.base + n) e0 := by
      rw [c.es, List.getD_eq_getElem?_getD, List.getElem?_drop, List.getD_eq_getElem?_getD]
    rw [← Nat.add_assoc]
    unfold Lg.mem
    rw [e]
    split
    · rfl
    · exact ih
theorem Cut.confAt {g k : Lg} {b i : Nat} (c : Cut g k b) (hi : b ≤ i) : (k.mem (k.upTo i)).1 = (g.mem (g.upTo i)).1 := by
  obtain ⟨h1, h2, h3⟩ := c.len
  rw [c.mem]
  congr 2
  unfold Lg.upTo
  rw [c.base, h3]
  omega
theorem Cut.slice {g k : Lg} {b f : Nat} (c : Cut g k b) (m : Int) (hf : b < f ∨ f = 0) : k.slice f m = g.slice f m := by
  obtain ⟨h1, h2, h3⟩ := c.len
  obtain ⟨l1, l2⟩ := c.last
  unfold Lg.slice
  rw [l1, c.base]
  by_cases z : b < f ∧ f ≤ g.last ∧ 1 ≤ m
  · rw [if_pos z, if_pos (by omega), c.es, List.drop_drop]
    congr 2
    omega
  · rw [if_neg z, if_neg (by omega)]
theorem term_lt' {g : Lg} (hf : Fit g) (i : Nat) : (g.term i).1 < 18446744073709551616 := by
  unfold Lg.term
  split
  · simp only [Lg.tb]
    split
    · exact hf.bt
    · have := g.upTo_le i
      rw [getD_at (by omega)]
      exact (hf.e _ (List.getElem_mem _)).1
  · decide
theorem Cut.fit {g k : Lg} {b : Nat} (c : Cut g k b) (hf : Fit g) (hb : b ≤ 4611686018427387904 + 1000000) : Fit k := by
  obtain ⟨h1, h2, h3⟩ := c.len
  refine ⟨by rw [c.base]; exact hb, ?_, by rw [c.conf]; exact mem_len hf.conf _, by have := hf.es; omega, fun x hx => hf.e x ?_⟩
  · have := term_lt' hf b
    rw [Lg.term_yes c.in_, Lg.upTo_of c.in_] at this
    rw [c.bt]
    exact this
  · rw [c.es] at hx
    exact List.mem_of_mem_drop hx
end Go.Proofs.Ythhnhnljefiboaa.tl
/-! TlR9 -/
namespace Go.Proofs.Ythhnhnljefiboaa.tl
set_option linter.unusedVariables false
open Go.RowKit
open pk (S S_size S_data)
open qm (Bs noSh)
open rw (Arr But below_box bnext below_drew below_drewN)

theorem slice_all {g : Lg} {i : Nat} (h : g.rch i = true) : g.slice (i + 1) (g.es.length : Int) = g.es.drop (g.upTo i) := by
  have hi := Lg.rch_iff.1 h
  rw [Lg.upTo_of h]
  unfold Lg.last at hi
  unfold Lg.slice Lg.last
  by_cases c : i + 1 ≤ g.base + g.es.length
  · rw [if_pos ⟨by omega, c, by omega⟩, show i + 1 - g.base - 1 = i - g.base by omega, List.take_of_length_le (by rw [List.length_drop]; omega)]
  · rw [if_neg (fun hh => c hh.2.1), List.drop_eq_nil_of_le (by omega)]
/-- A log handed out: the members' row as it came, its entries new. -/
def RgOut (w : World) (kv : Value) (base bt : Nat) (c : List Int) (l : List EnIn) (e : Ending) (w' : World) : Prop :=
  ∃ eu, e = .returned (.agg (lgC base bt kv eu)) ∧ rw.Sl noSh w' kv c ∧ rw.Own enSh w' w.heap.size eu l ∧ Below w.heap.size w w'
theorem In.told {w W : World} {cv ev kv eu : Value} {g : Lg} {i t : Nat} {c : List Int} {l : List EnIn} (h0 : rw.Sl noSh w kv c) (a : In w W cv ev g ⟨i, t, c, []⟩ kv eu) (o : rw.Own enSh W w.heap.size eu l) :
    Arr (layL W (w.heap.size + 1) i t kv eu) (w.heap.size + 1) 26 (lgC i t kv eu) ∧ RgOut w kv i t c l (.returned (.agg (lgC i t kv eu))) (layL W (w.heap.size + 1) i t kv eu) := by
  have k := layL_but W (w.heap.size + 1) i t kv eu
  have b := a.b.trans (k.below a.b.size (by omega))
  exact ⟨layL_arr a.fr, eu, rfl, h0.later _ b, own_but o a.fr (by decide) k, b⟩
set_option maxHeartbeats 8000000 in
set_option maxRecDepth 100000 in
theorem rinstall_any (g : Lg) (cv ev : Value) (i t : Nat) (kv : Value) (conf : List Int) (hi : i < 18446744073709551616) (ht : t < 18446744073709551616) (hf : Fit g) (w : World) (h : LV w cv ev g) (hh : rw.Sl noSh w kv conf) :
    Calls Try.prog 34 #[g.v cv ev, .int .u64 (i : Nat), .int .u64 (t : Nat), kv] w (RgOut w kv i t conf (g.install i t conf).es) := by
  obtain ⟨ha, hcc, rfl⟩ := sl_form hh
  obtain ⟨a2, k2, rfl⟩ := sl_form h.l
  have H0 := Lib.hid (In.start (h := ⟨i, t, conf, []⟩) (hv := .slice ha conf.length hcc) rfl h)
  have HT := Lib.hid fun W (b : Below w.heap.size w W) => rterm_any g cv (.slice a2 g.es.length k2) i hi hf W (h.later b)
  have hes := hf.es
  have hbs := hf.base
  have HS := Lib.hid fun W (b : Below w.heap.size w W) (z : Nat) (hz : z < 18446744073709551616) => rslice_any g cv (.slice a2 g.es.length k2) z (g.es.length : Int) hz ⟨by omega, by omega⟩ hf W (h.later b)
  have HL := Lib.hid h
  have HH := Lib.hid hh
  obtain ⟨T, hT⟩ : ∃ T, g.term i = T := ⟨_, rfl⟩
  rw [hT] at HT
  have HTT := Lib.hid hT
  obtain ⟨tt, tb⟩ := T
  obtain ⟨R, hR⟩ : ∃ R, (g.install i t conf).es = R := ⟨_, rfl⟩
  rw [hR]
  have HR : Hid (R = if (tt, tb) = (t, true) then g.es.drop (g.upTo i) else []) := by show R = _; rw [← hR, Lg.install, hT]
  obtain ⟨N, hN⟩ : ∃ N, g.es.length = N := ⟨_, rfl⟩
  have HN := Lib.hid hN
  obtain ⟨cn, hcn⟩ : ∃ cn, conf.length = cn := ⟨_, rfl⟩
  rw [hN] at H0 HT HL HS hes ⊢
  rw [hcn] at H0 HH ⊢
  simp only at H0
  clear h hh hf hT hR hN hcn
  go_enter Try.func34, Try.ntmps34
  go_upto_region 2 with (fail)
  generalize ((w.alloc (.cells #[.int .u64 (g.base : Nat), .int .u64 (g.bt : Nat), cv, .slice a2 N k2] 26)).alloc (.cells #[.int .u64 0, .int .u64 0, .slice none 0 0, .slice none 0 0] 26)).alloc (.cells #[.int .u64 (i : Nat), .int .u64 (t : Nat), .slice ha cn hcc, .slice none 0 0] 26) = W0 at *
  have hT := HT.out W0 H0.out.b
  obtain ⟨x0, x1, x2, x3⟩ := H0.out.cg
  go_wp2_with fail
  with_reducible refine hT.mono ?_
  clear hT x0 x1 x2 x3 HT
  rintro e w2 ⟨rfl, b2⟩
  have H2 := Lib.hid (H0.out.below b2)
  clear b2 H0
  by_cases hyes : tb = true ∧ tt = t
  · obtain ⟨rfl, rfl⟩ := hyes
    have hrr : g.rch i = true := by
      rcases hr : g.rch i with _ | _
      · have := HTT.out; rw [Lg.term_no hr] at this; cases this
      · rfl
    have HR2 : Hid (g.slice (i + 1) (N : Int) = R) := by show _ = R; rw [HR.out, if_pos rfl, ← HN.out]; exact slice_all hrr
    have hri := Lg.rch_iff.1 hrr
    unfold Lg.last at hri
    rw [HN.out] at hri
    have f1 : IntKind.u64.wrap ((i : Int) + 1) = ((i + 1 : Nat) : Int) := by rw [u64_in _ (by omega)]; omega
    have hS := HS.out w2 H2.out.b (i + 1) (by omega)
    rw [HR2.out] at hS
    obtain ⟨z, hz⟩ : ∃ z, i + 1 = z := ⟨_, rfl⟩
    rw [hz] at f1 hS
    have q1 : ((tt : Int) == (tt : Int)) = true := beq_iff_eq.2 rfl
    obtain ⟨x0, x1, x2, x3⟩ := H2.out.cg
    clear HR hri hz hrr HTT HR2
    go_wp2_with fail
    with_reducible refine hS.mono ?_
    clear hS x0 x1 x2 x3 HS
    rintro e w4 ⟨eu, rfl, o4, b4⟩
    have H4 := Lib.hid (H2.out.below b4)
    have O4 := own_lower o4 H2.out.b.size
    have H5 := Lib.hid (H4.out.put HL.out eu)
    have O5 := own_but O4 H4.out.fh (by decide) ((But.refl (w.heap.size + 1 + 1) w4).set 3 eu)
    have HP := Lib.hid (H5.out.told HH.out O5)
    obtain ⟨e6a, e6c, rfl⟩ := o4.form
    clear o4 b4 O4 O5
    obtain ⟨z0, z1, z2, z3, z4⟩ := H4.out.ch
    simp only at z0 z1
    go_upto_region 5 with (fail)
    clear z0 z1 z2 z3 z4
    generalize w4.setCell ⟨w.heap.size + 1 + 1, 3, none⟩ (.slice e6a R.length e6c) = W5 at *
    obtain ⟨z0, z1, z2, z3, z4⟩ := H5.out.ch
    simp only at z0 z1
    obtain ⟨y0, y1, y2, y3, f0, f1, f2, f3⟩ := H5.out.cr
    go_wp2_with fail
    exact bodyPost_ret (results_lg2 rfl rfl HP.out.1) rfl HP.out.2
  · have HR2 : Hid (R = []) := by
      show R = _
      rw [HR.out, if_neg]
      intro e
      injection e with e1 e2
      exact hyes ⟨e2, e1⟩
    clear HR HTT HS
    have hq : tb = false ∨ (tb = true ∧ ((tt : Int) == (t : Int)) = false) := by
      cases tb with
      | false => exact .inl rfl
      | true => exact .inr ⟨rfl, beq_eq_false_iff_ne.2 (fun e => hyes ⟨rfl, by omega⟩)⟩
    have hq2 : Hid (tb = true → decide (tt = t) = false) := fun e => decide_eq_false (fun e2 => hyes ⟨e, e2⟩)
    clear hyes
    have HP : Hid (Arr (layL w2 (w.heap.size + 1) i t (.slice ha cn hcc) (.slice none 0 0)) (w.heap.size + 1) 26 (lgC i t (.slice ha cn hcc) (.slice none 0 0)) ∧ RgOut w (.slice ha cn hcc) i t conf R (.returned (.agg (lgC i t (.slice ha cn hcc) (.slice none 0 0)))) (layL w2 (w.heap.size + 1) i t (.slice ha cn hcc) (.slice none 0 0))) := by
      rw [HR2.out]
      exact H2.out.told HH.out (rw.Own.nil _ _ _)
    rcases hq with rfl | ⟨rfl, q1⟩
    all_goals (
      try have q2 := hq2.out rfl
      obtain ⟨z0, z1, z2, z3, z4⟩ := H2.out.ch
      simp only at z0 z1
      obtain ⟨y0, y1, y2, y3, f0, f1, f2, f3⟩ := H2.out.cr
      go_wp2_with fail
      exact bodyPost_ret (results_lg2 rfl rfl HP.out.1) rfl HP.out.2)
/-- A log handed out, with an answer. -/
def RkOut (w : World) (r : Lg × Bool) (e : Ending) (w' : World) : Prop :=
  ∃ kv eu, e = .returned (.tuple #[.agg (lgC r.1.base r.1.bt kv eu), .bool r.2]) ∧ rw.Sl noSh w' kv r.1.conf ∧ rw.Sl enSh w' eu r.1.es ∧ Below w.heap.size w w'
set_option maxHeartbeats 8000000 in
set_option maxRecDepth 100000 in
theorem rcompact_any (g : Lg) (cv ev : Value) (i : Nat) (hi : i < 18446744073709551616) (hf : Fit g) (hd : ∀ x ∈ g.es, x.data.length ≤ 1000000000) (w : World) (h : LV w cv ev g) :
    Calls Try.prog 32 #[g.v cv ev, .int .u64 (i : Nat)] w (RkOut w (g.compact i)) := by
  obtain ⟨ca, cc, rfl⟩ := sl_form h.c
  obtain ⟨ea, ec, rfl⟩ := sl_form h.l
  obtain ⟨nc, hnc⟩ : ∃ n, g.conf.length = n := ⟨_, rfl⟩
  obtain ⟨ne, hne⟩ : ∃ n, g.es.length = n := ⟨_, rfl⟩
  rw [hnc, hne] at h ⊢
  clear hnc hne
  have H0 := Lib.hid (In2.start h)
  have HV := Lib.hid h
  have HT := Lib.hid fun W (b : Below w.heap.size w W) => rterm_any g _ _ i hi hf W (h.later b)
  have HCo := Lib.hid fun W (b : Below w.heap.size w W) => rconf_any g _ _ i hi hf hd W (h.later b)
  have HIn := Lib.hid fun W (b : Below w.heap.size w W) (t : Nat) (ht : t < 18446744073709551616) (kv : Value) (conf : List Int) (hh : rw.Sl noSh W kv conf) => rinstall_any g _ _ i t kv conf hi ht hf W (h.later b) hh
  obtain ⟨r, hr⟩ : ∃ r, g.rch i = r := ⟨_, rfl⟩
  cases r with
  | false =>
    have HR : Hid (g.compact i = (g, false)) := by show _ = _; rw [Lg.compact, hr]; rfl
    have ht : g.term i = (0, false) := Lg.term_no hr
    rw [ht] at HT
    rw [HR.out]
    clear h hf hr ht HIn HCo hd
    go_enter Try.func32, Try.ntmps32
    go_upto_region 1 with (fail)
    generalize (w.alloc (.cells #[.int .u64 (g.base : Nat), .int .u64 (g.bt : Nat), .slice ca nc cc, .slice ea ne ec] 26)).alloc (.cells #[.int .u64 0, .int .u64 0, .slice none 0 0, .slice none 0 0] 26) = W0 at *
    have hT := HT.out W0 H0.out.b
    obtain ⟨x0, x1, x2, x3⟩ := H0.out.cg
    go_wp2_with fail
    with_reducible refine hT.mono ?_
    clear hT x0 x1 x2 x3
    rintro e w2 ⟨rfl, b2⟩
    have H2 := Lib.hid (H0.out.below b2)
    clear b2 H0
    obtain ⟨x0, x1, x2, x3⟩ := H2.out.cg
    obtain ⟨y0, y1, y2, y3, f0, f1, f2, f3⟩ := H2.out.cr
    have hz := Lib.hid (layL_arr (base := g.base) (bterm := g.bt) (cv := .slice ca nc cc) (ev := .slice ea ne ec) H2.out.fr)
    have HD : Hid (RkOut w (g, false) (.returned (.tuple #[.agg (lgC g.base g.bt (.slice ca nc cc) (.slice ea ne ec)), .bool false])) (layL w2 (w.heap.size + 1) g.base g.bt (.slice ca nc cc) (.slice ea ne ec))) := by
      have k := layL_but w2 (w.heap.size + 1) g.base g.bt (.slice ca nc cc) (.slice ea ne ec)
      have b := H2.out.b.trans (k.below H2.out.b.size (by omega))
      exact ⟨_, _, rfl, HV.out.c.later _ b, HV.out.l.later _ b, b⟩
    go_wp2_with fail
    exact bodyPost_ret (results_lgb rfl rfl rfl hz.out) rfl HD.out
  | true =>
    have ht : g.term i = (g.tb (g.upTo i), true) := Lg.term_yes hr
    have htl := term_lt' hf i
    rw [ht] at HT htl
    obtain ⟨T, hT⟩ : ∃ T, g.tb (g.upTo i) = T := ⟨_, rfl⟩
    rw [hT] at HT htl
    obtain ⟨M, hM⟩ : ∃ M, g.mem (g.upTo i) = M := ⟨_, rfl⟩
    obtain ⟨M, ma⟩ := M
    rw [hM] at HCo
    have HR : Hid (g.compact i = (g.install i T M, true)) := by show _ = _; rw [Lg.compact, hr, ht, hT, hM]; rfl
    rw [HR.out]
    have HIs : Hid ((g.install i T M).base = i ∧ (g.install i T M).bt = T ∧ (g.install i T M).conf = M) := ⟨rfl, rfl, rfl⟩
    have HI2 := Lib.hid fun W (b : Below w.heap.size w W) (kv : Value) (hh : rw.Sl noSh W kv M) => HIn.out W b T htl kv M hh
    obtain ⟨I, hI⟩ : ∃ I, g.install i T M = I := ⟨_, rfl⟩
    rw [hI] at HIs HI2 ⊢
    clear h hf hr ht hT hM hd HIn hI HR
    go_enter Try.func32, Try.ntmps32
    go_upto_region 1 with (fail)
    generalize (w.alloc (.cells #[.int .u64 (g.base : Nat), .int .u64 (g.bt : Nat), .slice ca nc cc, .slice ea ne ec] 26)).alloc (.cells #[.int .u64 0, .int .u64 0, .slice none 0 0, .slice none 0 0] 26) = W0 at *
    have hT := HT.out W0 H0.out.b
    obtain ⟨x0, x1, x2, x3⟩ := H0.out.cg
    go_wp2_with fail
    with_reducible refine hT.mono ?_
    clear hT x0 x1 x2 x3 HT
    rintro e w2 ⟨rfl, b2⟩
    have H2 := Lib.hid (H0.out.below b2)
    clear b2 H0
    obtain ⟨x0, x1, x2, x3⟩ := H2.out.cg
    have hC := HCo.out w2 H2.out.b
    go_wp2_with fail
    with_reducible refine hC.mono ?_
    clear hC x0 x1 x2 x3 HCo
    rintro e w3 ⟨kv, rfl, s3, o3, b3⟩
    have H3 := Lib.hid (H2.out.below b3)
    have HI3 := HI2.out w3 H3.out.b kv s3
    have HO3 : Hid (kv = .slice ca nc cc ∨ rw.Own noSh w3 w.heap.size kv M) := by
      rcases o3 with e | o
      · exact .inl e
      · exact .inr (own_lower o H2.out.b.size)
    obtain ⟨ka, kc, hkf⟩ := sl_form s3
    have HKF := Lib.hid hkf
    clear b3 o3 H2 s3 HI2 hkf
    obtain ⟨x0, x1, x2, x3⟩ := H3.out.cg
    go_wp2_with fail
    with_reducible refine HI3.mono ?_
    clear HI3 x0 x1 x2 x3
    rintro e w4 ⟨eu, rfl, s4, o4, b4⟩
    have H4 := Lib.hid (H3.out.below b4)
    have HD : Hid (RkOut w (I, true) (.returned (.tuple #[.agg (lgC i T kv eu), .bool true])) (layL w4 (w.heap.size + 1) i T kv eu)) := by
      obtain ⟨e1, e2, e3⟩ := HIs.out
      have k := layL_but w4 (w.heap.size + 1) i T kv eu
      have b := H4.out.b.trans (k.below H4.out.b.size (by omega))
      have o5 := own_but o4 H4.out.fr (by decide) k
      refine ⟨kv, eu, by rw [e1, e2], ?_, o5.sl, b⟩
      rw [e3]
      rcases HO3.out with e | o
      · subst e
        exact s4.but noSh k (off_old HV.out.c s4 (by omega))
      · exact (own_but (o.below _ b4) H4.out.fr (by decide) k).sl
    obtain ⟨e6a, e6c, rfl⟩ := o4.form
    clear s4 o4 b4
    rw [HKF.out] at HD ⊢
    have hz := Lib.hid (layL_arr (base := i) (bterm := T) (cv := .slice ka M.length kc) (ev := .slice e6a I.es.length e6c) H4.out.fr)
    simp only [lgC]
    obtain ⟨y0, y1, y2, y3, f0, f1, f2, f3⟩ := H4.out.cr
    go_wp2_with fail
    exact bodyPost_ret (results_lgb rfl rfl rfl hz.out) rfl HD.out
end Go.Proofs.Ythhnhnljefiboaa.tl
/-! TlL6 -/
namespace Go.Proofs.Ythhnhnljefiboaa.tl
set_option linter.unusedVariables false
open Go.RowKit
open pk (S S_size S_data)
open qm (Bs noSh)
open rw (Arr But below_box bnext below_drew below_drewN)

theorem install_len (g : Lg) (i t : Nat) (c : List Int) : (g.install i t c).es.length ≤ g.es.length := by
  unfold Lg.install
  dsimp only
  split
  · rw [List.length_drop]; omega
  · simp
theorem compact_len {g : Lg} (hf : Fit g) (i : Nat) : (g.compact i).1.conf.length ≤ 1000000000 ∧ (g.compact i).1.es.length ≤ g.es.length := by
  unfold Lg.compact
  split
  · exact ⟨mem_len hf.conf _, install_len _ _ _ _⟩
  · exact ⟨hf.conf, Nat.le_refl _⟩
/-- What came in, its twin in a box, the members' twin. -/
structure Mh (w W : World) (cv ev : Value) (g : Lg) (ob : Nat) (cu eu mv : Value) (l : List Int) : Prop where
  a : Bx w W w.heap.size cv ev g
  o : Bx w W ob cu eu g
  m : rw.Sl noSh W mv l
theorem Mh.below {w W W' : World} {cv ev cu eu mv : Value} {g : Lg} {ob : Nat} {l : List Int} (h : Mh w W cv ev g ob cu eu mv l) (b : Below W.heap.size W W') : Mh w W' cv ev g ob cu eu mv l := ⟨h.a.below b, h.o.below b, h.m.later _ b⟩
theorem Ma.sav {W W' : World} {B ab : Nat} {cw ew : Value} {k : Lg} {P : Nat → Prop} (h : Ma W B ab cw ew k) (b : Sav P W W') (hb : ∀ q, B ≤ q → ¬ P q) (ha : B ≤ ab) : Ma W' B ab cw ew k := ⟨b.arr h.a (hb ab ha), b.own h.c hb, b.own h.e hb⟩
set_option maxHeartbeats 8000000 in
set_option maxRecDepth 100000 in
theorem bases_walk (g : Lg) (cv ev : Value) (i t : Nat) (lv : Value) (l : List Int) (hp : i < 18446744073709551616) (ht : t < 18446744073709551616) (hll : l.length ≤ 140737488355328) (hg : Came g) (hd : ∀ x ∈ g.es, x.data.length ≤ 1000000000) (w : World) (vg : LV w cv ev g) (vl : rw.Sl noSh w lv l) :
    Calls Try.prog 5 #[g.v cv ev, .int .u64 (i : Nat), .int .u64 (t : Nat), lv] w fun e w' => e = .returned (.bool true) ∧ Below w.heap.size w w' := by
  have H0 := Lib.hid vg.box
  have HAl := Lib.hid fun W => alive_any W
  have HAs := Lib.hid fun W b => asked_any g cv ev hg W (vg.later b)
  have HV := Lib.hid (And.intro vg vl)
  have HG := Lib.hid hg
  have HDd := Lib.hid hd
  obtain ⟨r, hr⟩ : ∃ r, g.asked = r := ⟨_, rfl⟩
  rw [hr] at HAs
  have HRR := Lib.hid hr
  obtain ⟨la, lc, rfl⟩ := sl_form vl
  obtain ⟨N, hN⟩ : ∃ N, l.length = N := ⟨_, rfl⟩
  have HN := Lib.hid hN
  rw [hN] at hll HV ⊢
  clear vg vl hg hr hN hd
  go_enter Try.func5, Try.ntmps5
  go_upto_region 1 with (fail)
  generalize w.alloc (.cells #[.int .u64 (g.base : Nat), .int .u64 (g.bt : Nat), cv, ev] 26) = W at *
  have hAl := HAl.out W
  go_wp2_with fail
  with_reducible refine hAl.mono ?_
  clear hAl HAl
  rintro e w1 ⟨rfl, b1⟩
  have H1 := Lib.hid (H0.out.below b1)
  clear b1 H0
  obtain ⟨x0, x1, x2, x3⟩ := H1.out.cells
  have hAs := HAs.out w1 H1.out.b
  cases r with
  | false =>
    go_wp2_with fail
    with_reducible refine hAs.mono ?_
    clear hAs
    rintro e w2 ⟨rfl, b2⟩
    have B2 := Lib.hid (H1.out.b.trans (b2.mono H1.out.b.size))
    clear b2
    go_wp2_with fail
    go_ret
    exact ⟨rfl, B2.out⟩
  | true =>
  go_wp2_with fail
  with_reducible refine hAs.mono ?_
  clear hAs x0 x1 x2 x3 HAs
  rintro e w2 ⟨rfl, b2⟩
  have H2 := Lib.hid (H1.out.below b2)
  clear b2 H1
  by_cases c60 : 20 < N
  · have q1 : (20 : Int) < (N : Int) := by omega
    go_wp2_with fail
    go_ret
    exact ⟨rfl, H2.out.b⟩
  have q1 : ¬ (20 : Int) < (N : Int) := by omega
  have HF := Lib.hid (HG.out.fit HRR.out)
  have HG60 : Hid (g.es.length ≤ 60) := (Lg.asked_iff.1 HRR.out).2
  have hT := twin_any g.base g.bt cv ev g.conf g.es HF.out.conf (by have := HG60.out; omega) w2 H2.out.v.c H2.out.v.l
  obtain ⟨x0, x1, x2, x3⟩ := H2.out.cells
  go_wp2_with fail
  with_reducible refine hT.mono ?_
  clear hT x0 x1 x2 x3 q1
  rintro e w3 ⟨cu, eu, rfl, o1, o2, b3⟩
  have H3 := Lib.hid (H2.out.below b3)
  obtain ⟨u4, w4, g4, o4, b4⟩ := rw.append_none noSh (.slice la N lc) l (by rw [HN.out]; omega) w3 (HV.out.2.later _ H3.out.b)
  obtain ⟨a4, c4, rfl⟩ : ∃ a c', u4 = .slice a l.length c' := o4.form
  rw [HN.out] at g4 o4
  have HR := Lib.hid g4
  have O1 := o1.sl.later _ b4
  have O2 := o2.sl.later _ b4
  have O4 := o4.sl
  obtain ⟨u1, n1, rfl⟩ := sl_form O1
  obtain ⟨u2, n2, rfl⟩ := sl_form O2
  have kb := below_box w4 (.cells #[.int .u64 (g.base : Nat), .int .u64 (g.bt : Nat), .slice u1 g.conf.length n1, .slice u2 g.es.length n2] 26)
  have H5 : Hid (Mh w (w4.alloc (.cells #[.int .u64 (g.base : Nat), .int .u64 (g.bt : Nat), .slice u1 g.conf.length n1, .slice u2 g.es.length n2] 26)) cv ev g w4.heap.size (.slice u1 g.conf.length n1) (.slice u2 g.es.length n2) (.slice a4 N c4) l) := by
    have h4 := H3.out.below b4
    have h5 := h4.below kb
    exact ⟨h5, ⟨Arr.new w4 _ _, ⟨O1.later _ kb, O2.later _ kb⟩, h5.b⟩, O4.later _ kb⟩
  clear o1 o2 b3 o4 b4 g4 O1 O2 O4 kb H2 H3
  simp only [lgC]
  go_upto_region 6 with (at_builtin; refine rw.wpList_append_at _ _ _ rfl rfl _ _ _ _ rfl rfl HR.out ?_)
  clear HR
  obtain ⟨cu, hcu⟩ : ∃ v, Value.slice u1 g.conf.length n1 = v := ⟨_, rfl⟩
  obtain ⟨eu, heu⟩ : ∃ v, Value.slice u2 g.es.length n2 = v := ⟨_, rfl⟩
  rw [hcu, heu] at H5 ⊢
  clear hcu heu
  generalize w4.alloc (.cells #[.int .u64 (g.base : Nat), .int .u64 (g.bt : Nat), cu, eu] 26) = F at *
  generalize w4.heap.size = ob at *
  have hM := compact_any g cu eu i hp HF.out F H5.out.o.v
  have HM2 : Hid (∀ W (b : Below w.heap.size w W), Calls Try.prog 32 #[g.v cv ev, .int .u64 (i : Nat)] W (RkOut W (g.compact i))) := fun W b => rcompact_any g cv ev i hp HF.out HDd.out W (HV.out.1.later b)
  have hIb : (g.install i t l).base = i ∧ (g.install i t l).bt = t ∧ (g.install i t l).conf = l := ⟨rfl, rfl, rfl⟩
  have HI1 : Hid (∀ W (b : Mh w W cv ev g ob cu eu (.slice a4 N c4) l), Calls Try.prog 33 #[g.v cu eu, .int .u64 (i : Nat), .int .u64 (t : Nat), .slice a4 N c4] W (LogOut W i t l (g.install i t l).es)) := fun W b => install_any g cu eu i t (.slice a4 N c4) l hp ht (by rw [HN.out]; omega) HF.out W b.o.v b.m
  have HI2 : Hid (∀ W (b : Below w.heap.size w W), Calls Try.prog 34 #[g.v cv ev, .int .u64 (i : Nat), .int .u64 (t : Nat), .slice la N lc] W (RgOut W (.slice la N lc) i t l (g.install i t l).es)) := fun W b => rinstall_any g cv ev i t (.slice la N lc) l hp ht HF.out W (HV.out.1.later b) (HV.out.2.later _ b)
  have hlen1 := compact_len HF.out i
  have hlen2 := install_len g i t l
  obtain ⟨R, hR⟩ : ∃ R, g.compact i = R := ⟨_, rfl⟩
  obtain ⟨Q, hQ⟩ : ∃ Q, (g.install i t l).es = Q := ⟨_, rfl⟩
  rw [hR] at hM HM2 hlen1
  rw [hQ] at HI1 HI2 hlen2
  obtain ⟨R1, R3⟩ := R
  have HL : Hid (R1.conf.length ≤ 1000000000 ∧ R1.es.length ≤ 1000000000 ∧ l.length ≤ 1000000000 ∧ Q.length ≤ 1000000000) := by
    have h1 := HG60.out
    have h2 := HN.out
    exact ⟨hlen1.1, by have := hlen1.2; simp only at this; omega, by omega, by omega⟩
  clear hlen1 hlen2 hR hQ hIb
  obtain ⟨x0, x1, x2, x3⟩ := H5.out.o.cells
  go_wp2_with fail
  with_reducible refine hM.mono ?_
  clear hM x0 x1 x2 x3
  rintro e w6 ⟨cw, ew, rfl, o1, o2, b6⟩
  have kb := below_box w6 (.cells #[.int .u64 (R1.base : Nat), .int .u64 (R1.bt : Nat), cw, ew] 26)
  have HA := Lib.hid (Ma.new (k := R1) o1 o2)
  have HB6 := Lib.hid (b6.trans (kb.mono b6.size))
  obtain ⟨p1, p2, rfl⟩ := o1.form
  obtain ⟨p3, p4, rfl⟩ := o2.form
  clear o1 o2 b6 kb
  simp only [lgC]
  go_upto_region 7 with (fail)
  obtain ⟨cw, hcw⟩ : ∃ v, Value.slice p1 R1.conf.length p2 = v := ⟨_, rfl⟩
  obtain ⟨ew, hew⟩ : ∃ v, Value.slice p3 R1.es.length p4 = v := ⟨_, rfl⟩
  rw [hcw, hew] at HA HB6 ⊢
  clear hcw hew
  generalize w6.alloc (.cells #[.int .u64 (R1.base : Nat), .int .u64 (R1.bt : Nat), cw, ew] 26) = F7 at *
  generalize w6.heap.size = ab at *
  have H7 := Lib.hid (H5.out.below HB6.out)
  obtain ⟨x0, x1, x2, x3⟩ := H7.out.a.cells
  have hM := HM2.out F7 H7.out.a.b
  go_wp2_with fail
  with_reducible refine hM.mono ?_
  clear hM HM2 x0 x1 x2 x3 H7
  rintro e w8 ⟨dv, ex, rfl, o1, o2, b8⟩
  have kb := below_box w8 (.cells #[.int .u64 (R1.base : Nat), .int .u64 (R1.bt : Nat), dv, ex] 26)
  have HA8 := Lib.hid ((HA.out.below b8).below kb)
  have HB8 := Lib.hid (HB6.out.trans ((b8.trans (kb.mono b8.size)).mono HB6.out.size))
  have HD : Hid (Bx F7 (w8.alloc (.cells #[.int .u64 (R1.base : Nat), .int .u64 (R1.bt : Nat), dv, ex] 26)) w8.heap.size dv ex R1) := ⟨Arr.new w8 _ _, ⟨o1.later _ kb, o2.later _ kb⟩, b8.trans (kb.mono b8.size)⟩
  obtain ⟨p1, p2, rfl⟩ := sl_form o1
  obtain ⟨p3, p4, rfl⟩ := sl_form o2
  clear o1 o2 b8 kb HA HB6
  simp only [lgC]
  go_upto_region 8 with (fail)
  obtain ⟨dv, hcw⟩ : ∃ v, Value.slice p1 R1.conf.length p2 = v := ⟨_, rfl⟩
  obtain ⟨ex, hew⟩ : ∃ v, Value.slice p3 R1.es.length p4 = v := ⟨_, rfl⟩
  rw [hcw, hew] at HA8 HB8 HD ⊢
  clear hcw hew
  generalize w8.alloc (.cells #[.int .u64 (R1.base : Nat), .int .u64 (R1.bt : Nat), dv, ex] 26) = F9 at *
  generalize w8.heap.size = bb at *
  have H9 := Lib.hid (H5.out.below HB8.out)
  have hM := HI1.out F9 H9.out
  obtain ⟨x0, x1, x2, x3⟩ := H9.out.o.cells
  go_wp2_with fail
  with_reducible refine hM.mono ?_
  clear hM HI1 x0 x1 x2 x3 H9
  rintro e w10 ⟨cy, ey, rfl, o1, o2, b10⟩
  have kb := below_box w10 (.cells #[.int .u64 (i : Nat), .int .u64 (t : Nat), cy, ey] 26)
  have b11 := b10.trans (kb.mono b10.size)
  have HC := Lib.hid (Ma.new (k := ⟨i, t, l, Q⟩) o1 o2)
  have HCb : Hid (F9.heap.size ≤ w10.heap.size) := b10.size
  have HFs : Hid (F.heap.size ≤ F9.heap.size) := HB8.out.size
  have HA10 := Lib.hid (HA8.out.below b11)
  have HD10 := Lib.hid (HD.out.below b11)
  have HB10 := Lib.hid (HB8.out.trans (b11.mono HB8.out.size))
  have HP1 : Hid ((∀ q, cw.ownBlock = some q → F.heap.size ≤ q ∧ q < F9.heap.size) ∧ (∀ q, ew.ownBlock = some q → F.heap.size ≤ q ∧ q < F9.heap.size)) := ⟨fun q e => HA8.out.c.lt q e, fun q e => HA8.out.e.lt q e⟩
  obtain ⟨p1, p2, rfl⟩ := o1.form
  obtain ⟨p3, p4, rfl⟩ := o2.form
  clear o1 o2 b10 b11 kb HA8 HD HB8
  simp only [lgC]
  go_upto_region 9 with (fail)
  obtain ⟨cy, hcw⟩ : ∃ v, Value.slice p1 l.length p2 = v := ⟨_, rfl⟩
  obtain ⟨ey, hew⟩ : ∃ v, Value.slice p3 Q.length p4 = v := ⟨_, rfl⟩
  rw [hcw, hew] at HC HA10 HD10 HB10 ⊢
  clear hcw hew
  simp only at HC
  generalize w10.alloc (.cells #[.int .u64 (i : Nat), .int .u64 (t : Nat), cy, ey] 26) = F11 at *
  generalize w10.heap.size = cb at *
  have H11 := Lib.hid (H5.out.below HB10.out)
  have hM := HI2.out F11 H11.out.a.b
  obtain ⟨x0, x1, x2, x3⟩ := H11.out.a.cells
  go_wp2_with fail
  with_reducible refine hM.mono ?_
  clear hM HI2 x0 x1 x2 x3 H11
  rintro e w12 ⟨ez, rfl, o1, o2, b12⟩
  have kb := below_box w12 (.cells #[.int .u64 (i : Nat), .int .u64 (t : Nat), .slice la N lc, ez] 26)
  have b13 := b12.trans (kb.mono b12.size)
  have HE : Hid (Bx F11 (w12.alloc (.cells #[.int .u64 (i : Nat), .int .u64 (t : Nat), .slice la N lc, ez] 26)) w12.heap.size (.slice la N lc) ez ⟨i, t, l, Q⟩) := ⟨Arr.new w12 _ _, ⟨o1.later _ kb, o2.sl.later _ kb⟩, b13⟩
  have HC12 := Lib.hid (HC.out.below b13)
  have HA12 := Lib.hid (HA10.out.below b13)
  have HD12 := Lib.hid (HD10.out.below b13)
  have HB12 := Lib.hid (HB10.out.trans (b13.mono HB10.out.size))
  obtain ⟨p3, p4, rfl⟩ := o2.form
  clear o1 o2 b12 b13 kb HC HA10 HD10 HB10
  simp only [lgC]
  go_upto_region 10 with (fail)
  obtain ⟨ez, hew⟩ : ∃ v, Value.slice p3 Q.length p4 = v := ⟨_, rfl⟩
  rw [hew] at HE HC12 HA12 HD12 HB12 ⊢
  clear hew
  generalize w12.alloc (.cells #[.int .u64 (i : Nat), .int .u64 (t : Nat), .slice la N lc, ez] 26) = F13 at *
  generalize w12.heap.size = db at *
  have hS := sameLogs_any R1.base R1.bt R1.base R1.bt cw ew dv ex R1.conf R1.conf R1.es R1.es HL.out.1 HL.out.2.1 F13 HA12.out.c.sl HD12.out.v.c HA12.out.e.sl HD12.out.v.l
  rw [show decide (R1.base = R1.base ∧ R1.bt = R1.bt ∧ R1.conf = R1.conf ∧ R1.es = R1.es) = true from decide_eq_true ⟨rfl, rfl, rfl, rfl⟩] at hS
  obtain ⟨x0, x1, x2, x3⟩ := HA12.out.cells
  obtain ⟨y0, y1, y2, y3⟩ := HD12.out.cells
  have q2 : (R3 != R3) = false := by cases R3 <;> rfl
  go_wp2_with fail
  with_reducible refine hS.mono ?_
  clear hS x0 x1 x2 x3 y0 y1 y2 y3 HD12
  rintro e w14 ⟨rfl, b14⟩
  have HA14 := Lib.hid (HA12.out.below b14)
  have HC14 := Lib.hid (HC12.out.below b14)
  have HE14 := Lib.hid (HE.out.below b14)
  have HB14 := Lib.hid (HB12.out.trans (b14.mono HB12.out.size))
  clear b14 HA12 HC12 HE HB12
  have hS := sameLogs_any i t i t cy ey (.slice la N lc) ez l l Q Q HL.out.2.2.1 HL.out.2.2.2 w14 HC14.out.c.sl HE14.out.v.c HC14.out.e.sl HE14.out.v.l
  rw [show decide (i = i ∧ t = t ∧ l = l ∧ Q = Q) = true from decide_eq_true ⟨rfl, rfl, rfl, rfl⟩] at hS
  obtain ⟨x0, x1, x2, x3⟩ := HC14.out.cells
  obtain ⟨y0, y1, y2, y3⟩ := HE14.out.cells
  simp only at x0 x1 y0 y1
  go_wp2_with fail
  with_reducible refine hS.mono ?_
  clear hS x0 x1 x2 x3 y0 y1 y2 y3 HE14 q2
  rintro e w15 ⟨rfl, b15⟩
  have HA15 := Lib.hid (HA14.out.below b15)
  have HC15 := Lib.hid (HC14.out.below b15)
  have HB15 := Lib.hid (HB14.out.trans (b15.mono HB14.out.size))
  clear b15 HA14 HC14 HB14
  have hP := spoil_sav R1 cw ew F.heap.size (fun q => F.heap.size ≤ q ∧ q < F9.heap.size) HP1.out.1 HP1.out.2 w15 HL.out.1 HL.out.2.1 HA15.out.c HA15.out.e
  obtain ⟨x0, x1, x2, x3⟩ := HA15.out.cells
  go_wp2_with fail
  with_reducible refine hP.mono ?_
  clear hP x0 x1 x2 x3 HA15 HP1
  rintro e w16 ⟨rfl, b16⟩
  have HC16 := Lib.hid (HC15.out.sav b16 (fun q hq hn => by omega) HCb.out)
  have HB16 := Lib.hid (HB15.out.trans (b16.below HB15.out.size fun q hq hn => by omega))
  clear b16 HC15 HB15
  have hP := spoil_any ⟨i, t, l, Q⟩ cy ey F.heap.size w16 HB16.out.size HL.out.2.2.1 HL.out.2.2.2 (own_lower HC16.out.c HFs.out) (own_lower HC16.out.e HFs.out)
  obtain ⟨x0, x1, x2, x3⟩ := HC16.out.cells
  simp only at x0 x1
  go_wp2_with fail
  with_reducible refine hP.mono ?_
  clear hP x0 x1 x2 x3 HC16
  rintro e w17 ⟨rfl, b17⟩
  have H17 := Lib.hid (H5.out.below (HB16.out.trans b17))
  clear b17 HB16 H5
  obtain ⟨x0, x1, x2, x3⟩ := H17.out.o.cells
  obtain ⟨y0, y1, y2, y3⟩ := H17.out.a.cells
  have hS := sameLogs_any g.base g.bt g.base g.bt cu eu cv ev g.conf g.conf g.es g.es HF.out.conf (by have := HG60.out; omega) w17 H17.out.o.v.c H17.out.a.v.c H17.out.o.v.l H17.out.a.v.l
  rw [show decide (g.base = g.base ∧ g.bt = g.bt ∧ g.conf = g.conf ∧ g.es = g.es) = true from decide_eq_true ⟨rfl, rfl, rfl, rfl⟩] at hS
  go_wp2_with fail
  with_reducible refine hS.mono ?_
  clear hS x0 x1 x2 x3 y0 y1 y2 y3
  rintro e w18 ⟨rfl, b18⟩
  have H18 := Lib.hid (H17.out.below b18)
  clear b18 H17
  have hS := qm.same_any (.slice a4 N c4) (.slice la N lc) l l (by rw [HN.out]; omega) (by rw [HN.out]; omega) w18 H18.out.m (HV.out.2.later _ H18.out.a.b)
  rw [show decide (l = l) = true from decide_eq_true rfl] at hS
  go_wp2_with fail
  with_reducible refine hS.mono ?_
  clear hS
  rintro e w19 ⟨rfl, b19⟩
  have HB := Lib.hid (H18.out.below b19).a.b
  clear b19
  go_wp2_with fail
  go_ret
  exact ⟨rfl, HB.out⟩
end Go.Proofs.Ythhnhnljefiboaa.tl
