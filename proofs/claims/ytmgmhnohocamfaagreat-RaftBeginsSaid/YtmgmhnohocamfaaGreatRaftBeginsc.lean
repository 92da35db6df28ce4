/-
  What the law's walk stands on, part 3 of 5: the texts RfCame, RfRows, RfBase, RfCells, RfCopy, RfMind, RfOth, RfWay1, RfCom, RfEnt, one behind the other.
-/
import Derived.Test.YtmgmhnohocamfaaGreatTlBase
import Derived.Test.YtmgmhnohocamfaaGreatRows
import Derived.ProofKit
import Derived.OpenShut
import Derived.Deep.Slices
import Derived.Deep.SlicePairs
import Derived.SizedLaws
import Derived.Test.YtmgmhnohocamfaaGreatTlP7
import Derived.Test.YtmgmhnohocamfaaGreatTlSl
import Derived.Laws.Rows
import Derived.Laws.Tables
import Derived.Deep.MidRow
import Derived.Lib.SliceRun
import Derived.Test.YtmgmhnohocamfaaGreatTlMe
import Derived.Test.YtmgmhnohocamfaaGreatRaftBeginsb
/-! RfCame -/
namespace Go.Proofs.YtmgmhnohocamfaaGreat.tl
structure Came (g : Lg) : Prop where
  base : g.base < 18446744073709551616
  bt : g.bt < 18446744073709551616
  conf : g.conf.length ≤ 140737488355328
  es : g.es.length ≤ 140737488355328
  e : ∀ x ∈ g.es, x.term < 18446744073709551616 ∧ x.data.length ≤ 281474976710656
end Go.Proofs.YtmgmhnohocamfaaGreat.tl
/-! RfRows -/
namespace Go.Proofs.YtmgmhnohocamfaaGreat.tl
set_option linter.unusedVariables false
open Go.ChangeShapes Go.WideShapes Go.ChangeAt Go.RowKit
open pk (S)
open qm (noSh)
open rw (addr_add)

theorem S_of (s : ByteArray) : S s.data.toList = s := by simp [S]
instance : Inhabited EnIn := ⟨⟨0, 0, []⟩⟩
/-! ### What holds of any shape -/
def Lite {H : Type} (d : DataW H) (t : TypeId) : Prop := ∀ n ∈ d.weights Tryz.prog t, n ≤ reachBytes
theorem weights_in {H : Type} {e : TypeId} {n : Nat} : ∀ {es : List (DataW H)} {d : DataW H}, d ∈ es → n ∈ d.weights Tryz.prog e → n ∈ DataW.weightsAll Tryz.prog e es
  | x :: r, d, h, hn => by
    rw [DataW.weightsAll, List.mem_append]
    rcases List.mem_cons.1 h with rfl | h
    · exact .inl hn
    · exact .inr (weights_in h hn)
theorem lite_slice {H : Type} {t e : TypeId} {es sp : List (DataW H)} (ht : Tryz.prog.underlying t = some (.slice e)) (h : Lite (.slice es sp) t) : (es.length + sp.length) * Tryz.prog.bytesOf e ≤ reachBytes ∧ ∀ d ∈ es, Lite d e := by
  unfold Lite at *
  simp only [DataW.weights, ht] at h
  exact ⟨h _ List.mem_cons_self, fun d hd n hn => h n (List.mem_cons_of_mem _ (List.mem_append.2 (.inl (weights_in hd hn))))⟩
theorem lite_len {H : Type} {t e : TypeId} {es sp : List (DataW H)} (ht : Tryz.prog.underlying t = some (.slice e)) (he : 1 ≤ Tryz.prog.bytesOf e) (h : Lite (.slice es sp) t) : es.length ≤ reachBytes := by
  have := (lite_slice ht h).1
  exact Nat.le_trans (Nat.le_trans (Nat.le_add_right _ _) (Nat.le_mul_of_pos_right _ he)) this
theorem lite_arg {H : Type} {ts : List TypeId} {ds : List (DataW H)} (h : (DataW.weightsEach Tryz.prog ts ds).all (· ≤ reachBytes) = true) {j : Nat} {t : TypeId} {d : DataW H} (ht : ts[j]? = some t) (hd : ds[j]? = some d) : Lite d t := fun n hn => by
  have := List.all_eq_true.1 h _ (DataW.weights_mem_each ht hd n hn)
  simpa using this
section
variable {H : Type} {enc : TypeId × Value → H} {W : World} {fuel : Nat} {cs : List Value} {x : DataW H × List MemPlace}
/-- A struct's field. -/
theorem field_of {t : TypeId} {fs : Array Field} (ht : Tryz.prog.underlying t = some (.struct fs)) (h : DataW.trod enc Tryz.prog W 0 (fun _ => true) true fuel t cs = some x) (hw : Lite x.1 t) (i : Nat) (t' : TypeId) (o : Nat) (hm : fs[i]?.map (fun f => (f.type, f.offset)) = some (t', o)) :
    ∃ n y, DataW.trod enc Tryz.prog W 0 (fun _ => true) true n t' ((cs.drop o).take (Tryz.prog.cellsOf t')) = some y ∧ Lite y.1 t' := by
  obtain ⟨xs, n, rfl, rfl, hl, hxl, hx⟩ := DataW.trod_struct ht h
  obtain ⟨f, hf, he⟩ := Option.map_eq_some_iff.1 hm
  cases he
  have hi : i < xs.length := by
    rw [hxl]
    obtain ⟨h1, _⟩ := Array.getElem?_eq_some_iff.1 hf
    exact h1
  have h1 := hx i f hf
  rw [List.getElem?_eq_getElem hi] at h1
  refine ⟨n, xs[i], h1, fun m hm => hw m ?_⟩
  simp only [DataW.weights, ht]
  refine DataW.weights_mem_each (j := i) (t := f.type) (d := xs[i].1) ?_ ?_ m hm
  · simp [hf]
  · simp [List.getElem?_eq_getElem hi]
theorem struct_len {t : TypeId} {fs : Array Field} (ht : Tryz.prog.underlying t = some (.struct fs)) (h : DataW.trod enc Tryz.prog W 0 (fun _ => true) true fuel t cs = some x) : cs.length = Tryz.prog.cellsOf t := by
  obtain ⟨xs, n, rfl, rfl, hl, hxl, hx⟩ := DataW.trod_struct ht h
  exact hl
theorem u64_of (h : DataW.trod enc Tryz.prog W 0 (fun _ => true) true fuel 34 cs = some x) : ∃ n : Nat, cs = [.int .u64 (n : Nat)] ∧ n < 18446744073709551616 := by
  obtain ⟨p, rfl, _, wp⟩ := DataW.trod_int Tryz.underlying34 h
  have bp : 0 ≤ p ∧ p ≤ 18446744073709551615 := by simpa [Lit.wf, IntKind.min, IntKind.max, IntKind.signed, IntKind.bits] using wp
  exact ⟨p.toNat, by rw [Int.toNat_of_nonneg bp.1], by omega⟩
theorem int_of (h : DataW.trod enc Tryz.prog W 0 (fun _ => true) true fuel 3 cs = some x) : ∃ n : Int, cs = [.int .i64 n] ∧ n ≤ 9223372036854775807 ∧ -9223372036854775808 ≤ n := by
  obtain ⟨p, rfl, _, wp⟩ := DataW.trod_int Tryz.underlying3 h
  have bp : -9223372036854775808 ≤ p ∧ p ≤ 9223372036854775807 := by simpa [Lit.wf, IntKind.min, IntKind.max, IntKind.signed, IntKind.bits] using wp
  exact ⟨p, rfl, bp.2, bp.1⟩
theorem str_of (h : DataW.trod enc Tryz.prog W 0 (fun _ => true) true fuel 9 cs = some x) (hw : Lite x.1 9) : ∃ l : List UInt8, cs = [.string (S l)] ∧ l.length ≤ reachBytes := by
  obtain ⟨s, rfl, d0, _⟩ := DataW.trod_string Tryz.underlying9 h
  refine ⟨s.data.toList, by rw [S_of], ?_⟩
  subst d0
  exact hw _ (by simp [DataW.weights])
/-- A slice of structs: what its reading gives. -/
theorem slice_of {α : Type} [Inhabited α] (s : rw.Sh α) (P : α → Prop) {t : TypeId} (ht : Tryz.prog.underlying t = some (.slice s.t)) (hk : Tryz.prog.cellsOf s.t = s.k)
    (hb : 1 ≤ Tryz.prog.bytesOf s.t) (hel : ∀ {n : Nat} {cs : List Value} {x : DataW H × List MemPlace}, DataW.trod enc Tryz.prog W 0 (fun _ => true) true n s.t cs = some x → Lite x.1 s.t → ∃ e, cs = s.enc e ∧ P e)
    (h : DataW.trod enc Tryz.prog W 0 (fun _ => true) true fuel t cs = some x) (hw : Lite x.1 t) : ∃ v l, cs = [v] ∧ rw.Sl s W v l ∧ (∀ e ∈ l, P e) ∧ l.length ≤ reachBytes := by
  rcases Deep.open_slice ht h with ⟨hcs, hx⟩ | ⟨x, l', c', m, n, D, Pl, hcs, _, hl, hm, hmm, hx, hcell⟩
  · exact ⟨_, [], hcs, rw.Sl.nil s W, fun e he => (by cases he), Nat.zero_le _⟩
  · simp only [if_true] at hmm
    subst hx
    rw [hk] at hcell
    have hls := lite_slice ht hw
    have liteI : ∀ i, i < l' → Lite (D i) s.t := fun i hi => hls.2 _ (List.mem_map.2 ⟨i, List.mem_range.2 hi, rfl⟩)
    have key : ∀ i, i < l' → ∃ k : α, (∀ j, j < s.k → W.cell? (x.add (i * s.k + j)) = (s.enc k)[j]?) ∧ P k := fun i hi => by
      obtain ⟨cs', h1, h2⟩ := hcell i (by omega)
      obtain ⟨k, rfl, hk⟩ := hel h2 (liteI i hi)
      obtain ⟨_, _, hc⟩ := World.cells?_some h1
      refine ⟨k, fun j hj => ?_, hk⟩
      have := hc j hj
      rw [Deep.add_add] at this
      exact this
    obtain ⟨f, hfr⟩ := Deep.choose_lt key
    refine ⟨_, (List.range l').map f, hcs, ⟨some x, c', by simp, by simpa using hl, ?_, fun e => by cases e⟩, ?_, ?_⟩
    · by_cases h0 : l' = 0
      · subst h0
        exact .inl (by simp)
      · obtain ⟨b, off, spot⟩ := x
        have hk0 := s.hk
        have h00 := (hfr 0 (by omega)).1 0 hk0
        have hen : 0 < (s.enc (f 0)).length := by rw [s.len]; exact hk0
        rw [List.getElem?_eq_getElem hen] at h00
        have hspot : spot = none := by simpa [Addr.add] using World.cell?_spot h00
        subst hspot
        refine .inr ⟨b, off, rfl, by have := World.block_lt_of_cell? W _ h00; rw [addr_add] at this; exact this, fun j hj i hi => ?_⟩
        have hj' : j < l' := by simpa using hj
        have h1 := (hfr j hj').1 i hi
        rw [addr_add] at h1
        simp only [List.getElem_map, List.getElem_range]
        rw [Nat.add_assoc]
        exact h1
    · intro k hk
      obtain ⟨i, hi, rfl⟩ := List.mem_map.1 hk
      rw [List.mem_range] at hi
      exact (hfr i hi).2
    · have h9 := lite_len ht hb hw
      simp only [List.length_map, List.length_range] at h9 ⊢
      exact h9
end
theorem reach47 : reachBytes ≤ 140737488355328 := by decide

section
variable {H : Type} {enc : TypeId × Value → H} {W : World} {fuel : Nat} {cs : List Value} {x : DataW H × List MemPlace}
set_option maxRecDepth 100000 in
theorem ent_of (h : DataW.trod enc Tryz.prog W 0 (fun _ => true) true fuel 51 cs = some x) (hw : Lite x.1 51) :
    ∃ e : EnIn, cs = enSh.enc e ∧ (e.term < 18446744073709551616 ∧ e.data.length ≤ 281474976710656) := by
  have hu := Tryz.underlying51
  have hl : cs.length = 3 := (struct_len hu h).trans (by kernel_rfl)
  obtain ⟨c0, c1, c2, rfl⟩ : ∃ c0 c1 c2, cs = [c0, c1, c2] := by
    match cs, hl with
    | [a, b, c], _ => exact ⟨a, b, c, rfl⟩
  have eI : Tryz.prog.cellsOf 3 = 1 := by kernel_rfl
  have eU : Tryz.prog.cellsOf 34 = 1 := by kernel_rfl
  have eS : Tryz.prog.cellsOf 9 = 1 := by kernel_rfl
  obtain ⟨n0, y0, f0, _⟩ := field_of hu h hw 0 34 0 rfl
  obtain ⟨n1, y1, f1, _⟩ := field_of hu h hw 1 3 1 rfl
  obtain ⟨n2, y2, f2, g2⟩ := field_of hu h hw 2 9 2 rfl
  simp only [eI, eU, eS, List.drop_zero, List.drop_succ_cons, List.take_succ_cons, List.take_zero] at f0 f1 f2
  obtain ⟨z0, e0, b0⟩ := u64_of f0
  obtain ⟨z1, e1, _⟩ := int_of f1
  obtain ⟨s2, e2, b2⟩ := str_of f2 g2
  simp only [List.cons.injEq, and_true] at e0 e1 e2
  subst e0 e1 e2
  exact ⟨⟨z0, z1, s2⟩, rfl, b0, Nat.le_trans b2 (by decide)⟩
theorem no_of (h : DataW.trod enc Tryz.prog W 0 (fun _ => true) true fuel 3 cs = some x) (_ : Lite x.1 3) :
    ∃ e : Int, cs = noSh.enc e ∧ True := by
  obtain ⟨z, e, _⟩ := int_of h
  exact ⟨z, e, trivial⟩
set_option maxRecDepth 100000 in
theorem es_of (h : DataW.trod enc Tryz.prog W 0 (fun _ => true) true fuel 35 cs = some x) (hw : Lite x.1 35) :
    ∃ v l, cs = [v] ∧ rw.Sl enSh W v l ∧ (∀ e ∈ l, e.term < 18446744073709551616 ∧ e.data.length ≤ 281474976710656) ∧ l.length ≤ reachBytes :=
  slice_of enSh (fun e => e.term < 18446744073709551616 ∧ e.data.length ≤ 281474976710656) Tryz.underlying35 (by kernel_rfl) (of_decide_eq_true (by kernel_rfl)) ent_of h hw
set_option maxRecDepth 100000 in
theorem nos_of (h : DataW.trod enc Tryz.prog W 0 (fun _ => true) true fuel 36 cs = some x) (hw : Lite x.1 36) :
    ∃ v l, cs = [v] ∧ rw.Sl noSh W v l ∧ (∀ e ∈ l, True) ∧ l.length ≤ reachBytes :=
  slice_of noSh (fun _ => True) Tryz.underlying36 (by kernel_rfl) (of_decide_eq_true (by kernel_rfl)) no_of h hw
set_option maxRecDepth 100000 in
theorem lg_of (h : DataW.trod enc Tryz.prog W 0 (fun _ => true) true fuel 46 cs = some x) (hw : Lite x.1 46) :
    ∃ (g : Lg) (cv ev : Value), cs = (lgC g.base g.bt cv ev).toList ∧ LV W cv ev g ∧ Came g := by
  have hu := Tryz.underlying46
  have hl : cs.length = 4 := (struct_len hu h).trans (by kernel_rfl)
  obtain ⟨c0, c1, c2, c3, rfl⟩ : ∃ c0 c1 c2 c3, cs = [c0, c1, c2, c3] := by
    match cs, hl with
    | [a, b, c, d], _ => exact ⟨a, b, c, d, rfl⟩
  have eU : Tryz.prog.cellsOf 34 = 1 := by kernel_rfl
  have eN : Tryz.prog.cellsOf 36 = 1 := by kernel_rfl
  have eE : Tryz.prog.cellsOf 35 = 1 := by kernel_rfl
  obtain ⟨n0, y0, f0, _⟩ := field_of hu h hw 0 34 0 rfl
  obtain ⟨n1, y1, f1, _⟩ := field_of hu h hw 1 34 1 rfl
  obtain ⟨n2, y2, f2, g2⟩ := field_of hu h hw 2 36 2 rfl
  obtain ⟨n3, y3, f3, g3⟩ := field_of hu h hw 3 35 3 rfl
  simp only [eU, eN, eE, List.drop_zero, List.drop_succ_cons, List.take_succ_cons, List.take_zero] at f0 f1 f2 f3
  obtain ⟨z0, e0, b0⟩ := u64_of f0
  obtain ⟨z1, e1, b1⟩ := u64_of f1
  obtain ⟨cv, c, e2, s2, _, l2⟩ := nos_of f2 g2
  obtain ⟨ev, l, e3, s3, t3, l3⟩ := es_of f3 g3
  simp only [List.cons.injEq, and_true] at e0 e1 e2 e3
  subst e0 e1 e2 e3
  exact ⟨⟨z0, z1, c, l⟩, _, _, rfl, ⟨s2, s3⟩, ⟨b0, b1, Nat.le_trans l2 reach47, Nat.le_trans l3 reach47, t3⟩⟩
end
set_option maxRecDepth 100000 in
theorem log_of {H : Type} {enc : TypeId × Value → H} {W : World} {base : Nat} {v : Value} {d : DataW H} {p : List MemPlace} (hval : Value.okWide Tryz.prog W .any base 46 v) (h : DataW.Trod enc Tryz.prog W 0 (fun _ => true) true 46 v d p) (hw : Lite d 46) :
    ∃ (g : Lg) (cv ev : Value), v = g.v cv ev ∧ LV W cv ev g ∧ Came g := by
  obtain ⟨cs, rfl, hsz⟩ := okWide_struct Tryz.underlying46 hval
  obtain ⟨fuel, hf⟩ := h
  obtain ⟨g, cv, ev, h1, h2, h3⟩ := lg_of hf hw
  refine ⟨g, cv, ev, ?_, h2, h3⟩
  simp only [Value.cells] at h1
  have : cs = lgC g.base g.bt cv ev := by rw [← Array.toList_inj]; exact h1
  rw [this]
  rfl
theorem entries_of {H : Type} {enc : TypeId × Value → H} {W : World} {a : Option Addr} {len cap : Nat} {d : DataW H} {p : List MemPlace} (h : DataW.Trod enc Tryz.prog W 0 (fun _ => true) true 35 (.slice a len cap) d p) (hw : Lite d 35) :
    ∃ l : List EnIn, rw.Sl enSh W (.slice a len cap) l ∧ (∀ e ∈ l, e.term < 18446744073709551616 ∧ e.data.length ≤ 281474976710656) ∧ l.length ≤ 140737488355328 := by
  obtain ⟨fuel, hf⟩ := h
  obtain ⟨v, l, h1, h2, h3, h4⟩ := es_of hf hw
  simp only [Value.cells, List.cons.injEq, and_true] at h1
  subst h1
  exact ⟨l, h2, h3, Nat.le_trans h4 reach47⟩
theorem ints_of {H : Type} {enc : TypeId × Value → H} {W : World} {a : Option Addr} {len cap : Nat} {d : DataW H} {p : List MemPlace} (h : DataW.Trod enc Tryz.prog W 0 (fun _ => true) true 36 (.slice a len cap) d p) (hw : Lite d 36) :
    ∃ l : List Int, rw.Sl noSh W (.slice a len cap) l ∧ l.length ≤ 140737488355328 := by
  obtain ⟨fuel, hf⟩ := h
  obtain ⟨v, l, h1, h2, h3, h4⟩ := nos_of hf hw
  simp only [Value.cells, List.cons.injEq, and_true] at h1
  subst h1
  exact ⟨l, h2, Nat.le_trans h4 reach47⟩
theorem u64_in_ {n : Int} (h : (Lit.int .u64 n).wf = true) : ∃ k : Nat, n = (k : Nat) ∧ k < 18446744073709551616 := by
  have bp : 0 ≤ n ∧ n ≤ 18446744073709551615 := by simpa [Lit.wf, IntKind.min, IntKind.max, IntKind.signed, IntKind.bits] using h
  exact ⟨n.toNat, by omega, by omega⟩
theorem i64_in_ {n : Int} (h : (Lit.int .i64 n).wf = true) : -9223372036854775808 ≤ n ∧ n ≤ 9223372036854775807 := by
  simpa [Lit.wf, IntKind.min, IntKind.max, IntKind.signed, IntKind.bits] using h
section
variable {H : Type} {enc : TypeId × Value → H} {W : World} {fuel : Nat} {cs : List Value} {x : DataW H × List MemPlace}
set_option maxRecDepth 100000 in
theorem hd_of (h : DataW.trod enc Tryz.prog W 0 (fun _ => true) true fuel 65 cs = some x) (hw : Lite x.1 65) :
    ∃ (t : Nat) (v : Int) (l : Nat), cs = [.int .u64 (t : Nat), .int .i64 v, .int .u64 (l : Nat)] := by
  have hu := Tryz.underlying65
  have hl : cs.length = 3 := (struct_len hu h).trans (by kernel_rfl)
  obtain ⟨c0, c1, c2, rfl⟩ : ∃ c0 c1 c2, cs = [c0, c1, c2] := by
    match cs, hl with
    | [a, b, c], _ => exact ⟨a, b, c, rfl⟩
  have eI : Tryz.prog.cellsOf 3 = 1 := by kernel_rfl
  have eU : Tryz.prog.cellsOf 34 = 1 := by kernel_rfl
  obtain ⟨n0, y0, f0, _⟩ := field_of hu h hw 0 34 0 rfl
  obtain ⟨n1, y1, f1, _⟩ := field_of hu h hw 1 3 1 rfl
  obtain ⟨n2, y2, f2, _⟩ := field_of hu h hw 2 34 2 rfl
  simp only [eI, eU, List.drop_zero, List.drop_succ_cons, List.take_succ_cons, List.take_zero] at f0 f1 f2
  obtain ⟨z0, e0, _⟩ := u64_of f0
  obtain ⟨z1, e1, _⟩ := int_of f1
  obtain ⟨z2, e2, _⟩ := u64_of f2
  simp only [List.cons.injEq, and_true] at e0 e1 e2
  subst e0 e1 e2
  exact ⟨z0, z1, z2, rfl⟩
end
set_option maxRecDepth 100000 in
theorem hard_of {H : Type} {enc : TypeId × Value → H} {W : World} {base : Nat} {v : Value} {d : DataW H} {p : List MemPlace} (hval : Value.okWide Tryz.prog W .any base 65 v) (h : DataW.Trod enc Tryz.prog W 0 (fun _ => true) true 65 v d p) (hw : Lite d 65) :
    ∃ (t : Nat) (x : Int) (l : Nat), v = .agg #[.int .u64 (t : Nat), .int .i64 x, .int .u64 (l : Nat)] := by
  obtain ⟨cs, rfl, hsz⟩ := okWide_struct Tryz.underlying65 hval
  obtain ⟨fuel, hf⟩ := h
  obtain ⟨t, x, l, h1⟩ := hd_of hf hw
  refine ⟨t, x, l, ?_⟩
  simp only [Value.cells] at h1
  have : cs = #[.int .u64 (t : Nat), .int .i64 x, .int .u64 (l : Nat)] := by rw [← Array.toList_inj]; exact h1
  rw [this]
end Go.Proofs.YtmgmhnohocamfaaGreat.tl
/-! RfBase -/
namespace Go.Proofs.YtmgmhnohocamfaaGreat.rf
set_option linter.unusedVariables false
open Go.RowKit
open pk (S S_size S_data)
open qm (Bs noSh)
open rw (Arr But below_box bnext below_drew below_drewN)
open tl

theorem setCell_same {W : World} {q i : Nat} {v : Value} (h : W.cell? ⟨q, i, none⟩ = some v) : W.setCell ⟨q, i, none⟩ v = W := by
  unfold World.cell? at h
  split at h
  · rename_i c e f hb
    have h2 : c[i]? = some v := by simpa using h
    unfold World.setCell
    have hh : (W.heap.modify q fun
      | .cells c elem frozen => .cells (if (none : Option Nat).isSome then c else c.setIfInBounds i v) elem frozen
      | o => o) = W.heap := by
      apply Array.ext_getElem?
      intro k
      rw [Array.getElem?_modify]
      by_cases hk : q = k
      · subst hk
        rw [if_pos rfl]
        have hb2 : W.heap[q]? = some (.cells c e f) := hb
        rw [hb2]
        simp only [Option.map_some, Option.isSome_none, Bool.false_eq_true, if_false]
        congr 2
        apply Array.ext_getElem?
        intro j
        rw [Array.getElem?_setIfInBounds]
        by_cases hj : i = j
        · subst hj
          obtain ⟨hi, _⟩ := Array.getElem?_eq_some_iff.1 h2
          rw [if_pos rfl, if_pos hi, h2]
        · rw [if_neg hj]
      · rw [if_neg hk]
    exact congrArg (fun h => ({ W with heap := h } : World)) hh
  · simp at h
/-- A row of one's own: its cells may be written. -/
theorem own_frozen {α : Type} {s : rw.Sh α} {W : World} {B : Nat} {l : List α} {q off n c : Nat} (o : rw.Own s W B (.slice (some ⟨q, off, none⟩) n c) l) (i : Nat) : W.frozen? ⟨q, i, none⟩ = false := by
  obtain ⟨h1, h2 | ⟨g, cap, cur, h3, h4, h5, h6⟩⟩ := o
  · cases h2.1
  · injection h3 with e
    injection e with e
    injection e with e1 _ _
    subst e1
    exact frozen_of_row W q i cur _ h5

/-- A mind: one that knows no peers. -/
structure Rs where
  id : Int
  term : Nat
  vote : Int
  role : Int
  leader : Int
  g : Lg
  img : Bs
  commit : Nat
  ticks : Int
  wait : Int
  piece : Bs
  pidx : Nat
  pterm : Nat
def rsC (s : Rs) (cv ev vv : Value) : Array Value :=
  #[.int .i64 s.id, .int .u64 (s.term : Nat), .int .i64 s.vote, .int .i64 s.role, .int .i64 s.leader, .int .u64 (s.g.base : Nat), .int .u64 (s.g.bt : Nat), cv, ev, .string (S s.img), .int .u64 (s.commit : Nat), .int .i64 s.ticks, .int .i64 s.wait, vv, .slice none 0 0, .string (S s.piece), .int .u64 (s.pidx : Nat), .int .u64 (s.pterm : Nat)]
def rs0 : Array Value := #[.int .i64 0, .int .u64 0, .int .i64 0, .int .i64 0, .int .i64 0, .int .u64 0, .int .u64 0, .slice none 0 0, .slice none 0 0, .string ⟨#[]⟩, .int .u64 0, .int .i64 0, .int .i64 0, .slice none 0 0, .slice none 0 0, .string ⟨#[]⟩, .int .u64 0, .int .u64 0]
/-- A mind handed out, its rows new. -/
def RsOut (w : World) (s : Rs) (e : Ending) (w' : World) : Prop :=
  ∃ cv ev, e = .returned (.agg (rsC s cv ev (.slice none 0 0))) ∧ rw.Own noSh w' w.heap.size cv s.g.conf ∧ rw.Own enSh w' w.heap.size ev s.g.es ∧ Below w.heap.size w w'

/-! ### A mind is laid into a box -/
def layR (W : World) (rb : Nat) (s : Rs) (cv ev vv : Value) : World := ((((((((((((((((((W.setCell ⟨rb, 0, none⟩ (.int .i64 s.id)).setCell ⟨rb, 1, none⟩ (.int .u64 (s.term : Nat))).setCell ⟨rb, 2, none⟩ (.int .i64 s.vote)).setCell ⟨rb, 3, none⟩ (.int .i64 s.role)).setCell ⟨rb, 4, none⟩ (.int .i64 s.leader)).setCell ⟨rb, 5, none⟩ (.int .u64 (s.g.base : Nat))).setCell ⟨rb, 6, none⟩ (.int .u64 (s.g.bt : Nat))).setCell ⟨rb, 7, none⟩ (cv)).setCell ⟨rb, 8, none⟩ (ev)).setCell ⟨rb, 9, none⟩ (.string (S s.img))).setCell ⟨rb, 10, none⟩ (.int .u64 (s.commit : Nat))).setCell ⟨rb, 11, none⟩ (.int .i64 s.ticks)).setCell ⟨rb, 12, none⟩ (.int .i64 s.wait)).setCell ⟨rb, 13, none⟩ (vv)).setCell ⟨rb, 14, none⟩ (.slice none 0 0)).setCell ⟨rb, 15, none⟩ (.string (S s.piece))).setCell ⟨rb, 16, none⟩ (.int .u64 (s.pidx : Nat))).setCell ⟨rb, 17, none⟩ (.int .u64 (s.pterm : Nat)))
theorem layR_but (W : World) (rb : Nat) (s : Rs) (cv ev vv : Value) : But rb W (layR W rb s cv ev vv) := ((((((((((((((((((But.refl rb W).set 0 _).set 1 _).set 2 _).set 3 _).set 4 _).set 5 _).set 6 _).set 7 _).set 8 _).set 9 _).set 10 _).set 11 _).set 12 _).set 13 _).set 14 _).set 15 _).set 16 _).set 17 _
theorem layR_arr {W : World} {rb : Nat} {s : Rs} {cv ev vv : Value} {t : TypeId} (h : Arr W rb t rs0) : Arr (layR W rb s cv ev vv) rb t (rsC s cv ev vv) := by
  have h2 := ((((((((((((((((((h.set 0 (.int .i64 s.id)).set 1 (.int .u64 (s.term : Nat))).set 2 (.int .i64 s.vote)).set 3 (.int .i64 s.role)).set 4 (.int .i64 s.leader)).set 5 (.int .u64 (s.g.base : Nat))).set 6 (.int .u64 (s.g.bt : Nat))).set 7 (cv)).set 8 (ev)).set 9 (.string (S s.img))).set 10 (.int .u64 (s.commit : Nat))).set 11 (.int .i64 s.ticks)).set 12 (.int .i64 s.wait)).set 13 (vv)).set 14 (.slice none 0 0)).set 15 (.string (S s.piece))).set 16 (.int .u64 (s.pidx : Nat))).set 17 (.int .u64 (s.pterm : Nat)))
  simp only [rs0, List.setIfInBounds_toArray, List.set_cons_zero, List.set_cons_succ] at h2
  unfold layR rsC
  exact h2
/-- The cells of a mind in a box. -/
abbrev RC (W : World) (b : Nat) (s : Rs) (cv ev vv : Value) : Prop := W.cell? ⟨b, 0, none⟩ = some (.int .i64 s.id) ∧ W.cell? ⟨b, 1, none⟩ = some (.int .u64 (s.term : Nat)) ∧ W.cell? ⟨b, 2, none⟩ = some (.int .i64 s.vote) ∧ W.cell? ⟨b, 3, none⟩ = some (.int .i64 s.role) ∧ W.cell? ⟨b, 4, none⟩ = some (.int .i64 s.leader) ∧ W.cell? ⟨b, 5, none⟩ = some (.int .u64 (s.g.base : Nat)) ∧ W.cell? ⟨b, 6, none⟩ = some (.int .u64 (s.g.bt : Nat)) ∧ W.cell? ⟨b, 7, none⟩ = some (cv) ∧ W.cell? ⟨b, 8, none⟩ = some (ev) ∧ W.cell? ⟨b, 9, none⟩ = some (.string (S s.img)) ∧ W.cell? ⟨b, 10, none⟩ = some (.int .u64 (s.commit : Nat)) ∧ W.cell? ⟨b, 11, none⟩ = some (.int .i64 s.ticks) ∧ W.cell? ⟨b, 12, none⟩ = some (.int .i64 s.wait) ∧ W.cell? ⟨b, 13, none⟩ = some (vv) ∧ W.cell? ⟨b, 14, none⟩ = some (.slice none 0 0) ∧ W.cell? ⟨b, 15, none⟩ = some (.string (S s.piece)) ∧ W.cell? ⟨b, 16, none⟩ = some (.int .u64 (s.pidx : Nat)) ∧ W.cell? ⟨b, 17, none⟩ = some (.int .u64 (s.pterm : Nat))
abbrev RZ (W : World) (b : Nat) : Prop := W.cell? ⟨b, 0, none⟩ = some (.int .i64 0) ∧ W.cell? ⟨b, 1, none⟩ = some (.int .u64 0) ∧ W.cell? ⟨b, 2, none⟩ = some (.int .i64 0) ∧ W.cell? ⟨b, 3, none⟩ = some (.int .i64 0) ∧ W.cell? ⟨b, 4, none⟩ = some (.int .i64 0) ∧ W.cell? ⟨b, 5, none⟩ = some (.int .u64 0) ∧ W.cell? ⟨b, 6, none⟩ = some (.int .u64 0) ∧ W.cell? ⟨b, 7, none⟩ = some (.slice none 0 0) ∧ W.cell? ⟨b, 8, none⟩ = some (.slice none 0 0) ∧ W.cell? ⟨b, 9, none⟩ = some (.string ⟨#[]⟩) ∧ W.cell? ⟨b, 10, none⟩ = some (.int .u64 0) ∧ W.cell? ⟨b, 11, none⟩ = some (.int .i64 0) ∧ W.cell? ⟨b, 12, none⟩ = some (.int .i64 0) ∧ W.cell? ⟨b, 13, none⟩ = some (.slice none 0 0) ∧ W.cell? ⟨b, 14, none⟩ = some (.slice none 0 0) ∧ W.cell? ⟨b, 15, none⟩ = some (.string ⟨#[]⟩) ∧ W.cell? ⟨b, 16, none⟩ = some (.int .u64 0) ∧ W.cell? ⟨b, 17, none⟩ = some (.int .u64 0)
abbrev RF (W : World) (b : Nat) : Prop := W.frozen? ⟨b, 0, none⟩ = false ∧ W.frozen? ⟨b, 1, none⟩ = false ∧ W.frozen? ⟨b, 2, none⟩ = false ∧ W.frozen? ⟨b, 3, none⟩ = false ∧ W.frozen? ⟨b, 4, none⟩ = false ∧ W.frozen? ⟨b, 5, none⟩ = false ∧ W.frozen? ⟨b, 6, none⟩ = false ∧ W.frozen? ⟨b, 7, none⟩ = false ∧ W.frozen? ⟨b, 8, none⟩ = false ∧ W.frozen? ⟨b, 9, none⟩ = false ∧ W.frozen? ⟨b, 10, none⟩ = false ∧ W.frozen? ⟨b, 11, none⟩ = false ∧ W.frozen? ⟨b, 12, none⟩ = false ∧ W.frozen? ⟨b, 13, none⟩ = false ∧ W.frozen? ⟨b, 14, none⟩ = false ∧ W.frozen? ⟨b, 15, none⟩ = false ∧ W.frozen? ⟨b, 16, none⟩ = false ∧ W.frozen? ⟨b, 17, none⟩ = false
/-! ### slices.Clone -/
theorem own_emptyE (w : World) : rw.Own enSh (w.alloc (.cells #[] 51)) w.heap.size (.slice (some ⟨w.heap.size, 0, none⟩) 0 0) [] :=
  ⟨rfl, .inr ⟨w.heap.size, 0, #[], rfl, Nat.le_refl _, Arr.new w _ _, Nat.le_refl _, Nat.zero_le _, rfl, rfl⟩⟩
set_option maxHeartbeats 4000000 in
set_option maxRecDepth 100000 in
theorem eclone_any (v : Value) (l : List EnIn) (hl : l.length ≤ 1000000000) (w : World) (h : rw.Sl enSh w v l) :
    Calls Tryz.prog 53 #[v] w fun e w' => ∃ v', e = .returned v' ∧ rw.Own enSh w' w.heap.size v' l ∧ Below w.heap.size w w' := by
  have h0 := h
  obtain ⟨a, c, rfl, hc, hr, hn⟩ := h
  have heq := run_eql_slice_nil (P := Tryz.prog) w 35 51 a l.length c Tryz.underlying35
  cases a with
  | none =>
    have hc0 := hn rfl
    subst hc0
    have hl0 : l = [] := List.length_eq_zero_iff.1 (by omega)
    subst hl0
    have heq2 : (binOp .eql 35 (.slice none 0 0) (.slice none 0 0)).run Tryz.prog w = .ok (.bool true) w := heq
    clear h0 hr hn heq
    go_enter Tryz.func53, Tryz.ntmps53
    go_wp2_with fail
    exact bodyPost_ret (v := .slice none 0 0) (by simp [results, Tryz.results53]) rfl ⟨_, rfl, rw.Own.nil _ _ _, Below.refl _ _⟩
  | some ad =>
    have k := below_box w (.cells #[] 51)
    obtain ⟨v', w', g1, g2, g3, g4⟩ := rw.append_own enSh w.heap.size _ [] l _ (by simp; omega) _ (own_emptyE w) k.size (h0.later _ k)
    rw [List.nil_append] at g2
    have HE : Hid (rw.Own enSh w' w.heap.size v' l ∧ Below w.heap.size w w') := ⟨g2, k.trans g3⟩
    have HR := Lib.hid g1
    clear h0 hr hn g1 g2 g3 g4 k
    go_enter Tryz.func53, Tryz.ntmps53
    go_wp2_with (at_builtin; refine rw.wpList_append_at _ _ _ rfl rfl _ _ _ _ rfl rfl HR.out ?_)
    go_ret
    exact ⟨_, rfl, HE.out.1, HE.out.2⟩
set_option maxHeartbeats 4000000 in
set_option maxRecDepth 100000 in
theorem pclone_nil (w : World) :
    Calls Tryz.prog 55 #[.slice none 0 0] w fun e w' => e = .returned (.slice none 0 0) ∧ w = w' := by
  have heq := run_eql_slice_nil (P := Tryz.prog) w 47 105 none 0 0 Tryz.underlying47
  have heq2 : (binOp .eql 47 (.slice none 0 0) (.slice none 0 0)).run Tryz.prog w = .ok (.bool true) w := heq
  clear heq
  go_enter Tryz.func55, Tryz.ntmps55
  go_wp2_with fail
  exact bodyPost_ret (v := .slice none 0 0) (by simp [results, Tryz.results55]) rfl ⟨rfl, rfl⟩
set_option maxHeartbeats 4000000 in
set_option maxRecDepth 100000 in
theorem iclone_nil (w : World) :
    Calls Tryz.prog 52 #[.slice none 0 0] w fun e w' => e = .returned (.slice none 0 0) ∧ w = w' := by
  have heq := run_eql_slice_nil (P := Tryz.prog) w 36 3 none 0 0 Tryz.underlying36
  have heq2 : (binOp .eql 36 (.slice none 0 0) (.slice none 0 0)).run Tryz.prog w = .ok (.bool true) w := heq
  clear heq
  go_enter Tryz.func52, Tryz.ntmps52
  go_wp2_with fail
  exact bodyPost_ret (v := .slice none 0 0) (by simp [results, Tryz.results52]) rfl ⟨rfl, rfl⟩
end Go.Proofs.YtmgmhnohocamfaaGreat.rf
/-! RfCells -/
namespace Go.Proofs.YtmgmhnohocamfaaGreat.rf
set_option linter.unusedVariables false
open Go.RowKit
open pk (S S_size S_data)
open qm (Bs noSh)
open rw (Arr But below_box bnext below_drew below_drewN)
open tl

set_option maxHeartbeats 400000 in
theorem rc_of {W : World} {b : Nat} {s : Rs} {cv ev vv : Value} {t : TypeId} (h : Arr W b t (rsC s cv ev vv)) : RC W b s cv ev vv := ⟨h.cell rfl, h.cell rfl, h.cell rfl, h.cell rfl, h.cell rfl, h.cell rfl, h.cell rfl, h.cell rfl, h.cell rfl, h.cell rfl, h.cell rfl, h.cell rfl, h.cell rfl, h.cell rfl, h.cell rfl, h.cell rfl, h.cell rfl, h.cell rfl⟩
set_option maxHeartbeats 400000 in
theorem rz_of {W : World} {b : Nat} {t : TypeId} (h : Arr W b t rs0) : RZ W b := ⟨h.cell rfl, h.cell rfl, h.cell rfl, h.cell rfl, h.cell rfl, h.cell rfl, h.cell rfl, h.cell rfl, h.cell rfl, h.cell rfl, h.cell rfl, h.cell rfl, h.cell rfl, h.cell rfl, h.cell rfl, h.cell rfl, h.cell rfl, h.cell rfl⟩
set_option maxHeartbeats 400000 in
theorem rf_of {W : World} {b : Nat} {t : TypeId} {cs : Array Value} (h : Arr W b t cs) : RF W b := ⟨h.frozen 0, h.frozen 1, h.frozen 2, h.frozen 3, h.frozen 4, h.frozen 5, h.frozen 6, h.frozen 7, h.frozen 8, h.frozen 9, h.frozen 10, h.frozen 11, h.frozen 12, h.frozen 13, h.frozen 14, h.frozen 15, h.frozen 16, h.frozen 17⟩
theorem load_rs {w : World} {rb : Nat} {t : TypeId} {cs : Array Value} (h : Arr w rb t cs) (hs : cs.size = 18) : (loadVar 49 ⟨rb, 0, none⟩).run Tryz.prog w = .ok (.agg cs) w :=
  run_loadVar_row (P := Tryz.prog) w rb t 49 cs (0, 0) _ h Tryz.underlying49 rfl (by rw [hs]; kernel_rfl)
set_option maxHeartbeats 400000 in
theorem results_rs {w : World} {fn : Func} {tmps : Array Value} {t rb : Nat} {ty : TypeId} {cs : Array Value} (h : fn.results = #[.cell t 49]) (h2 : tmps[t]? = some (.pointer (some ⟨rb, 0, none⟩))) (hC : Arr w rb ty cs) (hs : cs.size = 18) :
    (results fn tmps).run Tryz.prog w = .ok (.agg cs) w := by
  have hl := load_rs hC hs
  simp [results, h, h2, asAddr, hl]
set_option maxHeartbeats 400000 in
theorem results_rs2 {w : World} {fn : Func} {tmps : Array Value} {t u rb : Nat} {v : Value} {ty : TypeId} {cs : Array Value} (h : fn.results = #[.cell t 49, .tmp u]) (h2 : tmps[t]? = some (.pointer (some ⟨rb, 0, none⟩))) (h3 : tmps[u]? = some v) (hC : Arr w rb ty cs) (hs : cs.size = 18) :
    (results fn tmps).run Tryz.prog w = .ok (.tuple #[.agg cs, v]) w := by
  have hl := load_rs hC hs
  simp [results, h, h2, h3, asAddr, hl]
set_option maxHeartbeats 400000 in
theorem results_rs3 {w : World} {fn : Func} {tmps : Array Value} {t u x rb : Nat} {v v2 : Value} {ty : TypeId} {cs : Array Value} (h : fn.results = #[.cell t 49, .tmp u, .tmp x]) (h2 : tmps[t]? = some (.pointer (some ⟨rb, 0, none⟩))) (h3 : tmps[u]? = some v) (h4 : tmps[x]? = some v2) (hC : Arr w rb ty cs) (hs : cs.size = 18) :
    (results fn tmps).run Tryz.prog w = .ok (.tuple #[.agg cs, v, v2]) w := by
  have hl := load_rs hC hs
  simp [results, h, h2, h3, h4, asAddr, hl]
/-! ### A mind is laid over a box -/
theorem row_but (W : World) (q : Nat) (cs : Array Value) : But q W (W.setRow q cs) := ⟨rfl, rfl, rfl, by simp, fun k _ hk => setRow_other W q k cs hk⟩
theorem row_arr {W : World} {q : Nat} {t : TypeId} {old cs : Array Value} (h : Arr W q t old) : Arr (W.setRow q cs) q t cs := setRow_heap W q old cs t (0, 0) h
theorem rs_ones (s : Rs) (a1 a2 a3 : Option Addr) (n1 c1 n2 c2 n3 c3 : Nat) : (rsC s (.slice a1 n1 c1) (.slice a2 n2 c2) (.slice a3 n3 c3)).all (·.oneCell') = true := by simp [rsC, Value.oneCell']
end Go.Proofs.YtmgmhnohocamfaaGreat.rf
/-! RfCopy -/
namespace Go.Proofs.YtmgmhnohocamfaaGreat.rf
set_option linter.unusedVariables false
open Go.RowKit
open pk (S S_size S_data)
open qm (Bs noSh)
open rw (Arr But below_box bnext below_drew below_drewN)
open tl

/-- The copy under way: the state's box, the result's. -/
structure Ck (w W : World) (s : Rs) (cv ev : Value) : Prop where
  a : Arr W w.heap.size 49 (rsC s cv ev (.slice none 0 0))
  r : Arr W (w.heap.size + 1) 49 rs0
  b : Below w.heap.size w W
theorem Ck.below {w W W' : World} {s : Rs} {cv ev : Value} (h : Ck w W s cv ev) (b : Below W.heap.size W W') : Ck w W' s cv ev := ⟨h.a.below b, h.r.below b, h.b.trans (b.mono h.b.size)⟩
theorem Ck.two {w W : World} {s : Rs} {cv ev : Value} (h : Ck w W s cv ev) (u : Value) : Ck w (W.setCell ⟨w.heap.size, 7, none⟩ u) s u ev := by
  have k : But w.heap.size W (W.setCell ⟨w.heap.size, 7, none⟩ u) := (But.refl _ W).set 7 u
  exact ⟨h.a.set 7 u, k.arr h.r (by omega), h.b.trans (k.below h.b.size (Nat.le_refl _))⟩
theorem Ck.three {w W : World} {s : Rs} {cv ev : Value} (h : Ck w W s cv ev) (u : Value) : Ck w (W.setCell ⟨w.heap.size, 8, none⟩ u) s cv u := by
  have k : But w.heap.size W (W.setCell ⟨w.heap.size, 8, none⟩ u) := (But.refl _ W).set 8 u
  exact ⟨h.a.set 8 u, k.arr h.r (by omega), h.b.trans (k.below h.b.size (Nat.le_refl _))⟩
theorem Ck.start {w : World} {s : Rs} {cv ev : Value} : Ck w ((w.alloc (.cells (rsC s cv ev (.slice none 0 0)) 49)).alloc (.cells rs0 49)) s cv ev := by
  have b1 := below_box w (.cells (rsC s cv ev (.slice none 0 0)) 49)
  have a1 := Arr.new w 49 (rsC s cv ev (.slice none 0 0))
  have s1 : (w.alloc (.cells (rsC s cv ev (.slice none 0 0)) 49)).heap.size = w.heap.size + 1 := by simp
  generalize w.alloc (.cells (rsC s cv ev (.slice none 0 0)) 49) = W1 at *
  have k2 := below_box W1 (.cells rs0 49)
  have a2 := Arr.new W1 49 rs0
  rw [s1] at a2
  exact ⟨a1.below k2, a2, b1.trans (k2.mono b1.size)⟩
/-- How large a mind may be. -/
structure Rfit (s : Rs) : Prop where
  conf : s.g.conf.length ≤ 1000000000
  es : s.g.es.length ≤ 1000000
  e : ∀ x ∈ s.g.es, x.data.length ≤ 281474976710656
  img : s.img.length ≤ 281474976710656
  piece : s.piece.length ≤ 281474976710656
set_option maxHeartbeats 8000000 in
set_option maxRecDepth 100000 in
theorem copy_any (s : Rs) (cv ev : Value) (hf : Rfit s) (w : World) (h1 : rw.Sl noSh w cv s.g.conf) (h2 : rw.Sl enSh w ev s.g.es) :
    Calls Tryz.prog 38 #[.agg (rsC s cv ev (.slice none 0 0))] w (RsOut w s) := by
  obtain ⟨ca, cc, rfl⟩ := sl_form h1
  obtain ⟨ea, ec, rfl⟩ := sl_form h2
  obtain ⟨n1, hn1⟩ : ∃ n, s.g.conf.length = n := ⟨_, rfl⟩
  obtain ⟨N, hN⟩ : ∃ n, s.g.es.length = n := ⟨_, rfl⟩
  rw [hn1] at h1 ⊢
  rw [hN] at h2 ⊢
  have HN := Lib.hid (And.intro hn1 hN)
  have hNl : N ≤ 1000000 := by rw [← hN]; exact hf.es
  have HF := Lib.hid hf
  have HX := Lib.hid (And.intro h1 h2)
  have H0 := Lib.hid (Ck.start (w := w) (s := s) (cv := .slice ca n1 cc) (ev := .slice ea N ec))
  clear h1 h2 hn1 hN hf
  simp only [rsC, rs0] at H0 ⊢
  go_enter Tryz.func38, Tryz.ntmps38
  go_upto_region 1 with (fail)
  generalize w.alloc _ = W00 at H0 ⊢
  generalize W00.alloc _ = W0 at H0 ⊢
  have x7 : W0.cell? ⟨w.heap.size, 7, none⟩ = some (.slice ca n1 cc) := H0.out.a.cell rfl
  have hI := iclone_any (.slice ca n1 cc) s.g.conf HF.out.conf W0 (HX.out.1.later _ H0.out.b)
  go_wp2_with fail
  with_reducible refine hI.mono ?_
  clear hI x7
  rintro e w1 ⟨cu, rfl, o1, b1⟩
  have H1 := Lib.hid (H0.out.below b1)
  have O1 := own_lower o1 H0.out.b.size
  have H2 := Lib.hid (H1.out.two cu)
  have O2 := Lib.hid (own_but O1 H1.out.a (by decide) ((But.refl w.heap.size w1).set 7 cu))
  obtain ⟨ca', cc', rfl⟩ := o1.form
  rw [HN.out.1] at H2 O2 ⊢
  clear o1 b1 O1 H0
  have x7 : w1.cell? ⟨w.heap.size, 7, none⟩ = some (.slice ca n1 cc) := H1.out.a.cell rfl
  have f7 : w1.frozen? ⟨w.heap.size, 7, none⟩ = false := H1.out.a.frozen 7
  go_upto_region 2 with (fail)
  clear x7 f7 H1
  generalize w1.setCell ⟨w.heap.size, 7, none⟩ (.slice ca' n1 cc') = W2 at *
  have x8 : W2.cell? ⟨w.heap.size, 8, none⟩ = some (.slice ea N ec) := H2.out.a.cell rfl
  have hI := eclone_any (.slice ea N ec) s.g.es (by have := HF.out.es; omega) W2 (HX.out.2.later _ H2.out.b)
  go_wp2_with fail
  with_reducible refine hI.mono ?_
  clear hI x8
  rintro e w3 ⟨eu, rfl, o3, b3⟩
  have H3 := Lib.hid (H2.out.below b3)
  have O3 := own_lower o3 H2.out.b.size
  have H4 := Lib.hid (H3.out.three eu)
  have P4 := Lib.hid (own_but (O2.out.below _ b3) H3.out.a (by decide) ((But.refl w.heap.size w3).set 8 eu))
  have O4 := Lib.hid (own_but O3 H3.out.a (by decide) ((But.refl w.heap.size w3).set 8 eu))
  obtain ⟨ea', ec', rfl⟩ := o3.form
  rw [HN.out.2] at H4 P4 O4 ⊢
  clear o3 b3 O3 H2 O2
  have x8 : w3.cell? ⟨w.heap.size, 8, none⟩ = some (.slice ea N ec) := H3.out.a.cell rfl
  have f8 : w3.frozen? ⟨w.heap.size, 8, none⟩ = false := H3.out.a.frozen 8
  go_upto_region 3 with (fail)
  clear x8 f8 H3
  generalize w3.setCell ⟨w.heap.size, 8, none⟩ (.slice ea' N ec') = W4 at *
  have x8 : W4.cell? ⟨w.heap.size, 8, none⟩ = some (.slice ea' N ec') := H4.out.a.cell rfl
  go_wp2_with fail
  clear x8 HX
  have HI4 : Hid (Ck w W4 s (.slice ca' n1 cc') (.slice ea' N ec') ∧ rw.Own noSh W4 w.heap.size (.slice ca' n1 cc') s.g.conf ∧ rw.Own enSh W4 w.heap.size (.slice ea' N ec') s.g.es) := ⟨H4.out, P4.out, O4.out⟩
  clear H4 P4 O4
  go_loopw [21] (fun iv wr => ∃ k : Nat, iv = .int .i64 (k : Nat) ∧ k ≤ N ∧ Hid (Ck w wr s (.slice ca' n1 cc') (.slice ea' N ec') ∧ rw.Own noSh wr w.heap.size (.slice ca' n1 cc') s.g.conf ∧ rw.Own enSh wr w.heap.size (.slice ea' N ec') s.g.es))
    (fun iv _ => N - (intOf iv).toNat)
  case atStart => exact ⟨0, rfl, Nat.zero_le _, HI4.out⟩
  case round =>
    clear HI4
    obtain ⟨k, rfl, hk, HI⟩ := hrel
    by_cases hlt : k < N
    · have hki : (k : Int) < (N : Int) := by omega
      have hkl : k < s.g.es.length := by rw [HN.out.2]; exact hlt
      obtain ⟨b, off, c, e, hbw, z0, z1, z2⟩ := slE_at HI.out.2.2.sl hkl
      injection e with e1 e2 e3
      subst e1 e3
      clear e2 hbw
      obtain ⟨x, hx⟩ : ∃ x, s.g.es[k] = x := ⟨_, rfl⟩
      have hxd : x.data.length ≤ 281474976710656 := by rw [← hx]; exact HF.out.e _ (List.getElem_mem hkl)
      rw [hx] at z0 z1 z2
      obtain ⟨xt, xk, xd⟩ := x
      simp only at z0 z1 z2 hxd
      have HZ : Hid (∀ W (o : rw.Own enSh W w.heap.size (.slice (some ⟨b, off, none⟩) N ec') s.g.es), W.cell? ⟨b, off + k * 3 + 2, none⟩ = some (.string (S xd)) ∧ W.frozen? ⟨b, off + k * 3 + 2, none⟩ = false) := fun W o => by
        obtain ⟨b', off', c', e', _, z0', z1', z2'⟩ := slE_at o.sl hkl
        injection e' with e1' e2' e3'
        injection e1' with e1'
        injection e1' with h1 h2 _
        subst h1 h2
        rw [hx] at z2'
        exact ⟨z2', own_frozen o _⟩
      have HXd := Lib.hid fun W => sclone_any xd hxd W
      have HK : Hid (k + 1 ≤ N ∧ N - (k + 1) < N - k) := ⟨by omega, by omega⟩
      go_upto_region 6 with (fail)
      have kb := below_box wr (.cells #[.int .u64 (xt : Nat), .int .i64 xk, .string (S xd)] 51)
      have H1 : Hid (Ck w (wr.alloc (.cells #[.int .u64 (xt : Nat), .int .i64 xk, .string (S xd)] 51)) s (.slice ca' n1 cc') (.slice (some ⟨b, off, none⟩) N ec') ∧ rw.Own noSh (wr.alloc (.cells #[.int .u64 (xt : Nat), .int .i64 xk, .string (S xd)] 51)) w.heap.size (.slice ca' n1 cc') s.g.conf ∧ rw.Own enSh (wr.alloc (.cells #[.int .u64 (xt : Nat), .int .i64 xk, .string (S xd)] 51)) w.heap.size (.slice (some ⟨b, off, none⟩) N ec') s.g.es) := ⟨HI.out.1.below kb, HI.out.2.1.below _ kb, HI.out.2.2.below _ kb⟩
      have HA := Lib.hid (Arr.new wr 51 #[.int .u64 (xt : Nat), .int .i64 xk, .string (S xd)])
      clear kb z0 z1 z2 HI hx hxd hkl
      generalize wr.alloc (.cells #[.int .u64 (xt : Nat), .int .i64 xk, .string (S xd)] 51) = X1 at *
      generalize wr.heap.size = xb at *
      have kd := below_drew (Below.refl X1.heap.size X1)
      have H2 : Hid (Ck w X1.drew s (.slice ca' n1 cc') (.slice (some ⟨b, off, none⟩) N ec') ∧ rw.Own noSh X1.drew w.heap.size (.slice ca' n1 cc') s.g.conf ∧ rw.Own enSh X1.drew w.heap.size (.slice (some ⟨b, off, none⟩) N ec') s.g.es) := ⟨H1.out.1.below kd, H1.out.2.1.below _ kd, H1.out.2.2.below _ kd⟩
      have HA2 := Lib.hid (HA.out.below kd)
      clear kd HA H1
      have kA : X1.drew.cell? ⟨w.heap.size, 8, none⟩ = some (.slice (some ⟨b, off, none⟩) N ec') ∧ X1.drew.cell? ⟨xb, 2, none⟩ = some (.string (S xd)) ∧ X1.drew.cell? ⟨b, off + k * 3 + 2, none⟩ = some (.string (S xd)) := ⟨H2.out.1.a.cell rfl, HA2.out.cell rfl, (HZ.out _ H2.out.2.2).1⟩
      have hC := HXd.out X1.drew
      go_region_held3 (fun W => W.cell? ⟨w.heap.size, 8, none⟩ = some (.slice (some ⟨b, off, none⟩) N ec') ∧ W.cell? ⟨xb, 2, none⟩ = some (.string (S xd)) ∧ W.cell? ⟨b, off + k * 3 + 2, none⟩ = some (.string (S xd)))
        (first | (with_reducible exact kA) | (with_reducible exact kB) | (with_reducible exact kC))
        (first
          | (go_at_call 54; with_reducible refine hC.mono ?_; intro e w2 hR; have b2 := hR.2; obtain ⟨rfl, _⟩ := hR; have H3 := Lib.hid (And.intro (H2.out.1.below b2) (And.intro (H2.out.2.1.below _ b2) (H2.out.2.2.below _ b2))); have HA3 := Lib.hid (HA2.out.below b2); obtain ⟨hz, hfz⟩ := HZ.out _ H3.out.2.2; have kB : w2.cell? ⟨w.heap.size, 8, none⟩ = some (.slice (some ⟨b, off, none⟩) N ec') ∧ w2.cell? ⟨xb, 2, none⟩ = some (.string (S xd)) ∧ w2.cell? ⟨b, off + k * 3 + 2, none⟩ = some (.string (S xd)) := And.intro (H3.out.1.a.cell rfl) (And.intro (HA3.out.cell rfl) hz); have hset := setCell_same hz; have kC : (w2.setCell ⟨b, off + k * 3 + 2, none⟩ (.string (S xd))).cell? ⟨w.heap.size, 8, none⟩ = some (.slice (some ⟨b, off, none⟩) N ec') ∧ (w2.setCell ⟨b, off + k * 3 + 2, none⟩ (.string (S xd))).cell? ⟨xb, 2, none⟩ = some (.string (S xd)) ∧ (w2.setCell ⟨b, off + k * 3 + 2, none⟩ (.string (S xd))).cell? ⟨b, off + k * 3 + 2, none⟩ = some (.string (S xd)) := Eq.mpr (congrArg (fun W => W.cell? ⟨w.heap.size, 8, none⟩ = some (.slice (some ⟨b, off, none⟩) N ec') ∧ W.cell? ⟨xb, 2, none⟩ = some (.string (S xd)) ∧ W.cell? ⟨b, off + k * 3 + 2, none⟩ = some (.string (S xd))) hset) kB; clear b2 hC))
      all_goals (
        clear kA kB kC hz hfz
        go_wp2_with fail)
      all_goals (
        have H5 : Hid (Ck w (w2.setCell ⟨b, off + k * 3 + 2, none⟩ (.string (S xd))) s (.slice ca' n1 cc') (.slice (some ⟨b, off, none⟩) N ec') ∧ rw.Own noSh (w2.setCell ⟨b, off + k * 3 + 2, none⟩ (.string (S xd))) w.heap.size (.slice ca' n1 cc') s.g.conf ∧ rw.Own enSh (w2.setCell ⟨b, off + k * 3 + 2, none⟩ (.string (S xd))) w.heap.size (.slice (some ⟨b, off, none⟩) N ec') s.g.es) := by
          show _ ∧ _
          rw [hset]
          exact H3.out
        first
          | exact ⟨⟨k + 1, by rw [Int.natCast_add]; rfl, HK.out.1, H5.out⟩, by have := HK.out.2; simp only [intOf]; omega⟩
          | exact ⟨⟨k + 1, by rw [Int.natCast_add]; rfl, HK.out.1, H3.out⟩, by have := HK.out.2; simp only [intOf]; omega⟩)
    · obtain rfl : k = N := by omega
      have hki : ¬ (k : Int) < (k : Int) := by omega
      have HC1 := Lib.hid fun W => sclone_any s.img HF.out.img W
      have HC2 := Lib.hid fun W => sclone_any s.piece HF.out.piece W
      go_upto_region 8 with (fail)
      have kd := below_drew (Below.refl wr.heap.size wr)
      have H2 : Hid (Ck w wr.drew s (.slice ca' n1 cc') (.slice ea' k ec') ∧ rw.Own noSh wr.drew w.heap.size (.slice ca' n1 cc') s.g.conf ∧ rw.Own enSh wr.drew w.heap.size (.slice ea' k ec') s.g.es) := ⟨HI.out.1.below kd, HI.out.2.1.below _ kd, HI.out.2.2.below _ kd⟩
      clear kd HI
      have CA : Hid (∀ W (a : Ck w W s (.slice ca' n1 cc') (.slice ea' k ec')), W.cell? ⟨w.heap.size, 9, none⟩ = some (.string (S s.img)) ∧ W.cell? ⟨w.heap.size, 15, none⟩ = some (.string (S s.piece))) := fun W a => ⟨a.a.cell rfl, a.a.cell rfl⟩
      have kA := CA.out _ H2.out.1
      have h1 := HC1.out wr.drew
      go_region_held3 (fun W => W.cell? ⟨w.heap.size, 9, none⟩ = some (.string (S s.img)) ∧ W.cell? ⟨w.heap.size, 15, none⟩ = some (.string (S s.piece)))
        (first | (with_reducible exact kA) | (with_reducible exact kB) | (with_reducible exact kC) | (simp only [hs9, hs15]; with_reducible exact kC))
        (first
          | (go_at_call 54; with_reducible refine h1.mono ?_; intro e w2 hR; have b2 := hR.2; obtain ⟨rfl, _⟩ := hR; have H3 := Lib.hid (And.intro (H2.out.1.below b2) (And.intro (H2.out.2.1.below _ b2) (H2.out.2.2.below _ b2))); have kB := CA.out _ H3.out.1; have h2 := HC2.out w2; clear b2 h1)
          | (go_at_call 54; with_reducible refine h2.mono ?_; intro e w3 hR; have b3 := hR.2; obtain ⟨rfl, _⟩ := hR; have H4 := Lib.hid (And.intro (H3.out.1.below b3) (And.intro (H3.out.2.1.below _ b3) (H3.out.2.2.below _ b3))); have kC := CA.out _ H4.out.1; have hs9 := setCell_same kC.1; have hs15 := setCell_same kC.2; have f9 := H4.out.1.a.frozen 9; have f15 := H4.out.1.a.frozen 15; clear b3 h2))
      all_goals (
        try simp only [hs9, hs15]
        clear kA kB kC hs9 hs15 f9 f15 H2 H3
        go_upto_region 9 with (fail)
        have kd := below_drew (Below.refl w3.heap.size w3)
        have H5 : Hid (Ck w w3.drew s (.slice ca' n1 cc') (.slice ea' k ec') ∧ rw.Own noSh w3.drew w.heap.size (.slice ca' n1 cc') s.g.conf ∧ rw.Own enSh w3.drew w.heap.size (.slice ea' k ec') s.g.es) := ⟨H4.out.1.below kd, H4.out.2.1.below _ kd, H4.out.2.2.below _ kd⟩
        clear kd H4
        have kA : w3.drew.cell? ⟨w.heap.size, 13, none⟩ = some (.slice none 0 0) ∧ w3.drew.cell? ⟨w.heap.size, 14, none⟩ = some (.slice none 0 0) := ⟨H5.out.1.a.cell rfl, H5.out.1.a.cell rfl⟩
        have hs13 := setCell_same kA.1
        have hs14 := setCell_same kA.2
        have f13 := H5.out.1.a.frozen 13
        have f14 := H5.out.1.a.frozen 14
        have h1 := iclone_nil w3.drew
        have h2 := pclone_nil w3.drew
        go_region_held3 (fun W => W.cell? ⟨w.heap.size, 13, none⟩ = some (.slice none 0 0) ∧ W.cell? ⟨w.heap.size, 14, none⟩ = some (.slice none 0 0))
          (first | (with_reducible exact kA) | (simp only [hs13, hs14]; with_reducible exact kA))
          (first
            | (go_at_call 52; with_reducible refine h1.mono ?_; rintro e w5 ⟨rfl, rfl⟩; clear h1)
            | (go_at_call 55; with_reducible refine h2.mono ?_; rintro e w5 ⟨rfl, rfl⟩; clear h2)))
      all_goals (
        try simp only [hs13, hs14]
        clear kA hs13 hs14 f13 f14
        have hz := Lib.hid (row_arr (cs := rsC s (.slice ca' n1 cc') (.slice ea' k ec') (.slice none 0 0)) H5.out.1.r)
        have HD : Hid (RsOut w s (.returned (.agg (rsC s (.slice ca' n1 cc') (.slice ea' k ec') (.slice none 0 0)))) (w3.drew.setRow (w.heap.size + 1) (rsC s (.slice ca' n1 cc') (.slice ea' k ec') (.slice none 0 0)))) := by
          have kL := row_but w3.drew (w.heap.size + 1) (rsC s (.slice ca' n1 cc') (.slice ea' k ec') (.slice none 0 0))
          exact ⟨_, _, rfl, own_but H5.out.2.1 H5.out.1.r (by decide) kL, own_but H5.out.2.2 H5.out.1.r (by decide) kL, H5.out.1.b.trans (kL.below H5.out.1.b.size (by omega))⟩
        go_wp2_with (first | (refine wpList_load_row rfl 49 (.tmp 1) rfl _ rfl 49 _ (0, 0) _ H5.out.1.a Tryz.underlying49 rfl (by kernel_rfl) ?_) | (refine wpList_store_row rfl 49 (.tmp 2) (.tmp 52) rfl _ _ rfl rfl 49 _ H5.out.1.r (by kernel_rfl) rfl (rs_ones _ _ _ _ _ _ _ _ _ _) ?_))
        exact bodyPost_ret (results_rs rfl rfl hz.out rfl) rfl HD.out)
end Go.Proofs.YtmgmhnohocamfaaGreat.rf
/-! RfMind -/
namespace Go.Proofs.YtmgmhnohocamfaaGreat.rf
set_option linter.unusedVariables false
open Go.RowKit
open pk (S S_size S_data)
open qm (Bs noSh)
open rw (Arr But below_box bnext below_drew below_drewN)
open tl

def miC (s : Rs) (cv ev vv : Value) : Array Value :=
  #[.int .i64 s.id, .int .u64 (s.term : Nat), .int .i64 s.vote, .int .i64 s.role, .int .i64 s.leader, .int .u64 (s.g.base : Nat), .int .u64 (s.g.bt : Nat), cv, ev, .string (S s.img), .int .u64 (s.commit : Nat), .int .i64 s.ticks, .int .i64 s.wait, vv, .slice none 0 0, .string (S s.piece), .int .u64 (s.pidx : Nat), .int .u64 (s.pterm : Nat), .slice none 0 0]
/-- A mind in its box; its rows are its own. -/
structure Mi (W : World) (nb B : Nat) (s : Rs) (cv ev vv : Value) (vs : List Int) : Prop where
  a : Arr W nb 95 (miC s cv ev vv)
  c : rw.Own noSh W B cv s.g.conf
  e : rw.Own enSh W B ev s.g.es
  v : rw.Own noSh W B vv vs
  n : B ≤ nb
theorem Mi.below {W W' : World} {nb B : Nat} {s : Rs} {cv ev vv : Value} {vs : List Int} (h : Mi W nb B s cv ev vv vs) (b : Below W.heap.size W W') : Mi W' nb B s cv ev vv vs := ⟨h.a.below b, h.c.below _ b, h.e.below _ b, h.v.below _ b, h.n⟩
theorem Mi.lv {W : World} {nb B : Nat} {s : Rs} {cv ev vv : Value} {vs : List Int} (h : Mi W nb B s cv ev vv vs) : LV W cv ev s.g := ⟨h.c.sl, h.e.sl⟩
/-- One cell is written. -/
theorem Mi.upd {W : World} {nb B : Nat} {s : Rs} {cv ev vv : Value} {vs : List Int} (h : Mi W nb B s cv ev vv vs) (j : Nat) (v : Value) (s' : Rs) (hg : s'.g = s.g) (hC : (miC s cv ev vv).setIfInBounds j v = miC s' cv ev vv) : Mi (W.setCell ⟨nb, j, none⟩ v) nb B s' cv ev vv vs := by
  have k : But nb W (W.setCell ⟨nb, j, none⟩ v) := (But.refl nb W).set j v
  exact ⟨by rw [← hC]; exact h.a.set j v, by rw [hg]; exact own_but h.c h.a (by decide) k, by rw [hg]; exact own_but h.e h.a (by decide) k, own_but h.v h.a (by decide) k, h.n⟩
/-- The votes are others. -/
theorem Mi.vot {W : World} {nb B : Nat} {s : Rs} {cv ev vv u : Value} {vs us : List Int} (h : Mi W nb B s cv ev vv vs) (o : rw.Own noSh W B u us) : Mi (W.setCell ⟨nb, 13, none⟩ u) nb B s cv ev u us := by
  have k : But nb W (W.setCell ⟨nb, 13, none⟩ u) := (But.refl nb W).set 13 u
  exact ⟨h.a.set 13 u, own_but h.c h.a (by decide) k, own_but h.e h.a (by decide) k, own_but o h.a (by decide) k, h.n⟩
/-- The entries are others. -/
theorem Mi.ent {W : World} {nb B : Nat} {s s' : Rs} {cv ev vv u : Value} {vs : List Int} {l : List EnIn} (h : Mi W nb B s cv ev vv vs) (o : rw.Own enSh W B u l) (hs : s' = { s with g := { s.g with es := l } }) : Mi (W.setCell ⟨nb, 8, none⟩ u) nb B s' cv u vv vs := by
  subst hs
  have k : But nb W (W.setCell ⟨nb, 8, none⟩ u) := (But.refl nb W).set 8 u
  exact ⟨h.a.set 8 u, own_but h.c h.a (by decide) k, own_but o h.a (by decide) k, own_but h.v h.a (by decide) k, h.n⟩
theorem Mi.size {W : World} {nb B : Nat} {s : Rs} {cv ev vv : Value} {vs : List Int} (h : Mi W nb B s cv ev vv vs) : B ≤ W.heap.size := Nat.le_trans h.n (Nat.le_of_lt h.a.lt)
theorem Mi.but {W : World} {nb B : Nat} {s : Rs} {cv ev vv : Value} {vs : List Int} (h : Mi W nb B s cv ev vv vs) (j : Nat) (v : Value) : Below B W (W.setCell ⟨nb, j, none⟩ v) := ((But.refl nb W).set j v).below h.size h.n
/-- The log's cells. -/
theorem Mi.lg {W : World} {nb B : Nat} {s : Rs} {cv ev vv : Value} {vs : List Int} (h : Mi W nb B s cv ev vv vs) :
    W.cell? ⟨nb, 5, none⟩ = some (.int .u64 (s.g.base : Nat)) ∧ W.cell? ⟨nb, 6, none⟩ = some (.int .u64 (s.g.bt : Nat)) ∧ W.cell? ⟨nb, 7, none⟩ = some cv ∧ W.cell? ⟨nb, 8, none⟩ = some ev := ⟨h.a.cell rfl, h.a.cell rfl, h.a.cell rfl, h.a.cell rfl⟩
/-- The state that lies in it. -/
theorem Mi.range {W : World} {nb B : Nat} {s : Rs} {cv ev vv : Value} {vs : List Int} (h : Mi W nb B s cv ev vv vs) : W.rangeAt nb 0 (rsC s cv ev vv).toList := by
  intro j v hj
  rw [Nat.zero_add]
  have hlt : j < 18 := by
    have := (List.getElem?_eq_some_iff.1 hj).1
    simpa [rsC] using this
  refine h.a.cell ?_
  rw [← hj]
  have hm : (miC s cv ev vv).toList = (rsC s cv ev vv).toList ++ [.slice none 0 0] := rfl
  rw [← Array.getElem?_toList, hm, List.getElem?_append_left (by simpa [rsC] using hlt)]
theorem wpList_load_mid {ops : Array Oper} {rest : List Oper} {o : Oper} {a : Act} {w : World} {Q : Exit → Act → World → Prop} (hgd : o.guard = none) (ty : TypeId) (x : Operand) (ho : o.op = .load ty x)
    (b off : Nat) (hx : a.eval x = .pointer (some ⟨b, off, none⟩)) (cs : List Value) (d : TypeDesc) (hc : w.rangeAt b off cs)
    (hu : Tryz.prog.underlying ty = some d) (hd : d.isRow = true) (hi : (Tryz.prog.info? ty).map (·.size) = some cs.length)
    (h : wpList Tryz.prog ops Q rest (a.put o.dst (.agg cs.toArray)) w) : wpList Tryz.prog ops Q (o :: rest) a w :=
  wpList_plain hgd fun _ hK => wp_load_mid ty x ho b off hx cs d hc hu hd hi (hK _ _ h)
set_option maxHeartbeats 4000000 in
set_option maxRecDepth 100000 in
theorem mlast_any (nb B : Nat) (s : Rs) (cv ev vv : Value) (vs : List Int) (hf : Fit s.g) (w : World) (h : Mi w nb B s cv ev vv vs) :
    Calls Tryz.prog 122 #[.pointer (some ⟨nb, 0, none⟩)] w fun e w' => e = .returned (.int .u64 (s.g.last : Nat)) ∧ Below w.heap.size w w' := by
  have hL := last_any s.g cv ev hf w h.lv
  obtain ⟨x5, x6, x7, x8⟩ := h.lg
  clear h hf
  go_enter Tryz.func122, Tryz.ntmps122
  go_wp2_with fail
  with_reducible refine hL.mono ?_
  clear hL
  rintro e w2 ⟨rfl, b2⟩
  have B2 := Lib.hid b2
  clear b2
  go_wp2_with fail
  go_ret
  exact ⟨rfl, B2.out⟩
set_option maxHeartbeats 4000000 in
set_option maxRecDepth 100000 in
theorem members_any (s : Rs) (cv ev vv : Value) (hf : Fit s.g) (w : World) (h : LV w cv ev s.g) :
    Calls Tryz.prog 15 #[.agg (rsC s cv ev vv)] w (NOut w (s.g.mem s.g.es.length).1) := by
  have H1 : Hid (Below w.heap.size w (w.alloc (.cells (rsC s cv ev vv) 49)) ∧ Arr (w.alloc (.cells (rsC s cv ev vv) 49)) w.heap.size 49 (rsC s cv ev vv)) := ⟨below_box _ _, Arr.new _ _ _⟩
  have HC := Lib.hid fun W (b : Below w.heap.size w W) => conf_any s.g cv ev hf W (h.later b)
  clear h hf
  simp only [rsC] at H1 ⊢
  go_enter Tryz.func15, Tryz.ntmps15
  go_upto_region 1 with (fail)
  generalize w.alloc _ = W at H1 ⊢
  obtain ⟨x5, x6, x7, x8⟩ : W.cell? ⟨w.heap.size, 5, none⟩ = some (.int .u64 (s.g.base : Nat)) ∧ W.cell? ⟨w.heap.size, 6, none⟩ = some (.int .u64 (s.g.bt : Nat)) ∧ W.cell? ⟨w.heap.size, 7, none⟩ = some cv ∧ W.cell? ⟨w.heap.size, 8, none⟩ = some ev := ⟨H1.out.2.cell rfl, H1.out.2.cell rfl, H1.out.2.cell rfl, H1.out.2.cell rfl⟩
  have hC := HC.out W H1.out.1
  go_wp2_with fail
  with_reducible refine hC.mono ?_
  clear hC x5 x6 x7 x8
  rintro e w2 ⟨u, rfl, o2, b2⟩
  have B2 : Hid (rw.Own noSh w2 w.heap.size u (s.g.mem s.g.es.length).1 ∧ Below w.heap.size w w2) := ⟨own_lower o2 H1.out.1.size, H1.out.1.trans (b2.mono H1.out.1.size)⟩
  clear b2 o2
  go_wp2_with fail
  go_ret
  exact ⟨u, rfl, B2.out.1, B2.out.2⟩
end Go.Proofs.YtmgmhnohocamfaaGreat.rf
/-! RfOth -/
namespace Go.Proofs.YtmgmhnohocamfaaGreat.rf
set_option linter.unusedVariables false
open Go.RowKit
open pk (S S_size S_data)
open qm (Bs noSh)
open rw (Arr But below_box bnext below_drew below_drewN)
open tl

set_option maxHeartbeats 2000000 in
set_option maxRecDepth 100000 in
theorem olit_any (x : Int) (pb nb : Nat) (w : World) (h1 : w.cell? ⟨pb, 0, none⟩ = some (.pointer (some ⟨nb, 0, none⟩))) (h2 : w.cell? ⟨nb, 0, none⟩ = some (.int .i64 x)) :
    Calls Tryz.prog 139 #[.int .i64 x, .pointer (some ⟨pb, 0, none⟩)] w fun e w' => e = .returned (.bool true) ∧ w = w' := by
  have q1 : (x == x) = true := beq_self_eq_true x
  go_enter Tryz.func139, Tryz.ntmps139
  go_wp2_with fail
  go_ret
  exact ⟨by first | rfl | simp, rfl⟩
set_option maxHeartbeats 4000000 in
set_option maxRecDepth 100000 in
theorem oindex_any (x : Int) (pb nb q c : Nat) (w : World) (h1 : w.cell? ⟨pb, 0, none⟩ = some (.pointer (some ⟨nb, 0, none⟩))) (h2 : w.cell? ⟨nb, 0, none⟩ = some (.int .i64 x)) (h3 : w.cell? ⟨q, 0, none⟩ = some (.int .i64 x)) :
    Calls Tryz.prog 153 #[.slice (some ⟨q, 0, none⟩) 1 c, .func (.func 139) #[] #[.pointer (some ⟨pb, 0, none⟩)]] w fun e w' => e = .returned (.int .i64 0) ∧ w = w' := by
  have hL := olit_any x pb nb w h1 h2
  go_enter Tryz.func153, Tryz.ntmps153
  go_wp2
  go_loopw [8] (fun i wr => i = .int .i64 0 ∧ wr = w)
    (fun _ _ => 0)
  case atStart => exact ⟨rfl, rfl⟩
  case round =>
    obtain ⟨rfl, rfl⟩ := hrel
    go_wp2_with fail
    with_reducible refine hL.mono ?_
    clear hL
    rintro e w2 ⟨rfl, rfl⟩
    go_wp2_with fail
    go_ret
    exact ⟨rfl, rfl⟩
set_option maxHeartbeats 4000000 in
set_option maxRecDepth 100000 in
theorem odelete_any (x : Int) (pb nb q c B : Nat) (w : World) (h1 : w.cell? ⟨pb, 0, none⟩ = some (.pointer (some ⟨nb, 0, none⟩))) (h2 : w.cell? ⟨nb, 0, none⟩ = some (.int .i64 x)) (h3 : w.cell? ⟨q, 0, none⟩ = some (.int .i64 x)) (hf : w.frozen? ⟨q, 0, none⟩ = false) (hq : B ≤ q) (hB : B ≤ w.heap.size) (hc : 1 ≤ c) :
    Calls Tryz.prog 138 #[.slice (some ⟨q, 0, none⟩) 1 c, .func (.func 139) #[] #[.pointer (some ⟨pb, 0, none⟩)]] w fun e w' => ∃ a c, e = .returned (.slice a 0 c) ∧ Below B w w' := by
  have hI := oindex_any x pb nb q c w h1 h2 h3
  clear h1 h2
  go_enter Tryz.func138, Tryz.ntmps138
  go_wp2_with fail
  with_reducible refine hI.mono ?_
  clear hI
  rintro e w2 ⟨rfl, rfl⟩
  go_wp2_with fail
  go_loopw [5, 6] (fun z i wr => z = .int .i64 0 ∧ i = .int .i64 1 ∧ wr = w)
    (fun _ _ _ => 0)
  case atStart => exact ⟨rfl, rfl, rfl⟩
  case round =>
    obtain ⟨rfl, rfl, rfl⟩ := hrel
    have q0 : ¬ c = 0 := by omega
    have hz : (Builtin.clear_ #[36] 0 #[.slice (some ⟨q, 0, none⟩) 1 c]).run Tryz.prog wr = .ok (.tuple #[]) (wr.setCells q 0 (List.replicate 1 (.int .i64 0))) :=
      Lib.run_clear_slice (P := Tryz.prog) wr 36 3 0 (.int .i64 0) Tryz.underlying36 Tryz.zeroValue3 rfl rfl q 0 1 c (by omega) (fun j hj => by
        obtain rfl : j = 0 := by omega
        rw [h3]; rfl) (fun j hj => by
        obtain rfl : j = 0 := by omega
        exact hf)
    have HB : Hid (Below B wr (wr.setCells q 0 (List.replicate 1 (.int .i64 0)))) := by
      show Below _ _ _
      have k : But q wr (wr.setCell ⟨q, 0, none⟩ (.int .i64 0)) := (But.refl q wr).set 0 _
      exact k.below hB hq
    clear h3 hf hq hB
    go_wp2_with fail
    go_ret
    exact ⟨_, _, rfl, HB.out⟩
/-- The others of the only one. -/
theorem own_one {W : World} {B : Nat} {v : Value} {x : Int} (o : rw.Own noSh W B v [x]) : ∃ q c, v = .slice (some ⟨q, 0, none⟩) 1 c ∧ 1 ≤ c ∧ B ≤ q ∧ W.cell? ⟨q, 0, none⟩ = some (.int .i64 x) ∧ W.frozen? ⟨q, 0, none⟩ = false := by
  have o2 := o
  obtain ⟨b, off, c, e, hb, h0⟩ := slN_at o.sl (j := 0) (by simp)
  obtain ⟨h1, h2 | ⟨g, cap, cur, h3, h4, h5, h6, h7, h8, h9⟩⟩ := o
  · have := h2.2; simp at this
  · rw [h3] at e
    injection e with e1 e2 e3
    injection e1 with e1
    injection e1 with e4 e5 _
    subst e4 e5
    exact ⟨g, cap, h3, by simpa using h6, h4, h0, by rw [h3] at o2; exact own_frozen o2 0⟩
end Go.Proofs.YtmgmhnohocamfaaGreat.rf
/-! RfWay1 -/
namespace Go.Proofs.YtmgmhnohocamfaaGreat.rf
set_option linter.unusedVariables false
open Go.RowKit
open pk (S S_size S_data)
open qm (Bs noSh)
open rw (Arr But below_box bnext below_drew below_drewN)
open tl

/-- It is the only member. -/
def Alone (s : Rs) : Prop := (s.g.mem s.g.es.length).1 = [s.id]
set_option maxHeartbeats 4000000 in
set_option maxRecDepth 100000 in
theorem others_any (nb B : Nat) (s : Rs) (cv ev vv : Value) (vs : List Int) (hf : Fit s.g) (hm : Alone s) (w : World) (h : Mi w nb B s cv ev vv vs) :
    Calls Tryz.prog 113 #[.pointer (some ⟨nb, 0, none⟩)] w fun e w' => ∃ a c, e = .returned (.slice a 0 c) ∧ Below w.heap.size w w' := by
  have kb := below_box w (.cells #[.pointer (some ⟨nb, 0, none⟩)] 99)
  have H1 := Lib.hid (h.below kb)
  have HP := Lib.hid (Arr.new w 99 #[.pointer (some ⟨nb, 0, none⟩)])
  have HB := Lib.hid kb
  have HMb := Lib.hid fun W (h : Mi W nb B s cv ev vv vs) => members_any s cv ev vv hf W h.lv
  rw [show (s.g.mem s.g.es.length).1 = [s.id] from hm] at HMb
  clear h kb hf hm
  go_enter Tryz.func113, Tryz.ntmps113
  go_upto_region 1 with (fail)
  generalize w.alloc (.cells #[.pointer (some ⟨nb, 0, none⟩)] 99) = W at *
  have x0 : W.cell? ⟨w.heap.size, 0, none⟩ = some (.pointer (some ⟨nb, 0, none⟩)) := HP.out.cell rfl
  have hM := HMb.out W H1.out
  go_wp2_with (refine wpList_load_mid rfl 49 (.tmp 5) rfl nb 0 rfl _ _ H1.out.range Tryz.underlying49 rfl (by kernel_rfl) ?_)
  with_reducible refine hM.mono ?_
  clear hM x0
  rintro e w2 ⟨u, rfl, o2, b2⟩
  have H2 := Lib.hid (H1.out.below b2)
  have HP2 := Lib.hid (HP.out.below b2)
  have HB2 := Lib.hid (HB.out.trans (b2.mono HB.out.size))
  obtain ⟨q, c, rfl, hc, hq, h0, hfz⟩ := own_one o2
  have hD := odelete_any s.id w.heap.size nb q c W.heap.size w2 (HP2.out.cell rfl) (H2.out.a.cell rfl) h0 hfz hq b2.size hc
  have hWw : W.heap.size ≤ w2.heap.size := b2.size
  have hwW : w.heap.size ≤ W.heap.size := HB.out.size
  have hmk := makeFunc_eq (.func 139) #[] #[.pointer (some ⟨w.heap.size, 0, none⟩)] w2
  clear b2 o2 h0 hfz hq hc H1 HP HB HMb
  go_wp2_with fail
  with_reducible refine hD.mono ?_
  clear hD hmk
  rintro e w3 ⟨a, c', rfl, b3⟩
  have HB3 := Lib.hid (HB2.out.trans (b3.mono hwW))
  clear b3
  go_wp2_with fail
  go_ret
  exact ⟨a, c', rfl, HB3.out⟩
set_option maxHeartbeats 4000000 in
set_option maxRecDepth 100000 in
theorem mayStand_any (nb B : Nat) (s : Rs) (cv ev vv : Value) (vs : List Int) (hf : Fit s.g) (hm : Alone s) (w : World) (h : Mi w nb B s cv ev vv vs) :
    Calls Tryz.prog 84 #[.pointer (some ⟨nb, 0, none⟩)] w fun e w' => e = .returned (.bool true) ∧ Below w.heap.size w w' := by
  have H1 := Lib.hid h
  have hC := conf_any s.g cv ev hf w h.lv
  have hm2 : (s.g.mem s.g.es.length).1 = [s.id] := hm
  obtain ⟨M, hM⟩ : ∃ M, s.g.mem s.g.es.length = M := ⟨_, rfl⟩
  rw [hM] at hC hm2
  obtain ⟨M, ma⟩ := M
  simp only at hm2
  subst hm2
  obtain ⟨x5, x6, x7, x8⟩ := h.lg
  clear h hf hm hM
  go_enter Tryz.func84, Tryz.ntmps84
  go_wp2_with fail
  with_reducible refine hC.mono ?_
  clear hC x5 x6 x7 x8
  rintro e w2 ⟨u, rfl, o2, b2⟩
  have H2 := Lib.hid (H1.out.below b2)
  have B2 := Lib.hid b2
  have x0 : w2.cell? ⟨nb, 0, none⟩ = some (.int .i64 s.id) := H2.out.a.cell rfl
  have hK := qm.contains_any u [s.id] s.id (by simp) w2 o2.sl
  rw [show ([s.id] : List Int).contains s.id = true by simp] at hK
  clear b2 o2 H1
  go_wp2_with fail
  with_reducible refine hK.mono ?_
  clear hK x0
  rintro e w3 ⟨rfl, rfl⟩
  go_wp2_with fail
  go_ret
  exact ⟨rfl, B2.out⟩
set_option maxHeartbeats 4000000 in
set_option maxRecDepth 100000 in
theorem meet_any (nb B : Nat) (s : Rs) (cv ev vv : Value) (vs : List Int) (hf : Fit s.g) (hm : Alone s) (w : World) (h : Mi w nb B s cv ev vv vs) :
    Calls Tryz.prog 91 #[.pointer (some ⟨nb, 0, none⟩)] w fun e w' => e = .returned (.tuple #[]) ∧ Mi w' nb B s cv ev vv vs ∧ Below w.heap.size w w' := by
  have H1 := Lib.hid h
  have hO := others_any nb B s cv ev vv vs hf hm w h
  clear h hf hm
  go_enter Tryz.func91, Tryz.ntmps91
  go_wp2_with fail
  with_reducible refine hO.mono ?_
  clear hO
  rintro e w2 ⟨a, c, rfl, b2⟩
  have H2 : Hid (Mi w2 nb B s cv ev vv vs ∧ Below w.heap.size w w2) := ⟨H1.out.below b2, b2⟩
  have x14 : w2.cell? ⟨nb, 14, none⟩ = some (.slice none 0 0) := H2.out.1.a.cell rfl
  have f14 := H2.out.1.a.frozen 14
  have hs14 := setCell_same x14
  clear b2 H1
  go_wp2_with fail
  go_loopw [2, 10] (fun z i wr => z = .slice none 0 0 ∧ i = .int .i64 0 ∧ wr = w2)
    (fun _ _ _ => 0)
  case atStart => exact ⟨rfl, rfl, rfl⟩
  case round =>
    obtain ⟨rfl, rfl, rfl⟩ := hrel
    go_wp2_with fail
    go_end0
    exact ⟨rfl, H2.out⟩
set_option maxHeartbeats 4000000 in
set_option maxRecDepth 100000 in
theorem updateAll_any (nb B : Nat) (s : Rs) (cv ev vv : Value) (vs : List Int) (w : World) (h : Mi w nb B s cv ev vv vs) :
    Calls Tryz.prog 83 #[.pointer (some ⟨nb, 0, none⟩)] w fun e w' => e = .returned (.tuple #[]) ∧ w = w' := by
  have x14 : w.cell? ⟨nb, 14, none⟩ = some (.slice none 0 0) := h.a.cell rfl
  clear h
  go_enter Tryz.func83, Tryz.ntmps83
  go_wp2_with fail
  go_loopw [10] (fun i wr => i = .int .i64 0 ∧ wr = w)
    (fun _ _ => 0)
  case atStart => exact ⟨rfl, rfl⟩
  case round =>
    obtain ⟨rfl, rfl⟩ := hrel
    go_wp2_with fail
    go_end0
    exact ⟨rfl, rfl⟩
end Go.Proofs.YtmgmhnohocamfaaGreat.rf
/-! RfCom -/
namespace Go.Proofs.YtmgmhnohocamfaaGreat.rf
set_option linter.unusedVariables false
open Go.RowKit
open pk (S S_size S_data)
open qm (Bs noSh)
open rw (Arr But below_box bnext below_drew below_drewN)
open tl

theorem right_one {x : Int} (h : 1 ≤ x ∧ x ≤ 5) : qm.right [x] = true := by
  obtain rfl | rfl | rfl | rfl | rfl : x = 1 ∨ x = 2 ∨ x = 3 ∨ x = 4 ∨ x = 5 := by omega
  all_goals decide
theorem most_one {x : Int} (h : 1 ≤ x ∧ x ≤ 5) : qm.most [x] [x] = true := by
  unfold qm.most
  rw [right_one h]
  simp [qm.cnt]
theorem commit_one {x i : Int} (h : 1 ≤ x ∧ x ≤ 5) (hi : 0 < i) : qm.commit [x] [⟨x, i⟩] = i := by
  have hm := most_one h
  simp [qm.commit, qm.bestOf, qm.has, hm, hi]
theorem own_lit_at (w : World) (x : qm.Ix) : rw.Own qm.ixSh (w.alloc (.cells #[.int .i64 x.node, .int .u64 x.idx] 152)) w.heap.size (.slice (some ⟨w.heap.size, 0, none⟩) 1 1) [x] := rw.Own.lit qm.ixSh w [x] (by simp) (by simp)
set_option maxHeartbeats 8000000 in
set_option maxRecDepth 100000 in
theorem mcommit_any (nb B : Nat) (s : Rs) (cv ev vv : Value) (vs : List Int) (hf : Fit s.g) (hm : Alone s) (hid : 1 ≤ s.id ∧ s.id ≤ 5) (ha : (s.g.mem s.g.es.length).2 ≤ s.g.last) (hl : s.commit < s.g.last) (ht : s.g.lastT = s.term) (w : World) (h : Mi w nb B s cv ev vv vs) :
    Calls Tryz.prog 124 #[.pointer (some ⟨nb, 0, none⟩)] w fun e w' => e = .returned (.tuple #[]) ∧ Mi w' nb B { s with commit := s.g.last } cv ev vv vs ∧ Below B w w' := by
  have H0 := Lib.hid h
  have HL := Lib.hid fun W (h : Mi W nb B s cv ev vv vs) => mlast_any nb B s cv ev vv vs hf W h
  have HC := Lib.hid fun W (h : Mi W nb B s cv ev vv vs) => conf_any s.g cv ev hf W h.lv
  have hla : s.g.rch s.g.last = true := Lg.rch_iff.2 ⟨by unfold Lg.last; omega, Nat.le_refl _⟩
  have hll : s.g.last < 18446744073709551616 := by
    have h1 := hf.base
    have h2 := hf.es
    unfold Lg.last
    omega
  have HT := Lib.hid fun W (h : Mi W nb B s cv ev vv vs) => term_any s.g cv ev s.g.last hll hf W h.lv
  have htl : s.g.term s.g.last = (s.term, true) := by
    rw [Lg.term_yes hla, Lg.upTo_of hla, ← ht, Lg.lastT, show s.g.last - s.g.base = s.g.es.length by unfold Lg.last; omega]
  rw [htl] at HT
  have HQ : Hid (∀ W (u v : Value) (h1 : qm.Ns W u [s.id]) (h2 : qm.Is W v [⟨s.id, (s.g.last : Int)⟩]), Calls Tryz.prog 150 #[u, v] W fun e w' => e = .returned (.int .u64 (s.g.last : Int)) ∧ Below W.heap.size W w') := fun W u v h1 h2 => by
    have z := qm.commit_any u v [s.id] [⟨s.id, (s.g.last : Int)⟩] (by simp) (by simp) (by intro x hx; simp at hx; subst hx; exact Int.natCast_nonneg _) W h1 h2
    rw [commit_one hid (by omega)] at z
    exact z
  have hm2 : (s.g.mem s.g.es.length).1 = [s.id] := hm
  obtain ⟨M, hM⟩ : ∃ M, s.g.mem s.g.es.length = M := ⟨_, rfl⟩
  rw [hM] at HC hm2 ha
  obtain ⟨M, ma⟩ := M
  simp only at hm2 ha
  subst hm2
  obtain ⟨la, hlaE⟩ : ∃ la, s.g.last = la := ⟨_, rfl⟩
  rw [hlaE] at HL HT HQ ha hl hll ⊢
  have HLA := Lib.hid hlaE
  have HK := Lib.hid fun W (u : Value) (h : qm.Ns W u [s.id]) => qm.contains_any u [s.id] s.id (by simp) W h
  rw [show ([s.id] : List Int).contains s.id = true by simp] at HK
  clear h hf hm hM hla htl ht hlaE hid
  go_enter Tryz.func124, Tryz.ntmps124
  go_upto_region 0 with (fail)
  have H1 : Hid (Mi w.drew nb B s cv ev vv vs ∧ Below B w w.drew) := ⟨H0.out.below (below_drew (Below.refl _ _)), (below_drew (Below.refl _ _)).mono H0.out.size⟩
  have kA : w.drew.cell? ⟨nb, 0, none⟩ = some (.int .i64 s.id) := H1.out.1.a.cell rfl
  have h1 := HL.out _ H1.out.1
  go_region_held3 (fun W => W.cell? ⟨nb, 0, none⟩ = some (.int .i64 s.id))
    (first | (with_reducible exact kA) | (with_reducible exact kB) | (with_reducible exact kC _))
    (first
      | (go_at_call 122; with_reducible refine h1.mono ?_; rintro e w2 ⟨rfl, b2⟩; have H2 := Lib.hid (And.intro (H1.out.1.below b2) (H1.out.2.trans (b2.mono H1.out.1.size))); have kB : w2.cell? ⟨nb, 0, none⟩ = some (.int .i64 s.id) := H2.out.1.a.cell rfl; have kC : ∀ o, (w2.alloc o).cell? ⟨nb, 0, none⟩ = some (.int .i64 s.id) := fun o => (H2.out.1.below (below_box _ o)).a.cell rfl; clear b2 h1))
  all_goals (
    have HI := Lib.hid (own_lit_at w2 ⟨s.id, (la : Int)⟩)
    have H3 : Hid (Mi (w2.alloc (.cells #[.int .i64 s.id, .int .u64 (la : Int)] 152)) nb B s cv ev vv vs ∧ Below B w (w2.alloc (.cells #[.int .i64 s.id, .int .u64 (la : Int)] 152))) := ⟨H2.out.1.below (below_box _ _), H2.out.2.trans ((below_box _ _).mono H2.out.1.size)⟩
    clear kA kB kC H1 H2 HL
    go_upto_region 1 with (fail)
    simp only at HI
    generalize w2.alloc (.cells #[.int .i64 s.id, .int .u64 (la : Int)] 152) = w3 at *
    generalize w2.heap.size = ib at *
    have x14 : w3.cell? ⟨nb, 14, none⟩ = some (.slice none 0 0) := H3.out.1.a.cell rfl
    go_wp2_with fail
    clear x14
    go_loopw [2, 25] (fun z i wr => z = .slice (some ⟨ib, 0, none⟩) 1 1 ∧ i = .int .i64 0 ∧ wr = w3)
      (fun _ _ _ => 0)
    case atStart => exact ⟨rfl, rfl, rfl⟩
    case round =>
      obtain ⟨rfl, rfl, rfl⟩ := hrel
      obtain ⟨x5, x6, x7, x8⟩ := H3.out.1.lg
      have hC := HC.out _ H3.out.1
      go_wp2_with fail
      with_reducible refine hC.mono ?_
      clear hC x5 x6 x7 x8 HC
      rintro e w4 ⟨u, rfl, o4, b4⟩
      have H4 : Hid (Mi w4 nb B s cv ev vv vs ∧ Below B w w4) := ⟨H3.out.1.below b4, H3.out.2.trans (b4.mono H3.out.1.size)⟩
      have HU := Lib.hid o4
      have hQ := HQ.out w4 u _ HU.out.sl (HI.out.sl.later _ b4)
      clear b4 o4 H3 HI HQ
      go_wp2_with fail
      with_reducible refine hQ.mono ?_
      clear hQ
      rintro e w5 ⟨rfl, b5⟩
      have H5 : Hid (Mi w5 nb B s cv ev vv vs ∧ Below B w w5) := ⟨H4.out.1.below b5, H4.out.2.trans (b5.mono H4.out.1.size)⟩
      have HU5 := Lib.hid (HU.out.below _ b5)
      clear b5 H4 HU
      obtain ⟨x5, x6, x7, x8⟩ := H5.out.1.lg
      have hT := HT.out _ H5.out.1
      go_wp2_with fail
      with_reducible refine hT.mono ?_
      clear hT x5 x6 x7 x8 HT
      rintro e w6 ⟨rfl, b6⟩
      have H6 : Hid (Mi w6 nb B s cv ev vv vs ∧ Below B w w6) := ⟨H5.out.1.below b6, H5.out.2.trans (b6.mono H5.out.1.size)⟩
      have HU6 := Lib.hid (HU5.out.below _ b6)
      clear b6 H5 HU5
      have x10 : w6.cell? ⟨nb, 10, none⟩ = some (.int .u64 (s.commit : Nat)) := H6.out.1.a.cell rfl
      have x1 : w6.cell? ⟨nb, 1, none⟩ = some (.int .u64 (s.term : Nat)) := H6.out.1.a.cell rfl
      have f10 := H6.out.1.a.frozen 10
      have q1 : (s.commit : Int) < (la : Int) := by omega
      have q2 : ((s.term : Int) == (s.term : Int)) = true := beq_iff_eq.2 rfl
      go_upto_region 11 with (fail)
      have H7 : Hid (Mi (w6.setCell ⟨nb, 10, none⟩ (.int .u64 (la : Int))) nb B { s with commit := la } cv ev vv vs ∧ Below B w (w6.setCell ⟨nb, 10, none⟩ (.int .u64 (la : Int)))) := ⟨H6.out.1.upd 10 _ { s with commit := la } rfl rfl, H6.out.2.trans (H6.out.1.but 10 _)⟩
      have HU7 := Lib.hid (own_but HU6.out H6.out.1.a (by decide) ((But.refl nb w6).set 10 (.int .u64 (la : Int)))).sl
      clear x10 x1 f10 q1 q2 H6 HU6
      generalize w6.setCell ⟨nb, 10, none⟩ (.int .u64 (la : Int)) = w7 at *
      have x10 : w7.cell? ⟨nb, 10, none⟩ = some (.int .u64 (la : Nat)) := H7.out.1.a.cell rfl
      have x0 : w7.cell? ⟨nb, 0, none⟩ = some (.int .i64 s.id) := H7.out.1.a.cell rfl
      have q1 : (ma : Int) ≤ (la : Int) := by omega
      have hK := HK.out w7 u HU7.out
      go_wp2_with fail
      with_reducible refine hK.mono ?_
      clear hK
      rintro e w8 ⟨rfl, rfl⟩
      go_wp2_with fail
      go_end0
      exact ⟨rfl, H7.out⟩)
end Go.Proofs.YtmgmhnohocamfaaGreat.rf
/-! RfEnt -/
namespace Go.Proofs.YtmgmhnohocamfaaGreat.rf
set_option linter.unusedVariables false
open Go.RowKit
open pk (S S_size S_data)
open qm (Bs noSh)
open rw (Arr But below_box bnext below_drew below_drewN)
open tl

/-- An append in a region that draws its order; what else lies there stays. -/
theorem step_apg {α : Type} (s : rw.Sh α) {ops : Array Oper} {o : Oper} {a : Act} {w : World} {K : Act → World → Prop} {Q : Exit → Act → World → Prop} {E : Prop} (hgd : o.guard = none) (x y : Operand)
    (ho : o.op = .call { callee := .builtin .append, args := #[x, y], argTypes := #[s.st, s.st] }) (hty : o.type = s.st) (B : Nat) (v u : Value) (m l : List α) (hx : a.eval x = v) (hy : a.eval y = u)
    (hlen : m.length + l.length ≤ 34359738368) (hown : rw.Own s w B v m) (hB : B ≤ w.heap.size) (hu : rw.Sl s w u l)
    (h : ∀ v' w', rw.Own s w' B v' (m ++ l) → Below B w w' → w.grownBy w' v.ownBlock → K (a.put o.dst v') w') :
    if Region.wanted o (yielded ops a.tmps) = true then Oper.wp Tryz.prog o a w K Q else E := by
  have hw : Region.wanted o (yielded ops a.tmps) = true := by simp [Region.wanted, hgd]
  rw [if_pos hw]
  obtain ⟨v', w', hr, h2, h3, h4⟩ := rw.append_own s B v m l u hlen w hown hB hu
  unfold rw.App at hr
  unfold Oper.wp execOp
  simp only [ho, hty, resolve, invoke, builtin, Sem.run_bind, Sem.run_pure, Result.andThen_ok, List.map_toArray, List.map_cons, List.map_nil, hx, hy, hr]
  exact h v' w' h2 h3 h4
/-- What lies in a block of another type stays where a row grew. -/
theorem grown_arr {α : Type} {s : rw.Sh α} {W W' : World} {B q : Nat} {v : Value} {l : List α} {t : TypeId} {cs : Array Value} (o : rw.Own s W B v l) (g : W.grownBy W' v.ownBlock) (a : Arr W q t cs) (ht : t ≠ s.t) : Arr W' q t cs :=
  a.of (g.block q a.lt fun e => own_ne o a ht e.symm)
theorem grown_own {α β : Type} {s : rw.Sh α} {s2 : rw.Sh β} {W W' : World} {B B2 : Nat} {v v2 : Value} {l : List α} {l2 : List β} (o : rw.Own s W B v l) (g : W.grownBy W' v.ownBlock) (o2 : rw.Own s2 W B2 v2 l2) (ht : s2.t ≠ s.t) : rw.Own s2 W' B2 v2 l2 := by
  obtain ⟨h1, h2 | ⟨g2, cap, cur, h3, h4, h5, h6⟩⟩ := o2
  · exact ⟨h1, .inl h2⟩
  · exact ⟨h1, .inr ⟨g2, cap, cur, h3, h4, grown_arr o g (q := g2) (t := s2.t) (cs := cur) h5 ht, h6⟩⟩
theorem Mi.grown {W W' : World} {nb B : Nat} {s s' : Rs} {cv ev vv u : Value} {vs : List Int} {l : List EnIn} (h : Mi W nb B s cv ev vv vs) (g : W.grownBy W' ev.ownBlock) (o : rw.Own enSh W' B u l) (hs : s' = { s with g := { s.g with es := l } }) :
    Mi (W'.setCell ⟨nb, 8, none⟩ u) nb B s' cv u vv vs := by
  subst hs
  have a := grown_arr h.e g h.a (by decide)
  have k : But nb W' (W'.setCell ⟨nb, 8, none⟩ u) := (But.refl nb W').set 8 u
  exact ⟨a.set 8 u, own_but (grown_own h.e g h.c (by decide)) a (by decide) k, own_but o a (by decide) k, own_but (grown_own h.e g h.v (by decide)) a (by decide) k, h.n⟩
set_option maxHeartbeats 8000000 in
set_option maxRecDepth 100000 in
theorem enter_any (kind : Int) (data : Bs) (nb B : Nat) (s : Rs) (cv ev vv : Value) (vs : List Int) (hl : s.g.es.length ≤ 1000000) (w : World) (h : Mi w nb B s cv ev vv vs) :
    Calls Tryz.prog 90 #[.pointer (some ⟨nb, 0, none⟩), .int .i64 kind, .string (S data)] w fun e w' => e = .returned (.tuple #[]) ∧ (∃ eu, Mi w' nb B { s with g := { s.g with es := s.g.es ++ [⟨s.term, kind, data⟩] } } cv eu vv vs) ∧ Below B w w' ∧ (∀ q t cs, Arr w q t cs → q ≠ nb → t ≠ 51 → Arr w' q t cs) := by
  have H0 := Lib.hid h
  have hn := h.n
  have hsz := h.size
  obtain ⟨ea, ec, hev⟩ := h.e.form
  obtain ⟨N, hN⟩ : ∃ N, s.g.es.length = N := ⟨_, rfl⟩
  rw [hN] at hev hl
  subst hev
  have HN := Lib.hid hN
  clear h hN
  go_enter Tryz.func90, Tryz.ntmps90
  have kb := below_box w (.cells #[.int .u64 (s.term : Nat), .int .i64 kind, .string (S data)] 51)
  have H1 : Hid (Mi w.drew nb B s cv (.slice ea N ec) vv vs) := H0.out.below (below_drew (Below.refl _ _))
  have H2 : Hid (Mi (w.alloc (.cells #[.int .u64 (s.term : Nat), .int .i64 kind, .string (S data)] 51)).drew nb B s cv (.slice ea N ec) vv vs) := (H0.out.below kb).below (below_drew (Below.refl _ _))
  have HB2 : Hid (Below B w (w.alloc (.cells #[.int .u64 (s.term : Nat), .int .i64 kind, .string (S data)] 51)).drew) := (below_drew kb).mono hsz
  have HSl : Hid (rw.Sl enSh (w.alloc (.cells #[.int .u64 (s.term : Nat), .int .i64 kind, .string (S data)] 51)).drew (.slice (some ⟨w.heap.size, 0, none⟩) 1 1) [⟨s.term, kind, data⟩]) := ((rw.Own.lit enSh w [⟨s.term, kind, data⟩] (by simp) (by simp)).sl).later _ (below_drew (Below.refl _ _))
  have x8 : w.drew.cell? ⟨nb, 8, none⟩ = some (.slice ea N ec) := H1.out.a.cell rfl
  have x1 : w.drew.cell? ⟨nb, 1, none⟩ = some (.int .u64 (s.term : Nat)) := H1.out.a.cell rfl
  have y8 : (w.alloc (.cells #[.int .u64 (s.term : Nat), .int .i64 kind, .string (S data)] 51)).drew.cell? ⟨nb, 8, none⟩ = some (.slice ea N ec) := H2.out.a.cell rfl
  have y1 : (w.alloc (.cells #[.int .u64 (s.term : Nat), .int .i64 kind, .string (S data)] 51)).drew.cell? ⟨nb, 1, none⟩ = some (.int .u64 (s.term : Nat)) := H2.out.a.cell rfl
  have hA2 := H2.out.e
  have hS2 := H2.out.size
  have HL1 : Hid ((s.g.es ++ [(⟨s.term, kind, data⟩ : EnIn)]).length = N + 1) := by show (_ ++ _ : List EnIn).length = _; rw [List.length_append, HN.out]; rfl
  have HAr : Hid (∀ q t cs, Arr w q t cs → Arr (w.alloc (.cells #[.int .u64 (s.term : Nat), .int .i64 kind, .string (S data)] 51)).drew q t cs) := fun q t cs a => (a.below kb).below (below_drew (Below.refl _ _))
  clear kb
  go_upto_region 0 with (fail)
  go_region_law
    (first
      | (refine step_apg enSh rfl (.tmp 12) (.tmp 21) rfl rfl B _ _ s.g.es [⟨s.term, kind, data⟩] rfl rfl (by rw [HN.out]; simp only [List.length_cons, List.length_nil]; omega) hA2 hS2 HSl.out ?_; intro v' w' o' b' g'; have f8 := (grown_arr hA2 g' H2.out.a (by decide)).frozen 8; have z8 : w'.cell? ⟨nb, 8, none⟩ = some (.slice ea N ec) := (grown_arr hA2 g' H2.out.a (by decide)).cell rfl; obtain ⟨a', c', ho'⟩ := o'.form; rw [HL1.out] at ho'; subst ho'; have HM := Lib.hid (H2.out.grown g' o' rfl); have HBw := Lib.hid ((HB2.out.trans b').trans (((But.refl nb w').set 8 (Value.slice a' (N + 1) c')).below (Nat.le_trans hS2 b'.size) hn)); have HKp : Hid (∀ q t cs, Arr w q t cs → q ≠ nb → t ≠ 51 → Arr (w'.setCell ⟨nb, 8, none⟩ (.slice a' (N + 1) c')) q t cs) := (fun q t cs a hq ht => ((But.refl nb w').set 8 _).arr (grown_arr hA2 g' (HAr.out q t cs a) ht) hq); clear o' b' g'))
  all_goals (
    try go_wp2_with fail
    go_end0
    exact ⟨rfl, ⟨_, HM.out⟩, HBw.out, HKp.out⟩)
end Go.Proofs.YtmgmhnohocamfaaGreat.rf
