/-
  What the law's walk stands on, part 1 of 1: the texts TlRows, TlA2, TlL1, TlS1, TlS3, TlL3, one behind the other.
-/
import Derived.Test.YtojlellnoliapaaRows
import Derived.Test.YtojlellnoliapaaTlA1
import Derived.ProofKit
import Derived.OpenShut
import Derived.Deep.Slices
import Derived.Deep.SlicePairs
import Derived.SizedLaws
/-! TlRows -/
namespace Go.Proofs.Ytojlellnoliapaa.tl
set_option linter.unusedVariables false
open Go.ChangeShapes Go.WideShapes Go.ChangeAt Go.RowKit
open pk (S)
open qm (noSh)
open rw (addr_add)

theorem S_of (s : ByteArray) : S s.data.toList = s := by simp [S]
instance : Inhabited EnIn := ⟨⟨0, 0, []⟩⟩
/-! ### What holds of any shape -/
def Lite {H : Type} (d : DataW H) (t : TypeId) : Prop := ∀ n ∈ d.weights Try.prog t, n ≤ reachBytes
theorem weights_in {H : Type} {e : TypeId} {n : Nat} : ∀ {es : List (DataW H)} {d : DataW H}, d ∈ es → n ∈ d.weights Try.prog e → n ∈ DataW.weightsAll Try.prog e es
  | x :: r, d, h, hn => by
    rw [DataW.weightsAll, List.mem_append]
    rcases List.mem_cons.1 h with rfl | h
    · exact .inl hn
    · exact .inr (weights_in h hn)
theorem lite_slice {H : Type} {t e : TypeId} {es sp : List (DataW H)} (ht : Try.prog.underlying t = some (.slice e)) (h : Lite (.slice es sp) t) : (es.length + sp.length) * Try.prog.bytesOf e ≤ reachBytes ∧ ∀ d ∈ es, Lite d e := by
  unfold Lite at *
  simp only [DataW.weights, ht] at h
  exact ⟨h _ List.mem_cons_self, fun d hd n hn => h n (List.mem_cons_of_mem _ (List.mem_append.2 (.inl (weights_in hd hn))))⟩
theorem lite_len {H : Type} {t e : TypeId} {es sp : List (DataW H)} (ht : Try.prog.underlying t = some (.slice e)) (he : 1 ≤ Try.prog.bytesOf e) (h : Lite (.slice es sp) t) : es.length ≤ reachBytes := by
  have := (lite_slice ht h).1
  exact Nat.le_trans (Nat.le_trans (Nat.le_add_right _ _) (Nat.le_mul_of_pos_right _ he)) this
theorem lite_arg {H : Type} {ts : List TypeId} {ds : List (DataW H)} (h : (DataW.weightsEach Try.prog ts ds).all (· ≤ reachBytes) = true) {j : Nat} {t : TypeId} {d : DataW H} (ht : ts[j]? = some t) (hd : ds[j]? = some d) : Lite d t := fun n hn => by
  have := List.all_eq_true.1 h _ (DataW.weights_mem_each ht hd n hn)
  simpa using this
section
variable {H : Type} {enc : TypeId × Value → H} {W : World} {fuel : Nat} {cs : List Value} {x : DataW H × List MemPlace}
/-- A struct's field. -/
theorem field_of {t : TypeId} {fs : Array Field} (ht : Try.prog.underlying t = some (.struct fs)) (h : DataW.trod enc Try.prog W 0 (fun _ => true) true fuel t cs = some x) (hw : Lite x.1 t) (i : Nat) (t' : TypeId) (o : Nat) (hm : fs[i]?.map (fun f => (f.type, f.offset)) = some (t', o)) :
    ∃ n y, DataW.trod enc Try.prog W 0 (fun _ => true) true n t' ((cs.drop o).take (Try.prog.cellsOf t')) = some y ∧ Lite y.1 t' := by
  obtain ⟨xs, n, rfl, rfl, hl, hxl, hx⟩ := DataW.trod_struct ht h
  obtain ⟨f, hf, he⟩ := Option.map_eq_some_iff.1 hm
  cases he
  have hi : i < xs.length := by
    rw [hxl]
    obtain ⟨h1, _⟩ := Array.getElem?_eq_some_iff.1 hf
    exact h1
  have h1 := hx i f hf
  rw [List.getElem?_eq_getElem hi] at h1
  refine ⟨n, xs[i], h1, fun m hm => hw m ?_⟩
  simp only [DataW.weights, ht]
  refine DataW.weights_mem_each (j := i) (t := f.type) (d := xs[i].1) ?_ ?_ m hm
  · simp [hf]
  · simp [List.getElem?_eq_getElem hi]
theorem struct_len {t : TypeId} {fs : Array Field} (ht : Try.prog.underlying t = some (.struct fs)) (h : DataW.trod enc Try.prog W 0 (fun _ => true) true fuel t cs = some x) : cs.length = Try.prog.cellsOf t := by
  obtain ⟨xs, n, rfl, rfl, hl, hxl, hx⟩ := DataW.trod_struct ht h
  exact hl
theorem u64_of (h : DataW.trod enc Try.prog W 0 (fun _ => true) true fuel 22 cs = some x) : ∃ n : Nat, cs = [.int .u64 (n : Nat)] ∧ n < 18446744073709551616 := by
  obtain ⟨p, rfl, _, wp⟩ := DataW.trod_int Try.underlying22 h
  have bp : 0 ≤ p ∧ p ≤ 18446744073709551615 := by simpa [Lit.wf, IntKind.min, IntKind.max, IntKind.signed, IntKind.bits] using wp
  exact ⟨p.toNat, by rw [Int.toNat_of_nonneg bp.1], by omega⟩
theorem int_of (h : DataW.trod enc Try.prog W 0 (fun _ => true) true fuel 3 cs = some x) : ∃ n : Int, cs = [.int .i64 n] ∧ n ≤ 9223372036854775807 ∧ -9223372036854775808 ≤ n := by
  obtain ⟨p, rfl, _, wp⟩ := DataW.trod_int Try.underlying3 h
  have bp : -9223372036854775808 ≤ p ∧ p ≤ 9223372036854775807 := by simpa [Lit.wf, IntKind.min, IntKind.max, IntKind.signed, IntKind.bits] using wp
  exact ⟨p, rfl, bp.2, bp.1⟩
theorem str_of (h : DataW.trod enc Try.prog W 0 (fun _ => true) true fuel 9 cs = some x) (hw : Lite x.1 9) : ∃ l : List UInt8, cs = [.string (S l)] ∧ l.length ≤ reachBytes := by
  obtain ⟨s, rfl, d0, _⟩ := DataW.trod_string Try.underlying9 h
  refine ⟨s.data.toList, by rw [S_of], ?_⟩
  subst d0
  exact hw _ (by simp [DataW.weights])
/-- A slice of structs: what its reading gives. -/
theorem slice_of {α : Type} [Inhabited α] (s : rw.Sh α) (P : α → Prop) {t : TypeId} (ht : Try.prog.underlying t = some (.slice s.t)) (hk : Try.prog.cellsOf s.t = s.k)
    (hb : 1 ≤ Try.prog.bytesOf s.t) (hel : ∀ {n : Nat} {cs : List Value} {x : DataW H × List MemPlace}, DataW.trod enc Try.prog W 0 (fun _ => true) true n s.t cs = some x → Lite x.1 s.t → ∃ e, cs = s.enc e ∧ P e)
    (h : DataW.trod enc Try.prog W 0 (fun _ => true) true fuel t cs = some x) (hw : Lite x.1 t) : ∃ v l, cs = [v] ∧ rw.Sl s W v l ∧ (∀ e ∈ l, P e) ∧ l.length ≤ reachBytes := by
  rcases Deep.open_slice ht h with ⟨hcs, hx⟩ | ⟨x, l', c', m, n, D, Pl, hcs, _, hl, hm, hmm, hx, hcell⟩
  · exact ⟨_, [], hcs, rw.Sl.nil s W, fun e he => (by cases he), Nat.zero_le _⟩
  · simp only [if_true] at hmm
    subst hx
    rw [hk] at hcell
    have hls := lite_slice ht hw
    have liteI : ∀ i, i < l' → Lite (D i) s.t := fun i hi => hls.2 _ (List.mem_map.2 ⟨i, List.mem_range.2 hi, rfl⟩)
    have key : ∀ i, i < l' → ∃ k : α, (∀ j, j < s.k → W.cell? (x.add (i * s.k + j)) = (s.enc k)[j]?) ∧ P k := fun i hi => by
      obtain ⟨cs', h1, h2⟩ := hcell i (by omega)
      obtain ⟨k, rfl, hk⟩ := hel h2 (liteI i hi)
      obtain ⟨_, _, hc⟩ := World.cells?_some h1
      refine ⟨k, fun j hj => ?_, hk⟩
      have := hc j hj
      rw [Deep.add_add] at this
      exact this
    obtain ⟨f, hfr⟩ := Deep.choose_lt key
    refine ⟨_, (List.range l').map f, hcs, ⟨some x, c', by simp, by simpa using hl, ?_, fun e => by cases e⟩, ?_, ?_⟩
    · by_cases h0 : l' = 0
      · subst h0
        exact .inl (by simp)
      · obtain ⟨b, off, spot⟩ := x
        have hk0 := s.hk
        have h00 := (hfr 0 (by omega)).1 0 hk0
        have hen : 0 < (s.enc (f 0)).length := by rw [s.len]; exact hk0
        rw [List.getElem?_eq_getElem hen] at h00
        have hspot : spot = none := by simpa [Addr.add] using World.cell?_spot h00
        subst hspot
        refine .inr ⟨b, off, rfl, by have := World.block_lt_of_cell? W _ h00; rw [addr_add] at this; exact this, fun j hj i hi => ?_⟩
        have hj' : j < l' := by simpa using hj
        have h1 := (hfr j hj').1 i hi
        rw [addr_add] at h1
        simp only [List.getElem_map, List.getElem_range]
        rw [Nat.add_assoc]
        exact h1
    · intro k hk
      obtain ⟨i, hi, rfl⟩ := List.mem_map.1 hk
      rw [List.mem_range] at hi
      exact (hfr i hi).2
    · have h9 := lite_len ht hb hw
      simp only [List.length_map, List.length_range] at h9 ⊢
      exact h9
end
theorem reach47 : reachBytes ≤ 140737488355328 := by decide

section
variable {H : Type} {enc : TypeId × Value → H} {W : World} {fuel : Nat} {cs : List Value} {x : DataW H × List MemPlace}
set_option maxRecDepth 100000 in
theorem ent_of (h : DataW.trod enc Try.prog W 0 (fun _ => true) true fuel 54 cs = some x) (hw : Lite x.1 54) :
    ∃ e : EnIn, cs = enSh.enc e ∧ (e.term < 18446744073709551616 ∧ e.data.length ≤ 281474976710656) := by
  have hu := Try.underlying54
  have hl : cs.length = 3 := (struct_len hu h).trans (by kernel_rfl)
  obtain ⟨c0, c1, c2, rfl⟩ : ∃ c0 c1 c2, cs = [c0, c1, c2] := by
    match cs, hl with
    | [a, b, c], _ => exact ⟨a, b, c, rfl⟩
  have eI : Try.prog.cellsOf 3 = 1 := by kernel_rfl
  have eU : Try.prog.cellsOf 22 = 1 := by kernel_rfl
  have eS : Try.prog.cellsOf 9 = 1 := by kernel_rfl
  obtain ⟨n0, y0, f0, _⟩ := field_of hu h hw 0 22 0 rfl
  obtain ⟨n1, y1, f1, _⟩ := field_of hu h hw 1 3 1 rfl
  obtain ⟨n2, y2, f2, g2⟩ := field_of hu h hw 2 9 2 rfl
  simp only [eI, eU, eS, List.drop_zero, List.drop_succ_cons, List.take_succ_cons, List.take_zero] at f0 f1 f2
  obtain ⟨z0, e0, b0⟩ := u64_of f0
  obtain ⟨z1, e1, _⟩ := int_of f1
  obtain ⟨s2, e2, b2⟩ := str_of f2 g2
  simp only [List.cons.injEq, and_true] at e0 e1 e2
  subst e0 e1 e2
  exact ⟨⟨z0, z1, s2⟩, rfl, b0, Nat.le_trans b2 (by decide)⟩
theorem no_of (h : DataW.trod enc Try.prog W 0 (fun _ => true) true fuel 3 cs = some x) (_ : Lite x.1 3) :
    ∃ e : Int, cs = noSh.enc e ∧ True := by
  obtain ⟨z, e, _⟩ := int_of h
  exact ⟨z, e, trivial⟩
set_option maxRecDepth 100000 in
theorem es_of (h : DataW.trod enc Try.prog W 0 (fun _ => true) true fuel 24 cs = some x) (hw : Lite x.1 24) :
    ∃ v l, cs = [v] ∧ rw.Sl enSh W v l ∧ (∀ e ∈ l, e.term < 18446744073709551616 ∧ e.data.length ≤ 281474976710656) ∧ l.length ≤ reachBytes :=
  slice_of enSh (fun e => e.term < 18446744073709551616 ∧ e.data.length ≤ 281474976710656) Try.underlying24 (by kernel_rfl) (of_decide_eq_true (by kernel_rfl)) ent_of h hw
set_option maxRecDepth 100000 in
theorem nos_of (h : DataW.trod enc Try.prog W 0 (fun _ => true) true fuel 23 cs = some x) (hw : Lite x.1 23) :
    ∃ v l, cs = [v] ∧ rw.Sl noSh W v l ∧ (∀ e ∈ l, True) ∧ l.length ≤ reachBytes :=
  slice_of noSh (fun _ => True) Try.underlying23 (by kernel_rfl) (of_decide_eq_true (by kernel_rfl)) no_of h hw
set_option maxRecDepth 100000 in
theorem lg_of (h : DataW.trod enc Try.prog W 0 (fun _ => true) true fuel 26 cs = some x) (hw : Lite x.1 26) :
    ∃ (g : Lg) (cv ev : Value), cs = (lgC g.base g.bt cv ev).toList ∧ LV W cv ev g ∧ Came g := by
  have hu := Try.underlying26
  have hl : cs.length = 4 := (struct_len hu h).trans (by kernel_rfl)
  obtain ⟨c0, c1, c2, c3, rfl⟩ : ∃ c0 c1 c2 c3, cs = [c0, c1, c2, c3] := by
    match cs, hl with
    | [a, b, c, d], _ => exact ⟨a, b, c, d, rfl⟩
  have eU : Try.prog.cellsOf 22 = 1 := by kernel_rfl
  have eN : Try.prog.cellsOf 23 = 1 := by kernel_rfl
  have eE : Try.prog.cellsOf 24 = 1 := by kernel_rfl
  obtain ⟨n0, y0, f0, _⟩ := field_of hu h hw 0 22 0 rfl
  obtain ⟨n1, y1, f1, _⟩ := field_of hu h hw 1 22 1 rfl
  obtain ⟨n2, y2, f2, g2⟩ := field_of hu h hw 2 23 2 rfl
  obtain ⟨n3, y3, f3, g3⟩ := field_of hu h hw 3 24 3 rfl
  simp only [eU, eN, eE, List.drop_zero, List.drop_succ_cons, List.take_succ_cons, List.take_zero] at f0 f1 f2 f3
  obtain ⟨z0, e0, b0⟩ := u64_of f0
  obtain ⟨z1, e1, b1⟩ := u64_of f1
  obtain ⟨cv, c, e2, s2, _, l2⟩ := nos_of f2 g2
  obtain ⟨ev, l, e3, s3, t3, l3⟩ := es_of f3 g3
  simp only [List.cons.injEq, and_true] at e0 e1 e2 e3
  subst e0 e1 e2 e3
  exact ⟨⟨z0, z1, c, l⟩, _, _, rfl, ⟨s2, s3⟩, ⟨b0, b1, Nat.le_trans l2 reach47, Nat.le_trans l3 reach47, t3⟩⟩
end
theorem log_of {H : Type} {enc : TypeId × Value → H} {W : World} {base : Nat} {v : Value} {d : DataW H} {p : List MemPlace} (hval : Value.okWide Try.prog W .any base 26 v) (h : DataW.Trod enc Try.prog W 0 (fun _ => true) true 26 v d p) (hw : Lite d 26) :
    ∃ (g : Lg) (cv ev : Value), v = g.v cv ev ∧ LV W cv ev g ∧ Came g := by
  obtain ⟨cs, rfl, hsz⟩ := okWide_struct Try.underlying26 hval
  obtain ⟨fuel, hf⟩ := h
  obtain ⟨g, cv, ev, h1, h2, h3⟩ := lg_of hf hw
  refine ⟨g, cv, ev, ?_, h2, h3⟩
  simp only [Value.cells] at h1
  have : cs = lgC g.base g.bt cv ev := by rw [← Array.toList_inj]; exact h1
  rw [this]
  rfl
theorem entries_of {H : Type} {enc : TypeId × Value → H} {W : World} {a : Option Addr} {len cap : Nat} {d : DataW H} {p : List MemPlace} (h : DataW.Trod enc Try.prog W 0 (fun _ => true) true 24 (.slice a len cap) d p) (hw : Lite d 24) :
    ∃ l : List EnIn, rw.Sl enSh W (.slice a len cap) l ∧ (∀ e ∈ l, e.term < 18446744073709551616 ∧ e.data.length ≤ 281474976710656) ∧ l.length ≤ 140737488355328 := by
  obtain ⟨fuel, hf⟩ := h
  obtain ⟨v, l, h1, h2, h3, h4⟩ := es_of hf hw
  simp only [Value.cells, List.cons.injEq, and_true] at h1
  subst h1
  exact ⟨l, h2, h3, Nat.le_trans h4 reach47⟩
theorem ints_of {H : Type} {enc : TypeId × Value → H} {W : World} {a : Option Addr} {len cap : Nat} {d : DataW H} {p : List MemPlace} (h : DataW.Trod enc Try.prog W 0 (fun _ => true) true 23 (.slice a len cap) d p) (hw : Lite d 23) :
    ∃ l : List Int, rw.Sl noSh W (.slice a len cap) l ∧ l.length ≤ 140737488355328 := by
  obtain ⟨fuel, hf⟩ := h
  obtain ⟨v, l, h1, h2, h3, h4⟩ := nos_of hf hw
  simp only [Value.cells, List.cons.injEq, and_true] at h1
  subst h1
  exact ⟨l, h2, Nat.le_trans h4 reach47⟩
theorem u64_in_ {n : Int} (h : (Lit.int .u64 n).wf = true) : ∃ k : Nat, n = (k : Nat) ∧ k < 18446744073709551616 := by
  have bp : 0 ≤ n ∧ n ≤ 18446744073709551615 := by simpa [Lit.wf, IntKind.min, IntKind.max, IntKind.signed, IntKind.bits] using h
  exact ⟨n.toNat, by omega, by omega⟩
theorem i64_in_ {n : Int} (h : (Lit.int .i64 n).wf = true) : -9223372036854775808 ≤ n ∧ n ≤ 9223372036854775807 := by
  simpa [Lit.wf, IntKind.min, IntKind.max, IntKind.signed, IntKind.bits] using h
end Go.Proofs.Ytojlellnoliapaa.tl
/-! TlA2 -/
namespace Go.Proofs.Ytojlellnoliapaa.tl
set_option linter.unusedVariables false
open Go.RowKit
open pk (S S_size S_data)
open qm (Bs noSh)
open rw (Arr But below_box bnext below_drew below_drewN)

theorem alX1 : lgX.last = 4 ∧ lgX.lastT = 2 := by decide
theorem alX2 : lgX.mem lgX.es.length = ([1, 3], 4) := by decide
theorem alX3 : lgX.merge 3 1 [⟨3, 1, []⟩] = (⟨2, 1, [1, 2], [⟨1, 3, [97]⟩, ⟨3, 1, []⟩]⟩, 4, true) := by rfl
theorem alX4 : lgX.compact 3 = (⟨3, 1, [1, 2], [⟨2, 2, [2, 1, 3]⟩]⟩, true) := by rfl
set_option maxHeartbeats 8000000 in
set_option maxRecDepth 100000 in
theorem alive_any (w : World) : Calls Try.prog 9 #[] w fun e w' => e = .returned (.bool true) ∧ Below w.heap.size w w' := by
  have HG := Lib.hid fun W => log_any W
  have HL : Hid (∀ (W : World) (cv ev : Value) (h : LV W cv ev lgX), Calls Try.prog 13 #[.agg #[.int .u64 2, .int .u64 1, cv, ev]] W fun e w' => e = .returned (.tuple #[.int .u64 4, .int .u64 2]) ∧ Below W.heap.size W w') := fun W cv ev h => by
    have k := last_any lgX cv ev fitX W h
    rw [alX1.1, alX1.2] at k
    exact k
  have HC : Hid (∀ (W : World) (cv ev : Value) (h : LV W cv ev lgX), Calls Try.prog 17 #[.agg #[.int .u64 2, .int .u64 1, cv, ev]] W fun e w' => ∃ u, e = .returned (.tuple #[u, .int .u64 4]) ∧ rw.Own noSh w' W.heap.size u [1, 3] ∧ Below W.heap.size W w') := fun W cv ev h => by
    have k := conf_any lgX cv ev fitX W h
    rw [alX2] at k
    exact k
  have HM : Hid (∀ (W : World) (cv ev lv : Value) (h : LV W cv ev lgX) (hl : rw.Sl enSh W lv [⟨3, 1, []⟩]), Calls Try.prog 27 #[.agg #[.int .u64 2, .int .u64 1, cv, ev], .int .u64 3, .int .u64 1, lv] W fun e w' => ∃ cv ev, e = .returned (.tuple #[.agg #[.int .u64 2, .int .u64 1, cv, ev], .int .u64 4, .bool true]) ∧ rw.Own noSh w' W.heap.size cv [1, 2] ∧ rw.Own enSh w' W.heap.size ev [⟨1, 3, [97]⟩, ⟨3, 1, []⟩] ∧ Below W.heap.size W w') := fun W cv ev lv h hl => by
    have k := merge_any lgX cv ev 3 1 lv [⟨3, 1, []⟩] (by decide) (by decide) (by decide) (by intro x hx; simp at hx; subst hx; exact ⟨by decide, by decide⟩) fitX W h hl
    rw [alX3] at k
    exact k
  have HK : Hid (∀ (W : World) (cv ev : Value) (h : LV W cv ev lgX), Calls Try.prog 31 #[.agg #[.int .u64 2, .int .u64 1, cv, ev], .int .u64 3] W fun e w' => ∃ cv ev, e = .returned (.tuple #[.agg #[.int .u64 3, .int .u64 1, cv, ev], .bool true]) ∧ rw.Own noSh w' W.heap.size cv [1, 2] ∧ rw.Own enSh w' W.heap.size ev [⟨2, 2, [2, 1, 3]⟩] ∧ Below W.heap.size W w') := fun W cv ev h => by
    have k := compact_any lgX cv ev 3 (by decide) fitX W h
    rw [alX4] at k
    exact k
  have HS := Lib.hid fun (W : World) (u v : Value) (h1 : qm.Ns W u [1, 3]) (h2 : qm.Ns W v [1, 3]) => qm.same_any u v [1, 3] [1, 3] (by decide) (by decide) W h1 h2
  rw [decide_eq_true rfl] at HS
  have hg := HG.out w
  go_enter Try.func9, Try.ntmps9
  go_wp2_with fail
  with_reducible refine hg.mono ?_
  clear hg
  rintro e w1 ⟨cv1, ev1, rfl, v1, b1⟩
  have hl := HL.out w1 cv1 ev1 v1
  have B1 := Lib.hid b1
  clear v1 b1
  go_wp2_with fail
  with_reducible refine hl.mono ?_
  clear hl
  rintro e w2 ⟨rfl, b2⟩
  have B2 : Hid (Below w.heap.size w w2) := B1.out.trans (b2.mono B1.out.size)
  have hg := HG.out w2
  clear b2
  go_wp2_with fail
  with_reducible refine hg.mono ?_
  clear hg
  rintro e w3 ⟨cv3, ev3, rfl, v3, b3⟩
  have hc := HC.out w3 cv3 ev3 v3
  have B3 : Hid (Below w.heap.size w w3) := B2.out.trans (b3.mono B2.out.size)
  clear v3 b3
  go_wp2_with fail
  with_reducible refine hc.mono ?_
  clear hc
  rintro e w4 ⟨u4, rfl, o4, b4⟩
  have H4 : Hid (Below w.heap.size w w4 ∧ qm.Ns w4 u4 [1, 3]) := ⟨B3.out.trans (b4.mono B3.out.size), o4.sl⟩
  obtain ⟨ua, uc, rfl⟩ := o4.form
  have hg := HG.out w4
  clear o4 b4
  go_wp2_with fail
  with_reducible refine hg.mono ?_
  clear hg
  rintro e w5 ⟨cv5, ev5, rfl, v5, b5⟩
  have H5 : Hid (Below w.heap.size w w5 ∧ qm.Ns w5 (.slice ua [(1 : Int), 3].length uc) [1, 3]) := ⟨H4.out.1.trans (b5.mono H4.out.1.size), H4.out.2.later _ b5⟩
  have k6 := below_box w5 (.cells #[.int .u64 3, .int .i64 1, .string ⟨#[]⟩] 54)
  have l6 : rw.Sl enSh (w5.alloc (.cells #[.int .u64 3, .int .i64 1, .string ⟨#[]⟩] 54)) (.slice (some ⟨w5.heap.size, 0, none⟩) 1 1) [⟨3, 1, []⟩] := (rw.Own.lit enSh w5 [⟨3, 1, []⟩] (by decide) (by simp)).sl
  have hm := HM.out _ cv5 ev5 _ (v5.later k6) l6
  have B6 : Hid (Below w.heap.size w (w5.alloc (.cells #[.int .u64 3, .int .i64 1, .string ⟨#[]⟩] 54)) ∧ qm.Ns (w5.alloc (.cells #[.int .u64 3, .int .i64 1, .string ⟨#[]⟩] 54)) (.slice ua [(1 : Int), 3].length uc) [1, 3]) := ⟨H5.out.1.trans (k6.mono H5.out.1.size), H5.out.2.later _ k6⟩
  clear k6 l6 v5 b5
  go_wp2_with fail
  generalize w5.alloc (.cells #[.int .u64 3, .int .i64 1, .string ⟨#[]⟩] 54) = w6 at *
  with_reducible refine hm.mono ?_
  clear hm
  rintro e w7 ⟨cv7, ev7, rfl, o7, p7, b7⟩
  have c7 := o7.sl
  have e7 := p7.sl
  obtain ⟨ca, cc, rfl⟩ := o7.form
  obtain ⟨ea, ec, rfl⟩ := p7.form
  simp only [List.length_cons, List.length_nil, Nat.reduceAdd] at c7 e7 ⊢
  have k8 := below_box w7 (.cells #[.int .u64 2, .int .u64 1, .slice ca 2 cc, .slice ea 2 ec] 26)
  have a8 := Arr.new w7 26 #[.int .u64 2, .int .u64 1, .slice ca 2 cc, .slice ea 2 ec]
  obtain ⟨q, hq⟩ : ∃ q, w7.heap.size = q := ⟨_, rfl⟩
  have H8 : Hid (Below w.heap.size w (w7.alloc (.cells #[.int .u64 2, .int .u64 1, .slice ca 2 cc, .slice ea 2 ec] 26)) ∧ qm.Ns (w7.alloc (.cells #[.int .u64 2, .int .u64 1, .slice ca 2 cc, .slice ea 2 ec] 26)) (.slice ua [(1 : Int), 3].length uc) [1, 3] ∧ Arr (w7.alloc (.cells #[.int .u64 2, .int .u64 1, .slice ca 2 cc, .slice ea 2 ec] 26)) q 26 #[.int .u64 2, .int .u64 1, .slice ca 2 cc, .slice ea 2 ec] ∧ rw.Sl enSh (w7.alloc (.cells #[.int .u64 2, .int .u64 1, .slice ca 2 cc, .slice ea 2 ec] 26)) (.slice ea 2 ec) [⟨1, 3, [97]⟩, ⟨3, 1, []⟩]) :=
    ⟨B6.out.1.trans ((b7.trans (k8.mono b7.size)).mono B6.out.1.size), (B6.out.2.later _ b7).later _ k8, hq ▸ a8, e7.later _ k8⟩
  have HQ := Lib.hid hq
  clear o7 p7 b7 c7 e7 k8 a8
  go_wp2_with fail
  try rw [HQ.out]
  generalize w7.alloc (.cells #[.int .u64 2, .int .u64 1, .slice ca 2 cc, .slice ea 2 ec] 26) = w8 at *
  clear HQ hq
  have hg := HG.out w8
  try go_wp2_with fail
  with_reducible refine hg.mono ?_
  clear hg
  rintro e w9 ⟨cv9, ev9, rfl, v9, b9⟩
  have H9 : Hid (Below w.heap.size w w9 ∧ qm.Ns w9 (.slice ua [(1 : Int), 3].length uc) [1, 3] ∧ Arr w9 q 26 #[.int .u64 2, .int .u64 1, .slice ca 2 cc, .slice ea 2 ec] ∧ rw.Sl enSh w9 (.slice ea 2 ec) [⟨1, 3, [97]⟩, ⟨3, 1, []⟩]) :=
    ⟨H8.out.1.trans (b9.mono H8.out.1.size), H8.out.2.1.later _ b9, H8.out.2.2.1.below b9, H8.out.2.2.2.later _ b9⟩
  have hk := HK.out w9 cv9 ev9 v9
  clear v9 b9
  go_wp2_with fail
  with_reducible refine hk.mono ?_
  clear hk
  rintro e wA ⟨cvA, evA, rfl, oA, pA, bA⟩
  obtain ⟨ca2, cc2, rfl⟩ := oA.form
  obtain ⟨ea2, ec2, rfl⟩ := pA.form
  simp only [List.length_cons, List.length_nil, Nat.reduceAdd]
  have kB := below_box wA (.cells #[.int .u64 3, .int .u64 1, .slice ca2 2 cc2, .slice ea2 1 ec2] 26)
  have aB := Arr.new wA 26 #[.int .u64 3, .int .u64 1, .slice ca2 2 cc2, .slice ea2 1 ec2]
  have bAB := bA.trans (kB.mono bA.size)
  obtain ⟨p, hp⟩ : ∃ p, wA.heap.size = p := ⟨_, rfl⟩
  have HB : Hid (Below w.heap.size w (wA.alloc (.cells #[.int .u64 3, .int .u64 1, .slice ca2 2 cc2, .slice ea2 1 ec2] 26)) ∧ qm.Ns (wA.alloc (.cells #[.int .u64 3, .int .u64 1, .slice ca2 2 cc2, .slice ea2 1 ec2] 26)) (.slice ua [(1 : Int), 3].length uc) [1, 3] ∧ Arr (wA.alloc (.cells #[.int .u64 3, .int .u64 1, .slice ca2 2 cc2, .slice ea2 1 ec2] 26)) q 26 #[.int .u64 2, .int .u64 1, .slice ca 2 cc, .slice ea 2 ec] ∧ rw.Sl enSh (wA.alloc (.cells #[.int .u64 3, .int .u64 1, .slice ca2 2 cc2, .slice ea2 1 ec2] 26)) (.slice ea 2 ec) [⟨1, 3, [97]⟩, ⟨3, 1, []⟩] ∧ Arr (wA.alloc (.cells #[.int .u64 3, .int .u64 1, .slice ca2 2 cc2, .slice ea2 1 ec2] 26)) p 26 #[.int .u64 3, .int .u64 1, .slice ca2 2 cc2, .slice ea2 1 ec2]) :=
    ⟨H9.out.1.trans (bAB.mono H9.out.1.size), H9.out.2.1.later _ bAB, H9.out.2.2.1.below bAB, H9.out.2.2.2.later _ bAB, hp ▸ aB⟩
  have HP := Lib.hid hp
  clear oA pA bA kB aB bAB
  go_upto_region 5 with (fail)
  try rw [HP.out]
  generalize wA.alloc (.cells #[.int .u64 3, .int .u64 1, .slice ca2 2 cc2, .slice ea2 1 ec2] 26) = wB at *
  clear HP hp
  have kC := below_box wB (.cells #[.int .i64 1, .int .i64 3] 3)
  have l3 : qm.Ns (wB.alloc (.cells #[.int .i64 1, .int .i64 3] 3)) (.slice (some ⟨wB.heap.size, 0, none⟩) 2 2) [1, 3] := (rw.Own.lit noSh wB [1, 3] (by decide) (by simp)).sl
  have hs := HS.out _ _ _ (HB.out.2.1.later _ kC) l3
  simp only [List.length_cons, List.length_nil, Nat.reduceAdd] at hs
  have HC : Hid (∀ W', Below (wB.alloc (.cells #[.int .i64 1, .int .i64 3] 3)).heap.size (wB.alloc (.cells #[.int .i64 1, .int .i64 3] 3)) W' → Below w.heap.size w W' ∧ W'.cell? ⟨q, 3, none⟩ = some (.slice ea 2 ec) ∧ W'.cell? ⟨p, 0, none⟩ = some (.int .u64 3) ∧ W'.cell? ⟨p, 3, none⟩ = some (.slice ea2 1 ec2) ∧ rw.Sl enSh W' (.slice ea 2 ec) [⟨1, 3, [97]⟩, ⟨3, 1, []⟩]) := fun W' b => by
    have bb := kC.trans (b.mono kC.size)
    exact ⟨HB.out.1.trans (bb.mono HB.out.1.size), (HB.out.2.2.1.below bb).cell rfl, (HB.out.2.2.2.2.below bb).cell rfl, (HB.out.2.2.2.2.below bb).cell rfl, HB.out.2.2.2.1.later _ bb⟩
  clear kC l3 HB
  go_wp2_with fail
  refine hs.mono ?_
  clear hs
  rintro e wC ⟨rfl, bC⟩
  obtain ⟨B, z0, z1, z2, z3⟩ := HC.out wC bC
  obtain ⟨b, off, c, e, hbw, y0, y1, y2⟩ := slE_at z3 (j := 1) (by decide)
  injection e with e1 e2 e3
  subst e1 e3
  simp only [List.getElem_cons_succ, List.getElem_cons_zero, Nat.one_mul] at y0
  have HBB := Lib.hid B
  clear bC B z3 hbw y1 y2 e2
  have y0' : wC.cell? ⟨b, off + 3, none⟩ = some (.int .u64 3) := y0
  go_wp2_with fail
  go_ret
  exact ⟨rfl, HBB.out⟩
end Go.Proofs.Ytojlellnoliapaa.tl
/-! TlL1 -/
namespace Go.Proofs.Ytojlellnoliapaa.tl
set_option linter.unusedVariables false
open Go.RowKit
open pk (S S_size S_data)
open qm (Bs noSh)
open rw (Arr But below_box bnext below_drew below_drewN)

theorem stays_eq (g : Lg) (prev : Nat) (most : Int) (t : Nat) (ht : g.term prev = (t, true)) : g.merge prev t (g.slice (prev + 1) most) = (g, 0, true) := by
  have hr : g.rch prev = true := by
    rcases hr : g.rch prev with _ | _
    · rw [Lg.term_no hr] at ht; cases ht
    · rfl
  have hi := Lg.rch_iff.1 hr
  have hup := Lg.upTo_of hr
  unfold Lg.merge Lg.behind
  rw [if_neg (by omega), if_pos ht, hup]
  have : alike (g.es.drop (prev - g.base)) (g.slice (prev + 1) most) = (g.slice (prev + 1) most).length := by
    unfold Lg.slice
    split
    · rw [show prev + 1 - g.base - 1 = prev - g.base by omega, alike_self, List.length_take]
    · cases g.es.drop (prev - g.base) <;> rfl
  simp only [this, if_true]
/-- The log in its box, another one in another box. -/
structure Rst (w F : World) (cv ev : Value) (g k : Lg) (mb : Nat) (cv2 ev2 : Value) : Prop where
  g : Bx w F w.heap.size cv ev g
  m : Arr F mb 26 (lgC k.base k.bt cv2 ev2)
  c : rw.Sl noSh F cv2 k.conf
  l : rw.Sl enSh F ev2 k.es
theorem Rst.later {w F F' : World} {cv ev : Value} {g k : Lg} {mb : Nat} {cv2 ev2 : Value} (h : Rst w F cv ev g k mb cv2 ev2) (b : Below F.heap.size F F') : Rst w F' cv ev g k mb cv2 ev2 := ⟨h.g.below b, h.m.below b, h.c.later _ b, h.l.later _ b⟩
theorem Rst.cm {w F : World} {cv ev : Value} {g k : Lg} {mb : Nat} {cv2 ev2 : Value} (h : Rst w F cv ev g k mb cv2 ev2) :
    F.cell? ⟨mb, 0, none⟩ = some (.int .u64 (k.base : Nat)) ∧ F.cell? ⟨mb, 1, none⟩ = some (.int .u64 (k.bt : Nat)) ∧ F.cell? ⟨mb, 2, none⟩ = some cv2 ∧ F.cell? ⟨mb, 3, none⟩ = some ev2 := ⟨h.m.cell rfl, h.m.cell rfl, h.m.cell rfl, h.m.cell rfl⟩
theorem Rst.new {w W : World} {cv ev cv2 ev2 : Value} {g k : Lg} (h : Bx w W w.heap.size cv ev g) (o : rw.Sl noSh W cv2 k.conf) (p : rw.Sl enSh W ev2 k.es) : Rst w (W.alloc (.cells #[.int .u64 (k.base : Nat), .int .u64 (k.bt : Nat), cv2, ev2] 26)) cv ev g k W.heap.size cv2 ev2 :=
  have b := below_box W (.cells #[.int .u64 (k.base : Nat), .int .u64 (k.bt : Nat), cv2, ev2] 26)
  ⟨h.below b, Arr.new W _ _, o.later _ b, p.later _ b⟩
theorem Rst.lay {w W : World} {cv ev cv2 ev2 : Value} {g k : Lg} {mb : Nat} (h0 : LV w cv ev g) (h : Bx w W w.heap.size cv ev g) (hm : Arr W mb 26 #[.int .u64 0, .int .u64 0, .slice none 0 0, .slice none 0 0]) (hb : w.heap.size < mb) (o : rw.Own noSh W w.heap.size cv2 k.conf) (p : rw.Own enSh W w.heap.size ev2 k.es) : Rst w (layL W mb k.base k.bt cv2 ev2) cv ev g k mb cv2 ev2 := by
  have kb := layL_but W mb k.base k.bt cv2 ev2
  have b := h.b.trans (kb.below h.b.size (by omega))
  exact ⟨⟨kb.arr h.a (by omega), h0.later b, b⟩, layL_arr hm, (own_but o hm (by decide) kb).sl, (own_but p hm (by decide) kb).sl⟩
/-- The box for what comes, laid or not. -/
structure Sy (w W : World) (cv ev : Value) (g : Lg) (o : Option Nat) : Prop where
  g : Bx w W w.heap.size cv ev g
  o : ∀ mb, o = some mb → w.heap.size < mb ∧ Arr W mb 26 #[.int .u64 0, .int .u64 0, .slice none 0 0, .slice none 0 0]
theorem Sy.below {w W W' : World} {cv ev : Value} {g : Lg} {o : Option Nat} (h : Sy w W cv ev g o) (b : Below W.heap.size W W') : Sy w W' cv ev g o := ⟨h.g.below b, fun mb e => ⟨(h.o mb e).1, (h.o mb e).2.below b⟩⟩
theorem Sy.alloc {w W : World} {cv ev : Value} {g : Lg} (h : Sy w W cv ev g none) : Sy w (W.alloc (.cells #[.int .u64 0, .int .u64 0, .slice none 0 0, .slice none 0 0] 26)) cv ev g (some W.heap.size) :=
  ⟨h.g.below (below_box _ _), fun mb e => by cases e; exact ⟨h.g.a.lt, Arr.new W _ _⟩⟩
theorem Sy.cm {w W : World} {cv ev : Value} {g : Lg} {mb : Nat} (h : Sy w W cv ev g (some mb)) :
    W.cell? ⟨mb, 0, none⟩ = some (.int .u64 0) ∧ W.cell? ⟨mb, 1, none⟩ = some (.int .u64 0) ∧ W.cell? ⟨mb, 2, none⟩ = some (.slice none 0 0) ∧ W.cell? ⟨mb, 3, none⟩ = some (.slice none 0 0) ∧ W.frozen? ⟨mb, 0, none⟩ = false ∧ W.frozen? ⟨mb, 1, none⟩ = false ∧ W.frozen? ⟨mb, 2, none⟩ = false ∧ W.frozen? ⟨mb, 3, none⟩ = false := by
  have a := (h.o mb rfl).2
  exact ⟨a.cell rfl, a.cell rfl, a.cell rfl, a.cell rfl, a.frozen 0, a.frozen 1, a.frozen 2, a.frozen 3⟩
theorem fit_slice {g : Lg} (hf : Fit g) (f : Nat) (m : Int) : (g.slice f m).length ≤ 1000000 ∧ ∀ x ∈ g.slice f m, x.term < 18446744073709551616 ∧ x.data.length ≤ 281474976710656 :=
  ⟨Nat.le_trans (slice_len g f m) hf.es, fun x hx => hf.e x (slice_sub g f m x hx)⟩
theorem term_lt {g : Lg} (hf : Fit g) (i : Nat) : (g.term i).1 < 18446744073709551616 := by
  unfold Lg.term
  split
  · rename_i h
    simp only [Lg.tb]
    split
    · exact hf.bt
    · have := g.upTo_le i
      rw [getD_at (by omega)]
      exact (hf.e _ (List.getElem_mem _)).1
  · decide
set_option maxHeartbeats 8000000 in
set_option maxRecDepth 100000 in
theorem stays_walk (g : Lg) (cv ev : Value) (prev : Nat) (most : Int) (hp : prev < 18446744073709551616) (hm : -9223372036854775808 ≤ most ∧ most ≤ 9223372036854775807) (hg : Came g) (w : World) (h : LV w cv ev g) :
    Calls Try.prog 7 #[g.v cv ev, .int .u64 (prev : Nat), .int .i64 most] w fun e w' => e = .returned (.bool true) ∧ Below w.heap.size w w' := by
  have H0 := Lib.hid h.box
  have HAl := Lib.hid fun W => alive_any W
  have HAs := Lib.hid fun W b => asked_any g cv ev hg W (h.later b)
  have HV := Lib.hid h
  have HG := Lib.hid hg
  obtain ⟨r, hr⟩ : ∃ r, g.asked = r := ⟨_, rfl⟩
  rw [hr] at HAs
  have HRR := Lib.hid hr
  clear h hg hr
  go_enter Try.func7, Try.ntmps7
  go_upto_region 1 with (fail)
  generalize w.alloc (.cells #[.int .u64 (g.base : Nat), .int .u64 (g.bt : Nat), cv, ev] 26) = W at *
  have hAl := HAl.out W
  go_wp2_with fail
  with_reducible refine hAl.mono ?_
  clear hAl HAl
  rintro e w1 ⟨rfl, b1⟩
  have H1 := Lib.hid (H0.out.below b1)
  clear b1 H0
  obtain ⟨x0, x1, x2, x3⟩ := H1.out.cells
  have hAs := HAs.out w1 H1.out.b
  cases r with
  | false =>
    go_wp2_with fail
    with_reducible refine hAs.mono ?_
    clear hAs
    rintro e w2 ⟨rfl, b2⟩
    have B2 := Lib.hid (H1.out.b.trans (b2.mono H1.out.b.size))
    clear b2
    go_wp2_with fail
    go_ret
    exact ⟨rfl, B2.out⟩
  | true =>
    go_wp2_with fail
    with_reducible refine hAs.mono ?_
    clear hAs x0 x1 x2 x3 HAs
    rintro e w2 ⟨rfl, b2⟩
    have H2 := Lib.hid (H1.out.below b2)
    clear b2 H1
    have HF := Lib.hid (HG.out.fit HRR.out)
    have hT := term_any g cv ev prev hp HF.out w2 H2.out.v
    obtain ⟨T, hTT⟩ : ∃ T, g.term prev = T := ⟨_, rfl⟩
    have htl := term_lt HF.out prev
    rw [hTT] at hT htl
    have HTT := Lib.hid hTT
    obtain ⟨tt, tb⟩ := T
    obtain ⟨x0, x1, x2, x3⟩ := H2.out.cells
    clear hTT
    cases tb with
    | false =>
      go_wp2_with fail
      with_reducible refine hT.mono ?_
      clear hT
      rintro e w3 ⟨rfl, b3⟩
      have B3 := Lib.hid (H2.out.b.trans (b3.mono H2.out.b.size))
      clear b3
      go_wp2_with fail
      go_ret
      exact ⟨rfl, B3.out⟩
    | true =>
      go_wp2_with fail
      with_reducible refine hT.mono ?_
      clear hT x0 x1 x2 x3
      rintro e w3 ⟨rfl, b3⟩
      have H3 := Lib.hid (H2.out.below b3)
      clear b3 H2
      have hpl : prev + 1 < 18446744073709551616 := by
        have h1 : g.rch prev = true := by
          rcases hr : g.rch prev with _ | _
          · have := HTT.out; rw [Lg.term_no hr] at this; cases this
          · rfl
        have h2 := (Lg.rch_iff.1 h1).2
        have h3 := HF.out.base
        have h4 := HF.out.es
        unfold Lg.last at h2
        omega
      obtain ⟨p1, hp1⟩ : ∃ p, prev + 1 = p := ⟨_, rfl⟩
      have f1 : IntKind.u64.wrap ((prev : Int) + 1) = (p1 : Int) := by rw [u64_in _ (by omega)]; omega
      have HMg : Hid (g.merge prev tt (g.slice p1 most) = (g, 0, true)) := by
        have := stays_eq g prev most tt HTT.out
        rw [hp1] at this
        exact this
      have HSl : Hid (∀ W (b : Below w.heap.size w W), Calls Try.prog 22 #[.agg #[.int .u64 (g.base : Nat), .int .u64 (g.bt : Nat), cv, ev], .int .u64 (p1 : Nat), .int .i64 most] W fun e w' => ∃ v, e = .returned v ∧ rw.Own enSh w' W.heap.size v (g.slice p1 most) ∧ Below W.heap.size W w') := fun W b => slice_any g cv ev p1 most (by omega) hm HF.out W (HV.out.later b)
      have HMe : Hid (∀ W (b : Below w.heap.size w W) (lv : Value) (hl : rw.Sl enSh W lv (g.slice p1 most)), Calls Try.prog 27 #[.agg #[.int .u64 (g.base : Nat), .int .u64 (g.bt : Nat), cv, ev], .int .u64 (prev : Nat), .int .u64 (tt : Nat), lv] W fun e w' => ∃ cv5 ev5, e = .returned (.tuple #[.agg #[.int .u64 (g.base : Nat), .int .u64 (g.bt : Nat), cv5, ev5], .int .u64 0, .bool true]) ∧ rw.Own noSh w' W.heap.size cv5 g.conf ∧ rw.Own enSh w' W.heap.size ev5 g.es ∧ Below W.heap.size W w') := fun W b lv hl => by
        have k := merge_any g cv ev prev tt lv (g.slice p1 most) hp htl (fit_slice HF.out _ _).1 (fit_slice HF.out _ _).2 HF.out W (HV.out.later b) hl
        rw [HMg.out] at k
        exact k
      clear hp1 HMg
      go_upto_region 8 with (fail)
      go_cut [9, 10, 11] from 12 (fun a b c wx => ∃ mb cv2 ev2, a = .pointer (some ⟨mb, 0, none⟩) ∧ b = .int .u64 0 ∧ c = .bool true ∧ Hid (Rst w wx cv ev g g mb cv2 ev2))
      case first =>
        have Y0 : Hid (Sy w w3 cv ev g none) := ⟨H3.out, fun mb e => by cases e⟩
        have YA : Hid (Sy w w3.drew cv ev g none) := Y0.out.below (below_drew (Below.refl _ _))
        have YB : Hid (Sy w (w3.alloc (.cells #[.int .u64 0, .int .u64 0, .slice none 0 0, .slice none 0 0] 26)).drew cv ev g (some w3.heap.size)) := Y0.out.alloc.below (below_drew (Below.refl _ _))
        have kA := YA.out.g.cells
        have kB := YB.out.g.cells
        have hSA := HSl.out _ YA.out.g.b
        have hSB := HSl.out _ YB.out.g.b
        go_region_held3 (fun W => W.cell? ⟨w.heap.size, 0, none⟩ = some (.int .u64 (g.base : Nat)) ∧ W.cell? ⟨w.heap.size, 1, none⟩ = some (.int .u64 (g.bt : Nat)) ∧ W.cell? ⟨w.heap.size, 2, none⟩ = some cv ∧ W.cell? ⟨w.heap.size, 3, none⟩ = some ev)
          (first | (with_reducible exact kA) | (with_reducible exact kB) | (with_reducible exact kC) | (with_reducible exact kD _) | (with_reducible exact kE) | (with_reducible exact kF))
          (first
            | (go_at_call 22; with_reducible refine hSA.mono ?_; rintro e w4 ⟨v4, rfl, o4, b4⟩; have Y4 := Lib.hid (YA.out.below b4); have s4 := o4.sl; have kC := Y4.out.g.cells; have kD : ∀ o, (w4.alloc o).cell? ⟨w.heap.size, 0, none⟩ = some (.int .u64 (g.base : Nat)) ∧ (w4.alloc o).cell? ⟨w.heap.size, 1, none⟩ = some (.int .u64 (g.bt : Nat)) ∧ (w4.alloc o).cell? ⟨w.heap.size, 2, none⟩ = some cv ∧ (w4.alloc o).cell? ⟨w.heap.size, 3, none⟩ = some ev := fun o => (Y4.out.below (below_box _ o)).g.cells; have YZ := Lib.hid Y4.out.alloc; have hMA := HMe.out w4 Y4.out.g.b v4 s4; have hMB := HMe.out _ YZ.out.g.b v4 (s4.later _ (below_box _ _)); clear o4 b4 s4 hSA hSB)
            | (go_at_call 22; with_reducible refine hSB.mono ?_; rintro e w4 ⟨v4, rfl, o4, b4⟩; have Y4 := Lib.hid (YB.out.below b4); have s4 := o4.sl; have kC := Y4.out.g.cells; have hMA := HMe.out w4 Y4.out.g.b v4 s4; clear o4 b4 s4 hSA hSB)
            | (go_at_call 27; with_reducible refine hMA.mono ?_; rintro e w5 ⟨cv5, ev5, rfl, o5, p5, b5⟩; have Y5 := Lib.hid (Y4.out.below b5); have O5 := own_lower o5 Y4.out.g.b.size; have P5 := own_lower p5 Y4.out.g.b.size; obtain ⟨c5a, c5c, rfl⟩ := o5.form; obtain ⟨e5a, e5c, rfl⟩ := p5.form; have kC := Y5.out.g.cells; first | (obtain ⟨y0, y1, y2, y3, f0, f1, f2, f3⟩ := Y5.out.cm; have HE := Lib.hid (Rst.lay HV.out Y5.out.g (Y5.out.o _ rfl).2 (Y5.out.o _ rfl).1 O5 P5); have kE := HE.out.g.cells; simp only [layL] at kE; clear o5 p5 b5 O5 P5 hMA) | (have kD : ∀ o, (w5.alloc o).cell? ⟨w.heap.size, 0, none⟩ = some (.int .u64 (g.base : Nat)) ∧ (w5.alloc o).cell? ⟨w.heap.size, 1, none⟩ = some (.int .u64 (g.bt : Nat)) ∧ (w5.alloc o).cell? ⟨w.heap.size, 2, none⟩ = some cv ∧ (w5.alloc o).cell? ⟨w.heap.size, 3, none⟩ = some ev := fun o => (Y5.out.below (below_box _ o)).g.cells; have HE := Lib.hid (Rst.new Y5.out.g O5.sl P5.sl); clear o5 p5 b5 O5 P5 hMA))
            | (go_at_call 27; with_reducible refine hMB.mono ?_; rintro e w5 ⟨cv5, ev5, rfl, o5, p5, b5⟩; have Y5 := Lib.hid (YZ.out.below b5); have O5 := own_lower o5 YZ.out.g.b.size; have P5 := own_lower p5 YZ.out.g.b.size; obtain ⟨c5a, c5c, rfl⟩ := o5.form; obtain ⟨e5a, e5c, rfl⟩ := p5.form; have kC := Y5.out.g.cells; first | (obtain ⟨y0, y1, y2, y3, f0, f1, f2, f3⟩ := Y5.out.cm; have HE := Lib.hid (Rst.lay HV.out Y5.out.g (Y5.out.o _ rfl).2 (Y5.out.o _ rfl).1 O5 P5); have kE := HE.out.g.cells; simp only [layL] at kE; clear o5 p5 b5 O5 P5 hMA) | (have kD : ∀ o, (w5.alloc o).cell? ⟨w.heap.size, 0, none⟩ = some (.int .u64 (g.base : Nat)) ∧ (w5.alloc o).cell? ⟨w.heap.size, 1, none⟩ = some (.int .u64 (g.bt : Nat)) ∧ (w5.alloc o).cell? ⟨w.heap.size, 2, none⟩ = some cv ∧ (w5.alloc o).cell? ⟨w.heap.size, 3, none⟩ = some ev := fun o => (Y5.out.below (below_box _ o)).g.cells; have HE := Lib.hid (Rst.new Y5.out.g O5.sl P5.sl); clear o5 p5 b5 O5 P5 hMA)))
        all_goals go_step
        all_goals go_step
        all_goals go_meet
        all_goals first
          | (refine ⟨w3.heap.size, .slice c5a g.conf.length c5c, .slice e5a g.es.length e5c, ?_, ?_, ?_, ?_⟩; (with_reducible rfl); (with_reducible rfl); (with_reducible rfl); exact HE)
          | (refine ⟨w4.heap.size, .slice c5a g.conf.length c5c, .slice e5a g.es.length e5c, ?_, ?_, ?_, ?_⟩; (with_reducible rfl); (with_reducible rfl); (with_reducible rfl); exact HE)
          | (refine ⟨w5.heap.size, .slice c5a g.conf.length c5c, .slice e5a g.es.length e5c, ?_, ?_, ?_, ?_⟩; (with_reducible rfl); (with_reducible rfl); (with_reducible rfl); with_reducible exact HE)
      case rest =>
        obtain ⟨mb, cv2, ev2, rfl, rfl, rfl, HR⟩ := hcut
        obtain ⟨x0, x1, x2, x3⟩ := HR.out.g.cells
        obtain ⟨z0, z1, z2, z3⟩ := HR.out.cm
        have hS := sameLogs_any g.base g.bt g.base g.bt cv2 ev2 cv ev g.conf g.conf g.es g.es HF.out.conf (by have := HF.out.es; omega) wc HR.out.c HR.out.g.v.c HR.out.l HR.out.g.v.l
        rw [decide_eq_true ⟨rfl, rfl, rfl, rfl⟩] at hS
        go_wp2_with fail
        with_reducible refine hS.mono ?_
        clear hS x0 x1 x2 x3 z0 z1 z2 z3
        rintro e w9 ⟨rfl, b9⟩
        have B9 := Lib.hid (HR.out.g.b.trans (b9.mono HR.out.g.b.size))
        clear b9
        go_wp2_with fail
        go_ret
        exact ⟨rfl, B9.out⟩
end Go.Proofs.Ytojlellnoliapaa.tl
/-! TlS1 -/
namespace Go.Proofs.Ytojlellnoliapaa.tl
set_option linter.unusedVariables false

theorem right_good {g : Lg} (h : g.right = true) {j : Nat} (hj : j < g.es.length) : Good g j := (rises_good g).1 (g.right_iff.1 h).2.2.2 j hj
theorem slice_at {g : Lg} {f : Nat} {m : Int} {j : Nat} (hj : j < (g.slice f m).length) : g.base < f ∧ f ≤ g.last ∧ ∃ h : f - g.base - 1 + j < g.es.length, (g.slice f m)[j] = g.es[f - g.base - 1 + j] := by
  unfold Lg.slice at hj
  split at hj
  · rename_i c
    refine ⟨c.1, c.2.1, ?_⟩
    simp only [List.length_take, List.length_drop] at hj
    refine ⟨by omega, ?_⟩
    have e : g.slice f m = (g.es.drop (f - g.base - 1)).take m.toNat := if_pos c
    simp only [e, List.getElem_take, List.getElem_drop]
  · simp at hj
/-- What is told of a log that entries were merged into. -/
structure Into (h k : Lg) (prev t n : Nat) (L : List EnIn) : Prop where
  has : h.term prev = (t, true)
  base : k.base = h.base
  bt : k.bt = h.bt
  conf : k.conf = h.conf
  len : k.es.length ≤ 120
  sub : ∀ x ∈ k.es, x ∈ h.es ∨ x ∈ L
  term : ∀ j (hj : j < L.length), k.term (prev + 1 + j) = (L[j].term, true)
  at_ : n = 0 ∨ (prev < n ∧ k.last = prev + L.length)
  n : n ≤ 4611686018427387904 + 1000
  right : k.right = true
  ahead : k.slice (k.base + 1) ((prev : Int) - (k.base : Int)) = h.slice (h.base + 1) ((prev : Int) - (h.base : Int))
theorem into_term {h k : Lg} {prev : Nat} {L M : List EnIn} (hb : k.base = h.base) (hr : h.rch prev = true) (he : k.es = h.es.take (prev - h.base) ++ M) (hM : L.length ≤ M.length) (ht : ∀ j (hj : j < L.length), (M.getD j e0).term = L[j].term) :
    ∀ j (hj : j < L.length), k.term (prev + 1 + j) = (L[j].term, true) := by
  intro j hj
  have hi := Lg.rch_iff.1 hr
  unfold Lg.last at hi
  have hkl : k.es.length = prev - h.base + M.length := by rw [he, List.length_append, List.length_take]; omega
  have hk : k.rch (prev + 1 + j) = true := by
    rw [Lg.rch_iff, Lg.last, hb, hkl]; omega
  rw [Lg.term_yes hk, Lg.upTo_of hk, hb, ← ht j hj]
  have e : k.tb (prev + 1 + j - h.base) = (M.getD j e0).term := by
    unfold Lg.tb
    rw [if_neg (by omega), he, List.getD_eq_getElem?_getD, List.getElem?_append_right (by rw [List.length_take]; omega), List.getD_eq_getElem?_getD]
    rw [List.length_take, show prev + 1 + j - h.base - 1 - min (prev - h.base) h.es.length = j by omega]
  rw [e]
theorem into_ahead {h k : Lg} {prev : Nat} {M : List EnIn} (hb : k.base = h.base) (hr : h.rch prev = true) (he : k.es = h.es.take (prev - h.base) ++ M) :
    k.slice (k.base + 1) ((prev : Int) - (k.base : Int)) = h.slice (h.base + 1) ((prev : Int) - (h.base : Int)) := by
  have hi := Lg.rch_iff.1 hr
  unfold Lg.last at hi
  have hkl : k.es.length = prev - h.base + M.length := by rw [he, List.length_append, List.length_take]; omega
  unfold Lg.slice Lg.last
  rw [hb]
  by_cases c : h.base < prev
  · rw [if_pos ⟨by omega, by omega, by omega⟩, if_pos ⟨by omega, by omega, by omega⟩, he]
    rw [show h.base + 1 - h.base - 1 = 0 by omega, List.drop_zero, List.drop_zero, show ((prev : Int) - (h.base : Int)).toNat = prev - h.base by omega]
    rw [List.take_append_of_le_length (by rw [List.length_take]; omega), List.take_take, Nat.min_self]
  · rw [if_neg (by omega), if_neg (by omega)]
theorem behind_all {h : Lg} {prev t : Nat} {L : List EnIn} (c : h.term prev = (t, true)) (e : alike (h.es.drop (h.upTo prev)) L = L.length) : h.behind prev t L = (h, 0, true) := by
  unfold Lg.behind
  rw [if_pos c]
  exact if_pos e
theorem behind_some {h : Lg} {prev t s : Nat} {L : List EnIn} (c : h.term prev = (t, true)) (e : alike (h.es.drop (h.upTo prev)) L = s) (ne : s ≠ L.length) : h.behind prev t L = (⟨h.base, h.bt, h.conf, h.es.take (h.upTo prev + s) ++ L.drop s⟩, h.base + (h.upTo prev + s) + 1, true) := by
  subst e
  unfold Lg.behind
  rw [if_pos c]
  exact if_neg ne
theorem merge_into (g h : Lg) (prev t : Nat) (most : Int) (hg : g.right = true) (hh : h.right = true) (g60 : g.es.length ≤ 60) (h60 : h.es.length ≤ 60) (ht : g.term prev = (t, true)) (hp : h.base ≤ prev) :
    ∃ k n is, h.merge prev t (g.slice (prev + 1) most) = (k, n, is) ∧ ((is = false ∧ n = 0 ∧ k = h ∧ h.term prev ≠ (t, true)) ∨ (is = true ∧ Into h k prev t n (g.slice (prev + 1) most))) := by
  have hL60 := slice_len g (prev + 1) most
  have hsub := slice_sub g (prev + 1) most
  have hlt : ∀ j (hj : j < (g.slice (prev + 1) most).length), (if j = 0 then t else ((g.slice (prev + 1) most).getD (j - 1) e0).term) ≤ (g.slice (prev + 1) most)[j].term := by
    intro j hj
    obtain ⟨s1, s2, s3, s4⟩ := slice_at hj
    have hgd := right_good hg s3
    unfold Good at hgd
    rw [getD_at s3, ← s4] at hgd
    have hr : g.rch prev = true := by
      rcases hr : g.rch prev with _ | _
      · rw [Lg.term_no hr] at ht; cases ht
      · rfl
    have hi := Lg.rch_iff.1 hr
    rw [Lg.term_yes hr, Lg.upTo_of hr] at ht
    cases j with
    | zero =>
      rw [if_pos rfl]
      have : g.tb (prev - g.base) = t := (Prod.mk.inj ht).1
      rw [show prev + 1 - g.base - 1 + 0 = prev - g.base by omega, this] at hgd
      exact hgd.2.2
    | succ j =>
      rw [if_neg (by omega), Nat.add_sub_cancel, getD_at (by omega)]
      obtain ⟨r1, r2, r3, r4⟩ := slice_at (show j < (g.slice (prev + 1) most).length by omega)
      rw [r4]
      have e := tb_succ g r3
      rw [show prev + 1 - g.base - 1 + (j + 1) = prev + 1 - g.base - 1 + j + 1 by omega, e] at hgd
      exact hgd.2.2
  have hkd : ∀ x ∈ g.slice (prev + 1) most, 1 ≤ x.kind ∧ x.kind ≤ 3 := by
    intro x hx
    obtain ⟨i, hi, rfl⟩ := List.getElem_of_mem (hsub x hx)
    have hgd := right_good hg hi
    unfold Good at hgd
    rw [getD_at hi] at hgd
    exact ⟨hgd.1, hgd.2.1⟩
  generalize g.slice (prev + 1) most = L at *
  have hbase := (h.right_iff.1 hh).1
  unfold Lg.merge
  rw [if_neg (by omega)]
  by_cases c : h.term prev = (t, true)
  · have hr : h.rch prev = true := by
      rcases hr : h.rch prev with _ | _
      · rw [Lg.term_no hr] at c; cases c
      · rfl
    have hi := Lg.rch_iff.1 hr
    unfold Lg.last at hi
    have hup := Lg.upTo_of hr
    have htb : h.tb (prev - h.base) = t := by rw [Lg.term_yes hr, hup] at c; exact (Prod.mk.inj c).1
    have hB1 := fun e => behind_all (L := L) c e
    have hB2 := fun e ne => behind_some (L := L) (s := alike (h.es.drop (h.upTo prev)) L) c e ne
    rw [hup] at hB1 hB2
    have hal := alike_le (h.es.drop (prev - h.base)) L
    have hae := alike_eq (h.es.drop (prev - h.base)) L
    simp only [List.length_drop, List.getElem_drop] at hal hae
    generalize alike (h.es.drop (prev - h.base)) L = s at *
    by_cases cs : s = L.length
    · rw [hB1 cs]
      refine ⟨_, _, _, rfl, .inr ⟨rfl, c, rfl, rfl, rfl, by omega, fun x hx => .inl hx, ?_, .inl rfl, by omega, hh, rfl⟩⟩
      refine into_term (M := h.es.drop (prev - h.base)) rfl hr (List.take_append_drop _ _).symm (by rw [List.length_drop]; omega) fun j hj => ?_
      rw [getD_at (by rw [List.length_drop]; omega), List.getElem_drop]
      exact hae j (by omega) (by omega) hj
    · rw [hB2 rfl cs]
      have he : h.es.take (prev - h.base + s) ++ L.drop s = h.es.take (prev - h.base) ++ ((h.es.drop (prev - h.base)).take s ++ L.drop s) := by
        rw [← List.append_assoc, List.take_add]
      have hlen : (h.es.take (prev - h.base + s) ++ L.drop s).length = prev - h.base + L.length := by
        rw [List.length_append, List.length_take, List.length_drop]; omega
      have hterm := into_term (h := h) (k := ⟨h.base, h.bt, h.conf, h.es.take (prev - h.base + s) ++ L.drop s⟩) (prev := prev) (L := L) rfl hr he (by rw [List.length_append, List.length_take, List.length_drop, List.length_drop]; omega) (fun j hj => by
        by_cases c2 : j < s
        · rw [List.getD_eq_getElem?_getD, List.getElem?_append_left (by rw [List.length_take, List.length_drop]; omega), List.getElem?_take_of_lt c2, List.getElem?_drop, List.getElem?_eq_getElem (by omega), Option.getD_some]
          exact hae j c2 (by omega) hj
        · rw [List.getD_eq_getElem?_getD, List.getElem?_append_right (by rw [List.length_take, List.length_drop]; omega), List.length_take, List.length_drop, List.getElem?_drop, List.getElem?_eq_getElem (by omega), Option.getD_some]
          congr 2
          omega)
      refine ⟨_, _, _, rfl, .inr ⟨rfl, c, rfl, rfl, rfl, ?_, ?_, hterm, .inr ⟨by omega, ?_⟩, by omega, ?_, ?_⟩⟩
      · show (_ ++ _ : List EnIn).length ≤ _; rw [hlen]; omega
      · intro x hx
        rcases List.mem_append.1 hx with hx | hx
        · exact .inl (List.mem_of_mem_take hx)
        · exact .inr (List.mem_of_mem_drop hx)
      · show h.base + (_ ++ _ : List EnIn).length = _; rw [hlen]; omega
      · obtain ⟨q1, q2, q3, q4⟩ := h.right_iff.1 hh
        refine (Lg.right_iff _).2 ⟨q1, ?_, q3, ?_⟩
        · show (_ ++ _ : List EnIn).length ≤ _; rw [hlen]; omega
        · refine (rises_good ⟨h.base, h.bt, h.conf, h.es.take (prev - h.base + s) ++ L.drop s⟩).2 fun j hj => ?_
          rw [hlen] at hj
          by_cases c2 : j < prev - h.base + s
          · have hgd := right_good hh (show j < h.es.length by omega)
            have e1 : (h.es.take (prev - h.base + s) ++ L.drop s).getD j e0 = h.es.getD j e0 := by
              rw [List.getD_eq_getElem?_getD, List.getElem?_append_left (by rw [List.length_take]; omega), List.getElem?_take_of_lt c2, ← List.getD_eq_getElem?_getD]
            have e2 : Lg.tb ⟨h.base, h.bt, h.conf, h.es.take (prev - h.base + s) ++ L.drop s⟩ j = h.tb j := by
              unfold Lg.tb
              split
              · rfl
              · show ((h.es.take (prev - h.base + s) ++ L.drop s).getD (j - 1) e0).term = _
                rw [List.getD_eq_getElem?_getD, List.getElem?_append_left (by rw [List.length_take]; omega), List.getElem?_take_of_lt (by omega), ← List.getD_eq_getElem?_getD]
            unfold Good at hgd ⊢
            rw [e2]
            show 1 ≤ ((h.es.take (prev - h.base + s) ++ L.drop s).getD j e0).kind ∧ ((h.es.take (prev - h.base + s) ++ L.drop s).getD j e0).kind ≤ 3 ∧ h.tb j ≤ ((h.es.take (prev - h.base + s) ++ L.drop s).getD j e0).term
            rw [e1]
            exact hgd
          · obtain ⟨i, rfl⟩ : ∃ i, j = prev - h.base + i := ⟨j - (prev - h.base), by omega⟩
            have hiL : i < L.length := by omega
            have e1 : (h.es.take (prev - h.base + s) ++ L.drop s).getD (prev - h.base + i) e0 = L[i] := by
              rw [List.getD_eq_getElem?_getD, List.getElem?_append_right (by rw [List.length_take]; omega), List.length_take, List.getElem?_drop, List.getElem?_eq_getElem (by omega), Option.getD_some]
              congr 1
              omega
            have e2 : Lg.tb ⟨h.base, h.bt, h.conf, h.es.take (prev - h.base + s) ++ L.drop s⟩ (prev - h.base + i) = if i = 0 then t else (L.getD (i - 1) e0).term := by
              by_cases c3 : i = 0
              · subst c3
                rw [if_pos rfl, ← htb]
                rw [Nat.add_zero]
                unfold Lg.tb
                by_cases z : prev - h.base = 0
                · rw [if_pos z, if_pos z]
                · rw [if_neg z, if_neg z]
                  show ((h.es.take (prev - h.base + s) ++ L.drop s).getD (prev - h.base - 1) e0).term = _
                  rw [List.getD_eq_getElem?_getD, List.getElem?_append_left (by rw [List.length_take]; omega), List.getElem?_take_of_lt (by omega), ← List.getD_eq_getElem?_getD]
              · rw [if_neg c3, getD_at (by omega)]
                have k1 := hterm (i - 1) (by omega)
                have hk : Lg.rch ⟨h.base, h.bt, h.conf, h.es.take (prev - h.base + s) ++ L.drop s⟩ (prev + 1 + (i - 1)) = true := by
                  rw [Lg.rch_iff, Lg.last]
                  show h.base ≤ _ ∧ _ ≤ h.base + (_ ++ _ : List EnIn).length
                  rw [hlen]; omega
                rw [Lg.term_yes hk, Lg.upTo_of hk] at k1
                have k2 := (Prod.mk.inj k1).1
                rw [← k2]
                congr 1
                show _ = prev + 1 + (i - 1) - h.base
                omega
            have hk2 := hkd L[i] (List.getElem_mem hiL)
            unfold Good
            rw [e2]
            show 1 ≤ ((h.es.take (prev - h.base + s) ++ L.drop s).getD (prev - h.base + i) e0).kind ∧ ((h.es.take (prev - h.base + s) ++ L.drop s).getD (prev - h.base + i) e0).kind ≤ 3 ∧ _ ≤ ((h.es.take (prev - h.base + s) ++ L.drop s).getD (prev - h.base + i) e0).term
            rw [e1]
            exact ⟨hk2.1, hk2.2, hlt i hiL⟩
      · exact into_ahead (k := ⟨h.base, h.bt, h.conf, h.es.take (prev - h.base + s) ++ L.drop s⟩) rfl hr he
  · unfold Lg.behind
    rw [if_neg c]
    exact ⟨_, _, _, rfl, .inl ⟨rfl, rfl, rfl, c⟩⟩
theorem Into.fit {h k : Lg} {prev t n : Nat} {L : List EnIn} (i : Into h k prev t n L) (hf : Fit h) (hL : ∀ x ∈ L, x.term < 18446744073709551616 ∧ x.data.length ≤ 281474976710656) : Fit k := by
  refine ⟨by rw [i.base]; exact hf.base, by rw [i.bt]; exact hf.bt, by rw [i.conf]; exact hf.conf, by have := i.len; omega, fun x hx => ?_⟩
  rcases i.sub x hx with h1 | h1
  · exact hf.e x h1
  · exact hL x h1
end Go.Proofs.Ytojlellnoliapaa.tl
/-! TlS3 -/
namespace Go.Proofs.Ytojlellnoliapaa.tl
set_option linter.unusedVariables false

theorem says_right {x : EnIn} {l : List Int} (h : says x = some l) : qm.right l = true := by
  unfold says at h
  split at h
  · rename_i hk
    cases h
    have h2 := hk.2
    unfold qm.readS at h2 ⊢
    split
    · rename_i hh
      have h3 := hh.2
      rcases hr : qm.right ((x.data.tail).map qm.toI) with _ | _
      · unfold qm.textL at h3
        rw [if_neg (by rw [hr]; decide)] at h3
        have h4 := hh.1
        rw [← h3] at h4
        simp at h4
      · rfl
    · rename_i hh
      rw [if_neg hh] at h2
      cases h2
  · cases h
theorem mem_ok {g : Lg} (h : confOk g.conf = true) : ∀ n, confOk (g.mem n).1 = true
  | 0 => h
  | n + 1 => by
    unfold Lg.mem
    split
    · rename_i l hl
      show confOk l = true
      rw [confOk, says_right hl, Bool.or_true]
    · exact mem_ok h n
/-- What is told of a log that was let go up to an index. -/
structure Cut (g k : Lg) (b : Nat) : Prop where
  in_ : g.rch b = true
  base : k.base = b
  es : k.es = g.es.drop (b - g.base)
  bt : k.bt = g.tb (b - g.base)
  conf : k.conf = (g.mem (b - g.base)).1
theorem compact_cut (g : Lg) (b : Nat) : (g.compact b = (g, false)) ∨ ∃ k, g.compact b = (k, true) ∧ Cut g k b := by
  unfold Lg.compact
  rcases hr : g.rch b with _ | _
  · exact .inl rfl
  · refine .inr ⟨_, rfl, hr, rfl, ?_, ?_, ?_⟩
    · have e : g.term b = ((g.term b).1, true) := by rw [Lg.term_yes hr]
      show (if g.term b = ((g.term b).1, true) then g.es.drop (g.upTo b) else []) = _
      rw [if_pos e, Lg.upTo_of hr]
    · show (g.term b).1 = _
      rw [Lg.term_yes hr, Lg.upTo_of hr]
    · show (g.mem (g.upTo b)).1 = _
      rw [Lg.upTo_of hr]
theorem Cut.len {g k : Lg} {b : Nat} (c : Cut g k b) : g.base ≤ b ∧ b - g.base ≤ g.es.length ∧ k.es.length = g.es.length - (b - g.base) := by
  have hi := Lg.rch_iff.1 c.in_
  unfold Lg.last at hi
  exact ⟨hi.1, by omega, by rw [c.es, List.length_drop]⟩
theorem Cut.tb {g k : Lg} {b : Nat} (c : Cut g k b) (n : Nat) : k.tb n = g.tb (b - g.base + n) := by
  unfold Lg.tb
  by_cases z : n = 0
  · subst z
    rw [if_pos rfl, Nat.add_zero, c.bt]
    rfl
  · rw [if_neg z, if_neg (by omega), c.es, List.getD_eq_getElem?_getD, List.getElem?_drop, List.getD_eq_getElem?_getD]
    congr 4
    omega
theorem Cut.last {g k : Lg} {b : Nat} (c : Cut g k b) : k.last = g.last ∧ k.lastT = g.lastT := by
  obtain ⟨h1, h2, h3⟩ := c.len
  constructor
  · unfold Lg.last; rw [c.base, h3]; omega
  · unfold Lg.lastT; rw [c.tb, h3]; congr 1; omega
theorem Cut.right {g k : Lg} {b : Nat} (c : Cut g k b) (hg : g.right = true) (hb : b ≤ 4611686018427387904) : k.right = true := by
  obtain ⟨h1, h2, h3⟩ := c.len
  obtain ⟨q1, q2, q3, q4⟩ := g.right_iff.1 hg
  refine (Lg.right_iff _).2 ⟨by rw [c.base]; exact hb, by omega, ?_, ?_⟩
  · have h4 : confOk g.conf = true := by
      rcases q3 with h | h
      · rw [h]; rfl
      · rw [confOk, h, Bool.or_true]
    have h5 := mem_ok h4 (b - g.base)
    rw [← c.conf] at h5
    unfold confOk at h5
    rw [Bool.or_eq_true, decide_eq_true_eq] at h5
    exact h5.imp List.eq_nil_of_length_eq_zero id
  · refine (rises_good k).2 fun j hj => ?_
    have hgd := right_good hg (show b - g.base + j < g.es.length by omega)
    have e : k.es.getD j e0 = g.es.getD (b - g.base + j) e0 := by
      rw [c.es, List.getD_eq_getElem?_getD, List.getElem?_drop, List.getD_eq_getElem?_getD]
    unfold Good at hgd ⊢
    rw [c.tb, e]
    exact hgd
theorem Cut.term {g k : Lg} {b i : Nat} (c : Cut g k b) (hi : b ≤ i) : k.term i = g.term i := by
  obtain ⟨h1, h2, h3⟩ := c.len
  obtain ⟨l1, l2⟩ := c.last
  rcases hr : g.rch i with _ | _
  · have : k.rch i = false := by
      rw [← Bool.not_eq_true, Lg.rch_iff] at hr ⊢
      rw [c.base, l1]
      omega
    rw [Lg.term_no hr, Lg.term_no this]
  · have h5 := Lg.rch_iff.1 hr
    have : k.rch i = true := by rw [Lg.rch_iff, c.base, l1]; omega
    rw [Lg.term_yes hr, Lg.term_yes this, Lg.upTo_of hr, Lg.upTo_of this, c.tb, c.base]
    congr 2
    omega
theorem Cut.mem {g k : Lg} {b : Nat} (c : Cut g k b) : ∀ n, (k.mem n).1 = (g.mem (b - g.base + n)).1
  | 0 => c.conf
  | n + 1 => by
    have ih := c.mem n
    have e : k.es.getD n e0 = g.es.getD (b - g.base + n) e0 := by
      rw [c.es, List.getD_eq_getElem?_getD, List.getElem?_drop, List.getD_eq_getElem?_getD]
    rw [← Nat.add_assoc]
    unfold Lg.mem
    rw [e]
    split
    · rfl
    · exact ih
theorem Cut.confAt {g k : Lg} {b i : Nat} (c : Cut g k b) (hi : b ≤ i) : (k.mem (k.upTo i)).1 = (g.mem (g.upTo i)).1 := by
  obtain ⟨h1, h2, h3⟩ := c.len
  rw [c.mem]
  congr 2
  unfold Lg.upTo
  rw [c.base, h3]
  omega
theorem Cut.slice {g k : Lg} {b f : Nat} (c : Cut g k b) (m : Int) (hf : b < f ∨ f = 0) : k.slice f m = g.slice f m := by
  obtain ⟨h1, h2, h3⟩ := c.len
  obtain ⟨l1, l2⟩ := c.last
  unfold Lg.slice
  rw [l1, c.base]
  by_cases z : b < f ∧ f ≤ g.last ∧ 1 ≤ m
  · rw [if_pos z, if_pos (by omega), c.es, List.drop_drop]
    congr 2
    omega
  · rw [if_neg z, if_neg (by omega)]
theorem term_lt' {g : Lg} (hf : Fit g) (i : Nat) : (g.term i).1 < 18446744073709551616 := by
  unfold Lg.term
  split
  · simp only [Lg.tb]
    split
    · exact hf.bt
    · have := g.upTo_le i
      rw [getD_at (by omega)]
      exact (hf.e _ (List.getElem_mem _)).1
  · decide
theorem Cut.fit {g k : Lg} {b : Nat} (c : Cut g k b) (hf : Fit g) (hb : b ≤ 4611686018427387904 + 1000000) : Fit k := by
  obtain ⟨h1, h2, h3⟩ := c.len
  refine ⟨by rw [c.base]; exact hb, ?_, by rw [c.conf]; exact mem_len hf.conf _, by have := hf.es; omega, fun x hx => hf.e x ?_⟩
  · have := term_lt' hf b
    rw [Lg.term_yes c.in_, Lg.upTo_of c.in_] at this
    rw [c.bt]
    exact this
  · rw [c.es] at hx
    exact List.mem_of_mem_drop hx
end Go.Proofs.Ytojlellnoliapaa.tl
/-! TlL3 -/
namespace Go.Proofs.Ytojlellnoliapaa.tl
set_option linter.unusedVariables false
open Go.RowKit
open pk (S S_size S_data)
open qm (Bs noSh)
open rw (Arr But below_box bnext below_drew below_drewN)

/-- The log in its box, and what is left of it in another. -/
structure Ab (w W : World) (cv ev : Value) (g : Lg) (mb : Nat) (c2 e2 : Value) (k : Lg) : Prop where
  g : Bx w W w.heap.size cv ev g
  k : Bx w W mb c2 e2 k
theorem Ab.below {w W W' : World} {cv ev c2 e2 : Value} {g k : Lg} {mb : Nat} (h : Ab w W cv ev g mb c2 e2 k) (b : Below W.heap.size W W') : Ab w W' cv ev g mb c2 e2 k := ⟨h.g.below b, h.k.below b⟩
theorem Ab.new {w W : World} {cv ev c2 e2 : Value} {g k : Lg} (h : Bx w W w.heap.size cv ev g) (o : rw.Sl noSh W c2 k.conf) (p : rw.Sl enSh W e2 k.es) : Ab w (W.alloc (.cells #[.int .u64 (k.base : Nat), .int .u64 (k.bt : Nat), c2, e2] 26)) cv ev g W.heap.size c2 e2 k :=
  have b := below_box W (.cells #[.int .u64 (k.base : Nat), .int .u64 (k.bt : Nat), c2, e2] 26)
  ⟨h.below b, Arr.new W _ _, ⟨o.later _ b, p.later _ b⟩, h.b.trans (b.mono h.b.size)⟩
theorem Ab.cells {w W : World} {cv ev c2 e2 : Value} {g k : Lg} {mb : Nat} (h : Ab w W cv ev g mb c2 e2 k) :
    W.cell? ⟨w.heap.size, 0, none⟩ = some (.int .u64 (g.base : Nat)) ∧ W.cell? ⟨w.heap.size, 1, none⟩ = some (.int .u64 (g.bt : Nat)) ∧ W.cell? ⟨w.heap.size, 2, none⟩ = some cv ∧ W.cell? ⟨w.heap.size, 3, none⟩ = some ev ∧ W.cell? ⟨mb, 0, none⟩ = some (.int .u64 (k.base : Nat)) ∧ W.cell? ⟨mb, 1, none⟩ = some (.int .u64 (k.bt : Nat)) ∧ W.cell? ⟨mb, 2, none⟩ = some c2 ∧ W.cell? ⟨mb, 3, none⟩ = some e2 := by
  obtain ⟨a0, a1, a2, a3⟩ := h.g.cells
  obtain ⟨b0, b1, b2, b3⟩ := h.k.cells
  exact ⟨a0, a1, a2, a3, b0, b1, b2, b3⟩
theorem Ab.ck {w W : World} {cv ev c2 e2 : Value} {g : Lg} {mb kb kt : Nat} {kc : List Int} {ke : List EnIn} (h : Ab w W cv ev g mb c2 e2 ⟨kb, kt, kc, ke⟩) :
    W.cell? ⟨w.heap.size, 0, none⟩ = some (.int .u64 (g.base : Nat)) ∧ W.cell? ⟨w.heap.size, 1, none⟩ = some (.int .u64 (g.bt : Nat)) ∧ W.cell? ⟨w.heap.size, 2, none⟩ = some cv ∧ W.cell? ⟨w.heap.size, 3, none⟩ = some ev ∧ W.cell? ⟨mb, 0, none⟩ = some (.int .u64 (kb : Nat)) ∧ W.cell? ⟨mb, 1, none⟩ = some (.int .u64 (kt : Nat)) ∧ W.cell? ⟨mb, 2, none⟩ = some c2 ∧ W.cell? ⟨mb, 3, none⟩ = some e2 := h.cells
set_option maxHeartbeats 8000000 in
set_option maxRecDepth 100000 in
theorem above_walk (g : Lg) (cv ev : Value) (base i : Nat) (hb : base < 18446744073709551616) (hi : i < 18446744073709551616) (hg : Came g) (w : World) (h : LV w cv ev g) :
    Calls Try.prog 8 #[g.v cv ev, .int .u64 (base : Nat), .int .u64 (i : Nat)] w fun e w' => e = .returned (.bool true) ∧ Below w.heap.size w w' := by
  have H0 := Lib.hid h.box
  have HAl := Lib.hid fun W => alive_any W
  have HAs := Lib.hid fun W b => asked_any g cv ev hg W (h.later b)
  have HV := Lib.hid h
  have HG := Lib.hid hg
  obtain ⟨r, hr⟩ : ∃ r, g.asked = r := ⟨_, rfl⟩
  rw [hr] at HAs
  have HRR := Lib.hid hr
  clear h hg hr
  go_enter Try.func8, Try.ntmps8
  go_upto_region 1 with (fail)
  generalize w.alloc (.cells #[.int .u64 (g.base : Nat), .int .u64 (g.bt : Nat), cv, ev] 26) = W at *
  have hAl := HAl.out W
  go_wp2_with fail
  with_reducible refine hAl.mono ?_
  clear hAl HAl
  rintro e w1 ⟨rfl, b1⟩
  have H1 := Lib.hid (H0.out.below b1)
  clear b1 H0
  obtain ⟨x0, x1, x2, x3⟩ := H1.out.cells
  have hAs := HAs.out w1 H1.out.b
  cases r with
  | false =>
    go_wp2_with fail
    with_reducible refine hAs.mono ?_
    clear hAs
    rintro e w2 ⟨rfl, b2⟩
    have B2 := Lib.hid (H1.out.b.trans (b2.mono H1.out.b.size))
    clear b2
    go_wp2_with fail
    go_ret
    exact ⟨rfl, B2.out⟩
  | true =>
  go_wp2_with fail
  with_reducible refine hAs.mono ?_
  clear hAs x0 x1 x2 x3 HAs
  rintro e w2 ⟨rfl, b2⟩
  have H2 := Lib.hid (H1.out.below b2)
  clear b2 H1
  have HF := Lib.hid (HG.out.fit HRR.out)
  have HC := Lib.hid (compact_any g cv ev base hb HF.out w2 H2.out.v)
  rcases compact_cut g base with hc | ⟨k, hc, hcut⟩
  · rw [hc] at HC
    have hC : Calls Try.prog 31 #[.agg #[.int .u64 (g.base : Nat), .int .u64 (g.bt : Nat), cv, ev], .int .u64 (base : Nat)] w2 fun e w' => ∃ c2 e2, e = .returned (.tuple #[.agg #[.int .u64 (g.base : Nat), .int .u64 (g.bt : Nat), c2, e2], .bool false]) ∧ rw.Own noSh w' w2.heap.size c2 g.conf ∧ rw.Own enSh w' w2.heap.size e2 g.es ∧ Below w2.heap.size w2 w' := HC.out
    obtain ⟨x0, x1, x2, x3⟩ := H2.out.cells
    clear HC hc
    go_wp2_with fail
    with_reducible refine hC.mono ?_
    clear hC x0 x1 x2 x3
    rintro e w3 ⟨c2, e2, rfl, o3, p3, b3⟩
    obtain ⟨c5a, c5c, rfl⟩ := o3.form
    obtain ⟨e5a, e5c, rfl⟩ := p3.form
    have HE := Lib.hid (Ab.new (H2.out.below b3) o3.sl p3.sl)
    clear o3 p3 b3
    go_upto_region 6 with (fail)
    generalize w3.alloc (.cells #[.int .u64 (g.base : Nat), .int .u64 (g.bt : Nat), .slice c5a g.conf.length c5c, .slice e5a g.es.length e5c] 26) = F at *
    generalize w3.heap.size = mb at *
    obtain ⟨x0, x1, x2, x3, y0, y1, y2, y3⟩ := HE.out.cells
    have hS := sameLogs_any g.base g.bt g.base g.bt _ _ cv ev g.conf g.conf g.es g.es HF.out.conf (by have := HF.out.es; omega) F HE.out.k.v.c HE.out.g.v.c HE.out.k.v.l HE.out.g.v.l
    rw [decide_eq_true ⟨rfl, rfl, rfl, rfl⟩] at hS
    go_wp2_with fail
    with_reducible refine hS.mono ?_
    clear hS x0 x1 x2 x3 y0 y1 y2 y3
    rintro e w9 ⟨rfl, b9⟩
    have B9 := Lib.hid (HE.out.below b9)
    clear b9
    go_wp2_with fail
    go_ret
    exact ⟨rfl, B9.out.g.b⟩
  rw [hc] at HC
  have hbb : base ≤ 4611686018427387904 + 60 := by
    have h2 := (Lg.rch_iff.1 hcut.in_).2
    have h3 := (g.right_iff.1 (Lg.asked_iff.1 HRR.out).1).1
    have h4 := (Lg.asked_iff.1 HRR.out).2
    unfold Lg.last at h2
    omega
  have HCu := Lib.hid hcut
  have HFk := Lib.hid (hcut.fit HF.out (by omega))
  obtain ⟨kb, kt, kc, ke⟩ := k
  obtain rfl : kb = base := hcut.base
  have hC : Calls Try.prog 31 #[.agg #[.int .u64 (g.base : Nat), .int .u64 (g.bt : Nat), cv, ev], .int .u64 (kb : Nat)] w2 fun e w' => ∃ c2 e2, e = .returned (.tuple #[.agg #[.int .u64 (kb : Nat), .int .u64 (kt : Nat), c2, e2], .bool true]) ∧ rw.Own noSh w' w2.heap.size c2 kc ∧ rw.Own enSh w' w2.heap.size e2 ke ∧ Below w2.heap.size w2 w' := HC.out
  obtain ⟨x0, x1, x2, x3⟩ := H2.out.cells
  clear HC hc hcut
  go_wp2_with fail
  with_reducible refine hC.mono ?_
  clear hC x0 x1 x2 x3
  rintro e w3 ⟨c2, e2, rfl, o3, p3, b3⟩
  obtain ⟨c5a, c5c, rfl⟩ := o3.form
  obtain ⟨e5a, e5c, rfl⟩ := p3.form
  have HE := Lib.hid (Ab.new (k := ⟨kb, kt, kc, ke⟩) (H2.out.below b3) o3.sl p3.sl)
  clear o3 p3 b3
  go_upto_region 6 with (fail)
  generalize w3.alloc (.cells #[.int .u64 (kb : Nat), .int .u64 (kt : Nat), .slice c5a kc.length c5c, .slice e5a ke.length e5c] 26) = F at *
  generalize w3.heap.size = mb at *
  have HLg : Hid (∀ W (b : Below w.heap.size w W), Calls Try.prog 13 #[.agg #[.int .u64 (g.base : Nat), .int .u64 (g.bt : Nat), cv, ev]] W fun e w' => e = .returned (.tuple #[.int .u64 (g.last : Nat), .int .u64 (g.lastT : Nat)]) ∧ Below W.heap.size W w') := fun W b => last_any g cv ev HF.out W (HV.out.later b)
  have HLk : Hid (∀ W (b : Ab w W cv ev g mb (.slice c5a kc.length c5c) (.slice e5a ke.length e5c) ⟨kb, kt, kc, ke⟩), Calls Try.prog 13 #[.agg #[.int .u64 (kb : Nat), .int .u64 (kt : Nat), .slice c5a kc.length c5c, .slice e5a ke.length e5c]] W fun e w' => e = .returned (.tuple #[.int .u64 (g.last : Nat), .int .u64 (g.lastT : Nat)]) ∧ Below W.heap.size W w') := fun W b => by
    have z := last_any _ _ _ HFk.out W b.k.v
    rw [HCu.out.last.1, HCu.out.last.2] at z
    exact z
  have HRk : Hid (∀ W (b : Ab w W cv ev g mb (.slice c5a kc.length c5c) (.slice e5a ke.length e5c) ⟨kb, kt, kc, ke⟩), kb ≤ 4611686018427387904 → Calls Try.prog 10 #[.agg #[.int .u64 (kb : Nat), .int .u64 (kt : Nat), .slice c5a kc.length c5c, .slice e5a ke.length e5c]] W fun e w' => e = .returned (.bool true) ∧ Below W.heap.size W w') := fun W b hk => by
    have z := right_any _ _ _ (by have := HFk.out.base; omega) HFk.out.bt (by have := HFk.out.conf; omega) (by have := HFk.out.es; omega) (fun x hx => (HFk.out.e x hx).1) W b.k.v
    rw [HCu.out.right (Lg.asked_iff.1 HRR.out).1 hk] at z
    exact z
  obtain ⟨x0, x1, x2, x3⟩ := HE.out.g.cells
  have hL := HLg.out F HE.out.g.b
  generalize g.last = la at *
  generalize g.lastT = lt at *
  go_wp2_with fail
  with_reducible refine hL.mono ?_
  clear hL x0 x1 x2 x3 HLg
  rintro e w4 ⟨rfl, b4⟩
  have H4 := Lib.hid (HE.out.below b4)
  clear b4 HE
  obtain ⟨x0, x1, x2, x3, y0, y1, y2, y3⟩ := H4.out.ck
  have hL := HLk.out w4 H4.out
  go_wp2_with fail
  with_reducible refine hL.mono ?_
  clear hL x0 x1 x2 x3 y0 y1 y2 y3 HLk
  rintro e w5 ⟨rfl, b4⟩
  have H5 := Lib.hid (H4.out.below b4)
  clear b4 H4
  obtain ⟨x0, x1, x2, x3, y0, y1, y2, y3⟩ := H5.out.ck
  go_upto_region 10 with (fail)
  go_cut [65] from 43 (fun a wx => a = .bool false ∧ Hid (Ab w wx cv ev g mb (.slice c5a kc.length c5c) (.slice e5a ke.length e5c) ⟨kb, kt, kc, ke⟩))
  case first =>
    by_cases c : kb ≤ 4611686018427387904
    · have q1 : decide ((kb : Int) ≤ 4611686018427387904) = true := decide_eq_true (by omega)
      have hR := HRk.out w5 H5.out c
      have Hc := Lib.hid c
      clear c
      go_wp2_with fail
      with_reducible refine hR.mono ?_
      clear hR x0 x1 x2 x3 y0 y1 y2 y3
      rintro e w6 ⟨rfl, b6⟩
      have H6 := Lib.hid (H5.out.below b6)
      clear b6
      obtain ⟨x0, x1, x2, x3, y0, y1, y2, y3⟩ := H6.out.ck
      go_wp2_with fail
      go_meet
      exact ⟨by first | rfl | (rw [decide_eq_true Hc.out]; rfl), H6⟩
    · have q1 : decide ((kb : Int) ≤ 4611686018427387904) = false := decide_eq_false (by omega)
      have Hc := Lib.hid c
      clear c
      go_wp2_with fail
      go_meet
      exact ⟨by first | rfl | (rw [decide_eq_false Hc.out]), H5⟩
  case rest =>
  obtain ⟨rfl, HR⟩ := hcut
  clear x0 x1 x2 x3 y0 y1 y2 y3 H5 HRk
  go_upto_if 68 with (fail)
  go_cut [2] from 66 (fun a wx => ∃ I : Nat, a = .int .u64 (I : Nat) ∧ kb ≤ I ∧ I < 18446744073709551616 ∧ wx = wc)
  case first =>
    by_cases c : i < kb
    · have q1 : decide ((i : Int) < (kb : Int)) = true := decide_eq_true (by omega)
      go_wp2_with fail
      go_meet
      exact ⟨kb, rfl, Nat.le_refl _, hb, rfl⟩
    · have q1 : decide ((i : Int) < (kb : Int)) = false := decide_eq_false (by omega)
      go_wp2_with fail
      go_meet
      exact ⟨i, rfl, by omega, hi, rfl⟩
  case rest =>
  obtain ⟨I, rfl, hkI, hI, rfl⟩ := hcut
  clear hi
  obtain ⟨T, hT⟩ : ∃ T, g.term I = T := ⟨_, rfl⟩
  obtain ⟨tt, tb⟩ := T
  obtain ⟨M, hM⟩ : ∃ M, (g.mem (g.upTo I)).1 = M := ⟨_, rfl⟩
  obtain ⟨p1, hp1⟩ : ∃ p, (I + 1) % 18446744073709551616 = p := ⟨_, rfl⟩
  obtain ⟨L, hL⟩ : ∃ L, g.slice p1 99 = L := ⟨_, rfl⟩
  have f1 : IntKind.u64.wrap ((I : Int) + 1) = (p1 : Int) := by
    by_cases c : I + 1 < 18446744073709551616
    · rw [u64_in _ (by omega)]; omega
    · have e : I = 18446744073709551615 := by omega
      subst e
      subst hp1
      decide
  have hML : M.length ≤ 1000000000 := by rw [← hM]; exact mem_len HF.out.conf _
  have hLL : L.length ≤ 1000000000 := by
    have l1 := slice_len g p1 99
    have l2 := HF.out.es
    rw [hL] at l1
    omega
  have HTg : Hid (∀ W (b : Below w.heap.size w W), Calls Try.prog 16 #[.agg #[.int .u64 (g.base : Nat), .int .u64 (g.bt : Nat), cv, ev], .int .u64 (I : Nat)] W fun e w' => e = .returned (.tuple #[.int .u64 (tt : Nat), .bool tb]) ∧ Below W.heap.size W w') := fun W b => by
    have z := term_any g cv ev I hI HF.out W (HV.out.later b)
    rw [hT] at z
    exact z
  have HTk : Hid (∀ W (b : Ab w W cv ev g mb (.slice c5a kc.length c5c) (.slice e5a ke.length e5c) ⟨kb, kt, kc, ke⟩), Calls Try.prog 16 #[.agg #[.int .u64 (kb : Nat), .int .u64 (kt : Nat), .slice c5a kc.length c5c, .slice e5a ke.length e5c], .int .u64 (I : Nat)] W fun e w' => e = .returned (.tuple #[.int .u64 (tt : Nat), .bool tb]) ∧ Below W.heap.size W w') := fun W b => by
    have z := term_any _ _ _ I hI HFk.out W b.k.v
    rw [HCu.out.term hkI, hT] at z
    exact z
  have HCg : Hid (∀ W (b : Below w.heap.size w W), Calls Try.prog 20 #[.agg #[.int .u64 (g.base : Nat), .int .u64 (g.bt : Nat), cv, ev], .int .u64 (I : Nat)] W fun e w' => ∃ u, e = .returned u ∧ rw.Own noSh w' W.heap.size u M ∧ Below W.heap.size W w') := fun W b => by
    have z := confAt_any g cv ev I hI HF.out W (HV.out.later b)
    rw [hM] at z
    exact z
  have HCk : Hid (∀ W (b : Ab w W cv ev g mb (.slice c5a kc.length c5c) (.slice e5a ke.length e5c) ⟨kb, kt, kc, ke⟩), Calls Try.prog 20 #[.agg #[.int .u64 (kb : Nat), .int .u64 (kt : Nat), .slice c5a kc.length c5c, .slice e5a ke.length e5c], .int .u64 (I : Nat)] W fun e w' => ∃ u, e = .returned u ∧ rw.Own noSh w' W.heap.size u M ∧ Below W.heap.size W w') := fun W b => by
    have z := confAt_any _ _ _ I hI HFk.out W b.k.v
    rw [HCu.out.confAt hkI, hM] at z
    exact z
  have HSg : Hid (∀ W (b : Below w.heap.size w W), Calls Try.prog 22 #[.agg #[.int .u64 (g.base : Nat), .int .u64 (g.bt : Nat), cv, ev], .int .u64 (p1 : Nat), .int .i64 99] W fun e w' => ∃ u, e = .returned u ∧ rw.Own enSh w' W.heap.size u L ∧ Below W.heap.size W w') := fun W b => by
    have z := slice_any g cv ev p1 99 (by omega) (by omega) HF.out W (HV.out.later b)
    rw [hL] at z
    exact z
  have HSk : Hid (∀ W (b : Ab w W cv ev g mb (.slice c5a kc.length c5c) (.slice e5a ke.length e5c) ⟨kb, kt, kc, ke⟩), Calls Try.prog 22 #[.agg #[.int .u64 (kb : Nat), .int .u64 (kt : Nat), .slice c5a kc.length c5c, .slice e5a ke.length e5c], .int .u64 (p1 : Nat), .int .i64 99] W fun e w' => ∃ u, e = .returned u ∧ rw.Own enSh w' W.heap.size u L ∧ Below W.heap.size W w') := fun W b => by
    have z := slice_any _ _ _ p1 99 (by omega) (by omega) HFk.out W b.k.v
    rw [HCu.out.slice 99 (by omega), hL] at z
    exact z
  have HNs : Hid (∀ (W : World) (u v : Value) (h1 : qm.Ns W u M) (h2 : qm.Ns W v M), Calls Try.prog 19 #[u, v] W fun e w' => e = .returned (.bool true) ∧ Below W.heap.size W w') := fun W u v h1 h2 => by
    have z := qm.same_any u v M M (by omega) (by omega) W h1 h2
    rw [decide_eq_true rfl] at z
    exact z
  have HEs : Hid (∀ (W : World) (u v : Value) (h1 : rw.Sl enSh W u L) (h2 : rw.Sl enSh W v L), Calls Try.prog 21 #[u, v] W fun e w' => e = .returned (.bool true) ∧ Below W.heap.size W w') := fun W u v h1 h2 => by
    have z := sameEntries_any u v L L hLL W h1 h2
    rw [decide_eq_true rfl] at z
    exact z
  clear hT hM hp1 hL hML hLL
  obtain ⟨x0, x1, x2, x3⟩ := HR.out.g.cells
  have hT := HTg.out wc HR.out.g.b
  go_wp2_with fail
  with_reducible refine hT.mono ?_
  clear hT x0 x1 x2 x3 HTg
  rintro e w7 ⟨rfl, b7⟩
  have H7 := Lib.hid (HR.out.below b7)
  clear b7 HR
  obtain ⟨x0, x1, x2, x3, y0, y1, y2, y3⟩ := H7.out.ck
  have hT := HTk.out w7 H7.out
  go_wp2_with fail
  with_reducible refine hT.mono ?_
  clear hT x0 x1 x2 x3 y0 y1 y2 y3 HTk
  rintro e w8 ⟨rfl, b8⟩
  have H8 := Lib.hid (H7.out.below b8)
  clear b8 H7
  go_upto_region 16 with (fail)
  have H9 : Hid (Ab w w8.drew cv ev g mb (.slice c5a kc.length c5c) (.slice e5a ke.length e5c) ⟨kb, kt, kc, ke⟩) := H8.out.below (below_drew (Below.refl _ _))
  have CA : Hid (∀ W (b : Ab w W cv ev g mb (.slice c5a kc.length c5c) (.slice e5a ke.length e5c) ⟨kb, kt, kc, ke⟩), W.cell? ⟨w.heap.size, 0, none⟩ = some (.int .u64 (g.base : Nat)) ∧ W.cell? ⟨w.heap.size, 1, none⟩ = some (.int .u64 (g.bt : Nat)) ∧ W.cell? ⟨w.heap.size, 2, none⟩ = some cv ∧ W.cell? ⟨w.heap.size, 3, none⟩ = some ev ∧ W.cell? ⟨mb, 0, none⟩ = some (.int .u64 (kb : Nat)) ∧ W.cell? ⟨mb, 1, none⟩ = some (.int .u64 (kt : Nat)) ∧ W.cell? ⟨mb, 2, none⟩ = some (.slice c5a kc.length c5c) ∧ W.cell? ⟨mb, 3, none⟩ = some (.slice e5a ke.length e5c)) := fun W b => b.ck
  have kA := CA.out _ H9.out
  have h1 := HCg.out _ H9.out.g.b
  go_region_held3 (fun W => W.cell? ⟨w.heap.size, 0, none⟩ = some (.int .u64 (g.base : Nat)) ∧ W.cell? ⟨w.heap.size, 1, none⟩ = some (.int .u64 (g.bt : Nat)) ∧ W.cell? ⟨w.heap.size, 2, none⟩ = some cv ∧ W.cell? ⟨w.heap.size, 3, none⟩ = some ev ∧ W.cell? ⟨mb, 0, none⟩ = some (.int .u64 (kb : Nat)) ∧ W.cell? ⟨mb, 1, none⟩ = some (.int .u64 (kt : Nat)) ∧ W.cell? ⟨mb, 2, none⟩ = some (.slice c5a kc.length c5c) ∧ W.cell? ⟨mb, 3, none⟩ = some (.slice e5a ke.length e5c))
    (first | (with_reducible exact kA) | (with_reducible exact kB) | (with_reducible exact kC) | (with_reducible exact kD) | (with_reducible exact kE) | (with_reducible exact kF) | (with_reducible exact kG))
    (first
      | (go_at_call 20; with_reducible refine h1.mono ?_; rintro e wa ⟨va, rfl, oa, ba⟩; have Ha := Lib.hid (H9.out.below ba); have Sa := Lib.hid oa.sl; have kB := CA.out _ Ha.out; have h2 := HCk.out _ Ha.out; clear oa ba h1)
      | (go_at_call 20; with_reducible refine h2.mono ?_; rintro e wb ⟨vb, rfl, ob, bb⟩; have Hb := Lib.hid (Ha.out.below bb); have kC := CA.out _ Hb.out; have h3 := HNs.out wb va vb (Sa.out.later _ bb) ob.sl; clear ob bb h2)
      | (go_at_call 19; with_reducible refine h3.mono ?_; rintro e wd ⟨rfl, bd⟩; have Hd := Lib.hid (Hb.out.below bd); have kD := CA.out _ Hd.out; have h4 := HSg.out _ Hd.out.g.b; clear bd h3)
      | (go_at_call 22; with_reducible refine h4.mono ?_; rintro e we ⟨ve, rfl, oe, be⟩; have He := Lib.hid (Hd.out.below be); have Se := Lib.hid oe.sl; have kE := CA.out _ He.out; have h5 := HSk.out _ He.out; clear oe be h4)
      | (go_at_call 22; with_reducible refine h5.mono ?_; rintro e wf ⟨vf, rfl, of_, bf⟩; have Hf := Lib.hid (He.out.below bf); have kF := CA.out _ Hf.out; have h6 := HEs.out wf ve vf (Se.out.later _ bf) of_.sl; clear of_ bf h5)
      | (go_at_call 21; with_reducible refine h6.mono ?_; rintro e wg ⟨rfl, bg⟩; have Hg := Lib.hid (Hf.out.below bg); have kG := CA.out _ Hg.out; clear bg h6))
  all_goals go_wp2_with fail
  all_goals go_ret
  all_goals exact ⟨rfl, Hg.out.g.b⟩
end Go.Proofs.Ytojlellnoliapaa.tl
