/-
  What the law's walk stands on, part 1 of 1: the texts TlA1, TlRows, TlA2, TlL1, one behind the other.
-/
import Derived.Test.YtojlellnoliapaaTlP8
import Derived.Test.YtojlellnoliapaaTlR3
import Derived.Test.YtojlellnoliapaaTlSl
import Derived.Test.YtojlellnoliapaaRows
import Derived.ProofKit
import Derived.OpenShut
import Derived.Deep.Slices
import Derived.Deep.SlicePairs
import Derived.SizedLaws
/-! TlA1 -/
namespace Go.Proofs.Ytojlellnoliapaa.tl
set_option linter.unusedVariables false
open Go.RowKit
open pk (S S_size S_data)
open qm (Bs noSh)
open rw (Arr But below_box bnext below_drew below_drewN)

def lgX : Lg := ⟨2, 1, [1, 2], [⟨1, 3, [97]⟩, ⟨2, 2, [2, 1, 3]⟩]⟩
theorem fitX : Fit lgX := ⟨by decide, by decide, by decide, by decide, by intro x hx; simp [lgX] at hx; rcases hx with rfl | rfl <;> exact ⟨by decide, by decide⟩⟩
set_option maxHeartbeats 2000000 in
set_option maxRecDepth 100000 in
theorem log_any (w : World) :
    Calls Try.prog 36 #[] w fun e w' => ∃ cv ev, e = .returned (.agg #[.int .u64 2, .int .u64 1, cv, ev]) ∧ LV w' cv ev lgX ∧ Below w.heap.size w w' := by
  go_enter Try.func36, Try.ntmps36
  go_wp2_with fail
  have k1 := below_box w (.cells #[.int .u64 2, .int .u64 1, .slice (some ⟨w.heap.size + 1, 0, none⟩) 2 2, .slice (some ⟨w.heap.size + 1 + 1, 0, none⟩) 2 2] 26)
  have a1 := Arr.new w 26 (lgC 2 1 (.slice (some ⟨w.heap.size + 1, 0, none⟩) 2 2) (.slice (some ⟨w.heap.size + 1 + 1, 0, none⟩) 2 2))
  have s1 : (w.alloc (.cells #[.int .u64 2, .int .u64 1, .slice (some ⟨w.heap.size + 1, 0, none⟩) 2 2, .slice (some ⟨w.heap.size + 1 + 1, 0, none⟩) 2 2] 26)).heap.size = w.heap.size + 1 := by simp
  have a1 : Arr (w.alloc (.cells #[.int .u64 2, .int .u64 1, .slice (some ⟨w.heap.size + 1, 0, none⟩) 2 2, .slice (some ⟨w.heap.size + 1 + 1, 0, none⟩) 2 2] 26)) w.heap.size 26 (lgC 2 1 (.slice (some ⟨w.heap.size + 1, 0, none⟩) 2 2) (.slice (some ⟨w.heap.size + 1 + 1, 0, none⟩) 2 2)) := a1
  generalize w.alloc (.cells #[.int .u64 2, .int .u64 1, .slice (some ⟨w.heap.size + 1, 0, none⟩) 2 2, .slice (some ⟨w.heap.size + 1 + 1, 0, none⟩) 2 2] 26) = W1 at *
  have k2 := below_box W1 (.cells #[.int .i64 1, .int .i64 2] 3)
  have l1 := (rw.Own.lit noSh W1 [1, 2] (by decide) (by decide)).sl
  have l1 : rw.Sl noSh (W1.alloc (.cells #[.int .i64 1, .int .i64 2] 3)) (.slice (some ⟨w.heap.size + 1, 0, none⟩) 2 2) [1, 2] := by rw [s1] at l1; exact l1
  have s2 : (W1.alloc (.cells #[.int .i64 1, .int .i64 2] 3)).heap.size = w.heap.size + 1 + 1 := by simp [s1]
  have a2 := a1.below k2
  have b2 := k1.trans (k2.mono k1.size)
  generalize W1.alloc (.cells #[.int .i64 1, .int .i64 2] 3) = W2 at *
  have k3 := below_box W2 (.cells #[.int .u64 1, .int .i64 3, .string ⟨#[97]⟩, .int .u64 2, .int .i64 2, .string ⟨#[2, 1, 3]⟩] 54)
  have e1 := (rw.Own.lit enSh W2 lgX.es (by decide) (by simp [lgX])).sl
  have e1 : rw.Sl enSh (W2.alloc (.cells #[.int .u64 1, .int .i64 3, .string ⟨#[97]⟩, .int .u64 2, .int .i64 2, .string ⟨#[2, 1, 3]⟩] 54)) (.slice (some ⟨w.heap.size + 1 + 1, 0, none⟩) 2 2) lgX.es := by rw [s2] at e1; exact e1
  exact bodyPost_ret (results_lg2 rfl rfl (a2.below k3)) rfl ⟨_, _, rfl, ⟨l1.later _ k3, e1⟩, b2.trans (k3.mono b2.size)⟩
/-- Which logs the laws ask about. -/
def Lg.asked (g : Lg) : Bool := g.right && decide (g.es.length ≤ 60)
theorem Lg.asked_iff {g : Lg} : g.asked = true ↔ g.right = true ∧ g.es.length ≤ 60 := by simp [Lg.asked]
/-- What came in, as large as it may be. -/
structure Came (g : Lg) : Prop where
  base : g.base < 18446744073709551616
  bt : g.bt < 18446744073709551616
  conf : g.conf.length ≤ 140737488355328
  es : g.es.length ≤ 140737488355328
  e : ∀ x ∈ g.es, x.term < 18446744073709551616 ∧ x.data.length ≤ 281474976710656
theorem Came.fit {g : Lg} (h : Came g) (ha : g.asked = true) : Fit g := by
  obtain ⟨h1, h2⟩ := Lg.asked_iff.1 ha
  obtain ⟨b, l, c, r⟩ := g.right_iff.1 h1
  exact ⟨by omega, h.bt, by have := Lg.right_conf h1; omega, by omega, h.e⟩
set_option maxHeartbeats 2000000 in
set_option maxRecDepth 100000 in
theorem asked_any (g : Lg) (cv ev : Value) (hg : Came g) (w : World) (h : LV w cv ev g) :
    Calls Try.prog 12 #[g.v cv ev] w fun e w' => e = .returned (.bool g.asked) ∧ Below w.heap.size w w' := by
  obtain ⟨a2, k2, rfl⟩ := sl_form h.l
  have H0 := Lib.hid h.box
  have HR := Lib.hid fun W b => rright_any g cv (.slice a2 g.es.length k2) hg.base hg.bt hg.conf hg.es (fun x hx => (hg.e x hx).1) W (h.later b)
  obtain ⟨N, hN⟩ : ∃ N, g.es.length = N := ⟨_, rfl⟩
  have hA : g.asked = (g.right && decide (N ≤ 60)) := by rw [Lg.asked, hN]
  rw [hA]
  obtain ⟨r, hr⟩ : ∃ r, g.right = r := ⟨_, rfl⟩
  rw [hr] at HR ⊢
  rw [hN] at H0 HR ⊢
  clear h hg hN hA hr
  go_enter Try.func12, Try.ntmps12
  go_upto_region 1 with (fail)
  generalize w.alloc (.cells #[.int .u64 (g.base : Nat), .int .u64 (g.bt : Nat), cv, .slice a2 N k2] 26) = W at *
  obtain ⟨x0, x1, x2, x3⟩ := H0.out.cells
  have hR := HR.out W H0.out.b
  cases r with
  | false =>
    go_wp2_with fail
    with_reducible refine hR.mono ?_
    clear hR x0 x1 x2 x3
    rintro e w2 ⟨rfl, b2⟩
    have B2 := Lib.hid (H0.out.b.trans (b2.mono H0.out.b.size))
    clear b2
    go_wp2_with fail
    go_ret
    exact ⟨rfl, B2.out⟩
  | true =>
    go_wp2_with fail
    with_reducible refine hR.mono ?_
    clear hR x0 x1 x2 x3
    rintro e w2 ⟨rfl, b2⟩
    have H2 := Lib.hid (H0.out.below b2)
    clear b2
    obtain ⟨x0, x1, x2, x3⟩ := H2.out.cells
    go_wp2_with fail
    go_ret
    refine ⟨?_, H2.out.b⟩
    first | rfl | (simp; omega)
end Go.Proofs.Ytojlellnoliapaa.tl
/-! TlRows -/
namespace Go.Proofs.Ytojlellnoliapaa.tl
set_option linter.unusedVariables false
open Go.ChangeShapes Go.WideShapes Go.ChangeAt Go.RowKit
open pk (S)
open qm (noSh)
open rw (addr_add)

theorem S_of (s : ByteArray) : S s.data.toList = s := by simp [S]
instance : Inhabited EnIn := ⟨⟨0, 0, []⟩⟩
/-! ### What holds of any shape -/
def Lite {H : Type} (d : DataW H) (t : TypeId) : Prop := ∀ n ∈ d.weights Try.prog t, n ≤ reachBytes
theorem weights_in {H : Type} {e : TypeId} {n : Nat} : ∀ {es : List (DataW H)} {d : DataW H}, d ∈ es → n ∈ d.weights Try.prog e → n ∈ DataW.weightsAll Try.prog e es
  | x :: r, d, h, hn => by
    rw [DataW.weightsAll, List.mem_append]
    rcases List.mem_cons.1 h with rfl | h
    · exact .inl hn
    · exact .inr (weights_in h hn)
theorem lite_slice {H : Type} {t e : TypeId} {es sp : List (DataW H)} (ht : Try.prog.underlying t = some (.slice e)) (h : Lite (.slice es sp) t) : (es.length + sp.length) * Try.prog.bytesOf e ≤ reachBytes ∧ ∀ d ∈ es, Lite d e := by
  unfold Lite at *
  simp only [DataW.weights, ht] at h
  exact ⟨h _ List.mem_cons_self, fun d hd n hn => h n (List.mem_cons_of_mem _ (List.mem_append.2 (.inl (weights_in hd hn))))⟩
theorem lite_len {H : Type} {t e : TypeId} {es sp : List (DataW H)} (ht : Try.prog.underlying t = some (.slice e)) (he : 1 ≤ Try.prog.bytesOf e) (h : Lite (.slice es sp) t) : es.length ≤ reachBytes := by
  have := (lite_slice ht h).1
  exact Nat.le_trans (Nat.le_trans (Nat.le_add_right _ _) (Nat.le_mul_of_pos_right _ he)) this
theorem lite_arg {H : Type} {ts : List TypeId} {ds : List (DataW H)} (h : (DataW.weightsEach Try.prog ts ds).all (· ≤ reachBytes) = true) {j : Nat} {t : TypeId} {d : DataW H} (ht : ts[j]? = some t) (hd : ds[j]? = some d) : Lite d t := fun n hn => by
  have := List.all_eq_true.1 h _ (DataW.weights_mem_each ht hd n hn)
  simpa using this
section
variable {H : Type} {enc : TypeId × Value → H} {W : World} {fuel : Nat} {cs : List Value} {x : DataW H × List MemPlace}
/-- A struct's field. -/
theorem field_of {t : TypeId} {fs : Array Field} (ht : Try.prog.underlying t = some (.struct fs)) (h : DataW.trod enc Try.prog W 0 (fun _ => true) true fuel t cs = some x) (hw : Lite x.1 t) (i : Nat) (t' : TypeId) (o : Nat) (hm : fs[i]?.map (fun f => (f.type, f.offset)) = some (t', o)) :
    ∃ n y, DataW.trod enc Try.prog W 0 (fun _ => true) true n t' ((cs.drop o).take (Try.prog.cellsOf t')) = some y ∧ Lite y.1 t' := by
  obtain ⟨xs, n, rfl, rfl, hl, hxl, hx⟩ := DataW.trod_struct ht h
  obtain ⟨f, hf, he⟩ := Option.map_eq_some_iff.1 hm
  cases he
  have hi : i < xs.length := by
    rw [hxl]
    obtain ⟨h1, _⟩ := Array.getElem?_eq_some_iff.1 hf
    exact h1
  have h1 := hx i f hf
  rw [List.getElem?_eq_getElem hi] at h1
  refine ⟨n, xs[i], h1, fun m hm => hw m ?_⟩
  simp only [DataW.weights, ht]
  refine DataW.weights_mem_each (j := i) (t := f.type) (d := xs[i].1) ?_ ?_ m hm
  · simp [hf]
  · simp [List.getElem?_eq_getElem hi]
theorem struct_len {t : TypeId} {fs : Array Field} (ht : Try.prog.underlying t = some (.struct fs)) (h : DataW.trod enc Try.prog W 0 (fun _ => true) true fuel t cs = some x) : cs.length = Try.prog.cellsOf t := by
  obtain ⟨xs, n, rfl, rfl, hl, hxl, hx⟩ := DataW.trod_struct ht h
  exact hl
theorem u64_of (h : DataW.trod enc Try.prog W 0 (fun _ => true) true fuel 22 cs = some x) : ∃ n : Nat, cs = [.int .u64 (n : Nat)] ∧ n < 18446744073709551616 := by
  obtain ⟨p, rfl, _, wp⟩ := DataW.trod_int Try.underlying22 h
  have bp : 0 ≤ p ∧ p ≤ 18446744073709551615 := by simpa [Lit.wf, IntKind.min, IntKind.max, IntKind.signed, IntKind.bits] using wp
  exact ⟨p.toNat, by rw [Int.toNat_of_nonneg bp.1], by omega⟩
theorem int_of (h : DataW.trod enc Try.prog W 0 (fun _ => true) true fuel 3 cs = some x) : ∃ n : Int, cs = [.int .i64 n] ∧ n ≤ 9223372036854775807 ∧ -9223372036854775808 ≤ n := by
  obtain ⟨p, rfl, _, wp⟩ := DataW.trod_int Try.underlying3 h
  have bp : -9223372036854775808 ≤ p ∧ p ≤ 9223372036854775807 := by simpa [Lit.wf, IntKind.min, IntKind.max, IntKind.signed, IntKind.bits] using wp
  exact ⟨p, rfl, bp.2, bp.1⟩
theorem str_of (h : DataW.trod enc Try.prog W 0 (fun _ => true) true fuel 9 cs = some x) (hw : Lite x.1 9) : ∃ l : List UInt8, cs = [.string (S l)] ∧ l.length ≤ reachBytes := by
  obtain ⟨s, rfl, d0, _⟩ := DataW.trod_string Try.underlying9 h
  refine ⟨s.data.toList, by rw [S_of], ?_⟩
  subst d0
  exact hw _ (by simp [DataW.weights])
/-- A slice of structs: what its reading gives. -/
theorem slice_of {α : Type} [Inhabited α] (s : rw.Sh α) (P : α → Prop) {t : TypeId} (ht : Try.prog.underlying t = some (.slice s.t)) (hk : Try.prog.cellsOf s.t = s.k)
    (hb : 1 ≤ Try.prog.bytesOf s.t) (hel : ∀ {n : Nat} {cs : List Value} {x : DataW H × List MemPlace}, DataW.trod enc Try.prog W 0 (fun _ => true) true n s.t cs = some x → Lite x.1 s.t → ∃ e, cs = s.enc e ∧ P e)
    (h : DataW.trod enc Try.prog W 0 (fun _ => true) true fuel t cs = some x) (hw : Lite x.1 t) : ∃ v l, cs = [v] ∧ rw.Sl s W v l ∧ (∀ e ∈ l, P e) ∧ l.length ≤ reachBytes := by
  rcases Deep.open_slice ht h with ⟨hcs, hx⟩ | ⟨x, l', c', m, n, D, Pl, hcs, _, hl, hm, hmm, hx, hcell⟩
  · exact ⟨_, [], hcs, rw.Sl.nil s W, fun e he => (by cases he), Nat.zero_le _⟩
  · simp only [if_true] at hmm
    subst hx
    rw [hk] at hcell
    have hls := lite_slice ht hw
    have liteI : ∀ i, i < l' → Lite (D i) s.t := fun i hi => hls.2 _ (List.mem_map.2 ⟨i, List.mem_range.2 hi, rfl⟩)
    have key : ∀ i, i < l' → ∃ k : α, (∀ j, j < s.k → W.cell? (x.add (i * s.k + j)) = (s.enc k)[j]?) ∧ P k := fun i hi => by
      obtain ⟨cs', h1, h2⟩ := hcell i (by omega)
      obtain ⟨k, rfl, hk⟩ := hel h2 (liteI i hi)
      obtain ⟨_, _, hc⟩ := World.cells?_some h1
      refine ⟨k, fun j hj => ?_, hk⟩
      have := hc j hj
      rw [Deep.add_add] at this
      exact this
    obtain ⟨f, hfr⟩ := Deep.choose_lt key
    refine ⟨_, (List.range l').map f, hcs, ⟨some x, c', by simp, by simpa using hl, ?_, fun e => by cases e⟩, ?_, ?_⟩
    · by_cases h0 : l' = 0
      · subst h0
        exact .inl (by simp)
      · obtain ⟨b, off, spot⟩ := x
        have hk0 := s.hk
        have h00 := (hfr 0 (by omega)).1 0 hk0
        have hen : 0 < (s.enc (f 0)).length := by rw [s.len]; exact hk0
        rw [List.getElem?_eq_getElem hen] at h00
        have hspot : spot = none := by simpa [Addr.add] using World.cell?_spot h00
        subst hspot
        refine .inr ⟨b, off, rfl, by have := World.block_lt_of_cell? W _ h00; rw [addr_add] at this; exact this, fun j hj i hi => ?_⟩
        have hj' : j < l' := by simpa using hj
        have h1 := (hfr j hj').1 i hi
        rw [addr_add] at h1
        simp only [List.getElem_map, List.getElem_range]
        rw [Nat.add_assoc]
        exact h1
    · intro k hk
      obtain ⟨i, hi, rfl⟩ := List.mem_map.1 hk
      rw [List.mem_range] at hi
      exact (hfr i hi).2
    · have h9 := lite_len ht hb hw
      simp only [List.length_map, List.length_range] at h9 ⊢
      exact h9
end
theorem reach47 : reachBytes ≤ 140737488355328 := by decide

section
variable {H : Type} {enc : TypeId × Value → H} {W : World} {fuel : Nat} {cs : List Value} {x : DataW H × List MemPlace}
set_option maxRecDepth 100000 in
theorem ent_of (h : DataW.trod enc Try.prog W 0 (fun _ => true) true fuel 54 cs = some x) (hw : Lite x.1 54) :
    ∃ e : EnIn, cs = enSh.enc e ∧ (e.term < 18446744073709551616 ∧ e.data.length ≤ 281474976710656) := by
  have hu := Try.underlying54
  have hl : cs.length = 3 := (struct_len hu h).trans (by kernel_rfl)
  obtain ⟨c0, c1, c2, rfl⟩ : ∃ c0 c1 c2, cs = [c0, c1, c2] := by
    match cs, hl with
    | [a, b, c], _ => exact ⟨a, b, c, rfl⟩
  have eI : Try.prog.cellsOf 3 = 1 := by kernel_rfl
  have eU : Try.prog.cellsOf 22 = 1 := by kernel_rfl
  have eS : Try.prog.cellsOf 9 = 1 := by kernel_rfl
  obtain ⟨n0, y0, f0, _⟩ := field_of hu h hw 0 22 0 rfl
  obtain ⟨n1, y1, f1, _⟩ := field_of hu h hw 1 3 1 rfl
  obtain ⟨n2, y2, f2, g2⟩ := field_of hu h hw 2 9 2 rfl
  simp only [eI, eU, eS, List.drop_zero, List.drop_succ_cons, List.take_succ_cons, List.take_zero] at f0 f1 f2
  obtain ⟨z0, e0, b0⟩ := u64_of f0
  obtain ⟨z1, e1, _⟩ := int_of f1
  obtain ⟨s2, e2, b2⟩ := str_of f2 g2
  simp only [List.cons.injEq, and_true] at e0 e1 e2
  subst e0 e1 e2
  exact ⟨⟨z0, z1, s2⟩, rfl, b0, Nat.le_trans b2 (by decide)⟩
theorem no_of (h : DataW.trod enc Try.prog W 0 (fun _ => true) true fuel 3 cs = some x) (_ : Lite x.1 3) :
    ∃ e : Int, cs = noSh.enc e ∧ True := by
  obtain ⟨z, e, _⟩ := int_of h
  exact ⟨z, e, trivial⟩
set_option maxRecDepth 100000 in
theorem es_of (h : DataW.trod enc Try.prog W 0 (fun _ => true) true fuel 24 cs = some x) (hw : Lite x.1 24) :
    ∃ v l, cs = [v] ∧ rw.Sl enSh W v l ∧ (∀ e ∈ l, e.term < 18446744073709551616 ∧ e.data.length ≤ 281474976710656) ∧ l.length ≤ reachBytes :=
  slice_of enSh (fun e => e.term < 18446744073709551616 ∧ e.data.length ≤ 281474976710656) Try.underlying24 (by kernel_rfl) (of_decide_eq_true (by kernel_rfl)) ent_of h hw
set_option maxRecDepth 100000 in
theorem nos_of (h : DataW.trod enc Try.prog W 0 (fun _ => true) true fuel 23 cs = some x) (hw : Lite x.1 23) :
    ∃ v l, cs = [v] ∧ rw.Sl noSh W v l ∧ (∀ e ∈ l, True) ∧ l.length ≤ reachBytes :=
  slice_of noSh (fun _ => True) Try.underlying23 (by kernel_rfl) (of_decide_eq_true (by kernel_rfl)) no_of h hw
set_option maxRecDepth 100000 in
theorem lg_of (h : DataW.trod enc Try.prog W 0 (fun _ => true) true fuel 26 cs = some x) (hw : Lite x.1 26) :
    ∃ (g : Lg) (cv ev : Value), cs = (lgC g.base g.bt cv ev).toList ∧ LV W cv ev g ∧ Came g := by
  have hu := Try.underlying26
  have hl : cs.length = 4 := (struct_len hu h).trans (by kernel_rfl)
  obtain ⟨c0, c1, c2, c3, rfl⟩ : ∃ c0 c1 c2 c3, cs = [c0, c1, c2, c3] := by
    match cs, hl with
    | [a, b, c, d], _ => exact ⟨a, b, c, d, rfl⟩
  have eU : Try.prog.cellsOf 22 = 1 := by kernel_rfl
  have eN : Try.prog.cellsOf 23 = 1 := by kernel_rfl
  have eE : Try.prog.cellsOf 24 = 1 := by kernel_rfl
  obtain ⟨n0, y0, f0, _⟩ := field_of hu h hw 0 22 0 rfl
  obtain ⟨n1, y1, f1, _⟩ := field_of hu h hw 1 22 1 rfl
  obtain ⟨n2, y2, f2, g2⟩ := field_of hu h hw 2 23 2 rfl
  obtain ⟨n3, y3, f3, g3⟩ := field_of hu h hw 3 24 3 rfl
  simp only [eU, eN, eE, List.drop_zero, List.drop_succ_cons, List.take_succ_cons, List.take_zero] at f0 f1 f2 f3
  obtain ⟨z0, e0, b0⟩ := u64_of f0
  obtain ⟨z1, e1, b1⟩ := u64_of f1
  obtain ⟨cv, c, e2, s2, _, l2⟩ := nos_of f2 g2
  obtain ⟨ev, l, e3, s3, t3, l3⟩ := es_of f3 g3
  simp only [List.cons.injEq, and_true] at e0 e1 e2 e3
  subst e0 e1 e2 e3
  exact ⟨⟨z0, z1, c, l⟩, _, _, rfl, ⟨s2, s3⟩, ⟨b0, b1, Nat.le_trans l2 reach47, Nat.le_trans l3 reach47, t3⟩⟩
end
theorem log_of {H : Type} {enc : TypeId × Value → H} {W : World} {base : Nat} {v : Value} {d : DataW H} {p : List MemPlace} (hval : Value.okWide Try.prog W .any base 26 v) (h : DataW.Trod enc Try.prog W 0 (fun _ => true) true 26 v d p) (hw : Lite d 26) :
    ∃ (g : Lg) (cv ev : Value), v = g.v cv ev ∧ LV W cv ev g ∧ Came g := by
  obtain ⟨cs, rfl, hsz⟩ := okWide_struct Try.underlying26 hval
  obtain ⟨fuel, hf⟩ := h
  obtain ⟨g, cv, ev, h1, h2, h3⟩ := lg_of hf hw
  refine ⟨g, cv, ev, ?_, h2, h3⟩
  simp only [Value.cells] at h1
  have : cs = lgC g.base g.bt cv ev := by rw [← Array.toList_inj]; exact h1
  rw [this]
  rfl
theorem entries_of {H : Type} {enc : TypeId × Value → H} {W : World} {a : Option Addr} {len cap : Nat} {d : DataW H} {p : List MemPlace} (h : DataW.Trod enc Try.prog W 0 (fun _ => true) true 24 (.slice a len cap) d p) (hw : Lite d 24) :
    ∃ l : List EnIn, rw.Sl enSh W (.slice a len cap) l ∧ (∀ e ∈ l, e.term < 18446744073709551616 ∧ e.data.length ≤ 281474976710656) ∧ l.length ≤ 140737488355328 := by
  obtain ⟨fuel, hf⟩ := h
  obtain ⟨v, l, h1, h2, h3, h4⟩ := es_of hf hw
  simp only [Value.cells, List.cons.injEq, and_true] at h1
  subst h1
  exact ⟨l, h2, h3, Nat.le_trans h4 reach47⟩
theorem ints_of {H : Type} {enc : TypeId × Value → H} {W : World} {a : Option Addr} {len cap : Nat} {d : DataW H} {p : List MemPlace} (h : DataW.Trod enc Try.prog W 0 (fun _ => true) true 23 (.slice a len cap) d p) (hw : Lite d 23) :
    ∃ l : List Int, rw.Sl noSh W (.slice a len cap) l ∧ l.length ≤ 140737488355328 := by
  obtain ⟨fuel, hf⟩ := h
  obtain ⟨v, l, h1, h2, h3, h4⟩ := nos_of hf hw
  simp only [Value.cells, List.cons.injEq, and_true] at h1
  subst h1
  exact ⟨l, h2, Nat.le_trans h4 reach47⟩
theorem u64_in_ {n : Int} (h : (Lit.int .u64 n).wf = true) : ∃ k : Nat, n = (k : Nat) ∧ k < 18446744073709551616 := by
  have bp : 0 ≤ n ∧ n ≤ 18446744073709551615 := by simpa [Lit.wf, IntKind.min, IntKind.max, IntKind.signed, IntKind.bits] using h
  exact ⟨n.toNat, by omega, by omega⟩
theorem i64_in_ {n : Int} (h : (Lit.int .i64 n).wf = true) : -9223372036854775808 ≤ n ∧ n ≤ 9223372036854775807 := by
  simpa [Lit.wf, IntKind.min, IntKind.max, IntKind.signed, IntKind.bits] using h
end Go.Proofs.Ytojlellnoliapaa.tl
/-! TlA2 -/
namespace Go.Proofs.Ytojlellnoliapaa.tl
set_option linter.unusedVariables false
open Go.RowKit
open pk (S S_size S_data)
open qm (Bs noSh)
open rw (Arr But below_box bnext below_drew below_drewN)

theorem alX1 : lgX.last = 4 ∧ lgX.lastT = 2 := by decide
theorem alX2 : lgX.mem lgX.es.length = ([1, 3], 4) := by decide
theorem alX3 : lgX.merge 3 1 [⟨3, 1, []⟩] = (⟨2, 1, [1, 2], [⟨1, 3, [97]⟩, ⟨3, 1, []⟩]⟩, 4, true) := by rfl
theorem alX4 : lgX.compact 3 = (⟨3, 1, [1, 2], [⟨2, 2, [2, 1, 3]⟩]⟩, true) := by rfl
set_option maxHeartbeats 8000000 in
set_option maxRecDepth 100000 in
theorem alive_any (w : World) : Calls Try.prog 9 #[] w fun e w' => e = .returned (.bool true) ∧ Below w.heap.size w w' := by
  have HG := Lib.hid fun W => log_any W
  have HL : Hid (∀ (W : World) (cv ev : Value) (h : LV W cv ev lgX), Calls Try.prog 13 #[.agg #[.int .u64 2, .int .u64 1, cv, ev]] W fun e w' => e = .returned (.tuple #[.int .u64 4, .int .u64 2]) ∧ Below W.heap.size W w') := fun W cv ev h => by
    have k := last_any lgX cv ev fitX W h
    rw [alX1.1, alX1.2] at k
    exact k
  have HC : Hid (∀ (W : World) (cv ev : Value) (h : LV W cv ev lgX), Calls Try.prog 17 #[.agg #[.int .u64 2, .int .u64 1, cv, ev]] W fun e w' => ∃ u, e = .returned (.tuple #[u, .int .u64 4]) ∧ rw.Own noSh w' W.heap.size u [1, 3] ∧ Below W.heap.size W w') := fun W cv ev h => by
    have k := conf_any lgX cv ev fitX W h
    rw [alX2] at k
    exact k
  have HM : Hid (∀ (W : World) (cv ev lv : Value) (h : LV W cv ev lgX) (hl : rw.Sl enSh W lv [⟨3, 1, []⟩]), Calls Try.prog 27 #[.agg #[.int .u64 2, .int .u64 1, cv, ev], .int .u64 3, .int .u64 1, lv] W fun e w' => ∃ cv ev, e = .returned (.tuple #[.agg #[.int .u64 2, .int .u64 1, cv, ev], .int .u64 4, .bool true]) ∧ rw.Own noSh w' W.heap.size cv [1, 2] ∧ rw.Own enSh w' W.heap.size ev [⟨1, 3, [97]⟩, ⟨3, 1, []⟩] ∧ Below W.heap.size W w') := fun W cv ev lv h hl => by
    have k := merge_any lgX cv ev 3 1 lv [⟨3, 1, []⟩] (by decide) (by decide) (by decide) (by intro x hx; simp at hx; subst hx; exact ⟨by decide, by decide⟩) fitX W h hl
    rw [alX3] at k
    exact k
  have HK : Hid (∀ (W : World) (cv ev : Value) (h : LV W cv ev lgX), Calls Try.prog 31 #[.agg #[.int .u64 2, .int .u64 1, cv, ev], .int .u64 3] W fun e w' => ∃ cv ev, e = .returned (.tuple #[.agg #[.int .u64 3, .int .u64 1, cv, ev], .bool true]) ∧ rw.Own noSh w' W.heap.size cv [1, 2] ∧ rw.Own enSh w' W.heap.size ev [⟨2, 2, [2, 1, 3]⟩] ∧ Below W.heap.size W w') := fun W cv ev h => by
    have k := compact_any lgX cv ev 3 (by decide) fitX W h
    rw [alX4] at k
    exact k
  have HS := Lib.hid fun (W : World) (u v : Value) (h1 : qm.Ns W u [1, 3]) (h2 : qm.Ns W v [1, 3]) => qm.same_any u v [1, 3] [1, 3] (by decide) (by decide) W h1 h2
  rw [decide_eq_true rfl] at HS
  have hg := HG.out w
  go_enter Try.func9, Try.ntmps9
  go_wp2_with fail
  with_reducible refine hg.mono ?_
  clear hg
  rintro e w1 ⟨cv1, ev1, rfl, v1, b1⟩
  have hl := HL.out w1 cv1 ev1 v1
  have B1 := Lib.hid b1
  clear v1 b1
  go_wp2_with fail
  with_reducible refine hl.mono ?_
  clear hl
  rintro e w2 ⟨rfl, b2⟩
  have B2 : Hid (Below w.heap.size w w2) := B1.out.trans (b2.mono B1.out.size)
  have hg := HG.out w2
  clear b2
  go_wp2_with fail
  with_reducible refine hg.mono ?_
  clear hg
  rintro e w3 ⟨cv3, ev3, rfl, v3, b3⟩
  have hc := HC.out w3 cv3 ev3 v3
  have B3 : Hid (Below w.heap.size w w3) := B2.out.trans (b3.mono B2.out.size)
  clear v3 b3
  go_wp2_with fail
  with_reducible refine hc.mono ?_
  clear hc
  rintro e w4 ⟨u4, rfl, o4, b4⟩
  have H4 : Hid (Below w.heap.size w w4 ∧ qm.Ns w4 u4 [1, 3]) := ⟨B3.out.trans (b4.mono B3.out.size), o4.sl⟩
  obtain ⟨ua, uc, rfl⟩ := o4.form
  have hg := HG.out w4
  clear o4 b4
  go_wp2_with fail
  with_reducible refine hg.mono ?_
  clear hg
  rintro e w5 ⟨cv5, ev5, rfl, v5, b5⟩
  have H5 : Hid (Below w.heap.size w w5 ∧ qm.Ns w5 (.slice ua [(1 : Int), 3].length uc) [1, 3]) := ⟨H4.out.1.trans (b5.mono H4.out.1.size), H4.out.2.later _ b5⟩
  have k6 := below_box w5 (.cells #[.int .u64 3, .int .i64 1, .string ⟨#[]⟩] 54)
  have l6 : rw.Sl enSh (w5.alloc (.cells #[.int .u64 3, .int .i64 1, .string ⟨#[]⟩] 54)) (.slice (some ⟨w5.heap.size, 0, none⟩) 1 1) [⟨3, 1, []⟩] := (rw.Own.lit enSh w5 [⟨3, 1, []⟩] (by decide) (by simp)).sl
  have hm := HM.out _ cv5 ev5 _ (v5.later k6) l6
  have B6 : Hid (Below w.heap.size w (w5.alloc (.cells #[.int .u64 3, .int .i64 1, .string ⟨#[]⟩] 54)) ∧ qm.Ns (w5.alloc (.cells #[.int .u64 3, .int .i64 1, .string ⟨#[]⟩] 54)) (.slice ua [(1 : Int), 3].length uc) [1, 3]) := ⟨H5.out.1.trans (k6.mono H5.out.1.size), H5.out.2.later _ k6⟩
  clear k6 l6 v5 b5
  go_wp2_with fail
  generalize w5.alloc (.cells #[.int .u64 3, .int .i64 1, .string ⟨#[]⟩] 54) = w6 at *
  with_reducible refine hm.mono ?_
  clear hm
  rintro e w7 ⟨cv7, ev7, rfl, o7, p7, b7⟩
  have c7 := o7.sl
  have e7 := p7.sl
  obtain ⟨ca, cc, rfl⟩ := o7.form
  obtain ⟨ea, ec, rfl⟩ := p7.form
  simp only [List.length_cons, List.length_nil, Nat.reduceAdd] at c7 e7 ⊢
  have k8 := below_box w7 (.cells #[.int .u64 2, .int .u64 1, .slice ca 2 cc, .slice ea 2 ec] 26)
  have a8 := Arr.new w7 26 #[.int .u64 2, .int .u64 1, .slice ca 2 cc, .slice ea 2 ec]
  obtain ⟨q, hq⟩ : ∃ q, w7.heap.size = q := ⟨_, rfl⟩
  have H8 : Hid (Below w.heap.size w (w7.alloc (.cells #[.int .u64 2, .int .u64 1, .slice ca 2 cc, .slice ea 2 ec] 26)) ∧ qm.Ns (w7.alloc (.cells #[.int .u64 2, .int .u64 1, .slice ca 2 cc, .slice ea 2 ec] 26)) (.slice ua [(1 : Int), 3].length uc) [1, 3] ∧ Arr (w7.alloc (.cells #[.int .u64 2, .int .u64 1, .slice ca 2 cc, .slice ea 2 ec] 26)) q 26 #[.int .u64 2, .int .u64 1, .slice ca 2 cc, .slice ea 2 ec] ∧ rw.Sl enSh (w7.alloc (.cells #[.int .u64 2, .int .u64 1, .slice ca 2 cc, .slice ea 2 ec] 26)) (.slice ea 2 ec) [⟨1, 3, [97]⟩, ⟨3, 1, []⟩]) :=
    ⟨B6.out.1.trans ((b7.trans (k8.mono b7.size)).mono B6.out.1.size), (B6.out.2.later _ b7).later _ k8, hq ▸ a8, e7.later _ k8⟩
  have HQ := Lib.hid hq
  clear o7 p7 b7 c7 e7 k8 a8
  go_wp2_with fail
  try rw [HQ.out]
  generalize w7.alloc (.cells #[.int .u64 2, .int .u64 1, .slice ca 2 cc, .slice ea 2 ec] 26) = w8 at *
  clear HQ hq
  have hg := HG.out w8
  try go_wp2_with fail
  with_reducible refine hg.mono ?_
  clear hg
  rintro e w9 ⟨cv9, ev9, rfl, v9, b9⟩
  have H9 : Hid (Below w.heap.size w w9 ∧ qm.Ns w9 (.slice ua [(1 : Int), 3].length uc) [1, 3] ∧ Arr w9 q 26 #[.int .u64 2, .int .u64 1, .slice ca 2 cc, .slice ea 2 ec] ∧ rw.Sl enSh w9 (.slice ea 2 ec) [⟨1, 3, [97]⟩, ⟨3, 1, []⟩]) :=
    ⟨H8.out.1.trans (b9.mono H8.out.1.size), H8.out.2.1.later _ b9, H8.out.2.2.1.below b9, H8.out.2.2.2.later _ b9⟩
  have hk := HK.out w9 cv9 ev9 v9
  clear v9 b9
  go_wp2_with fail
  with_reducible refine hk.mono ?_
  clear hk
  rintro e wA ⟨cvA, evA, rfl, oA, pA, bA⟩
  obtain ⟨ca2, cc2, rfl⟩ := oA.form
  obtain ⟨ea2, ec2, rfl⟩ := pA.form
  simp only [List.length_cons, List.length_nil, Nat.reduceAdd]
  have kB := below_box wA (.cells #[.int .u64 3, .int .u64 1, .slice ca2 2 cc2, .slice ea2 1 ec2] 26)
  have aB := Arr.new wA 26 #[.int .u64 3, .int .u64 1, .slice ca2 2 cc2, .slice ea2 1 ec2]
  have bAB := bA.trans (kB.mono bA.size)
  obtain ⟨p, hp⟩ : ∃ p, wA.heap.size = p := ⟨_, rfl⟩
  have HB : Hid (Below w.heap.size w (wA.alloc (.cells #[.int .u64 3, .int .u64 1, .slice ca2 2 cc2, .slice ea2 1 ec2] 26)) ∧ qm.Ns (wA.alloc (.cells #[.int .u64 3, .int .u64 1, .slice ca2 2 cc2, .slice ea2 1 ec2] 26)) (.slice ua [(1 : Int), 3].length uc) [1, 3] ∧ Arr (wA.alloc (.cells #[.int .u64 3, .int .u64 1, .slice ca2 2 cc2, .slice ea2 1 ec2] 26)) q 26 #[.int .u64 2, .int .u64 1, .slice ca 2 cc, .slice ea 2 ec] ∧ rw.Sl enSh (wA.alloc (.cells #[.int .u64 3, .int .u64 1, .slice ca2 2 cc2, .slice ea2 1 ec2] 26)) (.slice ea 2 ec) [⟨1, 3, [97]⟩, ⟨3, 1, []⟩] ∧ Arr (wA.alloc (.cells #[.int .u64 3, .int .u64 1, .slice ca2 2 cc2, .slice ea2 1 ec2] 26)) p 26 #[.int .u64 3, .int .u64 1, .slice ca2 2 cc2, .slice ea2 1 ec2]) :=
    ⟨H9.out.1.trans (bAB.mono H9.out.1.size), H9.out.2.1.later _ bAB, H9.out.2.2.1.below bAB, H9.out.2.2.2.later _ bAB, hp ▸ aB⟩
  have HP := Lib.hid hp
  clear oA pA bA kB aB bAB
  go_upto_region 5 with (fail)
  try rw [HP.out]
  generalize wA.alloc (.cells #[.int .u64 3, .int .u64 1, .slice ca2 2 cc2, .slice ea2 1 ec2] 26) = wB at *
  clear HP hp
  have kC := below_box wB (.cells #[.int .i64 1, .int .i64 3] 3)
  have l3 : qm.Ns (wB.alloc (.cells #[.int .i64 1, .int .i64 3] 3)) (.slice (some ⟨wB.heap.size, 0, none⟩) 2 2) [1, 3] := (rw.Own.lit noSh wB [1, 3] (by decide) (by simp)).sl
  have hs := HS.out _ _ _ (HB.out.2.1.later _ kC) l3
  simp only [List.length_cons, List.length_nil, Nat.reduceAdd] at hs
  have HC : Hid (∀ W', Below (wB.alloc (.cells #[.int .i64 1, .int .i64 3] 3)).heap.size (wB.alloc (.cells #[.int .i64 1, .int .i64 3] 3)) W' → Below w.heap.size w W' ∧ W'.cell? ⟨q, 3, none⟩ = some (.slice ea 2 ec) ∧ W'.cell? ⟨p, 0, none⟩ = some (.int .u64 3) ∧ W'.cell? ⟨p, 3, none⟩ = some (.slice ea2 1 ec2) ∧ rw.Sl enSh W' (.slice ea 2 ec) [⟨1, 3, [97]⟩, ⟨3, 1, []⟩]) := fun W' b => by
    have bb := kC.trans (b.mono kC.size)
    exact ⟨HB.out.1.trans (bb.mono HB.out.1.size), (HB.out.2.2.1.below bb).cell rfl, (HB.out.2.2.2.2.below bb).cell rfl, (HB.out.2.2.2.2.below bb).cell rfl, HB.out.2.2.2.1.later _ bb⟩
  clear kC l3 HB
  go_wp2_with fail
  refine hs.mono ?_
  clear hs
  rintro e wC ⟨rfl, bC⟩
  obtain ⟨B, z0, z1, z2, z3⟩ := HC.out wC bC
  obtain ⟨b, off, c, e, hbw, y0, y1, y2⟩ := slE_at z3 (j := 1) (by decide)
  injection e with e1 e2 e3
  subst e1 e3
  simp only [List.getElem_cons_succ, List.getElem_cons_zero, Nat.one_mul] at y0
  have HBB := Lib.hid B
  clear bC B z3 hbw y1 y2 e2
  have y0' : wC.cell? ⟨b, off + 3, none⟩ = some (.int .u64 3) := y0
  go_wp2_with fail
  go_ret
  exact ⟨rfl, HBB.out⟩
end Go.Proofs.Ytojlellnoliapaa.tl
/-! TlL1 -/
namespace Go.Proofs.Ytojlellnoliapaa.tl
set_option linter.unusedVariables false
open Go.RowKit
open pk (S S_size S_data)
open qm (Bs noSh)
open rw (Arr But below_box bnext below_drew below_drewN)

theorem stays_eq (g : Lg) (prev : Nat) (most : Int) (t : Nat) (ht : g.term prev = (t, true)) : g.merge prev t (g.slice (prev + 1) most) = (g, 0, true) := by
  have hr : g.rch prev = true := by
    rcases hr : g.rch prev with _ | _
    · rw [Lg.term_no hr] at ht; cases ht
    · rfl
  have hi := Lg.rch_iff.1 hr
  have hup := Lg.upTo_of hr
  unfold Lg.merge Lg.behind
  rw [if_neg (by omega), if_pos ht, hup]
  have : alike (g.es.drop (prev - g.base)) (g.slice (prev + 1) most) = (g.slice (prev + 1) most).length := by
    unfold Lg.slice
    split
    · rw [show prev + 1 - g.base - 1 = prev - g.base by omega, alike_self, List.length_take]
    · cases g.es.drop (prev - g.base) <;> rfl
  simp only [this, if_true]
/-- The log in its box, another one in another box. -/
structure Rst (w F : World) (cv ev : Value) (g k : Lg) (mb : Nat) (cv2 ev2 : Value) : Prop where
  g : Bx w F w.heap.size cv ev g
  m : Arr F mb 26 (lgC k.base k.bt cv2 ev2)
  c : rw.Sl noSh F cv2 k.conf
  l : rw.Sl enSh F ev2 k.es
theorem Rst.later {w F F' : World} {cv ev : Value} {g k : Lg} {mb : Nat} {cv2 ev2 : Value} (h : Rst w F cv ev g k mb cv2 ev2) (b : Below F.heap.size F F') : Rst w F' cv ev g k mb cv2 ev2 := ⟨h.g.below b, h.m.below b, h.c.later _ b, h.l.later _ b⟩
theorem Rst.cm {w F : World} {cv ev : Value} {g k : Lg} {mb : Nat} {cv2 ev2 : Value} (h : Rst w F cv ev g k mb cv2 ev2) :
    F.cell? ⟨mb, 0, none⟩ = some (.int .u64 (k.base : Nat)) ∧ F.cell? ⟨mb, 1, none⟩ = some (.int .u64 (k.bt : Nat)) ∧ F.cell? ⟨mb, 2, none⟩ = some cv2 ∧ F.cell? ⟨mb, 3, none⟩ = some ev2 := ⟨h.m.cell rfl, h.m.cell rfl, h.m.cell rfl, h.m.cell rfl⟩
theorem Rst.new {w W : World} {cv ev cv2 ev2 : Value} {g k : Lg} (h : Bx w W w.heap.size cv ev g) (o : rw.Sl noSh W cv2 k.conf) (p : rw.Sl enSh W ev2 k.es) : Rst w (W.alloc (.cells #[.int .u64 (k.base : Nat), .int .u64 (k.bt : Nat), cv2, ev2] 26)) cv ev g k W.heap.size cv2 ev2 :=
  have b := below_box W (.cells #[.int .u64 (k.base : Nat), .int .u64 (k.bt : Nat), cv2, ev2] 26)
  ⟨h.below b, Arr.new W _ _, o.later _ b, p.later _ b⟩
theorem Rst.lay {w W : World} {cv ev cv2 ev2 : Value} {g k : Lg} {mb : Nat} (h0 : LV w cv ev g) (h : Bx w W w.heap.size cv ev g) (hm : Arr W mb 26 #[.int .u64 0, .int .u64 0, .slice none 0 0, .slice none 0 0]) (hb : w.heap.size < mb) (o : rw.Own noSh W w.heap.size cv2 k.conf) (p : rw.Own enSh W w.heap.size ev2 k.es) : Rst w (layL W mb k.base k.bt cv2 ev2) cv ev g k mb cv2 ev2 := by
  have kb := layL_but W mb k.base k.bt cv2 ev2
  have b := h.b.trans (kb.below h.b.size (by omega))
  exact ⟨⟨kb.arr h.a (by omega), h0.later b, b⟩, layL_arr hm, (own_but o hm (by decide) kb).sl, (own_but p hm (by decide) kb).sl⟩
/-- The box for what comes, laid or not. -/
structure Sy (w W : World) (cv ev : Value) (g : Lg) (o : Option Nat) : Prop where
  g : Bx w W w.heap.size cv ev g
  o : ∀ mb, o = some mb → w.heap.size < mb ∧ Arr W mb 26 #[.int .u64 0, .int .u64 0, .slice none 0 0, .slice none 0 0]
theorem Sy.below {w W W' : World} {cv ev : Value} {g : Lg} {o : Option Nat} (h : Sy w W cv ev g o) (b : Below W.heap.size W W') : Sy w W' cv ev g o := ⟨h.g.below b, fun mb e => ⟨(h.o mb e).1, (h.o mb e).2.below b⟩⟩
theorem Sy.alloc {w W : World} {cv ev : Value} {g : Lg} (h : Sy w W cv ev g none) : Sy w (W.alloc (.cells #[.int .u64 0, .int .u64 0, .slice none 0 0, .slice none 0 0] 26)) cv ev g (some W.heap.size) :=
  ⟨h.g.below (below_box _ _), fun mb e => by cases e; exact ⟨h.g.a.lt, Arr.new W _ _⟩⟩
theorem Sy.cm {w W : World} {cv ev : Value} {g : Lg} {mb : Nat} (h : Sy w W cv ev g (some mb)) :
    W.cell? ⟨mb, 0, none⟩ = some (.int .u64 0) ∧ W.cell? ⟨mb, 1, none⟩ = some (.int .u64 0) ∧ W.cell? ⟨mb, 2, none⟩ = some (.slice none 0 0) ∧ W.cell? ⟨mb, 3, none⟩ = some (.slice none 0 0) ∧ W.frozen? ⟨mb, 0, none⟩ = false ∧ W.frozen? ⟨mb, 1, none⟩ = false ∧ W.frozen? ⟨mb, 2, none⟩ = false ∧ W.frozen? ⟨mb, 3, none⟩ = false := by
  have a := (h.o mb rfl).2
  exact ⟨a.cell rfl, a.cell rfl, a.cell rfl, a.cell rfl, a.frozen 0, a.frozen 1, a.frozen 2, a.frozen 3⟩
theorem fit_slice {g : Lg} (hf : Fit g) (f : Nat) (m : Int) : (g.slice f m).length ≤ 1000000 ∧ ∀ x ∈ g.slice f m, x.term < 18446744073709551616 ∧ x.data.length ≤ 281474976710656 :=
  ⟨Nat.le_trans (slice_len g f m) hf.es, fun x hx => hf.e x (slice_sub g f m x hx)⟩
theorem term_lt {g : Lg} (hf : Fit g) (i : Nat) : (g.term i).1 < 18446744073709551616 := by
  unfold Lg.term
  split
  · rename_i h
    simp only [Lg.tb]
    split
    · exact hf.bt
    · have := g.upTo_le i
      rw [getD_at (by omega)]
      exact (hf.e _ (List.getElem_mem _)).1
  · decide
set_option maxHeartbeats 8000000 in
set_option maxRecDepth 100000 in
theorem stays_walk (g : Lg) (cv ev : Value) (prev : Nat) (most : Int) (hp : prev < 18446744073709551616) (hm : -9223372036854775808 ≤ most ∧ most ≤ 9223372036854775807) (hg : Came g) (w : World) (h : LV w cv ev g) :
    Calls Try.prog 7 #[g.v cv ev, .int .u64 (prev : Nat), .int .i64 most] w fun e w' => e = .returned (.bool true) ∧ Below w.heap.size w w' := by
  have H0 := Lib.hid h.box
  have HAl := Lib.hid fun W => alive_any W
  have HAs := Lib.hid fun W b => asked_any g cv ev hg W (h.later b)
  have HV := Lib.hid h
  have HG := Lib.hid hg
  obtain ⟨r, hr⟩ : ∃ r, g.asked = r := ⟨_, rfl⟩
  rw [hr] at HAs
  have HRR := Lib.hid hr
  clear h hg hr
  go_enter Try.func7, Try.ntmps7
  go_upto_region 1 with (fail)
  generalize w.alloc (.cells #[.int .u64 (g.base : Nat), .int .u64 (g.bt : Nat), cv, ev] 26) = W at *
  have hAl := HAl.out W
  go_wp2_with fail
  with_reducible refine hAl.mono ?_
  clear hAl HAl
  rintro e w1 ⟨rfl, b1⟩
  have H1 := Lib.hid (H0.out.below b1)
  clear b1 H0
  obtain ⟨x0, x1, x2, x3⟩ := H1.out.cells
  have hAs := HAs.out w1 H1.out.b
  cases r with
  | false =>
    go_wp2_with fail
    with_reducible refine hAs.mono ?_
    clear hAs
    rintro e w2 ⟨rfl, b2⟩
    have B2 := Lib.hid (H1.out.b.trans (b2.mono H1.out.b.size))
    clear b2
    go_wp2_with fail
    go_ret
    exact ⟨rfl, B2.out⟩
  | true =>
    go_wp2_with fail
    with_reducible refine hAs.mono ?_
    clear hAs x0 x1 x2 x3 HAs
    rintro e w2 ⟨rfl, b2⟩
    have H2 := Lib.hid (H1.out.below b2)
    clear b2 H1
    have HF := Lib.hid (HG.out.fit HRR.out)
    have hT := term_any g cv ev prev hp HF.out w2 H2.out.v
    obtain ⟨T, hTT⟩ : ∃ T, g.term prev = T := ⟨_, rfl⟩
    have htl := term_lt HF.out prev
    rw [hTT] at hT htl
    have HTT := Lib.hid hTT
    obtain ⟨tt, tb⟩ := T
    obtain ⟨x0, x1, x2, x3⟩ := H2.out.cells
    clear hTT
    cases tb with
    | false =>
      go_wp2_with fail
      with_reducible refine hT.mono ?_
      clear hT
      rintro e w3 ⟨rfl, b3⟩
      have B3 := Lib.hid (H2.out.b.trans (b3.mono H2.out.b.size))
      clear b3
      go_wp2_with fail
      go_ret
      exact ⟨rfl, B3.out⟩
    | true =>
      go_wp2_with fail
      with_reducible refine hT.mono ?_
      clear hT x0 x1 x2 x3
      rintro e w3 ⟨rfl, b3⟩
      have H3 := Lib.hid (H2.out.below b3)
      clear b3 H2
      have hpl : prev + 1 < 18446744073709551616 := by
        have h1 : g.rch prev = true := by
          rcases hr : g.rch prev with _ | _
          · have := HTT.out; rw [Lg.term_no hr] at this; cases this
          · rfl
        have h2 := (Lg.rch_iff.1 h1).2
        have h3 := HF.out.base
        have h4 := HF.out.es
        unfold Lg.last at h2
        omega
      obtain ⟨p1, hp1⟩ : ∃ p, prev + 1 = p := ⟨_, rfl⟩
      have f1 : IntKind.u64.wrap ((prev : Int) + 1) = (p1 : Int) := by rw [u64_in _ (by omega)]; omega
      have HMg : Hid (g.merge prev tt (g.slice p1 most) = (g, 0, true)) := by
        have := stays_eq g prev most tt HTT.out
        rw [hp1] at this
        exact this
      have HSl : Hid (∀ W (b : Below w.heap.size w W), Calls Try.prog 22 #[.agg #[.int .u64 (g.base : Nat), .int .u64 (g.bt : Nat), cv, ev], .int .u64 (p1 : Nat), .int .i64 most] W fun e w' => ∃ v, e = .returned v ∧ rw.Own enSh w' W.heap.size v (g.slice p1 most) ∧ Below W.heap.size W w') := fun W b => slice_any g cv ev p1 most (by omega) hm HF.out W (HV.out.later b)
      have HMe : Hid (∀ W (b : Below w.heap.size w W) (lv : Value) (hl : rw.Sl enSh W lv (g.slice p1 most)), Calls Try.prog 27 #[.agg #[.int .u64 (g.base : Nat), .int .u64 (g.bt : Nat), cv, ev], .int .u64 (prev : Nat), .int .u64 (tt : Nat), lv] W fun e w' => ∃ cv5 ev5, e = .returned (.tuple #[.agg #[.int .u64 (g.base : Nat), .int .u64 (g.bt : Nat), cv5, ev5], .int .u64 0, .bool true]) ∧ rw.Own noSh w' W.heap.size cv5 g.conf ∧ rw.Own enSh w' W.heap.size ev5 g.es ∧ Below W.heap.size W w') := fun W b lv hl => by
        have k := merge_any g cv ev prev tt lv (g.slice p1 most) hp htl (fit_slice HF.out _ _).1 (fit_slice HF.out _ _).2 HF.out W (HV.out.later b) hl
        rw [HMg.out] at k
        exact k
      clear hp1 HMg
      go_upto_region 8 with (fail)
      go_cut [9, 10, 11] from 12 (fun a b c wx => ∃ mb cv2 ev2, a = .pointer (some ⟨mb, 0, none⟩) ∧ b = .int .u64 0 ∧ c = .bool true ∧ Hid (Rst w wx cv ev g g mb cv2 ev2))
      case first =>
        have Y0 : Hid (Sy w w3 cv ev g none) := ⟨H3.out, fun mb e => by cases e⟩
        have YA : Hid (Sy w w3.drew cv ev g none) := Y0.out.below (below_drew (Below.refl _ _))
        have YB : Hid (Sy w (w3.alloc (.cells #[.int .u64 0, .int .u64 0, .slice none 0 0, .slice none 0 0] 26)).drew cv ev g (some w3.heap.size)) := Y0.out.alloc.below (below_drew (Below.refl _ _))
        have kA := YA.out.g.cells
        have kB := YB.out.g.cells
        have hSA := HSl.out _ YA.out.g.b
        have hSB := HSl.out _ YB.out.g.b
        go_region_held3 (fun W => W.cell? ⟨w.heap.size, 0, none⟩ = some (.int .u64 (g.base : Nat)) ∧ W.cell? ⟨w.heap.size, 1, none⟩ = some (.int .u64 (g.bt : Nat)) ∧ W.cell? ⟨w.heap.size, 2, none⟩ = some cv ∧ W.cell? ⟨w.heap.size, 3, none⟩ = some ev)
          (first | (with_reducible exact kA) | (with_reducible exact kB) | (with_reducible exact kC) | (with_reducible exact kD _) | (with_reducible exact kE) | (with_reducible exact kF))
          (first
            | (go_at_call 22; with_reducible refine hSA.mono ?_; rintro e w4 ⟨v4, rfl, o4, b4⟩; have Y4 := Lib.hid (YA.out.below b4); have s4 := o4.sl; have kC := Y4.out.g.cells; have kD : ∀ o, (w4.alloc o).cell? ⟨w.heap.size, 0, none⟩ = some (.int .u64 (g.base : Nat)) ∧ (w4.alloc o).cell? ⟨w.heap.size, 1, none⟩ = some (.int .u64 (g.bt : Nat)) ∧ (w4.alloc o).cell? ⟨w.heap.size, 2, none⟩ = some cv ∧ (w4.alloc o).cell? ⟨w.heap.size, 3, none⟩ = some ev := fun o => (Y4.out.below (below_box _ o)).g.cells; have YZ := Lib.hid Y4.out.alloc; have hMA := HMe.out w4 Y4.out.g.b v4 s4; have hMB := HMe.out _ YZ.out.g.b v4 (s4.later _ (below_box _ _)); clear o4 b4 s4 hSA hSB)
            | (go_at_call 22; with_reducible refine hSB.mono ?_; rintro e w4 ⟨v4, rfl, o4, b4⟩; have Y4 := Lib.hid (YB.out.below b4); have s4 := o4.sl; have kC := Y4.out.g.cells; have hMA := HMe.out w4 Y4.out.g.b v4 s4; clear o4 b4 s4 hSA hSB)
            | (go_at_call 27; with_reducible refine hMA.mono ?_; rintro e w5 ⟨cv5, ev5, rfl, o5, p5, b5⟩; have Y5 := Lib.hid (Y4.out.below b5); have O5 := own_lower o5 Y4.out.g.b.size; have P5 := own_lower p5 Y4.out.g.b.size; obtain ⟨c5a, c5c, rfl⟩ := o5.form; obtain ⟨e5a, e5c, rfl⟩ := p5.form; have kC := Y5.out.g.cells; first | (obtain ⟨y0, y1, y2, y3, f0, f1, f2, f3⟩ := Y5.out.cm; have HE := Lib.hid (Rst.lay HV.out Y5.out.g (Y5.out.o _ rfl).2 (Y5.out.o _ rfl).1 O5 P5); have kE := HE.out.g.cells; simp only [layL] at kE; clear o5 p5 b5 O5 P5 hMA) | (have kD : ∀ o, (w5.alloc o).cell? ⟨w.heap.size, 0, none⟩ = some (.int .u64 (g.base : Nat)) ∧ (w5.alloc o).cell? ⟨w.heap.size, 1, none⟩ = some (.int .u64 (g.bt : Nat)) ∧ (w5.alloc o).cell? ⟨w.heap.size, 2, none⟩ = some cv ∧ (w5.alloc o).cell? ⟨w.heap.size, 3, none⟩ = some ev := fun o => (Y5.out.below (below_box _ o)).g.cells; have HE := Lib.hid (Rst.new Y5.out.g O5.sl P5.sl); clear o5 p5 b5 O5 P5 hMA))
            | (go_at_call 27; with_reducible refine hMB.mono ?_; rintro e w5 ⟨cv5, ev5, rfl, o5, p5, b5⟩; have Y5 := Lib.hid (YZ.out.below b5); have O5 := own_lower o5 YZ.out.g.b.size; have P5 := own_lower p5 YZ.out.g.b.size; obtain ⟨c5a, c5c, rfl⟩ := o5.form; obtain ⟨e5a, e5c, rfl⟩ := p5.form; have kC := Y5.out.g.cells; first | (obtain ⟨y0, y1, y2, y3, f0, f1, f2, f3⟩ := Y5.out.cm; have HE := Lib.hid (Rst.lay HV.out Y5.out.g (Y5.out.o _ rfl).2 (Y5.out.o _ rfl).1 O5 P5); have kE := HE.out.g.cells; simp only [layL] at kE; clear o5 p5 b5 O5 P5 hMA) | (have kD : ∀ o, (w5.alloc o).cell? ⟨w.heap.size, 0, none⟩ = some (.int .u64 (g.base : Nat)) ∧ (w5.alloc o).cell? ⟨w.heap.size, 1, none⟩ = some (.int .u64 (g.bt : Nat)) ∧ (w5.alloc o).cell? ⟨w.heap.size, 2, none⟩ = some cv ∧ (w5.alloc o).cell? ⟨w.heap.size, 3, none⟩ = some ev := fun o => (Y5.out.below (below_box _ o)).g.cells; have HE := Lib.hid (Rst.new Y5.out.g O5.sl P5.sl); clear o5 p5 b5 O5 P5 hMA)))
        all_goals go_step
        all_goals go_step
        all_goals go_meet
        all_goals first
          | (refine ⟨w3.heap.size, .slice c5a g.conf.length c5c, .slice e5a g.es.length e5c, ?_, ?_, ?_, ?_⟩; (with_reducible rfl); (with_reducible rfl); (with_reducible rfl); exact HE)
          | (refine ⟨w4.heap.size, .slice c5a g.conf.length c5c, .slice e5a g.es.length e5c, ?_, ?_, ?_, ?_⟩; (with_reducible rfl); (with_reducible rfl); (with_reducible rfl); exact HE)
          | (refine ⟨w5.heap.size, .slice c5a g.conf.length c5c, .slice e5a g.es.length e5c, ?_, ?_, ?_, ?_⟩; (with_reducible rfl); (with_reducible rfl); (with_reducible rfl); with_reducible exact HE)
      case rest =>
        obtain ⟨mb, cv2, ev2, rfl, rfl, rfl, HR⟩ := hcut
        obtain ⟨x0, x1, x2, x3⟩ := HR.out.g.cells
        obtain ⟨z0, z1, z2, z3⟩ := HR.out.cm
        have hS := sameLogs_any g.base g.bt g.base g.bt cv2 ev2 cv ev g.conf g.conf g.es g.es HF.out.conf (by have := HF.out.es; omega) wc HR.out.c HR.out.g.v.c HR.out.l HR.out.g.v.l
        rw [decide_eq_true ⟨rfl, rfl, rfl, rfl⟩] at hS
        go_wp2_with fail
        with_reducible refine hS.mono ?_
        clear hS x0 x1 x2 x3 z0 z1 z2 z3
        rintro e w9 ⟨rfl, b9⟩
        have B9 := Lib.hid (HR.out.g.b.trans (b9.mono HR.out.g.b.size))
        clear b9
        go_wp2_with fail
        go_ret
        exact ⟨rfl, B9.out⟩
end Go.Proofs.Ytojlellnoliapaa.tl
