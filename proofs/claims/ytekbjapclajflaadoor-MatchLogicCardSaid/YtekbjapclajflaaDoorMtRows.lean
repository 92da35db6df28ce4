/-
  Keys and messages that came in, as the walks take them.
-/
import Derived.Test.YtekbjapclajflaaDoorRows
import Derived.Test.YtekbjapclajflaaDoorMtSays
import Derived.ProofKit
import Derived.OpenShut
import Derived.Deep.Slices
import Derived.Deep.SlicePairs
namespace Go.Proofs.YtekbjapclajflaaDoor.mt
open Go.ChangeShapes Go.WideShapes Go.ChangeAt Go.RowKit
open fl (S S_of)

instance : Inhabited Key := ⟨⟨0, 0, [], [], 0, [], .bool false⟩⟩
/-! ### What holds of any shape -/
def Lite {H : Type} (d : DataW H) (t : TypeId) : Prop := ∀ n ∈ d.weights Tryd.prog t, n ≤ reachBytes
theorem weights_in {H : Type} {e : TypeId} {n : Nat} : ∀ {es : List (DataW H)} {d : DataW H}, d ∈ es → n ∈ d.weights Tryd.prog e → n ∈ DataW.weightsAll Tryd.prog e es
  | x :: r, d, h, hn => by
    rw [DataW.weightsAll, List.mem_append]
    rcases List.mem_cons.1 h with rfl | h
    · exact .inl hn
    · exact .inr (weights_in h hn)
theorem lite_slice {H : Type} {t e : TypeId} {es sp : List (DataW H)} (ht : Tryd.prog.underlying t = some (.slice e)) (h : Lite (.slice es sp) t) : (es.length + sp.length) * Tryd.prog.bytesOf e ≤ reachBytes ∧ ∀ d ∈ es, Lite d e := by
  unfold Lite at *
  simp only [DataW.weights, ht] at h
  exact ⟨h _ List.mem_cons_self, fun d hd n hn => h n (List.mem_cons_of_mem _ (List.mem_append.2 (.inl (weights_in hd hn))))⟩
theorem lite_len {H : Type} {t e : TypeId} {es sp : List (DataW H)} (ht : Tryd.prog.underlying t = some (.slice e)) (he : 1 ≤ Tryd.prog.bytesOf e) (h : Lite (.slice es sp) t) : es.length ≤ reachBytes := by
  have := (lite_slice ht h).1
  exact Nat.le_trans (Nat.le_trans (Nat.le_add_right _ _) (Nat.le_mul_of_pos_right _ he)) this
theorem lite_arg {H : Type} {ts : List TypeId} {ds : List (DataW H)} (h : (DataW.weightsEach Tryd.prog ts ds).all (· ≤ reachBytes) = true) {j : Nat} {t : TypeId} {d : DataW H} (ht : ts[j]? = some t) (hd : ds[j]? = some d) : Lite d t := fun n hn => by
  have := List.all_eq_true.1 h _ (DataW.weights_mem_each ht hd n hn)
  simpa using this
section
variable {H : Type} {enc : TypeId × Value → H} {W : World} {fuel : Nat} {cs : List Value} {x : DataW H × List MemPlace}
/-- A struct's field. -/
theorem field_of {t : TypeId} {fs : Array Field} (ht : Tryd.prog.underlying t = some (.struct fs)) (h : DataW.trod enc Tryd.prog W 0 (fun _ => true) true fuel t cs = some x) (hw : Lite x.1 t) (i : Nat) (t' : TypeId) (o : Nat) (hm : fs[i]?.map (fun f => (f.type, f.offset)) = some (t', o)) :
    ∃ n y, DataW.trod enc Tryd.prog W 0 (fun _ => true) true n t' ((cs.drop o).take (Tryd.prog.cellsOf t')) = some y ∧ Lite y.1 t' := by
  obtain ⟨xs, n, rfl, rfl, hl, hxl, hx⟩ := DataW.trod_struct ht h
  obtain ⟨f, hf, he⟩ := Option.map_eq_some_iff.1 hm
  cases he
  have hi : i < xs.length := by
    rw [hxl]
    obtain ⟨h1, _⟩ := Array.getElem?_eq_some_iff.1 hf
    exact h1
  have h1 := hx i f hf
  rw [List.getElem?_eq_getElem hi] at h1
  refine ⟨n, xs[i], h1, fun m hm => hw m ?_⟩
  simp only [DataW.weights, ht]
  refine DataW.weights_mem_each (j := i) (t := f.type) (d := xs[i].1) ?_ ?_ m hm
  · simp [hf]
  · simp [List.getElem?_eq_getElem hi]
theorem struct_len {t : TypeId} {fs : Array Field} (ht : Tryd.prog.underlying t = some (.struct fs)) (h : DataW.trod enc Tryd.prog W 0 (fun _ => true) true fuel t cs = some x) : cs.length = Tryd.prog.cellsOf t := by
  obtain ⟨xs, n, rfl, rfl, hl, hxl, hx⟩ := DataW.trod_struct ht h
  exact hl
theorem u64_of (h : DataW.trod enc Tryd.prog W 0 (fun _ => true) true fuel 23 cs = some x) : ∃ n : Nat, cs = [.int .u64 (n : Nat)] ∧ n < 18446744073709551616 := by
  obtain ⟨p, rfl, _, wp⟩ := DataW.trod_int Tryd.underlying23 h
  have bp : 0 ≤ p ∧ p ≤ 18446744073709551615 := by simpa [Lit.wf, IntKind.min, IntKind.max, IntKind.signed, IntKind.bits] using wp
  exact ⟨p.toNat, by rw [Int.toNat_of_nonneg bp.1], by omega⟩
theorem int_of (h : DataW.trod enc Tryd.prog W 0 (fun _ => true) true fuel 3 cs = some x) : ∃ n : Int, cs = [.int .i64 n] ∧ n ≤ 9223372036854775807 ∧ -9223372036854775808 ≤ n := by
  obtain ⟨p, rfl, _, wp⟩ := DataW.trod_int Tryd.underlying3 h
  have bp : -9223372036854775808 ≤ p ∧ p ≤ 9223372036854775807 := by simpa [Lit.wf, IntKind.min, IntKind.max, IntKind.signed, IntKind.bits] using wp
  exact ⟨p, rfl, bp.2, bp.1⟩
theorem str_of (h : DataW.trod enc Tryd.prog W 0 (fun _ => true) true fuel 9 cs = some x) (hw : Lite x.1 9) : ∃ l : List UInt8, cs = [.string (S l)] ∧ l.length ≤ reachBytes := by
  obtain ⟨s, rfl, d0, _⟩ := DataW.trod_string Tryd.underlying9 h
  refine ⟨s.data.toList, by rw [S_of], ?_⟩
  subst d0
  exact hw _ (by simp [DataW.weights])
end
theorem reach47 : reachBytes ≤ 140737488355328 := by decide

set_option maxRecDepth 100000 in
theorem set_of {H : Type} {enc : TypeId × Value → H} {W : World} {fuel : Nat} {cs : List Value} {x : DataW H × List MemPlace} (h : DataW.trod enc Tryd.prog W 0 (fun _ => true) true fuel 34 cs = some x) (hw : Lite x.1 34) :
    ∃ a cap l, cs = [.slice a (l : List (Nat × Nat)).length cap] ∧ sq.RowR W a l ∧ l.length ≤ 140737488355328 := by
  rcases Deep.open_slice_pairs Tryd.underlying34 Tryd.underlying57 (by kernel_rfl) rfl rfl (by kernel_rfl) (by kernel_rfl) h with ⟨hcs, hx⟩ | ⟨a, len, cap, m, n, V0, V1, D0, D1, P0, P1, hcs, _, hl, hm, hmm, hx, hcell⟩
  · subst hcs
    exact ⟨none, 0, [], rfl, .inl rfl, by simp⟩
  · subst hcs
    simp only [if_true] at hmm
    have key : ∀ i, i < len → ∃ r : Nat × Nat, W.cell? (a.add (i * 2)) = some (.int .u64 (r.1 : Nat)) ∧ W.cell? (a.add (i * 2 + 1)) = some (.int .u64 (r.2 : Nat)) := fun i hi => by
      obtain ⟨h0, h1, t0, t1⟩ := hcell i (by omega)
      obtain ⟨n0, e0, _⟩ := u64_of t0
      obtain ⟨n1, e1, _⟩ := u64_of t1
      refine ⟨(n0, n1), ?_, ?_⟩
      · rw [h0]; simpa using e0
      · rw [h1]; simpa using e1
    obtain ⟨f, hf⟩ := Deep.choose_lt key
    refine ⟨some a, cap, (List.range len).map f, by simp, ?_, ?_⟩
    · by_cases h0 : len = 0
      · subst h0
        exact .inl (by simp)
      · obtain ⟨b, off, spot⟩ := a
        have h00 := (hf 0 (by omega)).1
        have hspot : spot = none := by simpa [Addr.add] using World.cell?_spot h00
        subst hspot
        refine .inr ⟨b, off, rfl, World.block_lt_of_cell? W _ h00, fun j hj => ?_⟩
        have hj' : j < len := by simpa using hj
        obtain ⟨c0, c1⟩ := hf j hj'
        rw [addr_add] at c0 c1
        simp only [List.getElem_map, List.getElem_range]
        exact ⟨c0, by simpa [Nat.add_assoc] using c1⟩
    · rw [hx] at hw
      have := lite_len Tryd.underlying34 (of_decide_eq_true (by kernel_rfl)) hw
      simp only [List.length_map, List.length_range] at this ⊢
      exact Nat.le_trans this reach47

set_option maxRecDepth 100000 in
theorem flags_of {H : Type} {enc : TypeId × Value → H} {W : World} {fuel : Nat} {cs : List Value} {x : DataW H × List MemPlace} (h : DataW.trod enc Tryd.prog W 0 (fun _ => true) true fuel 24 cs = some x) (hw : Lite x.1 24) :
    ∃ a cap l, cs = [.slice a (l : List (List UInt8)).length cap] ∧ fl.RowS W a l ∧ l.length ≤ 140737488355328 := by
  rcases Deep.open_slice1 Tryd.underlying24 (by kernel_rfl) h with ⟨hcs, hx⟩ | ⟨a, len, cap, m, n, V, D, P, hcs, _, hl, hm, hmm, hx, hcell⟩
  · subst hcs
    exact ⟨none, 0, [], rfl, .inl rfl, by simp⟩
  · subst hcs
    simp only [if_true] at hmm
    have key : ∀ i, i < len → ∃ r : List UInt8, W.cell? (a.add i) = some (.string (S r)) := fun i hi => by
      obtain ⟨h0, t0⟩ := hcell i (by omega)
      obtain ⟨s, e0, _⟩ := DataW.trod_string Tryd.underlying9 t0
      refine ⟨s.data.toList, ?_⟩
      rw [h0, S_of]; simpa using e0
    obtain ⟨f, hf⟩ := Deep.choose_lt key
    refine ⟨some a, cap, (List.range len).map f, by simp, ?_, ?_⟩
    · by_cases h0 : len = 0
      · subst h0
        exact .inl (by simp)
      · obtain ⟨b, off, spot⟩ := a
        have h00 := hf 0 (by omega)
        have hspot : spot = none := by simpa [Addr.add] using World.cell?_spot h00
        subst hspot
        refine .inr ⟨b, off, rfl, World.block_lt_of_cell? W _ h00, fun j hj => ?_⟩
        have hj' : j < len := by simpa using hj
        have c0 := hf j hj'
        rw [addr_add] at c0
        simp only [List.getElem_map, List.getElem_range]
        exact c0
    · rw [hx] at hw
      have := lite_len Tryd.underlying24 (of_decide_eq_true (by kernel_rfl)) hw
      simp only [List.length_map, List.length_range] at this ⊢
      exact Nat.le_trans this reach47

set_option maxRecDepth 100000 in
theorem key_of {H : Type} {enc : TypeId × Value → H} {W : World} {fuel : Nat} {cs : List Value} {x : DataW H × List MemPlace} (h : DataW.trod enc Tryd.prog W 0 (fun _ => true) true fuel 36 cs = some x) (hw : Lite x.1 36) :
    ∃ k : Key, cs = keyCells k ∧ SetIn W k := by
  have hu := Tryd.underlying36
  have hl : cs.length = 6 := (struct_len hu h).trans (by kernel_rfl)
  obtain ⟨c0, c1, c2, c3, c4, c5, rfl⟩ : ∃ c0 c1 c2 c3 c4 c5, cs = [c0, c1, c2, c3, c4, c5] := by
    match cs, hl with
    | [a, b, c, d, e, f], _ => exact ⟨a, b, c, d, e, f, rfl⟩
  have eI : Tryd.prog.cellsOf 3 = 1 := by kernel_rfl
  have eU : Tryd.prog.cellsOf 23 = 1 := by kernel_rfl
  have eS : Tryd.prog.cellsOf 9 = 1 := by kernel_rfl
  have eR : Tryd.prog.cellsOf 34 = 1 := by kernel_rfl
  obtain ⟨n0, y0, f0, _⟩ := field_of hu h hw 0 3 0 rfl
  obtain ⟨n1, y1, f1, _⟩ := field_of hu h hw 1 3 1 rfl
  obtain ⟨n2, y2, f2, g2⟩ := field_of hu h hw 2 9 2 rfl
  obtain ⟨n3, y3, f3, g3⟩ := field_of hu h hw 3 9 3 rfl
  obtain ⟨n4, y4, f4, _⟩ := field_of hu h hw 4 23 4 rfl
  obtain ⟨n5, y5, f5, g5⟩ := field_of hu h hw 5 34 5 rfl
  simp only [eI, eU, eS, eR, List.drop_zero, List.drop_succ_cons, List.take_succ_cons, List.take_zero] at f0 f1 f2 f3 f4 f5
  obtain ⟨z0, e0, _⟩ := int_of f0
  obtain ⟨z1, e1, b1, _⟩ := int_of f1
  obtain ⟨s2, e2, _⟩ := str_of f2 g2
  obtain ⟨s3, e3, _⟩ := str_of f3 g3
  obtain ⟨z4, e4, _⟩ := u64_of f4
  obtain ⟨a, cap, l, e5, hr, hn⟩ := set_of f5 g5
  simp only [List.cons.injEq, and_true] at e0 e1 e2 e3 e4 e5
  subst e0 e1 e2 e3 e4 e5
  exact ⟨⟨z0, z1, s2, s3, z4, l, _⟩, rfl, ⟨a, cap, rfl, hr, hn, b1⟩⟩

set_option maxRecDepth 100000 in
/-- What the reading of keys gives. -/
theorem keys_of {H : Type} {enc : TypeId × Value → H} {W : World} {a : Option Addr} {len cap : Nat} {d : DataW H} {p : List MemPlace}
    (h : DataW.Trod enc Tryd.prog W 0 (fun _ => true) true 22 (.slice a len cap) d p) (hw : Lite d 22) :
    ∃ l : List Key, l.length = len ∧ Sl W (.slice a len cap) l ∧ len ≤ 140737488355328 := by
  obtain ⟨fuel, hf⟩ := h
  rcases Deep.open_slice Tryd.underlying22 hf with ⟨hcs, hx⟩ | ⟨x, l', c', m, n, D, Pl, hcs, _, hl, hm, hmm, hx, hcell⟩
  · simp [Value.cells] at hcs
    obtain ⟨rfl, rfl, rfl⟩ := hcs
    exact ⟨[], rfl, Sl.nil W, by omega⟩
  · simp [Value.cells] at hcs
    obtain ⟨rfl, rfl, rfl⟩ := hcs
    simp only [if_true] at hmm
    simp only [Prod.mk.injEq] at hx
    obtain ⟨rfl, _⟩ := hx
    have e6 : Tryd.prog.cellsOf 36 = 6 := by kernel_rfl
    rw [e6] at hcell
    have hls := lite_slice Tryd.underlying22 hw
    have liteI : ∀ i, i < len → Lite (D i) 36 := fun i hi => hls.2 _ (List.mem_map.2 ⟨i, List.mem_range.2 hi, rfl⟩)
    have key : ∀ i, i < len → ∃ k : Key, (∀ j, j < 6 → W.cell? (x.add (i * 6 + j)) = (keyCells k)[j]?) ∧ SetIn W k := fun i hi => by
      obtain ⟨cs', h1, h2⟩ := hcell i (by omega)
      obtain ⟨k, rfl, hk⟩ := key_of h2 (liteI i hi)
      obtain ⟨_, _, hc⟩ := World.cells?_some h1
      refine ⟨k, fun j hj => ?_, hk⟩
      have := hc j hj
      rw [Deep.add_add] at this
      exact this
    obtain ⟨f, hfr⟩ := Deep.choose_lt key
    refine ⟨(List.range len).map f, by simp, ⟨⟨some x, cap, by simp, by simpa using hl, ?_, fun e => by cases e⟩, ?_⟩, ?_⟩
    · by_cases h0 : len = 0
      · subst h0
        exact .inl (by simp)
      · obtain ⟨b, off, spot⟩ := x
        have h00 := (hfr 0 (by omega)).1 0 (by omega)
        have hspot : spot = none := by simpa [Addr.add] using World.cell?_spot (h00.trans rfl)
        subst hspot
        refine .inr ⟨b, off, rfl, World.block_lt_of_cell? W _ (h00.trans rfl), fun j hj i hi => ?_⟩
        have hj' : j < len := by simpa using hj
        have h1 := (hfr j hj').1 i hi
        rw [addr_add] at h1
        simp only [List.getElem_map, List.getElem_range]
        rw [Nat.add_assoc]
        exact h1
    · intro k hk
      obtain ⟨i, hi, rfl⟩ := List.mem_map.1 hk
      rw [List.mem_range] at hi
      exact (hfr i hi).2
    · have := lite_len Tryd.underlying22 (of_decide_eq_true (by kernel_rfl)) hw
      simp only [List.length_map, List.length_range] at this
      exact Nat.le_trans this reach47

/-- A message, as a value. -/
def mailV (y : Mail) : Value := .agg #[.int .u64 (y.uid : Nat), y.fv, .int .u64 (y.mod : Nat), .string y.hash, .int .u64 (y.size : Nat), .int .u64 (y.seq : Nat), .int .u64 (y.mostSeq : Nat), .int .u64 (y.mostUid : Nat), .string (S y.m)]

set_option maxRecDepth 100000 in
/-- What the reading of a message gives. -/
theorem mail_of {H : Type} {enc : TypeId × Value → H} {W : World} {v : Value} {base : Nat} {d : DataW H} {p : List MemPlace} (hv : Value.okWide Tryd.prog W .any base 30 v)
    (h : DataW.Trod enc Tryd.prog W 0 (fun _ => true) true 30 v d p) (hw : Lite d 30) :
    ∃ y : Mail, v = mailV y ∧ FlagsIn W y ∧ y.m.length ≤ reachBytes := by
  obtain ⟨fuel, hf⟩ := h
  have hu := Tryd.underlying30
  obtain ⟨cs, rfl, hsz, _⟩ : ∃ cs, v = .agg cs ∧ cs.size = Tryd.prog.cellsOf 30 ∧ Row.okWide Tryd.prog W .any base 30 cs := by
    unfold Value.okWide at hv
    rw [hu] at hv
    exact hv
  have h9 : cs.toList.length = 9 := by rw [Array.length_toList, hsz]; kernel_rfl
  obtain ⟨c0, c1, c2, c3, c4, c5, c6, c7, c8, hcs⟩ : ∃ c0 c1 c2 c3 c4 c5 c6 c7 c8, cs.toList = [c0, c1, c2, c3, c4, c5, c6, c7, c8] := by
    generalize cs.toList = l at h9
    match l, h9 with
    | [a, b, c, d, e, f, g, i, j], _ => exact ⟨a, b, c, d, e, f, g, i, j, rfl⟩
  have eU : Tryd.prog.cellsOf 23 = 1 := by kernel_rfl
  have eS : Tryd.prog.cellsOf 9 = 1 := by kernel_rfl
  have eL : Tryd.prog.cellsOf 24 = 1 := by kernel_rfl
  have eX : Tryd.prog.cellsOf 26 = 5 := by kernel_rfl
  have eP : Tryd.prog.cellsOf 28 = 3 := by kernel_rfl
  change DataW.trod enc Tryd.prog W 0 (fun _ => true) true fuel 30 cs.toList = some (d, p) at hf
  rw [hcs] at hf
  obtain ⟨m0, x0, f0, g0⟩ := field_of hu hf hw 0 26 0 rfl
  obtain ⟨m1, x1, f1, g1⟩ := field_of hu hf hw 1 28 5 rfl
  obtain ⟨m2, x2, f2, g2⟩ := field_of hu hf hw 2 9 8 rfl
  simp only [eX, eP, eS, List.drop_zero, List.drop_succ_cons, List.take_succ_cons, List.take_zero] at f0 f1 f2
  have hX := Tryd.underlying26
  obtain ⟨_, y0, q0, _⟩ := field_of hX f0 g0 0 23 0 rfl
  obtain ⟨_, y1, q1, r1⟩ := field_of hX f0 g0 1 24 1 rfl
  obtain ⟨_, y2, q2, _⟩ := field_of hX f0 g0 2 23 2 rfl
  obtain ⟨_, y3, q3, r3⟩ := field_of hX f0 g0 3 9 3 rfl
  obtain ⟨_, y4, q4, _⟩ := field_of hX f0 g0 4 23 4 rfl
  have hP := Tryd.underlying28
  obtain ⟨_, y5, q5, _⟩ := field_of hP f1 g1 0 23 0 rfl
  obtain ⟨_, y6, q6, _⟩ := field_of hP f1 g1 1 23 1 rfl
  obtain ⟨_, y7, q7, _⟩ := field_of hP f1 g1 2 23 2 rfl
  simp only [eU, eL, eS, List.drop_zero, List.drop_succ_cons, List.take_succ_cons, List.take_zero] at q0 q1 q2 q3 q4 q5 q6 q7
  obtain ⟨z0, e0, _⟩ := u64_of q0
  obtain ⟨a, cap, l, e1, hr, hn⟩ := flags_of q1 r1
  obtain ⟨z2, e2, _⟩ := u64_of q2
  obtain ⟨s3, e3, _⟩ := str_of q3 r3
  obtain ⟨z4, e4, _⟩ := u64_of q4
  obtain ⟨z5, e5, _⟩ := u64_of q5
  obtain ⟨z6, e6, _⟩ := u64_of q6
  obtain ⟨z7, e7, _⟩ := u64_of q7
  obtain ⟨s8, e8, hm8⟩ := str_of f2 g2
  simp only [List.cons.injEq, and_true] at e0 e1 e2 e3 e4 e5 e6 e7 e8
  subst e0 e1 e2 e3 e4 e5 e6 e7 e8
  refine ⟨⟨z0, z2, z4, z5, z6, z7, l, S s3, s8, .slice a l.length cap⟩, ?_, ⟨a, cap, rfl, hr, hn⟩, hm8⟩
  unfold mailV
  congr 1
  exact Array.toList_inj.1 hcs
end Go.Proofs.YtekbjapclajflaaDoor.mt
