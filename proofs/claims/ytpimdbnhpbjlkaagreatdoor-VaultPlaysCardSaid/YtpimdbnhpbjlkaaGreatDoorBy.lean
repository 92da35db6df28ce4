/-
  A row of bytes that its maker owns, whether append or a conversion of a string has made it; what stays where some blocks turn. No function of the program is named; no walk.
-/
import Derived.Test.YtpimdbnhpbjlkaaGreatDoorRw
import Derived.Laws.CopyRow
import Derived.Laws.Append
import Derived.Laws.BytesArg
import Derived.Lib.AppendStr
import Derived.Lib.ConvBytes
namespace Go.Proofs.YtpimdbnhpbjlkaaGreatDoor.rw
set_option linter.unusedVariables false
open Go.RowKit Go.Lib
open fl (S S_size S_data)

/-- All but these blocks is as it was. -/
structure Fr (F : Nat → Prop) (w w' : World) : Prop where
  os : w'.os = w.os
  tape : w'.tape = w.tape
  output : w'.output = w.output
  size : w.heap.size ≤ w'.heap.size
  block : ∀ k, k < w.heap.size → ¬ F k → w'.heap[k]? = w.heap[k]?
theorem Fr.refl (F : Nat → Prop) (w : World) : Fr F w w := ⟨rfl, rfl, rfl, Nat.le_refl _, fun _ _ _ => rfl⟩
theorem Fr.mono {F G : Nat → Prop} {w w' : World} (h : Fr F w w') (hg : ∀ k, k < w.heap.size → F k → G k) : Fr G w w' := ⟨h.os, h.tape, h.output, h.size, fun k hk hn => h.block k hk fun hF => hn (hg k hk hF)⟩
theorem Fr.trans {F G : Nat → Prop} {a b c : World} (h : Fr F a b) (k : Fr G b c) (hg : ∀ i, i < a.heap.size → G i → F i) : Fr F a c :=
  ⟨k.os.trans h.os, k.tape.trans h.tape, k.output.trans h.output, Nat.le_trans h.size k.size, fun i hi hn => (k.block i (Nat.lt_of_lt_of_le hi h.size) fun hG => hn (hg i hi hG)).trans (h.block i hi hn)⟩
theorem Fr.of_below {F : Nat → Prop} {w w' : World} (h : Below w.heap.size w w') : Fr F w w' := ⟨h.os, h.tape, h.output, h.size, fun k hk _ => h.block k hk⟩
theorem Fr.then_below {F : Nat → Prop} {a b c : World} (h : Fr F a b) (k : Below b.heap.size b c) : Fr F a c := h.trans (Fr.of_below (F := F) k) fun _ _ hF => hF
theorem Fr.below {F : Nat → Prop} {w w' : World} (h : Fr F w w') {B : Nat} (hB : B ≤ w.heap.size) (hF : ∀ k, F k → B ≤ k) : Below B w w' :=
  ⟨h.os, h.tape, h.output, h.size, fun k hk => h.block k (by omega) fun hk2 => by have := hF k hk2; omega⟩
theorem Fr.but {q : Nat} {w w' : World} (h : But q w w') {F : Nat → Prop} (hq : F q) : Fr F w w' := ⟨h.os, h.tape, h.output, h.size, fun k hk hn => h.block k hk fun e => hn (e ▸ hq)⟩
theorem Fr.grown {w w' : World} {row : Option Nat} (h : w.grownBy w' row) {F : Nat → Prop} (hF : ∀ q, row = some q → F q) : Fr F w w' := ⟨h.os, h.tape, h.output, h.size, fun k hk hn => h.block k hk fun e => hn (hF k e.symm)⟩
theorem Fr.arr {F : Nat → Prop} {w w' : World} (h : Fr F w w') {b : Nat} {t : TypeId} {cs : Array Value} (hA : Arr w b t cs) (hq : ¬ F b) : Arr w' b t cs := hA.of (h.block b hA.lt hq)

/-- Cells of bytes. -/
def byt (s : List UInt8) : List Value := s.map fun c => .int .u8 c.toNat
theorem byt_length (s : List UInt8) : (byt s).length = s.length := by simp [byt]
theorem byt_append (s t : List UInt8) : byt (s ++ t) = byt s ++ byt t := by simp [byt]
theorem byt_str (s : List UInt8) : strCells (S s) = byt s := by simp [strCells, byt, S]
theorem byt_one (s : List UInt8) : ∀ u ∈ byt s, u.oneCell' = true := by
  intro u hu
  obtain ⟨c, _, rfl⟩ := List.mem_map.1 hu
  rfl
/-- v is a row of bytes of one's own. -/
def RowB (w : World) (v : Value) (s : List UInt8) : Prop :=
  ∃ g cap cur fr, v = .slice (some ⟨g, 0, none⟩) s.length cap ∧ w.heap[g]? = some (.cells cur 5 fr) ∧ s.length ≤ cap ∧ cap ≤ maxLen ∧ cur.size = cap ∧ cur.toList.take s.length = byt s ∧ ∀ j, j < cap → ¬ (fr.1 ≤ j ∧ j < fr.2)
theorem RowB.of {w w' : World} {v : Value} {s : List UInt8} (h : RowB w v s) (hb : ∀ q, v.ownBlock = some q → w'.heap[q]? = w.heap[q]?) : RowB w' v s := by
  obtain ⟨g, cap, cur, fr, rfl, h2, h3⟩ := h
  exact ⟨g, cap, cur, fr, rfl, (hb g rfl).trans h2, h3⟩
theorem RowB.at {w : World} {v : Value} {s : List UInt8} (h : RowB w v s) : ∃ g, v.ownBlock = some g ∧ g < w.heap.size ∧ ∃ cur fr, w.heap[g]? = some (.cells cur 5 fr) := by
  obtain ⟨g, cap, cur, fr, rfl, h2, h3⟩ := h
  exact ⟨g, rfl, (Array.getElem?_eq_some_iff.1 h2).1, cur, fr, h2⟩
theorem RowB.form {w : World} {v : Value} {s : List UInt8} (h : RowB w v s) : ∃ a c, v = .slice (some a) s.length c ∧ s.length ≤ c := by
  obtain ⟨g, cap, cur, fr, rfl, h2, h3, _⟩ := h
  exact ⟨_, _, rfl, h3⟩
theorem RowB.of_own {w : World} {B : Nat} {v : Value} {s : List UInt8} (h : w.ownsRow B 5 1 v s.length (byt s)) (hv : v ≠ .slice none 0 0) : RowB w v s := by
  obtain ⟨h1, ⟨e, _⟩ | ⟨g, cap, cur, rfl, _, h4, h5, h6, h7, h8⟩⟩ := h
  · exact absurd e hv
  · exact ⟨g, cap, cur, (0, 0), rfl, h4, h5, h6, by simpa using h7, by simpa using h8, fun j _ hh => by simp at hh⟩
theorem RowB.cell {w : World} {v : Value} {s : List UInt8} (h : RowB w v s) : ∃ g cap, v = .slice (some ⟨g, 0, none⟩) s.length cap ∧ ∀ j (hj : j < s.length), w.cell? ⟨g, j, none⟩ = some (.int .u8 s[j].toNat) := by
  obtain ⟨g, cap, cur, fr, rfl, h2, h3, h4, h5, h6, _⟩ := h
  refine ⟨g, cap, rfl, fun j hj => ?_⟩
  rw [cell_of_row _ _ _ _ _ _ h2]
  have e : cur[j]? = (cur.toList.take s.length)[j]? := by rw [List.getElem?_take_of_lt hj]; simp
  rw [e, h6]
  simp [byt, hj]

/-- A store of cells into a row whose frozen mark does not reach them. -/
theorem storeCells_free (g : Nat) (t : TypeId) (fr : Nat × Nat) : ∀ (vs : List Value) (i : Nat) (o : Nat) (cur : Array Value) (w : World), w.heap[g]? = some (.cells cur t fr) → o + i + vs.length ≤ cur.size → (∀ v ∈ vs, v.oneCell' = true) → (∀ j, j < cur.size → ¬ (fr.1 ≤ j ∧ j < fr.2)) →
    (storeCells ⟨g, o, none⟩ vs i).run Tryz.prog w = .ok () (w.setRow g (cur.toList.take (o + i) ++ vs ++ cur.toList.drop (o + i + vs.length)).toArray)
  | [], i, o, cur, w, hg, _, _, _ => by
    simp only [storeCells, List.append_nil, List.length_nil, Nat.add_zero, List.take_append_drop, Array.toArray_toList]
    rw [setRow_self w g cur t fr hg]
    rfl
  | v :: rest, i, o, cur, w, hg, hl, h1, hf => by
    have hi : o + i < cur.size := by simp at hl; omega
    have hcell : w.cell? ⟨g, o + i, none⟩ = some cur[o + i] := by simp [World.cell?, hg, hi]
    have hfro : w.frozen? ⟨g, o + i, none⟩ = false := by
      have := hf (o + i) hi
      unfold World.frozen?
      simp only [hg]
      by_cases h : fr.1 ≤ o + i
      · simp [h]; omega
      · simp [h]
    have hst : (store ((⟨g, o, none⟩ : Addr).add i) v).run Tryz.prog w = .ok () (w.setRow g (cur.setIfInBounds (o + i) v)) := by
      rw [addr_add, run_store Tryz.prog w _ v _ (h1 v (by simp)), hcell]
      simp [hfro, setCell_eq_setRow w g (o + i) cur t fr v hg]
    have ih := storeCells_free g t fr rest (i + 1) o (cur.setIfInBounds (o + i) v) (w.setRow g (cur.setIfInBounds (o + i) v)) (setRow_heap w g cur _ t _ hg) (by simp at hl ⊢; omega) (fun x hx => h1 x (by simp [hx])) (fun j hj => hf j (by simpa using hj))
    simp only [storeCells, Sem.run_bind, hst, Result.andThen_ok, ih, setRow_setRow]
    congr 3
    have e := list_seg_step cur.toList (o + i) v rest (by simp at hl ⊢; omega)
    simpa [Array.toList_setIfInBounds, Nat.add_assoc] using e

abbrev AppS (v : Value) (s : List UInt8) (w : World) (v' : Value) (w' : World) : Prop := (Builtin.append_ #[81, 9] 81 #[v, .string (S s)]).run Tryz.prog w = .ok v' w'
theorem info8 : (Tryz.prog.info? 5).map (fun i => (i.zero, i.size, i.bytes)) = some (some (.int .u8 0), 1, 1) := by kernel_rfl
/-- 'append(v, s...)', s a string. -/
theorem append_str (v : Value) (o s : List UInt8) (w : World) (h : RowB w v o) (hlen : o.length + s.length ≤ 140737488355328) :
    ∃ v' w', AppS v s w v' w' ∧ RowB w' v' (o ++ s) ∧ w.grownBy w' v.ownBlock ∧ (v'.ownBlock = v.ownBlock ∨ v'.ownBlock = some w.heap.size) := by
  obtain ⟨i, hi, hz, hs1, hb1⟩ := info_parts info8
  obtain ⟨g, cap, cur, fr, rfl, h2, h3, h4, h5, h6, h7⟩ := h
  by_cases hroom : o.length + s.length ≤ cap
  · have hst := storeCells_free g 5 fr (byt s) 0 o.length cur w h2 (by rw [byt_length]; omega) (byt_one s) (by rw [h5]; exact h7)
    have hf := run_firstCells_string (P := Tryz.prog) w 1 (S s)
    rw [byt_str, S_size] at hf
    simp only [Nat.add_zero, byt_length] at hst
    have hr : AppS (.slice (some ⟨g, 0, none⟩) o.length cap) s w (.slice (some ⟨g, 0, none⟩) (o.length + s.length) cap) (w.setRow g (cur.toList.take o.length ++ byt s ++ cur.toList.drop (o.length + s.length)).toArray) := by
      simp [AppS, Builtin.append_, run_underlying Tryz.underlying81, run_underlying Tryz.underlying9, sizeOf, typeInfo, hi, hs1, Builtin.lenOf, S_size, hroom, hf, Addr.add_lit, hst]
    refine ⟨_, _, hr, ⟨g, cap, _, fr, by rw [List.length_append], setRow_heap w g cur _ _ _ h2, by rw [List.length_append]; exact hroom, h4, ?_, ?_, h7⟩, ⟨rfl, rfl, rfl, by simp, fun k _ hk => setRow_other w g k _ (fun e => hk (by simp [Value.ownBlock, e]))⟩, .inl rfl⟩
    · simp only [List.size_toArray, List.length_append, List.length_take, List.length_drop, Array.length_toList, byt_length]
      omega
    · rw [h6, List.toList_toArray, byt_append]
      refine List.take_left' ?_
      simp [byt_length]
  · have hold : ∀ j u, (byt o)[j]? = some u → w.cell? ((⟨g, 0, none⟩ : Addr).add j) = some u := by
      intro j u hj
      have hjl : j < o.length := by have := (List.getElem?_eq_some_iff.1 hj).1; rwa [byt_length] at this
      rw [addr_add, Nat.zero_add, cell_of_row _ _ _ _ _ _ h2]
      have e : cur[j]? = (cur.toList.take o.length)[j]? := by rw [List.getElem?_take_of_lt hjl]; simp
      rw [e, h6, hj]
    have hr := run_append_grow_string (P := Tryz.prog) w 81 9 81 5 i (.int .u8 0) Tryz.underlying81 Tryz.underlying9 hi hz ⟨g, 0, none⟩ o.length cap (byt o) (by rw [hs1, byt_length, Nat.mul_one]) hold (S s) (by rw [S_size]; omega) (by rw [S_size]; omega)
      (by rw [hb1]; exact growslice_fits (by rw [S_size]; omega) (by rw [S_size]; omega))
    rw [byt_str, S_size] at hr
    have hge := grownCap_ge w (o.length + s.length) cap 5
    have hcm := grownCap_le_maxLen w (o.length + s.length) cap 5 (by unfold maxLen; omega)
    refine ⟨_, _, hr, ⟨w.heap.size, _, _, (0, 0), by rw [List.length_append], heap_alloc_new w.drew _, by rw [List.length_append]; exact hge, hcm, ?_, ?_, fun j _ hh => by simp at hh⟩, ⟨rfl, rfl, rfl, by simp, fun k hk _ => heap_alloc_old w.drew _ hk⟩, .inr rfl⟩
    · have hz1 : (Value.int IntKind.u8 0).cells.size = 1 := rfl
      simp only [Array.size_append, List.size_toArray, size_zeroCells, hz1, byt_length]
      omega
    · simp only [Array.toList_append, List.append_assoc, byt_append]
      rw [← List.append_assoc]
      refine List.take_left' ?_
      simp [byt_length]
/-- 'append(nil, s...)'. -/
theorem append_str_nil (s : List UInt8) (w : World) (hs : s ≠ []) (hlen : s.length ≤ 140737488355328) :
    ∃ v' w', AppS (.slice none 0 0) s w v' w' ∧ RowB w' v' s ∧ Below w.heap.size w w' ∧ v'.ownBlock = some w.heap.size := by
  obtain ⟨i, hi, hz, hs1, hb1⟩ := info_parts info8
  have hpos : 0 < s.length := List.length_pos_iff.2 hs
  have hr := run_append_nil_string (P := Tryz.prog) w 81 9 81 5 i (.int .u8 0) Tryz.underlying81 Tryz.underlying9 hi hz (S s) (by rw [S_size]; omega) (by rw [S_size]; omega) (by rw [hb1, S_size]; omega)
  have e1 : ((S s).data.map fun b => Value.int .u8 b.toNat) = (byt s).toArray := by
    apply Array.ext'
    simp [byt, S]
  rw [e1, S_size] at hr
  have hge := grownCap_ge w s.length 0 5
  have hcm := grownCap_le_maxLen w s.length 0 5 (by unfold maxLen; omega)
  refine ⟨_, _, hr, ⟨w.heap.size, _, _, (0, 0), rfl, heap_alloc_new w.drew _, hge, hcm, ?_, ?_, fun j _ hh => by simp at hh⟩, (below_drew (Below.refl _ w)).alloc (Nat.le_refl _) _, rfl⟩
  · have hz1 : (Value.int IntKind.u8 0).cells.size = 1 := rfl
    simp only [Array.size_append, List.size_toArray, size_zeroCells, hz1, byt_length]
    omega
  · simp only [Array.toList_append]
    refine List.take_left' ?_
    simp [byt_length]
/-- '[]byte(s)'. -/
theorem conv_str (s : List UInt8) (w : World) (hlen : s.length ≤ 140737488355328) :
    ∃ v' w', (convert 9 81 (.string (S s))).run Tryz.prog w = .ok v' w' ∧ RowB w' v' s ∧ Below w.heap.size w w' ∧ v'.ownBlock = some w.heap.size := by
  have hr := Lib.run_convert_string_bytes (P := Tryz.prog) w 9 81 5 (S s) Tryz.underlying9 Tryz.underlying81 Tryz.underlying5
  have hge := grownCap_ge w s.length 0 5
  have hcm := grownCap_le_maxLen w s.length 0 5 (by unfold maxLen; omega)
  have hsz : (Lib.bytesCells w 5 (S s)).size = grownCap w s.length 0 5 := by
    unfold Lib.bytesCells
    rw [Array.size_append, Array.size_map, Array.size_replicate]
    show s.length + (grownCap w s.length 0 5 - s.length) = _
    omega
  refine ⟨_, _, hr, ⟨w.heap.size, _, _, _, rfl, Lib.bytesWorld_at_new w _ (S s), hge, hcm, hsz, ?_, fun j hj hh => by
    have h1 : (Lib.bytesCells w 5 (S s)).size ≤ j := hh.1
    have h2 : j < grownCap w s.length 0 5 := hj
    omega⟩, ⟨rfl, rfl, rfl, by rw [Lib.bytesWorld_size]; omega, fun k hk => Lib.bytesWorld_at_old w _ _ k hk⟩, rfl⟩
  unfold Lib.bytesCells
  rw [Array.toList_append]
  have e1 : ((S s).data.map fun b => Value.int .u8 b.toNat).toList = byt s := by simp [byt, S]
  rw [e1]
  refine List.take_left' ?_
  simp [byt_length]
/-- 'string(v)'. -/
theorem conv_row (v : Value) (s : List UInt8) (w : World) (h : RowB w v s) : (convert 81 9 v).run Tryz.prog w = .ok (.string (S s)) w := by
  obtain ⟨g, cap, rfl, hc⟩ := h.cell
  have hr := run_convert_bytes_arg (P := Tryz.prog) w 81 5 Tryz.underlying81 Tryz.underlying5 g 0 s.length cap (s.map fun c => (c.toNat : Int)) (by simp) (fun i hi => by
    rw [Nat.zero_add, hc i hi]
    simp [List.getD_eq_getElem?_getD, hi]) 9 Tryz.underlying9
  rw [hr]
  have e : strOfNums (s.map fun c => (c.toNat : Int)) = S s := by
    show (⟨((s.map fun c => (c.toNat : Int)).map fun n => UInt8.ofNat n.toNat).toArray⟩ : ByteArray) = ⟨s.toArray⟩
    have e2 : ((s.map fun c => (c.toNat : Int)).map fun n => UInt8.ofNat n.toNat) = s := by
      rw [List.map_map]
      conv => rhs; rw [← List.map_id s]
      refine List.map_congr_left fun c _ => ?_
      show UInt8.ofNat ((c.toNat : Int)).toNat = c
      rw [Int.toNat_natCast, UInt8.ofNat_toNat]
    rw [e2]
  rw [e]
end Go.Proofs.YtpimdbnhpbjlkaaGreatDoor.rw
