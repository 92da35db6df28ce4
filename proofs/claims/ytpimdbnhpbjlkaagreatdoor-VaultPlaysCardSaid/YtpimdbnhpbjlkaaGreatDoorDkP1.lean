/-
  The program's files as they lie: a map of rows of bytes, no two rows in one block; what its small functions make of them.
-/
import Derived.Test.YtpimdbnhpbjlkaaGreatDoorDkRef3
import Derived.Test.YtpimdbnhpbjlkaaGreatDoorBy
import Derived.Test.YtpimdbnhpbjlkaaGreatDoorMp
import Derived.Test.YtpimdbnhpbjlkaaGreatDoorShelf
import Derived.OwnWalk
namespace Go.Proofs.YtpimdbnhpbjlkaaGreatDoor.dk
set_option linter.unusedVariables false
open Go.RowKit
open fl (S S_size S_append S_inj str_eq str_ne)
open rw (Arr But Row Own bnext below_box below_drew below_drewN addr_add Fr RowB)
open mp (Mp Turned kget kput kwithout kmap KSorted)

/-! ### The lists are the same -/
theorem get_k (l : List File) (n : Bs) : kget l n = get l n := rfl
theorem without_k (l : List File) (n : Bs) : kwithout l n = without l n := rfl
theorem ins_k (f : File) : ∀ l : List File, mp.kins f l = ins f l
  | [] => rfl
  | x :: r => by unfold mp.kins ins; rw [ins_k f r]
theorem put_k (l : List File) (f : File) : kput l f = put l f := by unfold kput put; rw [ins_k]; rfl
theorem sorted_k (l : List File) : KSorted l ↔ Sorted l := Iff.rfl

/-- A file as it lies: its name, its bytes, its row. -/
abbrev FV := Bs × (Bs × Value)
abbrev con (fs : List FV) : List File := kmap (fun x => x.1) fs
abbrev vals (fs : List FV) : List (Bs × Value) := kmap (fun x => Value.agg #[x.2]) fs
structure FMs (w : World) (b : Nat) (fs : List FV) : Prop where
  map : Mp w b (vals fs)
  own : ∀ f ∈ fs, RowB w f.2.2 f.2.1
  apart : ∀ f ∈ fs, ∀ g ∈ fs, f.1 ≠ g.1 → ∀ q, f.2.2.ownBlock = some q → g.2.2.ownBlock ≠ some q
  small : ∀ f ∈ fs, f.1.length ≤ maxLen
/-- The blocks that they take. -/
def foot (b : Nat) (fs : List FV) (k : Nat) : Prop := k = b ∨ ∃ f ∈ fs, f.2.2.ownBlock = some k
def FM (w : World) (F : Nat → Prop) (b : Nat) (l : List File) : Prop := ∃ fs, FMs w b fs ∧ con fs = l ∧ ∀ k, F k ↔ foot b fs k
/-- No block of F' but those of F and new ones. -/
def Nu (w : World) (F F' : Nat → Prop) : Prop := ∀ k, F' k → F k ∨ w.heap.size ≤ k
theorem Nu.refl (w : World) (F : Nat → Prop) : Nu w F F := fun _ h => .inl h
theorem Nu.trans {w w1 : World} {F F' F'' : Nat → Prop} (h : Nu w F F') (k : Nu w1 F' F'') (hs : w.heap.size ≤ w1.heap.size) : Nu w F F'' := fun i hi => by
  rcases k i hi with h1 | h1
  · exact h i h1
  · exact .inr (by omega)
theorem FMs.sorted {w : World} {b : Nat} {fs : List FV} (h : FMs w b fs) : KSorted fs := (mp.kmap_sorted _).1 h.map.2
theorem FM.sorted {w : World} {F : Nat → Prop} {b : Nat} {l : List File} (h : FM w F b l) : Sorted l := by
  obtain ⟨fs, h1, rfl, _⟩ := h
  exact (mp.kmap_sorted _).2 h1.sorted
/-- Of what block is each of them. -/
theorem FM.typed {w : World} {F : Nat → Prop} {b : Nat} {l : List File} (h : FM w F b l) : ∀ k, F k → (∃ es c, w.heap[k]? = some (.map es c)) ∨ ∃ cs fr, w.heap[k]? = some (.cells cs 5 fr) := by
  obtain ⟨fs, h1, rfl, hF⟩ := h
  intro k hk
  rcases (hF k).1 hk with rfl | ⟨f, hf, e⟩
  · exact .inl h1.map.block
  · obtain ⟨g, e2, _, cs, fr, hh⟩ := (h1.own f hf).at
    rw [e] at e2
    cases e2
    exact .inr ⟨cs, fr, hh⟩
theorem FM.lt {w : World} {F : Nat → Prop} {b : Nat} {l : List File} (h : FM w F b l) {k : Nat} (hk : F k) : k < w.heap.size := by
  rcases h.typed k hk with ⟨es, c, hh⟩ | ⟨cs, fr, hh⟩ <;> exact (Array.getElem?_eq_some_iff.1 hh).1
theorem FM.map {w : World} {F : Nat → Prop} {b : Nat} {l : List File} (h : FM w F b l) : F b := by
  obtain ⟨fs, h1, rfl, hF⟩ := h
  exact (hF b).2 (.inl rfl)
theorem FMs.of {w w' : World} {b : Nat} {fs : List FV} (h : FMs w b fs) (hb : ∀ k, foot b fs k → w'.heap[k]? = w.heap[k]?) : FMs w' b fs :=
  ⟨h.map.of (hb b (.inl rfl)), fun f hf => (h.own f hf).of fun q hq => hb q (.inr ⟨f, hf, hq⟩), h.apart, h.small⟩
theorem FM.of {w w' : World} {F : Nat → Prop} {b : Nat} {l : List File} (h : FM w F b l) (hb : ∀ k, F k → w'.heap[k]? = w.heap[k]?) : FM w' F b l := by
  obtain ⟨fs, h1, h2, hF⟩ := h
  exact ⟨fs, h1.of fun k hk => hb k ((hF k).2 hk), h2, hF⟩
theorem FM.fr {w w' : World} {F G : Nat → Prop} {b : Nat} {l : List File} (h : FM w F b l) (k : Fr G w w') (hd : ∀ i, F i → ¬ G i) : FM w' F b l := h.of fun i hi => k.block i (h.lt hi) (hd i hi)
theorem FM.below {w w' : World} {F : Nat → Prop} {b : Nat} {l : List File} (h : FM w F b l) (k : Below w.heap.size w w') : FM w' F b l := h.of fun i hi => k.block i (h.lt hi)
/-- What stands at a name. -/
theorem FMs.at {w : World} {b : Nat} {fs : List FV} (h : FMs w b fs) (n : Bs) : (kget (con fs) n = none ∧ kget (vals fs) n = none ∧ kget fs n = none) ∨ ∃ o v, kget fs n = some (o, v) ∧ (n, (o, v)) ∈ fs ∧ kget (con fs) n = some o ∧ kget (vals fs) n = some (.agg #[v]) ∧ RowB w v o := by
  rw [mp.kmap_get, mp.kmap_get]
  cases hk : kget fs n with
  | none => exact .inl ⟨rfl, rfl, rfl⟩
  | some x => exact .inr ⟨x.1, x.2, rfl, mp.kget_some hk, rfl, rfl, h.own _ (mp.kget_some hk)⟩
/-- Another row in place of what stood at a name. -/
theorem FMs.put {w w' : World} {b : Nat} {fs : List FV} (h : FMs w b fs) {n s : Bs} {v : Value} (hm : Mp w' b (kput (vals fs) (n, .agg #[v]))) (hv : RowB w' v s) (hn : n.length ≤ maxLen)
    (hk : ∀ f ∈ fs, f.1 ≠ n → ∀ q, f.2.2.ownBlock = some q → w'.heap[q]? = w.heap[q]?) (hq : ∀ f ∈ fs, f.1 ≠ n → ∀ q, f.2.2.ownBlock = some q → v.ownBlock ≠ some q) : FMs w' b (kput fs (n, (s, v))) := by
  refine ⟨by unfold vals; rw [mp.kmap_put]; exact hm, fun f hf => ?_, fun f hf g hg hne q hqf => ?_, fun f hf => ?_⟩
  · rcases mp.mem_kput.1 hf with rfl | ⟨hf, hne⟩
    · exact hv
    · exact (h.own f hf).of (hk f hf hne)
  · rcases mp.mem_kput.1 hf with rfl | ⟨hf, hnf⟩
    · rcases mp.mem_kput.1 hg with rfl | ⟨hg, hng⟩
      · exact absurd rfl hne
      · intro e
        exact hq g hg hng q e hqf
    · rcases mp.mem_kput.1 hg with rfl | ⟨hg, hng⟩
      · exact hq f hf hnf q hqf
      · exact h.apart f hf g hg hne q hqf
  · rcases mp.mem_kput.1 hf with rfl | ⟨hf, hne⟩
    · exact hn
    · exact h.small f hf
theorem FMs.drop {w w' : World} {b : Nat} {fs : List FV} (h : FMs w b fs) {n : Bs} (hm : Mp w' b (kwithout (vals fs) n)) (hk : ∀ f ∈ fs, ∀ q, f.2.2.ownBlock = some q → w'.heap[q]? = w.heap[q]?) : FMs w' b (kwithout fs n) := by
  refine ⟨by unfold vals; rw [mp.kmap_without]; exact hm, fun f hf => ?_, fun f hf g hg => h.apart f (mp.mem_kwithout.1 hf).1 g (mp.mem_kwithout.1 hg).1, fun f hf => h.small f (mp.mem_kwithout.1 hf).1⟩
  have := (mp.mem_kwithout.1 hf).1
  exact (h.own f this).of (hk f this)
theorem FMs.row_ne {w : World} {b : Nat} {fs : List FV} (h : FMs w b fs) {f : FV} (hf : f ∈ fs) {q : Nat} (hq : f.2.2.ownBlock = some q) : q ≠ b := by
  obtain ⟨g, e, _, cur, fr, hh⟩ := (h.own f hf).at
  rw [hq] at e
  cases e
  obtain ⟨es, c, hb⟩ := h.map.block
  intro e
  rw [e, hb] at hh
  cases hh
theorem field_file (a : Option Addr) (n c : Nat) (w : World) : (Instr.field 102 (.agg #[.slice a n c]) 0).run Tryz.prog w = .ok (.slice a n c) w := by kernel_rfl
theorem zero_file (w : World) : (zeroValue 102).run Tryz.prog w = .ok (.agg #[.slice none 0 0]) w := by kernel_rfl

/-- The law's forms at the operations: an equation on the run is all that they ask. -/
theorem wpList_update_at {P : Program} {w : World} {ops : Array Oper} {rest : List Oper} {o : Oper} {a : Act} {Q : Exit → Act → World → Prop} (m x v : Operand) (t : TypeId)
    (hw : Region.wanted o (yielded ops a.tmps) = true) (ho : o.op = .mapUpdate t m x v) (vm vx vv : Value) (w' : World) (hm : a.eval m = vm) (hx : a.eval x = vx) (hv : a.eval v = vv)
    (hr : (Instr.mapUpdate t vm vx vv).run P w = .ok () w') (h : wpList P ops Q rest (a.put o.dst undef) w') : wpList P ops Q (o :: rest) a w :=
  wpList_step fun K hK => by
    rw [if_pos hw]
    unfold Oper.wp
    simp [execOp, ho, hm, hx, hv, hr, Result.andThen]
    exact hK _ _ h
theorem wpList_append2_at {P : Program} {w : World} {ops : Array Oper} {rest : List Oper} {o : Oper} {a : Act} {Q : Exit → Act → World → Prop} (s x : Operand) (t u : TypeId)
    (hw : Region.wanted o (yielded ops a.tmps) = true)
    (ho : o.op = .call { callee := .builtin .append, args := #[s, x], argTypes := #[t, u] }) (vs vx v' : Value) (w' : World) (hs : a.eval s = vs) (hx : a.eval x = vx)
    (hr : (Builtin.append_ #[t, u] o.type #[vs, vx]).run P w = .ok v' w') (h : wpList P ops Q rest (a.put o.dst v') w') : wpList P ops Q (o :: rest) a w :=
  wpList_step fun K hK => by
    rw [if_pos hw]
    unfold Oper.wp execOp
    simp only [ho, resolve, invoke, builtin, Sem.run_bind, Sem.run_pure, Result.andThen_ok, List.map_toArray, List.map_cons, List.map_nil, hs, hx, hr]
    exact hK _ _ h
theorem wpList_delete_at {P : Program} {w : World} {ops : Array Oper} {rest : List Oper} {o : Oper} {a : Act} {Q : Exit → Act → World → Prop} (s x : Operand) (t u : TypeId)
    (hw : Region.wanted o (yielded ops a.tmps) = true)
    (ho : o.op = .call { callee := .builtin .delete, args := #[s, x], argTypes := #[t, u] }) (vs vx v' : Value) (w' : World) (hs : a.eval s = vs) (hx : a.eval x = vx)
    (hr : (Builtin.delete_ #[t, u] o.type #[vs, vx]).run P w = .ok v' w') (h : wpList P ops Q rest (a.put o.dst v') w') : wpList P ops Q (o :: rest) a w :=
  wpList_step fun K hK => by
    rw [if_pos hw]
    unfold Oper.wp execOp
    simp only [ho, resolve, invoke, builtin, Sem.run_bind, Sem.run_pure, Result.andThen_ok, List.map_toArray, List.map_cons, List.map_nil, hs, hx, hr]
    exact hK _ _ h

abbrev tf := 54
theorem und_f : Tryz.prog.underlying 54 = some (.map 9 102) := Tryz.underlying54

set_option maxRecDepth 100000 in
theorem size_any (F : Nat → Prop) (b : Nat) (l : List File) (n : Bs) (hn : n.length ≤ maxLen) (w : World) (h : FM w F b l) :
    Calls Tryz.prog 56 #[.map (some b), .string (S n)] w fun e w' => e = .returned (.int .i64 (((get l n).getD []).length : Nat)) ∧ w' = w := by
  obtain ⟨fs, h1, rfl, hF⟩ := h
  have hr := h1.map.look und_f (zero_file w) n hn
  rw [← get_k]
  rcases h1.at n with ⟨e1, e2, _⟩ | ⟨o, v, _, _, e1, e2, hv⟩
  · rw [e1]
    rw [e2] at hr
    simp only [Option.getD_none, List.length_nil] at hr ⊢
    clear e1 e2 hF h1
    have hfl := fun x => field_file x
    go_enter Tryz.func56, Tryz.ntmps56
    go_wp2
    go_ret
    exact ⟨rfl, rfl⟩
  · rw [e1]
    rw [e2] at hr
    obtain ⟨a, c, rfl, _⟩ := hv.form
    simp only [Option.getD_some] at hr ⊢
    clear e1 e2 hF h1 hv
    have hfl := fun x => field_file x
    go_enter Tryz.func56, Tryz.ntmps56
    go_wp2
    go_ret
    exact ⟨rfl, rfl⟩
set_option maxRecDepth 100000 in
theorem has_any (F : Nat → Prop) (b : Nat) (l : List File) (n : Bs) (hn : n.length ≤ maxLen) (w : World) (h : FM w F b l) :
    Calls Tryz.prog 71 #[.map (some b), .string (S n)] w fun e w' => e = .returned (.bool (get l n).isSome) ∧ Below w.heap.size w w' := by
  obtain ⟨fs, h1, rfl, hF⟩ := h
  have hr := h1.map.lookok und_f (zero_file w) n hn
  rw [← get_k]
  rcases h1.at n with ⟨e1, e2, _⟩ | ⟨o, v, _, _, e1, e2, hv⟩
  · rw [e1]
    rw [e2] at hr
    simp only [Option.getD_none, Option.isSome_none] at hr ⊢
    clear e1 e2 hF h1
    go_enter Tryz.func71, Tryz.ntmps71
    go_wp2
    go_ret
    exact ⟨rfl, below_box w _⟩
  · rw [e1]
    rw [e2] at hr
    obtain ⟨a, c, rfl, _⟩ := hv.form
    simp only [Option.getD_some, Option.isSome_some] at hr ⊢
    clear e1 e2 hF h1 hv
    go_enter Tryz.func71, Tryz.ntmps71
    go_wp2
    go_ret
    exact ⟨rfl, below_box w _⟩

theorem foot_put {b : Nat} {fs : List FV} {n s : Bs} {v : Value} {k : Nat} (h : foot b (kput fs (n, (s, v))) k) : foot b fs k ∨ v.ownBlock = some k := by
  rcases h with rfl | ⟨f, hf, e⟩
  · exact .inl (.inl rfl)
  · rcases mp.mem_kput.1 hf with rfl | ⟨hf, _⟩
    · exact .inr e
    · exact .inl (.inr ⟨f, hf, e⟩)
theorem con_put (fs : List FV) (n s : Bs) (v : Value) : con (kput fs (n, (s, v))) = put (con fs) (n, s) := by unfold con; rw [mp.kmap_put, put_k]
theorem con_without (fs : List FV) (n : Bs) : con (kwithout fs n) = without (con fs) n := by unfold con; rw [mp.kmap_without, without_k]
/-- What a call makes of files. -/
def Made (w : World) (F : Nat → Prop) (b : Nat) (l : List File) (w' : World) : Prop := ∃ F', FM w' F' b l ∧ Fr F w w' ∧ Nu w F F'

set_option maxHeartbeats 1000000 in
set_option maxRecDepth 100000 in
theorem fput_any (F : Nat → Prop) (b : Nat) (l : List File) (n s : Bs) (hn : n.length ≤ 80) (hl : l.length ≤ 1000000) (hz : s.length ≤ 140737488355328) (w : World) (h : FM w F b l) :
    Calls Tryz.prog 60 #[.map (some b), .string (S n), .string (S s)] w fun e w' => e = .returned (.tuple #[]) ∧ Made w F b (put l (n, s)) w' := by
  obtain ⟨fs, h1, rfl, hF⟩ := h
  have hnm : n.length ≤ maxLen := by unfold maxLen; omega
  have hlen : (vals fs).length < maxLen := by
    rw [mp.kmap_length] at hl ⊢
    unfold maxLen; omega
  obtain ⟨v', w1, ha, hrow, hb, hnew⟩ := rw.conv_str s w hz
  obtain ⟨a', c', rfl, _⟩ := hrow.form
  have hlt : ∀ f ∈ fs, ∀ q, f.2.2.ownBlock = some q → q < w.heap.size := by
    intro f hf q hq
    obtain ⟨g, e, hlt, _⟩ := (h1.own f hf).at
    rw [hq] at e
    cases e
    exact hlt
  have hm1 : Mp w1 b (vals fs) := h1.map.of (hb.block b h1.map.lt)
  obtain ⟨w2, hup, hm2, ht⟩ := hm1.store und_f n hnm hlen (.agg #[.slice (some a') s.length c'])
  have hgb : w.heap.size ≠ b := by have := h1.map.lt; omega
  have hrow2 : RowB w2 (.slice (some a') s.length c') s := hrow.of fun q hq => ht.block q (by rw [hnew] at hq; cases hq; exact hgb)
  have hF2 := h1.put (w' := w2) (n := n) (s := s) (v := .slice (some a') s.length c') hm2 hrow2 hnm
    (fun f hf hne q hq => (ht.block q (h1.row_ne hf hq)).trans (hb.block q (hlt f hf q hq)))
    (fun f hf hne q hq e => by
      rw [hnew] at e
      have := hlt f hf q hq
      cases e
      omega)
  have hM : Hid (Made w F b (put (con fs) (n, s)) w2) := by
    refine ⟨foot b (kput fs (n, (s, .slice (some a') s.length c'))), ⟨_, hF2, con_put _ _ _ _, fun k => Iff.rfl⟩, ?_, ?_⟩
    · have f1 : Fr F w w1 := Fr.of_below hb
      exact f1.trans (G := fun k => k = b) ⟨ht.os, ht.tape, ht.output, Nat.le_of_eq ht.size.symm, fun k _ hk => ht.block k hk⟩ fun i _ e => by rw [e]; exact (hF b).2 (.inl rfl)
    · intro k hk
      rcases foot_put hk with hk | hk
      · exact .inl ((hF k).2 hk)
      · rw [hnew] at hk
        cases hk
        exact .inr (Nat.le_refl _)
  clear hF2 hrow2 hm1 hm2 ht hrow hb hnew hF h1 hlt hgb
  generalize s.length = L at *
  go_enter Tryz.func60, Tryz.ntmps60
  go_wp2_with (first | (refine wpList_update_at _ _ _ _ rfl rfl _ _ _ _ rfl rfl rfl hup ?_) | fail)
  exact bodyPost_end (results_none rfl _ _ _) rfl ⟨rfl, hM.out⟩

set_option maxHeartbeats 1000000 in
set_option maxRecDepth 100000 in
theorem fdrop_any (F : Nat → Prop) (b : Nat) (l : List File) (n : Bs) (hn : n.length ≤ 80) (w : World) (h : FM w F b l) :
    Calls Tryz.prog 81 #[.map (some b), .string (S n)] w fun e w' => e = .returned (.tuple #[]) ∧ Made w F b (without l n) w' := by
  obtain ⟨fs, h1, rfl, hF⟩ := h
  have hnm : n.length ≤ maxLen := by unfold maxLen; omega
  obtain ⟨w2, hup, hm2, ht⟩ := h1.map.drop und_f n hnm 0
  have hF2 := h1.drop (w' := w2) (n := n) hm2 (fun f hf q hq => ht.block q (h1.row_ne hf hq))
  have hM : Hid (Made w F b (without (con fs) n) w2) := by
    refine ⟨foot b (kwithout fs n), ⟨_, hF2, con_without _ _, fun k => Iff.rfl⟩, ⟨ht.os, ht.tape, ht.output, Nat.le_of_eq ht.size.symm, fun k _ hk => ht.block k fun e => hk (by rw [e]; exact (hF b).2 (.inl rfl))⟩, fun k hk => .inl ((hF k).2 ?_)⟩
    rcases hk with rfl | ⟨f, hf, e⟩
    · exact .inl rfl
    · exact .inr ⟨f, (mp.mem_kwithout.1 hf).1, e⟩
  clear hF2 hm2 ht hF h1
  go_enter Tryz.func81, Tryz.ntmps81
  go_wp2_with (first | (refine wpList_delete_at _ _ _ _ rfl rfl _ _ _ _ rfl rfl hup ?_) | fail)
  exact bodyPost_end (results_none rfl _ _ _) rfl ⟨rfl, hM.out⟩

end Go.Proofs.YtpimdbnhpbjlkaaGreatDoor.dk
