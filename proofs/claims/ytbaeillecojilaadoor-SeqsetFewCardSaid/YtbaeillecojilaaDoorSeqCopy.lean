/-
  'append([]T{}, l...)': a row of the same; nothing that was there has changed.
-/
import Derived.Test.YtbaeillecojilaaDoorSeqAlive
import Derived.Laws.OwnMore
namespace Go.Proofs.YtbaeillecojilaaDoor.sq
open Go.RowKit

/-- An append whose run is known, at an operation that its guard lets by. -/
theorem wpList_append_at {P : Program} {w : World} {ops : Array Oper} {rest : List Oper} {o : Oper} {a : Act} {Q : Exit → Act → World → Prop} (s x : Operand) (t : TypeId)
    (hw : Region.wanted o (yielded ops a.tmps) = true)
    (ho : o.op = .call { callee := .builtin .append, args := #[s, x], argTypes := #[t, t] }) (vs vx v' : Value) (w' : World) (hs : a.eval s = vs) (hx : a.eval x = vx)
    (hr : (Builtin.append_ #[t, t] o.type #[vs, vx]).run P w = .ok v' w') (h : wpList P ops Q rest (a.put o.dst v') w') : wpList P ops Q (o :: rest) a w :=
  wpList_step fun K hK => by
    rw [if_pos hw]
    unfold Oper.wp execOp
    simp only [ho, resolve, invoke, builtin, Sem.run_bind, Sem.run_pure, Result.andThen_ok, List.map_toArray, List.map_cons, List.map_nil, hs, hx, hr]
    exact hK _ _ h

theorem addr_add (b off j : Nat) : (⟨b, off, none⟩ : Addr).add j = ⟨b, off + j, none⟩ := by unfold Addr.add; split <;> simp_all

theorem copy64 (w : World) (a : Option Addr) (cap : Nat) (l : List Nat) (hlen : l.length ≤ 1048576) (hrow : Row64 w a l) (hnil : a = none → cap = 0 ∧ l = []) :
    ∃ v' w', (Builtin.append_ #[32, 32] 32 #[.slice (some ⟨w.heap.size, 0, none⟩) 0 0, .slice a l.length cap]).run Tryd.prog (w.alloc (.cells #[] 31)) = .ok v' w' ∧
      (∃ a' cap', v' = .slice a' l.length cap' ∧ Row64 w' a' l) ∧ Below w.heap.size w w' := by
  obtain ⟨i0, hi, hz0, hz1, hz2⟩ := info_parts info64
  have hown := World.ownsRow_made (base := w.heap.size) (e := 31) (size := 1) w #[] 0 (Nat.le_refl _) (by unfold maxLen; omega) (by simp)
  have hb0 : Below w.heap.size w (w.alloc (.cells #[] 31)) := (Below.refl _ w).alloc (Nat.le_refl _) _
  cases a with
  | none =>
    obtain ⟨rfl, rfl⟩ := hnil rfl
    have h := run_append_owned_none (P := Tryd.prog) (w := w.alloc (.cells #[] 31)) w.heap.size 32 32 31 i0 1 Tryd.underlying32 hi _ 0 [] hown
    exact ⟨_, _, h, ⟨_, _, rfl, Or.inl rfl⟩, hb0⟩
  | some ad =>
    have hnews : ∀ j u, (cells64 l)[j]? = some u → (w.alloc (.cells #[] 31)).cell? (ad.add j) = some u := by
      intro j u hj
      rcases hrow with rfl | ⟨b, off, hab, hbw, hcell⟩
      · simp [cells64] at hj
      · obtain rfl : ad = ⟨b, off, none⟩ := Option.some.inj hab
        have hjl : j < l.length := by
          rcases Nat.lt_or_ge j l.length with h | h
          · exact h
          · rw [List.getElem?_eq_none (by simpa [cells64] using h)] at hj; cases hj
        rw [addr_add, World.cell?_alloc_past _ _ _ hbw, hcell j hjl]
        simpa [cells64, List.getElem?_eq_getElem hjl] using hj
    obtain ⟨v', w', hrun, hown', hgrow, _⟩ := run_append_own (P := Tryd.prog) (w := w.alloc (.cells #[] 31)) w.heap.size 32 32 31 i0 (.int .u64 0) 1 8 Tryd.underlying32 hi hz0 hz1 hz2 rfl (by decide) _ 0 [] hown ad l.length cap
      (cells64 l) (by simp [cells64]) hnews (by intro u hu; obtain ⟨x, _, rfl⟩ := List.mem_map.1 hu; rfl) (by unfold maxLen; omega) (by omega) (by simp)
    rw [Nat.zero_add, List.nil_append] at hown'
    exact ⟨v', w', hrun, row_of_own rfl hown', hb0.grown hgrow (by simp) (fun k hk => (hown.lt k hk).1)⟩

/-- 'append([]uint64{n}, l...)'. -/
theorem copy64c (w : World) (n : Nat) (a : Option Addr) (cap : Nat) (l : List Nat) (hlen : l.length ≤ 1048576) (hrow : Row64 w a l) (hnil : a = none → cap = 0 ∧ l = []) :
    ∃ v' w', (Builtin.append_ #[32, 32] 32 #[.slice (some ⟨w.heap.size, 0, none⟩) 1 1, .slice a l.length cap]).run Tryd.prog (w.alloc (.cells #[.int .u64 (n : Int)] 31)) = .ok v' w' ∧
      (∃ a' cap', v' = .slice a' (l.length + 1) cap' ∧ Row64 w' a' (n :: l)) ∧ Below w.heap.size w w' := by
  obtain ⟨i0, hi, hz0, hz1, hz2⟩ := info_parts info64
  have hown := World.ownsRow_lit (base := w.heap.size) (e := 31) (size := 1) w #[.int .u64 (n : Int)] 1 (Nat.le_refl _) (by unfold maxLen; omega) (by simp)
  have hb0 : Below w.heap.size w (w.alloc (.cells #[.int .u64 (n : Int)] 31)) := (Below.refl _ w).alloc (Nat.le_refl _) _
  cases a with
  | none =>
    obtain ⟨rfl, rfl⟩ := hnil rfl
    have h := run_append_owned_none (P := Tryd.prog) (w := w.alloc (.cells #[.int .u64 (n : Int)] 31)) w.heap.size 32 32 31 i0 1 Tryd.underlying32 hi _ 1 [.int .u64 (n : Int)] hown
    exact ⟨_, _, h, row_of_own (l := [n]) rfl hown, hb0⟩
  | some ad =>
    have hnews : ∀ j u, (cells64 l)[j]? = some u → (w.alloc (.cells #[.int .u64 (n : Int)] 31)).cell? (ad.add j) = some u := by
      intro j u hj
      rcases hrow with rfl | ⟨b, off, hab, hbw, hcell⟩
      · simp [cells64] at hj
      · obtain rfl : ad = ⟨b, off, none⟩ := Option.some.inj hab
        have hjl : j < l.length := by
          rcases Nat.lt_or_ge j l.length with h | h
          · exact h
          · rw [List.getElem?_eq_none (by simpa [cells64] using h)] at hj; cases hj
        rw [addr_add, World.cell?_alloc_past _ _ _ hbw, hcell j hjl]
        simpa [cells64, List.getElem?_eq_getElem hjl] using hj
    obtain ⟨v', w', hrun, hown', hgrow, _⟩ := run_append_own (P := Tryd.prog) (w := w.alloc (.cells #[.int .u64 (n : Int)] 31)) w.heap.size 32 32 31 i0 (.int .u64 0) 1 8 Tryd.underlying32 hi hz0 hz1 hz2 rfl (by decide) _ 1 [.int .u64 (n : Int)] hown ad l.length cap
      (cells64 l) (by simp [cells64]) hnews (by intro u hu; obtain ⟨x, _, rfl⟩ := List.mem_map.1 hu; rfl) (by unfold maxLen; omega) (by omega) (by simp)
    refine ⟨v', w', hrun, ?_, hb0.grown hgrow (by simp) (fun k hk => (hown.lt k hk).1)⟩
    rw [show (1 + l.length) = l.length + 1 by omega] at hown'
    exact row_of_own (l := n :: l) rfl hown'

theorem cellsR_length (l : List (Nat × Nat)) : (cellsR l).length = l.length * 2 := by
  induction l with
  | nil => rfl
  | cons r l ih => rw [cellsR_cons]; simp only [List.length_cons, ih]; omega
theorem cellsR_one (l : List (Nat × Nat)) : ∀ u ∈ cellsR l, u.oneCell' = true := by
  intro u hu
  obtain ⟨r, _, h⟩ := List.mem_flatMap.1 hu
  rcases List.mem_cons.1 h with rfl | h
  · rfl
  · rw [List.mem_singleton.1 h]; rfl

theorem copyR (w : World) (a : Option Addr) (cap : Nat) (l : List (Nat × Nat)) (hlen : l.length ≤ 1048576) (hrow : RowR w a l) (hnil : a = none → cap = 0 ∧ l = []) :
    ∃ v' w', (Builtin.append_ #[22, 22] 22 #[.slice (some ⟨w.heap.size, 0, none⟩) 0 0, .slice a l.length cap]).run Tryd.prog (w.alloc (.cells #[] 41)) = .ok v' w' ∧
      (∃ a' cap', v' = .slice a' l.length cap' ∧ RowR w' a' l) ∧ Below w.heap.size w w' := by
  obtain ⟨i0, hi, hz0, hz1, hz2⟩ := info_parts infoR
  have hown := World.ownsRow_made (base := w.heap.size) (e := 41) (size := 2) w #[] 0 (Nat.le_refl _) (by unfold maxLen; omega) (by simp)
  have hb0 : Below w.heap.size w (w.alloc (.cells #[] 41)) := (Below.refl _ w).alloc (Nat.le_refl _) _
  cases a with
  | none =>
    obtain ⟨rfl, rfl⟩ := hnil rfl
    have h := run_append_owned_none (P := Tryd.prog) (w := w.alloc (.cells #[] 41)) w.heap.size 22 22 41 i0 2 Tryd.underlying22 hi _ 0 [] hown
    exact ⟨_, _, h, ⟨_, _, rfl, Or.inl rfl⟩, hb0⟩
  | some ad =>
    have hnews : ∀ j u, (cellsR l)[j]? = some u → (w.alloc (.cells #[] 41)).cell? (ad.add j) = some u := by
      intro j u hj
      rcases hrow with rfl | ⟨b, off, hab, hbw, hcell⟩
      · simp [cellsR] at hj
      · obtain rfl : ad = ⟨b, off, none⟩ := Option.some.inj hab
        have hjl : j < l.length * 2 := by
          rcases Nat.lt_or_ge j (l.length * 2) with h | h
          · exact h
          · rw [List.getElem?_eq_none (by rw [cellsR_length]; exact h)] at hj; cases hj
        have hk : j / 2 < l.length := by omega
        have hg := cellsR_get l (j / 2) hk
        have hc := hcell (j / 2) hk
        rw [addr_add, World.cell?_alloc_past _ _ _ hbw]
        rcases Nat.mod_two_eq_zero_or_one j with h0 | h1
        · rw [show j / 2 * 2 = j by omega] at hg hc
          rw [hc.1]; rw [hg.1] at hj; exact hj
        · rw [show j / 2 * 2 + 1 = j by omega] at hg
          rw [show off + j / 2 * 2 + 1 = off + j by omega] at hc
          rw [hc.2]; rw [hg.2] at hj; exact hj
    obtain ⟨v', w', hrun, hown', hgrow, _⟩ := run_append_own (P := Tryd.prog) (w := w.alloc (.cells #[] 41)) w.heap.size 22 22 41 i0 (.agg #[.int .u64 0, .int .u64 0]) 2 16 Tryd.underlying22 hi hz0 hz1 hz2 rfl (by decide) _ 0 [] hown ad l.length cap
      (cellsR l) (cellsR_length l) hnews (cellsR_one l) (by unfold maxLen; omega) (by omega) (by simp)
    rw [Nat.zero_add, List.nil_append] at hown'
    exact ⟨v', w', hrun, rowR_of_own rfl hown', hb0.grown hgrow (by simp) (fun k hk => (hown.lt k hk).1)⟩
end Go.Proofs.YtbaeillecojilaaDoor.sq
