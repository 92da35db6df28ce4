/-
  What the program's changes, Change, Print answer.
-/
import Derived.Test.YtiaggnpkmigbhaaDoorFlagProg
import Derived.Test.YtiaggnpkmigbhaaDoorFlagRef5
import Derived.Lib.Join
namespace Go.Proofs.YtiaggnpkmigbhaaDoor.fl
open Go.RowKit Go.Shelf

/-- 'append(s, l...)' to a row of one's own: the run. -/
theorem append_row (t : TypeId) (ht : Tryd.prog.underlying t = some (.slice 9)) (B : Nat) (v : Value) (o l : List (List UInt8)) (u : Value) (hlen : o.length + l.length ≤ 8796093022000) (w : World)
    (ho : w.ownsRow B 9 1 v o.length (cellsS o)) (hB : B ≤ w.heap.size) (hu : Sl w u l) :
    ∃ v' w', (∀ ty, (Builtin.append_ #[t, t] ty #[v, u]).run Tryd.prog w = .ok v' w') ∧ w'.ownsRow B 9 1 v' (o ++ l).length (cellsS (o ++ l)) ∧ w.grownBy w' v.ownBlock := by
  obtain ⟨i0, hi, hz0, hz1, hz2⟩ := info_parts infoS
  obtain ⟨a, c, rfl, hr, hc, hn⟩ := hu
  cases a with
  | none =>
    obtain rfl := hn rfl
    have hl : l = [] := by
      rcases hr with h | ⟨_, _, h, _⟩
      · exact h
      · cases h
    subst hl
    have h := fun ty => run_append_owned_none (P := Tryd.prog) (w := w) B t ty 9 i0 1 ht hi v o.length (cellsS o) ho
    rw [List.append_nil]
    exact ⟨_, _, h, ho, World.grownBy.refl w _⟩
  | some ad =>
    have hnews : ∀ j y, (cellsS l)[j]? = some y → w.cell? (ad.add j) = some y := by
      intro j y hj
      rcases hr with rfl | ⟨b, off, hab, hbw, hcell⟩
      · simp [cellsS] at hj
      · obtain rfl : ad = ⟨b, off, none⟩ := Option.some.inj hab
        have hjl : j < l.length := by
          rcases Nat.lt_or_ge j l.length with h | h
          · exact h
          · rw [List.getElem?_eq_none (by rw [cellsS_length]; exact h)] at hj; cases hj
        rw [addr_add, hcell j hjl]
        rw [cellsS_at hjl] at hj
        exact hj
    have hrun := fun ty => run_append_own (P := Tryd.prog) (w := w) B t ty 9 i0 (.string ⟨#[]⟩) 1 16 ht hi hz0 hz1 hz2 rfl (by decide) v o.length (cellsS o) ho ad l.length c
      (cellsS l) (by simp [cellsS]) hnews (cellsS_one l) (by unfold maxLen; omega) (by omega) hB
    obtain ⟨v', w', h1, h2, h3, _⟩ := hrun t
    refine ⟨v', w', fun ty => ?_, ?_, h3⟩
    · exact h1
    · rw [List.length_append, cellsS_append]; exact h2

set_option maxHeartbeats 2000000 in
set_option maxRecDepth 100000 in
theorem take_any (u u' : Value) (l bs : List (List UInt8)) (hl : l.length ≤ 1000) (hb' : bs.length ≤ 1000) (w : World) (hu : Sl w u l) (hu' : Sl w u' bs) :
    Calls Tryd.prog 52 #[u, u'] w fun e w' => (∃ v, e = .returned v ∧ Sl w' v (l.filter fun x => decide (x ∉ bs))) ∧ Below w.heap.size w w' := by
  obtain ⟨i0, hi, hz0, hz1, hz2⟩ := info_parts infoS
  obtain ⟨a, c, rfl, hr, _⟩ := hu
  obtain ⟨a', c', rfl, hs, _⟩ := hu'
  have HHA := Lib.hid (fun x (W : World) h => has_any a' c' bs x (by omega) W h)
  go_enter Tryd.func52, Tryd.ntmps52
  go_wp2
  go_loopw [5, 10] (fun v i wr => ∃ (k : Nat), i = .int .i64 k ∧ k ≤ l.length ∧ Hid (wr.ownsRow w.heap.size 9 1 v (leftAt l bs k).length (cellsS (leftAt l bs k))) ∧ Below w.heap.size w wr)
    (fun _ i _ => l.length - (intOf i).toNat)
  case atStart => exact ⟨0, rfl, Nat.zero_le _, Lib.hid (World.ownsRow_nil _ _ _ _), Below.refl _ _⟩
  case round =>
    obtain ⟨k, rfl, hk, HO, hB⟩ := hrel
    have hBs := hB.size
    by_cases hlt : k < l.length
    · have hha := HHA.out (l[k]'hlt) wr (hs.later hB)
      rcases hr.later hB with h0 | ⟨b, off, rfl, hb, hc⟩
      · rw [h0] at hlt; simp at hlt
      have hcell := hc k hlt
      have hki : (k : Int) < (l.length : Int) := by omega
      have hll := leftAt_le l bs hk
      by_cases hm : l[k]'hlt ∈ bs
      · have HN := Lib.hid (leftAt_in hlt hm)
        rw [decide_eq_true hm] at hha
        generalize l[k]'hlt = x at *
        clear hc hm
        have HO2 : Hid (wr.ownsRow w.heap.size 9 1 u5 (leftAt l bs (k + 1)).length (cellsS (leftAt l bs (k + 1)))) := Lib.hid (by rw [HN.out]; exact HO.out)
        go_wp2_with fail
        refine hha.mono ?_
        rintro e w2 ⟨rfl, rfl⟩
        go_wp2_with fail
        go_roundw
        case rel => exact ⟨k + 1, by go_num, by omega, HO2, hB⟩
        case measure => simp [intOf]; omega
      · have HN := Lib.hid (leftAt_out hlt hm)
        rw [decide_eq_false hm] at hha
        generalize l[k]'hlt = x at *
        clear hc hm
        go_wp2_with fail
        refine hha.mono ?_
        rintro e w2 ⟨rfl, rfl⟩
        clear hha
        go_wp2_with (at_builtin; refine wpList_append_own _ rfl _ _ 50 rfl w.heap.size 9 i0 (.string ⟨#[]⟩) 1 16 Tryd.underlying50 hi hz0 hz1 hz2 rfl (by decide) _ _ _ rfl (HO.out.alloc _) ⟨w2.heap.size, 0, none⟩ 1 1 [.string (S x)] rfl rfl ?c1 ?c2 ?c3 ?c4 ?c5 ?_)
        case c1 =>
          intro j u hj
          match j, hj with
          | 0, hj => simp at hj; subst hj; simp [Addr.add]
        case c2 => intro u hu; simp at hu; subst hu; rfl
        case c3 => unfold maxLen; omega
        case c4 => omega
        case c5 => simp; omega
        intro v5 w5 hown' hgrow hnil
        have hB5 : Below w.heap.size w w5 := (hB.alloc hBs _).grown hgrow (by simp; omega) (fun k hk => (HO.out.lt k hk).1)
        have HO5 : Hid (w5.ownsRow w.heap.size 9 1 v5 (leftAt l bs (k + 1)).length (cellsS (leftAt l bs (k + 1)))) := by
          refine Lib.hid ?_
          rw [HN.out, cellsS_snoc, List.length_append, List.length_singleton]
          exact hown'
        clear hown' hgrow hnil HO hB hBs HN
        go_wp2_with fail
        go_roundw
        case rel => exact ⟨k + 1, by go_num, by omega, HO5, hB5⟩
        case measure => simp [intOf]; omega
    · obtain rfl : k = l.length := by omega
      have hle : leftAt l bs l.length = l.filter (fun x => decide (x ∉ bs)) := by unfold leftAt; rw [List.take_length]
      rw [hle] at HO
      obtain ⟨a2, c2, rfl, h3⟩ := sl_own HO.out
      have HH := Lib.hid h3
      clear HO hle h3 hr hs
      go_wp2_with fail
      go_ret
      exact ⟨⟨_, rfl, a2, c2, rfl, HH.out⟩, hB⟩

set_option maxRecDepth 100000 in
theorem become_any (u u' : Value) (w : World) :
    Calls Tryd.prog 50 #[u, u'] w fun e w' => e = .returned u' ∧ w' = w := by
  go_enter Tryd.func50, Tryd.ntmps50
  go_wp2
  go_ret
  exact ⟨rfl, rfl⟩

set_option maxHeartbeats 1000000 in
set_option maxRecDepth 100000 in
theorem grow_any (n : Nat) (hn : n ≤ 2000) (w : World) :
    Calls Tryd.prog 84 #[.slice none 0 0, .int .i64 n] w fun e w' => (∃ v, e = .returned v ∧ w'.ownsRow w.heap.size 9 1 v 0 []) ∧ Below w.heap.size w w' := by
  obtain ⟨i0, hi, hz0, hz1, hz2⟩ := info_parts infoS
  by_cases h0 : n = 0
  · subst h0
    go_enter Tryd.func84, Tryd.ntmps84
    go_wp2
    go_ret
    exact ⟨⟨_, rfl, World.ownsRow_nil _ _ _ _⟩, Below.refl _ _⟩
  · have hold : (Builtin.firstCells i0.size 0 (.slice none 0 0)).run Tryd.prog w.drew = .ok ([] : List Value).toArray w.drew := by rw [hz1]; exact run_firstCells_none w.drew 1 0 0 0
    have hrun := fun ty => Lib.run_append_grow_zeros w 50 3 ty 9 i0 _ .i64 .i64 Tryd.underlying50 Tryd.underlying3 hi hz0 none 0 0 [] hold n (by omega) (by omega) (by omega) (by omega) (by rw [hz2]; omega) (by rw [hz2]; exact growslice_fits (by omega) (by omega))
    have hge := grownCap_ge w n 0 9
    have hcm := grownCap_le_maxLen w n 0 9 (by unfold maxLen; omega)
    simp only [Nat.zero_add] at hrun
    generalize grownCap w n 0 9 = G at *
    obtain ⟨ROW, hROW⟩ : ∃ ROW : Array Value, ROW = ([] : List Value).toArray ++ Builtin.zeroCells (Value.string ⟨#[]⟩).cells n ++ Builtin.zeroCells (Value.string ⟨#[]⟩).cells (G - n) := ⟨_, rfl⟩
    have hRs : ROW.size = G := by
      rw [hROW]
      simp [Builtin.zeroCells, Value.cells]
      omega
    rw [← hROW] at hrun
    have hown : (w.drew.alloc (.cells ROW 9)).ownsRow w.heap.size 9 1 (.slice (some ⟨w.heap.size, 0, none⟩) 0 G) 0 [] :=
      ⟨by simp, .inr ⟨w.heap.size, G, ROW, rfl, Nat.le_refl _, heap_alloc_new w.drew _, Nat.zero_le _, hcm, by omega, by simp⟩⟩
    have hbl : Below w.heap.size w (w.drew.alloc (.cells ROW 9)) := ((Below.refl _ w).drew).alloc (Nat.le_refl _) _
    have HH := Lib.hid (And.intro hown hbl)
    have hni : (n : Int) > 0 := by omega
    have hn2 : wrap64 ((n : Int)) = (n : Int) := by unfold wrap64; omega
    have hG63 : G ≤ 9223372036854775807 := by unfold maxLen at hcm; omega
    clear hold hROW hown hbl hcm h0 hRs
    go_enter Tryd.func84, Tryd.ntmps84
    go_wp2_with (at_builtin; refine Lib.wpList_append_run _ rfl _ _ _ _ rfl _ _ rfl rfl _ _ (hrun _) ?_)
    go_ret
    exact ⟨⟨_, rfl, HH.out.1⟩, HH.out.2⟩
end Go.Proofs.YtiaggnpkmigbhaaDoor.fl
