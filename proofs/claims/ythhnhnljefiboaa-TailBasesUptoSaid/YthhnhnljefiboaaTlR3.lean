/-
  What stands where: the document's Slice, Newer.
-/
import Derived.Test.YthhnhnljefiboaaTlR2
import Derived.Test.YthhnhnljefiboaaTlP4
namespace Go.Proofs.Ythhnhnljefiboaa.tl
set_option linter.unusedVariables false
open Go.RowKit
open pk (S S_size S_data)
open qm (Bs noSh)
open rw (Arr But below_box bnext below_drew below_drewN)

/-- The first so many from an index on. -/
def Lg.firsts (g : Lg) (f k : Nat) : List EnIn := (g.es.drop (f - g.base - 1)).take k
theorem Lg.ent_yes {g : Lg} {z : Nat} (h : (g.ent z).2 = true) : g.base < z ∧ z ≤ g.last ∧ ∃ (hk : z - g.base - 1 < g.es.length), (g.ent z).1 = g.es[z - g.base - 1] := by
  unfold Lg.ent at h ⊢
  split at h
  · rename_i hh
    have hk : z - g.base - 1 < g.es.length := by have := hh.2; unfold Lg.last at this; omega
    rw [if_pos hh]
    exact ⟨hh.1, hh.2, hk, getD_at hk⟩
  · cases h
theorem Lg.ent_none {g : Lg} {z : Nat} (h : (g.ent z).2 = false) : ¬ (g.base < z ∧ z ≤ g.last) := by
  unfold Lg.ent at h
  split at h
  · cases h
  · assumption
/-- Where the walk from f stands. -/
structure Sw (g : Lg) (f : Nat) (most : Int) (k z : Nat) : Prop where
  zz : z = f + k
  in_ : 0 < k → g.base < f ∧ z ≤ g.last + 1
  le : (k : Int) ≤ most ∨ k = 0
theorem Sw.full {g : Lg} {f : Nat} {most : Int} {k z : Nat} (h : Sw g f most k z) (hk : ¬ (k : Int) < most) : g.firsts f k = g.slice f most := by
  unfold Lg.slice Lg.firsts
  by_cases h0 : 1 ≤ most
  · have hkm : (k : Int) = most := by rcases h.le with h' | h' <;> omega
    have hi := h.in_ (by omega)
    rw [if_pos ⟨hi.1, by have := h.zz; omega, h0⟩]
    congr 1; omega
  · rw [if_neg (by omega)]
    have : k = 0 := by rcases h.le with h' | h' <;> omega
    subst this
    simp
theorem Sw.none {g : Lg} {f : Nat} {most : Int} {k z : Nat} (h : Sw g f most k z) (hk : (k : Int) < most) (he : (g.ent z).2 = false) : g.firsts f k = g.slice f most := by
  have hn := Lg.ent_none he
  have hz := h.zz
  unfold Lg.slice Lg.firsts
  by_cases h0 : k = 0
  · subst h0
    rw [if_neg (by omega)]
    simp
  · have hi := h.in_ (by omega)
    have hl : g.last = g.base + g.es.length := rfl
    rw [if_pos ⟨hi.1, by omega, by omega⟩, List.take_of_length_le (by rw [List.length_drop]; omega), List.take_of_length_le (by rw [List.length_drop]; omega)]
theorem Sw.next {g : Lg} {f : Nat} {most : Int} {k z : Nat} (h : Sw g f most k z) (hk : (k : Int) < most) (he : (g.ent z).2 = true) : Sw g f most (k + 1) (z + 1) ∧ g.firsts f (k + 1) = g.firsts f k ++ [(g.ent z).1] ∧ k < g.es.length := by
  obtain ⟨h1, h2, h3, h4⟩ := Lg.ent_yes he
  have hz := h.zz
  have hf : g.base < f := by
    by_cases h0 : k = 0
    · omega
    · exact (h.in_ (by omega)).1
  have hl : g.last = g.base + g.es.length := rfl
  refine ⟨⟨by omega, fun _ => ⟨hf, by omega⟩, by omega⟩, ?_, by omega⟩
  unfold Lg.firsts
  rw [List.take_succ_eq_append_getElem (by rw [List.length_drop]; omega), h4]
  congr 2
  rw [List.getElem_drop]
  congr 1; omega
theorem Bx.grown {w W W' : World} {cv ev : Value} {g : Lg} (h0 : LV w cv ev g) (h : Bx w W w.heap.size cv ev g) (k : Below (w.heap.size + 1) W W') : Bx w W' w.heap.size cv ev g :=
  have b := h.b.trans (k.mono (Nat.le_succ _))
  ⟨h.a.of (k.block _ (Nat.lt_succ_self _)), h0.later b, b⟩
set_option maxHeartbeats 4000000 in
set_option maxRecDepth 100000 in
theorem rslice_any (g : Lg) (cv ev : Value) (f : Nat) (most : Int) (hi : f < 18446744073709551616) (hm : -9223372036854775808 ≤ most ∧ most ≤ 9223372036854775807) (hf : Fit g) (w : World) (h : LV w cv ev g) :
    Calls Try.prog 23 #[g.v cv ev, .int .u64 (f : Nat), .int .i64 most] w (EOut w (g.slice f most)) := by
  have H0 := Lib.hid h.box
  have HV := Lib.hid h
  have HE : Hid (∀ z (hz : z < 18446744073709551616) W (b : Below w.heap.size w W), Calls Try.prog 40 #[g.v cv ev, .int .u64 (z : Nat)] W fun e w' => e = .returned (.tuple #[.agg #[.int .u64 ((g.ent z).1.term : Nat), .int .i64 (g.ent z).1.kind, .string (S (g.ent z).1.data)], .bool (g.ent z).2]) ∧ Below W.heap.size W w') := fun z hz W b => entry_any g cv ev z hz hf W (h.later b)
  have hb := hf.base
  have hes := hf.es
  obtain ⟨R, hR⟩ : ∃ R, g.slice f most = R := ⟨_, rfl⟩
  rw [hR]
  have HR := Lib.hid hR
  obtain ⟨N, hN⟩ : ∃ N, g.es.length = N := ⟨_, rfl⟩
  have HN := Lib.hid hN
  rw [hN] at hes
  clear h hf hR hN
  go_enter Try.func23, Try.ntmps23
  go_upto_region 1 with (fail)
  generalize w.alloc (.cells #[.int .u64 (g.base : Nat), .int .u64 (g.bt : Nat), cv, ev] 26) = W at *
  go_wp2_with fail
  go_loopw [7, 8] (fun o iv wr => ∃ (k z : Nat) (oa : Option Addr) (oc : Nat), o = .slice oa k oc ∧ iv = .int .u64 (z : Nat) ∧ k ≤ N ∧ z < 18446744073709551616 ∧ Hid (Sw g f most k z ∧ (g.firsts f k).length = k ∧ rw.Own enSh wr (w.heap.size + 1) o (g.firsts f k) ∧ Bx w wr w.heap.size cv ev g))
    (fun o _ _ => N - (match o with | .slice _ k _ => k | _ => 0))
  case atStart => exact ⟨0, f, none, 0, rfl, rfl, Nat.zero_le _, hi, ⟨rfl, fun h => absurd h (Nat.lt_irrefl _), .inr rfl⟩, by simp [Lg.firsts], by simp only [Lg.firsts, List.take_zero]; exact rw.Own.nil _ _ _, H0.out⟩
  case round =>
    obtain ⟨k, z, oa, oc, rfl, rfl, hk, hz, HI⟩ := hrel
    by_cases hkm : (k : Int) < most
    · have q1 : decide ((k : Int) < most) = true := decide_eq_true hkm
      have hE := HE.out z hz wr HI.out.2.2.2.b
      obtain ⟨E, hEE⟩ : ∃ E, g.ent z = E := ⟨_, rfl⟩
      rw [hEE] at hE
      have HEE := Lib.hid hEE
      obtain ⟨⟨xt, xk, xd⟩, xb⟩ := E
      dsimp only at hE
      obtain ⟨x0, x1, x2, x3⟩ := HI.out.2.2.2.cells
      have HKM := Lib.hid hkm
      clear hEE
      cases xb with
      | false =>
        have HX : Hid (g.firsts f k = R) := by
          show _ = _
          rw [← HR.out]
          exact HI.out.1.none HKM.out (by rw [HEE.out])
        go_wp2_with fail
        with_reducible refine hE.mono ?_
        clear hE x0 x1 x2 x3
        rintro e w2 ⟨rfl, b2⟩
        have b3 := b2.trans ((below_box w2 (.cells #[.int .u64 (xt : Nat), .int .i64 xk, .string (S xd)] 54)).mono b2.size)
        have HO : Hid (rw.Own enSh (w2.alloc (.cells #[.int .u64 (xt : Nat), .int .i64 xk, .string (S xd)] 54)) (w.heap.size + 1) (.slice oa k oc) (g.firsts f k) ∧ Below w.heap.size w (w2.alloc (.cells #[.int .u64 (xt : Nat), .int .i64 xk, .string (S xd)] 54))) := ⟨HI.out.2.2.1.below _ b3, HI.out.2.2.2.b.trans (b3.mono HI.out.2.2.2.b.size)⟩
        clear b2 b3
        go_wp2_with fail
        go_ret
        rw [← HX.out]
        exact ⟨_, rfl, own_lower HO.out.1 (Nat.le_succ _), HO.out.2⟩
      | true =>
        have hnx := HI.out.1.next HKM.out (by rw [HEE.out])
        have hzl := (Lg.ent_yes (g := g) (z := z) (by rw [HEE.out])).2.1
        have hll : g.last = g.base + N := by rw [Lg.last, HN.out]
        have f1 : IntKind.u64.wrap ((z : Int) + 1) = ((z + 1 : Nat) : Int) := by rw [u64_in _ (by omega)]; omega
        obtain ⟨z1, hz1⟩ : ∃ z1, z + 1 = z1 := ⟨_, rfl⟩
        have hz1l : z1 < 18446744073709551616 := by omega
        rw [hz1] at f1 hnx
        rw [HEE.out] at hnx
        have hkN : k < N := by have := hnx.2.2; rw [HN.out] at this; exact this
        have HNX := Lib.hid hnx
        clear hnx hzl hll hz1 hkm
        go_wp2_with fail
        with_reducible refine hE.mono ?_
        clear hE x0 x1 x2 x3
        rintro e w2 ⟨rfl, b2⟩
        have kb := below_box w2 (.cells #[.int .u64 (xt : Nat), .int .i64 xk, .string (S xd)] 54)
        have b3 := b2.trans (kb.mono b2.size)
        have ob := HI.out.2.2.1.below _ b3
        have bx := HI.out.2.2.2.below b3
        obtain ⟨o', w', g1, g2, g3⟩ := rw.append_one enSh (w.heap.size + 1) _ (g.firsts f k) ⟨xt, xk, xd⟩ (by rw [HI.out.2.1]; omega) (w2.alloc (.cells #[.int .u64 (xt : Nat), .int .i64 xk, .string (S xd)] 54)) ob bx.a.lt
        rw [← HNX.out.2.1] at g2
        have hln : (g.firsts f (k + 1)).length = k + 1 := by rw [HNX.out.2.1, List.length_append, HI.out.2.1]; rfl
        obtain ⟨a', c', ho'⟩ := g2.form
        rw [hln] at ho'
        subst ho'
        have HR1 : Hid ((Builtin.append_ #[24, 24] 24 #[.slice oa k oc, .slice (some ⟨w2.heap.size + 1, 0, none⟩) 1 1]).run Try.prog ((w2.alloc (.cells #[.int .u64 (xt : Nat), .int .i64 xk, .string (S xd)] 54)).alloc (.cells #[.int .u64 (xt : Nat), .int .i64 xk, .string (S xd)] 54)) = .ok (.slice a' (k + 1) c') w') := by
          have g := g1
          rw [World.size_alloc] at g
          exact g
        have HI2 : Hid (Sw g f most (k + 1) z1 ∧ (g.firsts f (k + 1)).length = k + 1 ∧ rw.Own enSh w' (w.heap.size + 1) (.slice a' (k + 1) c') (g.firsts f (k + 1)) ∧ Bx w w' w.heap.size cv ev g) := by
          exact ⟨HNX.out.1, hln, g2, bx.grown HV.out g3⟩
        clear g1 g2 g3 hln ob bx b3 kb b2 HI HNX
        go_wp2_with (at_builtin; refine rw.wpList_append_at _ _ _ rfl rfl _ _ _ _ rfl rfl HR1.out ?_)
        exact ⟨⟨k + 1, z1, a', c', rfl, rfl, by omega, hz1l, HI2⟩, by simp only; omega⟩
    · have q1 : decide ((k : Int) < most) = false := decide_eq_false hkm
      have HX : Hid (g.firsts f k = R) := by
        show _ = _
        rw [← HR.out]
        exact HI.out.1.full hkm
      have HO : Hid (rw.Own enSh wr (w.heap.size + 1) (.slice oa k oc) (g.firsts f k) ∧ Below w.heap.size w wr) := ⟨HI.out.2.2.1, HI.out.2.2.2.b⟩
      clear HI
      go_wp2_with fail
      go_ret
      rw [← HX.out]
      exact ⟨_, rfl, own_lower HO.out.1 (Nat.le_succ _), HO.out.2⟩
end Go.Proofs.Ythhnhnljefiboaa.tl
