/-
  Copies: of a row of bytes, of files, of what is pending.
-/
import Derived.Test.YtpimdbnhpbjlkaaGreatDoorDkP9
import Derived.Lib.LazyBuf
namespace Go.Proofs.YtpimdbnhpbjlkaaGreatDoor.dk
set_option linter.unusedVariables false
open Go.RowKit
open fl (S S_size S_append S_inj str_eq str_ne)
open rw (Arr But Row Own bnext below_box below_drew below_drewN addr_add Fr RowB)
open mp (Mp Turned kget kput kwithout kmap KSorted Ranging)

theorem clone_row (v : Value) (s : Bs) (w : World) (h : RowB w v s) (hlen : s.length ≤ 140737488355328) :
    ∃ v' w', (Builtin.append_ #[81, 81] 81 #[.slice (some ⟨w.heap.size, 0, none⟩) 0 0, v]).run Tryz.prog (w.alloc (.cells #[] 5)) = .ok v' w' ∧ RowB w' v' s ∧ Below w.heap.size w w' ∧ ∃ q, v'.ownBlock = some q ∧ w.heap.size ≤ q := by
  obtain ⟨i0, hi, hz0, hz1, hz2⟩ := info_parts rw.info8
  have b0 := below_box w (.cells #[] 5)
  have ho : (w.alloc (.cells #[] 5)).ownsRow w.heap.size 5 1 (.slice (some ⟨w.heap.size, 0, none⟩) 0 0) 0 [] := World.ownsRow_made (base := w.heap.size) (e := 5) (size := 1) w #[] 0 (Nat.le_refl _) (by unfold maxLen; omega) (by simp)
  have h1 : RowB (w.alloc (.cells #[] 5)) v s := h.of fun q hq => by
    obtain ⟨g, e, hlt, _⟩ := h.at
    rw [hq] at e
    cases e
    exact b0.block q hlt
  obtain ⟨g, cap, rfl, hc⟩ := h1.cell
  obtain ⟨v', w', g1, g2, g3, g4, g5⟩ := run_append_own_at (P := Tryz.prog) (w.alloc (.cells #[] 5)) w.heap.size 81 81 5 i0 (.int .u8 0) 1 1 Tryz.underlying81 hi hz0 hz1 hz2 rfl (by decide) _ 0 [] ho ⟨g, 0, none⟩ s.length cap (rw.byt s) (by rw [rw.byt_length]; omega)
    (fun j u hj => by
      have hjl : j < s.length := by have := (List.getElem?_eq_some_iff.1 hj).1; rwa [rw.byt_length] at this
      rw [addr_add, Nat.zero_add, hc j hjl, ← hj]
      simp [rw.byt, hjl]) (rw.byt_one s) (by unfold maxLen; omega) (by omega) b0.size
  rw [Nat.zero_add, List.nil_append] at g2
  have hne : v' ≠ .slice none 0 0 := fun e => by
    have := (g4.1 e).1
    cases this
  have hB : Below w.heap.size w w' := b0.trans ⟨g3.os, g3.tape, g3.output, g3.size, fun k hk => g3.block k (Nat.lt_of_lt_of_le hk b0.size) fun e => by
    have e2 : w.heap.size = k := by simpa [Value.ownBlock] using e.symm
    omega⟩
  refine ⟨v', w', g1, RowB.of_own g2 hne, hB, ?_⟩
  rcases g5 with e | e
  · exact ⟨_, e, Nat.le_refl _⟩
  · exact ⟨_, e, b0.size⟩
set_option maxHeartbeats 1000000 in
set_option maxRecDepth 100000 in
theorem cloneB_any (v : Value) (s : Bs) (hlen : s.length ≤ 140737488355328) (w : World) (h : RowB w v s) :
    Calls Tryz.prog 84 #[v] w fun e w' => ∃ v', e = .returned v' ∧ RowB w' v' s ∧ Below w.heap.size w w' ∧ ∃ q, v'.ownBlock = some q ∧ w.heap.size ≤ q := by
  obtain ⟨v', w1, ha, hr, hb, q, hq, hle⟩ := clone_row v s w h hlen
  obtain ⟨a, c, rfl, _⟩ := h.form
  have HX : Hid (RowB w1 v' s ∧ Below w.heap.size w w1 ∧ ∃ q, v'.ownBlock = some q ∧ w.heap.size ≤ q) := ⟨hr, hb, q, hq, hle⟩
  obtain ⟨a', c', rfl, _⟩ := hr.form
  generalize s.length = L at *
  clear hr hb hq hle h hlen
  have heq := run_eql_slice_nil (P := Tryz.prog) w 81 5 (some a) L c Tryz.underlying81
  go_enter Tryz.func84, Tryz.ntmps84
  go_wp2_with (first | (refine rw.wpList_append_at _ _ _ rfl rfl _ _ _ _ rfl rfl ha ?_) | fail)
  go_ret
  exact ⟨_, rfl, HX.out⟩
theorem FMs.below' {w w' : World} {b : Nat} {fs : List FV} (h : FMs w b fs) (k : Below w.heap.size w w') : FMs w' b fs :=
  h.of fun i hi => k.block i (FM.lt (F := foot b fs) (l := con fs) ⟨fs, h, rfl, fun _ => Iff.rfl⟩ hi)
/-- Files that are made anew. -/
def FNew (w : World) (w' : World) (b : Nat) (l : List File) : Prop := ∃ F', FM w' F' b l ∧ ∀ k, F' k → w.heap.size ≤ k
theorem con_nil : con [] = [] := rfl

/-- A copy under way: what was gone over stands in the new map. -/
structure Copy (w wr : World) (b b2 r : Nat) (fs fr f2 : List FV) : Prop where
  sub : fr.Sublist fs
  go : Ranging wr b r (vals fs) (vals fr)
  new : FMs wr b2 f2
  ftt : ∀ k, foot b2 f2 k → w.heap.size ≤ k
  cnn : ∀ n, kget (con f2) n = if (kget fr n).isSome then none else kget (con fs) n
  len : f2.length + fr.length ≤ fs.length
  below : Below w.heap.size w wr
  ge : w.heap.size ≤ r ∧ w.heap.size ≤ b2 ∧ b2 ≠ r ∧ b < w.heap.size
theorem sorted_ext {l m : List File} (hl : Sorted l) (hm : Sorted m) (h : ∀ n, get l n = get m n) : l = m := by
  induction l generalizing m with
  | nil =>
    cases m with
    | nil => rfl
    | cons x t =>
      have := h x.1
      rw [get_of_mem hm (show (x.1, x.2) ∈ x :: t from List.mem_cons_self)] at this
      cases this
  | cons x l ih =>
    obtain ⟨hx, hl'⟩ := List.pairwise_cons.1 hl
    cases m with
    | nil =>
      have := h x.1
      rw [get_of_mem hl (show (x.1, x.2) ∈ x :: l from List.mem_cons_self)] at this
      cases this
    | cons y m =>
      obtain ⟨hy, hm'⟩ := List.pairwise_cons.1 hm
      have hxy : x.1 = y.1 := by
        have h1 := h x.1
        rw [get_of_mem hl (show (x.1, x.2) ∈ x :: l from List.mem_cons_self)] at h1
        have h1 := get_some h1.symm
        have h2 := h y.1
        rw [get_of_mem hm (show (y.1, y.2) ∈ y :: m from List.mem_cons_self)] at h2
        have h2 := get_some h2
        rcases List.mem_cons.1 h1 with e | h1
        · rw [← e]
        · rcases List.mem_cons.1 h2 with e | h2
          · rw [← e]
          · have a1 := hy _ h1
            have a2 := hx _ h2
            exact absurd (lt_tr a1 a2) (lt_irr _)
      have he : x = y := by
        have h1 := h x.1
        rw [get_of_mem hl (show (x.1, x.2) ∈ x :: l from List.mem_cons_self), hxy, get_of_mem hm (show (y.1, y.2) ∈ y :: m from List.mem_cons_self)] at h1
        exact Prod.ext hxy (Option.some.inj h1)
      subst he
      congr 1
      refine ih hl' hm' fun n => ?_
      by_cases e : x.1 = n
      · have h1 : get l n = none := get_eq_none fun f hf e2 => by have := hx f hf; rw [e, e2] at this; exact lt_irr _ this
        have h2 : get m n = none := get_eq_none fun f hf e2 => by have := hy f hf; rw [e, e2] at this; exact lt_irr _ this
        rw [h1, h2]
      · have h1 := h n
        unfold get at h1 ⊢
        rw [List.find?_cons, List.find?_cons] at h1
        simpa [e] using h1
theorem kget_without' {β : Type} (l : List (Bs × β)) (n m : Bs) : kget (kwithout l n) m = if m = n then none else kget l m := by
  split
  · next h => subst h; exact mp.kget_eq_none fun f hf => (mp.mem_kwithout.1 hf).2
  · next h =>
    unfold mp.kget mp.kwithout
    rw [List.find?_filter]
    congr 2
    funext f
    by_cases h2 : f.1 = m
    · subst h2; simp [h]
    · simp [h2]
theorem kwithout_less {β : Type} {l : List (Bs × β)} {n : Bs} {v : β} (h : (n, v) ∈ l) : (kwithout l n).length < l.length := by
  unfold mp.kwithout
  rw [List.length_filter_lt_length_iff_exists]
  exact ⟨_, h, by simp⟩
theorem Copy.step {w wr w1 wx : World} {b b2 r : Nat} {fs fr f2 : List FV} (h : Copy w wr b b2 r fs fr f2) {n s : Bs} {v : Value} {a : Value} (hm : (n, (s, v)) ∈ fr) (hn : n.length ≤ maxLen) (hs0 : KSorted fs)
    (hG1 : Ranging w1 b r (vals fs) (kwithout (vals fr) n)) (hT : Turned r wr w1) (k : Below w1.heap.size w1 wx) (ha : RowB wx a s) (hq : ∃ q, a.ownBlock = some q ∧ w1.heap.size ≤ q) (hl : f2.length < maxLen) :
    ∃ w2, (Instr.mapUpdate tf (.map (some b2)) (.string (S n)) (.agg #[a])).run Tryz.prog wx = .ok () w2 ∧ Copy w w2 b b2 r fs (kwithout fr n) (kput f2 (n, (s, a))) ∧ w2.rangeLeft b r = w1.rangeLeft b r := by
  obtain ⟨g2, hg2, h3, hbw⟩ := h.ge
  have b1 : Below r wr w1 := ⟨hT.os, hT.tape, hT.output, Nat.le_of_eq hT.size.symm, fun i hi => hT.block i (by omega)⟩
  have hb2r : ∀ i, foot b2 f2 i → i ≠ r := by
    rintro i (e | ⟨f, hf, e⟩) e2
    · omega
    · obtain ⟨g, e3, _, cur, fr', hh⟩ := (h.new.own f hf).at
      obtain ⟨x1, x2, x3, x4, hit⟩ := h.go.iter
      rw [e] at e3
      cases e3
      rw [e2, hit] at hh
      cases hh
  have hlt2 : ∀ i, foot b2 f2 i → i < wr.heap.size := by
    intro i hi
    exact FM.lt (F := foot b2 f2) (l := con f2) ⟨f2, h.new, rfl, fun _ => Iff.rfl⟩ hi
  have n1 : FMs w1 b2 f2 := h.new.of fun i hi => hT.block i (hb2r i hi)
  have n2 : FMs wx b2 f2 := n1.of fun i hi => k.block i (by rw [hT.size]; exact hlt2 i hi)
  have hlen : (vals f2).length < maxLen := by rw [mp.kmap_length]; exact hl
  obtain ⟨w2, hup, hm2, ht⟩ := n2.map.store und_f n hn hlen (.agg #[a])
  obtain ⟨q, hqo, hqs⟩ := hq
  obtain ⟨gq, eq1, hql, cur, frz, hqh⟩ := ha.at
  rw [hqo] at eq1
  cases eq1
  have hqb : q ≠ b2 := by have := hlt2 b2 (.inl rfl); rw [hT.size] at hqs; omega
  have hF2 := n2.put (w' := w2) (n := n) (s := s) (v := a) hm2 (ha.of fun i hi => ht.block i (by rw [hqo] at hi; cases hi; exact hqb)) hn
    (fun f hf hne i hi => ht.block i (n2.row_ne hf hi))
    (fun f hf hne i hi e => by
      rw [hqo] at e
      cases e
      have := hlt2 _ (.inr ⟨f, hf, hi⟩)
      rw [hT.size] at hqs
      omega)
  have hbb : b ≠ b2 := by omega
  refine ⟨w2, hup, ⟨List.Sublist.trans List.filter_sublist h.sub, ?_, hF2, fun i hi => ?_, fun m => ?_, ?_, ?_, h.ge⟩, ?_⟩
  · rw [← vals_without]
    exact (hG1.of (k.block _ hG1.mp.lt) (k.block _ hG1.lt)).of (ht.block _ hbb) (ht.block _ (fun e => h3 e.symm))
  · rcases foot_put hi with hi | hi
    · exact h.ftt i hi
    · rw [hqo] at hi
      cases hi
      have := h.below.size
      rw [hT.size] at hqs
      omega
  · rw [con_put, get_k]
    have hsf2 : Sorted (con f2) := (mp.kmap_sorted _).2 h.new.sorted
    by_cases e : m = n
    · subst e
      rw [get_put_same hsf2, kget_without']
      simp only [if_true, Option.isSome_none]
      have : kget (con fs) m = some s := by rw [mp.kmap_get, mp.kget_of_mem hs0 (h.sub.subset hm)]; rfl
      rw [this]
      rfl
    · rw [get_put_other hsf2 s e, ← get_k, h.cnn m, kget_without', if_neg e]
  · have x1 := h.len
    have x2 := kwithout_less hm
    have x3 := mp.kput_length f2 (n, (s, a))
    omega
  · have hw1 : w.heap.size ≤ w1.heap.size := by rw [hT.size]; exact h.below.size
    have hwx : w.heap.size ≤ wx.heap.size := Nat.le_trans hw1 k.size
    have b3 : Below w.heap.size wx w2 := ⟨ht.os, ht.tape, ht.output, Nat.le_of_eq ht.size.symm, fun i hi => ht.block i (by omega)⟩
    exact ((h.below.trans (b1.mono g2)).trans (k.mono hw1)).trans b3
  · rw [mp.left_of (ht.block _ hbb) (ht.block _ (fun e => h3 e.symm)), mp.left_of (k.block _ hG1.mp.lt) (k.block _ hG1.lt)]

theorem Copy.done {w wr : World} {b b2 r : Nat} {fs f2 : List FV} (h : Copy w wr b b2 r fs [] f2) (hs : KSorted fs) : FNew w wr b2 (con fs) := by
  refine ⟨foot b2 f2, ⟨f2, h.new, ?_, fun _ => Iff.rfl⟩, h.ftt⟩
  refine sorted_ext ((mp.kmap_sorted _).2 h.new.sorted) ((mp.kmap_sorted _).2 hs) fun n => ?_
  have h1 := h.cnn n
  rw [show kget ([] : List FV) n = none from rfl] at h1
  exact h1
set_option maxHeartbeats 1000000 in
set_option maxRecDepth 100000 in
theorem ftwin_any (F : Nat → Prop) (b : Nat) (l : List File) (hu : used l ≤ 1048576) (hl : l.length ≤ 1000000) (w : World) (h : FM w F b l) :
    Calls Tryz.prog 66 #[.map (some b)] w fun e w' => ∃ b2, e = .returned (.map (some b2)) ∧ FNew w w' b2 l ∧ Below w.heap.size w w' := by
  obtain ⟨fs, h1, rfl, hF⟩ := h
  obtain ⟨W0, hW0⟩ : ∃ W0, w.alloc (.map #[] 0) = W0 := ⟨_, rfl⟩
  have b0 : Below w.heap.size w W0 := hW0 ▸ below_box w _
  have z0 : W0.heap.size = w.heap.size + 1 := by rw [← hW0]; simp
  have m0 : Mp W0 w.heap.size [] := hW0 ▸ Mp.made w
  obtain ⟨w0, hr, hG, hB, hz⟩ := (h1.below' b0).map.range und_f
  rw [z0] at hr hG
  have C0 : Hid (Copy w w0 b w.heap.size (w.heap.size + 1) fs fs []) := by
    refine ⟨List.Sublist.refl _, hG, ⟨m0.of (hB.block _ (by omega)), fun f hf => (by cases hf), fun f hf => (by cases hf), fun f hf => (by cases hf)⟩, ?_, fun n => ?_, Nat.le_of_eq (Nat.zero_add _), b0.trans (hB.mono (by omega)), by omega, Nat.le_refl _, by omega, h1.map.lt⟩
    · rintro k (e | ⟨f, hf, _⟩)
      · omega
      · cases hf
    · show none = _
      rw [mp.kmap_get]
      cases kget fs n <;> rfl
  have hmm := @run_makeMap Tryz.prog
  have HX : Hid (FMs w b fs ∧ used (con fs) ≤ 1048576 ∧ (con fs).length ≤ 1000000) := ⟨h1, hu, hl⟩
  clear hB hG hz h1 hF hu hl b0 z0 m0
  go_enter Tryz.func66, Tryz.ntmps66
  go_wp2_with fail
  go_loopw [] (fun wr => ∃ fr f2 : List FV, Hid (Copy w wr b w.heap.size (w.heap.size + 1) fs fr f2))
    (fun wr => wr.rangeLeft b (w.heap.size + 1))
  case atStart => exact ⟨fs, [], C0.out⟩
  case round =>
    obtain ⟨fr, f2, HI⟩ := hrel
    rcases HI.out.go.next 0 with ⟨e1, hrun⟩ | ⟨n, v, w1, hm, hn, hrun, hG1, hT, hlt, hen⟩
    · have hfr : fr = [] := by cases fr with | nil => rfl | cons _ _ => cases e1
      subst hfr
      have HE : Hid (FNew w wr w.heap.size (con fs) ∧ Below w.heap.size w wr) := ⟨HI.out.done HX.out.1.sorted, HI.out.below⟩
      clear HI e1
      go_wp2_with fail
      go_ret
      exact ⟨_, rfl, HE.out⟩
    · obtain ⟨s, r, hm2, rfl⟩ := vals_mem hm
      have hrow := HX.out.1.own _ (HI.out.sub.subset hm2)
      have hcs : s.length ≤ used (con fs) := used_con_le HX.out.1.sorted (HI.out.sub.subset hm2)
      obtain ⟨a, c, e, _⟩ := hrow.form
      simp only at e
      subst e
      have b1 : Below (w.heap.size + 1) wr w1 := ⟨hT.os, hT.tape, hT.output, Nat.le_of_eq hT.size.symm, fun k hk => hT.block k (by omega)⟩
      obtain ⟨w2, hw2⟩ : ∃ w2, w1.alloc (.cells #[.slice (some a) s.length c] 102) = w2 := ⟨_, rfl⟩
      have b2 : Below w1.heap.size w1 w2 := hw2 ▸ below_box w1 _
      have hwl : w.heap.size ≤ w1.heap.size := by rw [hT.size]; exact HI.out.below.size
      have hro : RowB w2 (.slice (some a) s.length c) s := hrow.of fun q hq => by
        obtain ⟨g, e, hlt, _⟩ := hrow.at
        rw [hq] at e
        cases e
        rw [b2.block q (by omega), hT.block q (by omega)]
        exact HI.out.below.block q hlt
      have hC := cloneB_any _ s (by have := HX.out.2.1; omega) w2 hro
      have HS : Hid (∀ v' w3, RowB w3 v' s → Below w2.heap.size w2 w3 → (∃ q, v'.ownBlock = some q ∧ w2.heap.size ≤ q) → ∃ w4, (Instr.mapUpdate tf (.map (some w.heap.size)) (.string (S n)) (.agg #[v'])).run Tryz.prog w3 = .ok () w4 ∧
          Hid (Copy w w4 b w.heap.size (w.heap.size + 1) fs (kwithout fr n) (kput f2 (n, (s, v'))) ∧ w4.rangeLeft b (w.heap.size + 1) < wr.rangeLeft b (w.heap.size + 1))) := by
        intro v' w3 h1 h2 ⟨q, h3, h4⟩
        obtain ⟨w4, x1, x2, x3⟩ := HI.out.step hm2 hn HX.out.1.sorted hG1 hT (b2.trans (h2.mono b2.size)) h1 ⟨q, h3, Nat.le_trans b2.size h4⟩ (by
          have := HI.out.len
          have h5 := HX.out.2.2
          rw [mp.kmap_length] at h5
          unfold maxLen; omega)
        exact ⟨w4, x1, x2, by rw [x3]; exact hlt⟩
      clear HI hm hm2 hn hG1 hT hlt hrow hcs b1 b2 hwl hro
      generalize s.length = L at *
      have c0 : w2.cell? ⟨w1.heap.size, 0, none⟩ = some (.slice (some a) L c) := by rw [← hw2]; exact (Arr.new w1 _ _).cell rfl
      go_upto_region 5 with (fail)
      clear hw2 hrun hen
      go_wp2_with fail
      refine hC.mono ?_
      rintro e w3 ⟨v', rfl, r3, b3, q3⟩
      obtain ⟨w4, hup, HC4⟩ := HS.out v' w3 r3 b3 q3
      obtain ⟨a3, c3, rfl, _⟩ := r3.form
      generalize s.length = L3 at *
      clear hC HS r3 b3 q3 c0
      go_wp2_with (first | (refine wpList_update_at _ _ _ _ rfl rfl _ _ _ _ rfl rfl rfl hup ?_) | fail)
      go_frame
      go_roundw
      case rel => exact ⟨_, _, HC4.out.1⟩
      case measure => exact HC4.out.2
end Go.Proofs.YtpimdbnhpbjlkaaGreatDoor.dk
