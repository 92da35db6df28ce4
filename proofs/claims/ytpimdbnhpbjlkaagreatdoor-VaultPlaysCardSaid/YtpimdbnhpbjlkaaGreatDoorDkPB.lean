/-
  What is pending once more; the program's Names.
-/
import Derived.Test.YtpimdbnhpbjlkaaGreatDoorDkPA
import Derived.Sort.OwnSorted
namespace Go.Proofs.YtpimdbnhpbjlkaaGreatDoor.dk
set_option linter.unusedVariables false
open Go.RowKit Go.Sort
open fl (S S_size S_append S_inj str_eq str_ne)
open rw (Arr But Row Own bnext below_box below_drew below_drewN addr_add Fr RowB)
open mp (Mp Turned kget kput kwithout kmap KSorted Ranging)

theorem own_of {α : Type} (s : rw.Sh α) {w w' : World} {B : Nat} {v : Value} {l : List α} (h : Own s w B v l) (hb : ∀ q, v.ownBlock = some q → w'.heap[q]? = w.heap[q]?) : Own s w' B v l := by
  obtain ⟨h1, h2 | ⟨g, cap, cur, h3, h4, h5, h6⟩⟩ := h
  · exact ⟨h1, .inl h2⟩
  · exact ⟨h1, .inr ⟨g, cap, cur, h3, h4, (hb g (by rw [h3]; rfl)).trans h5, h6⟩⟩
theorem own_ge {α : Type} (s : rw.Sh α) {w : World} {B : Nat} {v : Value} {l : List α} (h : Own s w B v l) {q : Nat} (hq : v.ownBlock = some q) : B ≤ q ∧ q < w.heap.size := by
  obtain ⟨h1, ⟨e, _⟩ | ⟨g, cap, cur, h3, h4, h5, h6⟩⟩ := h
  · rw [e] at hq; cases hq
  · rw [h3] at hq
    cases hq
    exact ⟨h4, (Array.getElem?_eq_some_iff.1 h5).1⟩
theorem own_base {α : Type} (s : rw.Sh α) {w : World} {B B' : Nat} {v : Value} {l : List α} (h : Own s w B v l) (hB : B' ≤ B) : Own s w B' v l := by
  obtain ⟨h1, h2 | ⟨g, cap, cur, h3, h4, h5, h6⟩⟩ := h
  · exact ⟨h1, .inl h2⟩
  · exact ⟨h1, .inr ⟨g, cap, cur, h3, by omega, h5, h6⟩⟩
def strSh : rw.Sh Bs where
  t := 9
  st := 34
  k := 1
  bytes := 16
  z := .string ⟨#[]⟩
  enc := fun s => [.string (S s)]
  hu := Tryz.underlying34
  hi := by kernel_rfl
  hz := by rfl
  hk := by decide
  hb := by decide
  len := fun _ => rfl
  one := fun x u hu => by
    simp only [List.mem_cons, List.not_mem_nil, or_false] at hu
    rcases hu with rfl; rfl
theorem cells_str (l : List Bs) : rw.cellsG strSh l = l.map encStr := by
  unfold rw.cellsG
  induction l with
  | nil => rfl
  | cons x r ih => rw [List.flatMap_cons, ih]; rfl
theorem perm_without {fs : List FV} (h : KSorted fs) {n : Bs} {x : Bs × Value} (hm : (n, x) ∈ fs) : (n :: (kwithout fs n).map (·.1)).Perm (fs.map (·.1)) := by
  induction fs with
  | nil => cases hm
  | cons y r ih =>
    obtain ⟨hy, hr⟩ := List.pairwise_cons.1 h
    by_cases e : y.1 = n
    · have hall : ∀ f ∈ r, f.1 ≠ n := fun f hf e2 => by
        have := hy f hf
        rw [e, e2] at this
        exact mp.klt_irr _ this
      have hw : kwithout r n = r := by
        unfold mp.kwithout
        rw [List.filter_eq_self]
        intro f hf
        simpa using hall f hf
      have h1 : kwithout (y :: r) n = r := by unfold mp.kwithout at hw ⊢; rw [List.filter_cons]; simpa [e] using hw
      rw [h1, List.map_cons, e]
    · have h1 : kwithout (y :: r) n = y :: kwithout r n := by unfold mp.kwithout; rw [List.filter_cons]; simp [e]
      rcases List.mem_cons.1 hm with e2 | hm
      · rw [← e2] at e; exact absurd rfl e
      · rw [h1, List.map_cons, List.map_cons]
        exact (List.Perm.swap _ _ _).trans ((ih hr hm).cons _)
theorem names_sorted {l : List File} (h : Sorted l) {ss : List Bs} (hp : ss.Perm (l.map (·.1))) : (ss.mergeSort fun x y => decide (x ≤ y)) = l.map (·.1) := by
  have e := mergeSort_of_perm hp
  show ss.mergeSort leB = _
  rw [e]
  refine List.mergeSort_of_pairwise ?_
  refine List.pairwise_map.2 (h.imp fun {a b} hab => ?_)
  simp only [decide_eq_true_eq]
  exact List.le_of_lt hab

set_option maxHeartbeats 1000000 in
set_option maxRecDepth 100000 in
theorem names_any (F : Nat → Prop) (p : Nat) (d : Dk) (hl : d.seen.length ≤ 1000000) (hu : ∀ f ∈ d.seen, f.1.length ≤ 80) (w : World) (h : PD w F p d) :
    Calls Tryz.prog 68 #[.pointer (some ⟨p, 0, none⟩)] w fun e w' => ∃ v, e = .returned v ∧ Own strSh w' w.heap.size v (d.seen.map (·.1)) ∧ Below w.heap.size w w' := by
  obtain ⟨bs, bl, Fs, Fl, pv, tts, fz, h1, _, hf, hF⟩ := h
  have c1 := h1.cell (j := 1) (v := .map (some bs)) rfl
  obtain ⟨fs, g1, g2, g3⟩ := h1.s
  obtain ⟨w0, hr, hG, hB, hz⟩ := g1.map.range und_f
  have HX : Hid (FMs w bs fs ∧ con fs = d.seen ∧ d.seen.length ≤ 1000000 ∧ (∀ f ∈ d.seen, f.1.length ≤ 80)) := ⟨g1, g2, hl, hu⟩
  have H0 : Hid (Ranging w0 bs w.heap.size (vals fs) (vals fs) ∧ Below w.heap.size w w0 ∧ w0.heap.size = w.heap.size + 1) := ⟨hG, hB, hz⟩
  clear hB hG hz g1 g2 g3 h1 hf hF hu hl
  go_enter Tryz.func68, Tryz.ntmps68
  go_wp2_with fail
  go_loopw [3] (fun v wr => ∃ (fr : List FV) (ss : List Bs), Hid (fr.Sublist fs ∧ Ranging wr bs w.heap.size (vals fs) (vals fr) ∧ Own strSh wr (w.heap.size + 1) v ss ∧ (ss ++ fr.map (·.1)).Perm (fs.map (·.1)) ∧ Below w.heap.size w wr ∧ w.heap.size + 1 ≤ wr.heap.size))
    (fun _ wr => wr.rangeLeft bs w.heap.size)
  case atStart => exact ⟨fs, [], List.Sublist.refl _, H0.out.1, rw.Own.nil strSh _ _, List.Perm.refl _, H0.out.2.1, by have := H0.out.2.2; omega⟩
  case round =>
    obtain ⟨fr, ss, HI⟩ := hrel
    rcases HI.out.2.1.next 0 with ⟨e1, hrun⟩ | ⟨n, v, w1, hm, hn, hrun, hG1, hT, hlt, hen⟩
    · have hfr : fr = [] := by cases fr with | nil => rfl | cons _ _ => cases e1
      subst hfr
      have hperm : ss.Perm (d.seen.map (·.1)) := by
        have h1 := HI.out.2.2.2.1
        rw [List.map_nil, List.append_nil] at h1
        rw [← HX.out.2.1]
        unfold con
        rw [List.map_map]
        exact h1
      have hso : Sorted d.seen := by rw [← HX.out.2.1]; exact (mp.kmap_sorted _).2 HX.out.1.sorted
      have hms := names_sorted hso hperm
      have hlen := hperm.length_eq
      rw [List.length_map] at hlen
      have how := HI.out.2.2.1
      have hB := HI.out.2.2.2.2.1
      rcases how.2 with ⟨hnil, h0⟩ | ⟨g, cap, cur, hv, hge, hb, hn1, hn2, hn3, htk⟩
      · have : ss = [] := List.length_eq_zero_iff.1 h0
        subst this
        have hno : d.seen.map (·.1) = [] := List.length_eq_zero_iff.1 (by rw [List.length_map]; simpa using hlen.symm)
        have hst := Tryz.slices_Sort_string_none none 0 wr
        have HE : Hid (Own strSh wr w.heap.size (.slice none 0 0) (d.seen.map (·.1)) ∧ Below w.heap.size w wr) := ⟨by rw [hno]; exact rw.Own.nil strSh _ _, hB⟩
        subst hnil
        clear HI e1 hperm hms hlen how hB hno h0
        go_wp2_with fail
        refine hst.mono ?_
        rintro e w2 ⟨rfl, rfl⟩
        clear hst
        go_wp2_with fail
        go_ret
        exact ⟨_, rfl, HE.out⟩
      · rw [cells_str] at htk
        have hst := Tryz.slices_Sort_string g 0 cap ss wr (holds_of_block hb (by simpa [strSh] using htk)) (Array.getElem?_eq_some_iff.1 hb).1 (by have := HX.out.2.2.1; omega)
        have HE : Hid (∀ n os, Own strSh (grow (putRow encStr (Sort.ahead wr n) g 0 (ss.mergeSort fun x y => decide (x ≤ y)).toArray) os) w.heap.size (.slice (some ⟨g, 0, none⟩) ss.length cap) (d.seen.map (·.1)) ∧ Below w.heap.size w (grow (putRow encStr (Sort.ahead wr n) g 0 (ss.mergeSort fun x y => decide (x ≤ y)).toArray) os)) := by
          intro n os
          have h1 := ownsRow_sorted (n := n) (os := os) (base := w.heap.size) (ss := ss) (ts := ss.mergeSort fun x y => decide (x ≤ y)) (by simp) (by omega) hb hn1 hn2 (by simpa [strSh] using hn3)
          have h2 : wr.grownBy (grow (putRow encStr (Sort.ahead wr n) g 0 (ss.mergeSort fun x y => decide (x ≤ y)).toArray) os) (some g) := grownBy_sorted _
          refine ⟨?_, hB.trans ⟨h2.os, h2.tape, h2.output, h2.size, fun k hk => h2.block k (Nat.lt_of_lt_of_le hk hB.size) fun e => by cases e; omega⟩⟩
          show World.ownsRow _ _ _ _ _ _ _
          rw [cells_str, List.length_map, ← hlen]
          rw [hms] at h1 ⊢
          exact h1
        subst hv
        clear HI e1 hperm hms hlen how hB hge hb hn1 hn2 hn3 htk hso
        generalize (ss.mergeSort fun x y => decide (x ≤ y)) = ms at *
        go_wp2_with fail
        refine hst.mono ?_
        rintro e w2 ⟨rfl, n, os, rfl⟩
        have HE2 := Lib.hid (HE.out n os)
        clear hst HE
        generalize grow (putRow encStr (Sort.ahead wr n) g 0 ms.toArray) os = w2 at *
        go_wp2_with fail
        go_ret
        exact ⟨_, rfl, HE2.out⟩
    · obtain ⟨s, r, hm2, rfl⟩ := vals_mem hm
      have hsf := HI.out.1
      have hso : KSorted fr := List.Pairwise.sublist hsf HX.out.1.sorted
      have hn80 : n.length ≤ 80 := HX.out.2.2.2 (n, s) (by rw [← HX.out.2.1]; exact List.mem_map.2 ⟨_, hsf.subset hm2, rfl⟩)
      have hC := clone_any n w1 (by omega)
      obtain ⟨a, m, c, hv⟩ : ∃ a m c, u3 = .slice a m c := by obtain ⟨a, c, e⟩ := HI.out.2.2.1.form; exact ⟨a, _, c, e⟩
      have hlen : ss.length < 34359738368 := by
        have h1 := HI.out.2.2.2.1.length_eq
        rw [List.length_append, List.length_map, List.length_map] at h1
        have h2 := HX.out.2.2.1
        rw [← HX.out.2.1, mp.kmap_length] at h2
        omega
      have b1 : Below w.heap.size wr w1 := ⟨hT.os, hT.tape, hT.output, Nat.le_of_eq hT.size.symm, fun k hk => hT.block k (by omega)⟩
      have HA : Hid (∀ w2, Below w1.heap.size w1 w2 → ∃ v' w3, rw.App strSh u3 (.slice (some ⟨w2.heap.size, 0, none⟩) 1 1) (w2.alloc (.cells #[.string (S n)] 9)) v' w3 ∧
          Hid ((∃ a m c, v' = .slice a m c) ∧ (kwithout fr n).Sublist fs ∧ Ranging w3 bs w.heap.size (vals fs) (vals (kwithout fr n)) ∧ Own strSh w3 (w.heap.size + 1) v' (ss ++ [n]) ∧ (ss ++ [n] ++ (kwithout fr n).map (·.1)).Perm (fs.map (·.1)) ∧ Below w.heap.size w w3 ∧ w.heap.size + 1 ≤ w3.heap.size ∧ w3.rangeLeft bs w.heap.size < wr.rangeLeft bs w.heap.size)) := by
        intro w2 k
        have hsz : w.heap.size + 1 ≤ wr.heap.size := HI.out.2.2.2.2.2
        have o1 : Own strSh w2 (w.heap.size + 1) u3 ss := own_of strSh HI.out.2.2.1 fun q hq => by
          have := own_ge strSh HI.out.2.2.1 hq
          rw [k.block q (by rw [hT.size]; exact this.2), hT.block q (by omega)]
        have hs2 : w.heap.size + 1 ≤ w2.heap.size := Nat.le_trans hsz (Nat.le_trans (Nat.le_of_eq hT.size.symm) k.size)
        obtain ⟨v', w3, x1, x2, x3⟩ := rw.append_one strSh (w.heap.size + 1) u3 ss n hlen w2 o1 hs2
        refine ⟨v', w3, x1, by obtain ⟨a, c, e⟩ := x2.form; exact ⟨a, _, c, e⟩, List.Sublist.trans List.filter_sublist hsf, ?_, x2, ?_, ?_, Nat.le_trans hs2 x3.size, ?_⟩
        · rw [← vals_without]
          refine (hG1.of (k.block _ hG1.mp.lt) (k.block _ hG1.lt)).of (x3.block _ ?_) (x3.block _ (by omega))
          have := HX.out.1.map.lt
          omega
        · rw [List.append_assoc]
          refine List.Perm.trans (List.Perm.append_left ss ?_) HI.out.2.2.2.1
          exact perm_without hso hm2
        · exact ((HI.out.2.2.2.2.1.trans b1).trans (k.mono (by rw [hT.size]; omega))).trans (x3.mono (by omega))
        · have e1 := x3.block bs (by have := HX.out.1.map.lt; omega)
          have e2 := x3.block w.heap.size (by omega)
          rw [mp.left_of e1 e2, mp.left_of (k.block _ hG1.mp.lt) (k.block _ hG1.lt)]
          exact hlt
      rw [hv] at HA ⊢
      clear HI hm hm2 hn hG1 hT hlt hsf hso hn80 hlen b1 hv
      go_wp2_with fail
      refine hC.mono ?_
      rintro e w2 ⟨rfl, b2⟩
      obtain ⟨v', w3, hap, H3⟩ := HA.out w2 b2
      obtain ⟨a3, m3, c3, rfl⟩ := H3.out.1
      unfold rw.App at hap
      clear hC HA b2
      go_wp2_with (first | (refine rw.wpList_append_at _ _ _ rfl rfl _ _ _ _ rfl rfl hap ?_) | fail)
      go_roundw
      case rel => exact ⟨_, _, H3.out.2.1, H3.out.2.2.1, H3.out.2.2.2.1, H3.out.2.2.2.2.1, H3.out.2.2.2.2.2.1, H3.out.2.2.2.2.2.2.1⟩
      case measure => exact H3.out.2.2.2.2.2.2.2
end Go.Proofs.YtpimdbnhpbjlkaaGreatDoor.dk
