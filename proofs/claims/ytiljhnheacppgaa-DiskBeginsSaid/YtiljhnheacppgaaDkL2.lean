/-
  The law's Files, stands.
-/
import Derived.Test.YtiljhnheacppgaaDkL1
import Derived.Test.YtiljhnheacppgaaDkRef8
namespace Go.Proofs.Ytiljhnheacppgaa.dk
set_option linter.unusedVariables false
open Go.RowKit
open fl (S S_size S_append S_inj str_eq str_ne)
open rw (Arr But Row Own bnext below_box below_drew below_drewN addr_add Fr RowB)
open mp (Mp Turned kget kput kwithout kmap KSorted Ranging)

theorem names_at {w : World} {B : Nat} {v : Value} {l : List Bs} (h : Own strSh w B v l) {j : Nat} (hj : j < l.length) : ∃ b cap, v = .slice (some ⟨b, 0, none⟩) l.length cap ∧ w.cell? ⟨b, j, none⟩ = some (.string (S l[j])) ∧ b < w.heap.size ∧ B ≤ b ∧ w.frozen? ⟨b, j, none⟩ = false := by
  obtain ⟨a, c, e, _, hr, _⟩ := rw.Own.sl strSh h
  obtain ⟨b, off, e2, hb, hc⟩ := hr.at _ hj
  obtain ⟨_, ⟨e3, h0⟩ | ⟨g, cap, cur, e3, h4, h5, _⟩⟩ := h
  · omega
  · rw [e] at e3
    rw [e2] at e3
    injection e3 with e4
    injection e4 with e4
    injection e4 with e5 e6
    subst e6 e5
    rw [e2] at e
    have h0 := hc 0 (by decide)
    rw [Nat.zero_add] at h0
    refine ⟨b, c, e, ?_, hb, h4, frozen_of_row w b j cur _ h5⟩
    have : j * strSh.k + 0 = j := by show j * 1 + 0 = j; omega
    rw [this] at h0
    exact h0
theorem read_of {d : Dk} (h : Right d) (ho : off d = false) {j : Nat} (hj : j < d.seen.length) : read d d.seen[j].1 = (d.seen[j].2, 0) := by
  unfold read
  rw [if_neg (by rw [ho]; decide), get_of_mem h.sorted (show (d.seen[j].1, d.seen[j].2) ∈ d.seen from List.getElem_mem hj)]

set_option maxHeartbeats 1000000 in
set_option maxRecDepth 100000 in
theorem files_any (F : Nat → Prop) (p : Nat) (d : Dk) (hd : Rm d) (ho : off d = false) (w : World) (h : PD w F p d) :
    Calls Try.prog 22 #[.pointer (some ⟨p, 0, none⟩)] w fun e w' => ∃ v, e = .returned v ∧ Own fileSh w' w.heap.size v d.seen ∧ Below w.heap.size w w' := by
  have hN := names_any F p d (Nat.le_trans hd.s (by decide)) (fun f hf => (hd.r.named f hf).2) w h
  have HP := Lib.hid h
  have HD := Lib.hid (And.intro hd ho)
  clear h hd ho
  go_enter Try.func22, Try.ntmps22
  go_wp2_with fail
  refine hN.mono ?_
  rintro e w1 ⟨v, rfl, o1, b1⟩
  have HO := Lib.hid o1
  have HB := Lib.hid b1
  obtain ⟨a1, c1, rfl⟩ := o1.form
  rw [List.length_map] at HO ⊢
  clear hN o1 b1
  go_wp2_with fail
  go_loopw [3, 5] (fun o i wr => ∃ k : Nat, i = .int .i64 k ∧ k ≤ d.seen.length ∧ Hid (Own fileSh wr w1.heap.size o (d.seen.take k) ∧ Below w1.heap.size w1 wr))
    (fun _ i _ => d.seen.length - (intOf i).toNat)
  case atStart => exact ⟨0, rfl, Nat.zero_le _, rw.Own.nil fileSh _ _, Below.refl _ _⟩
  case round =>
    obtain ⟨k, rfl, hk, HI⟩ := hrel
    by_cases hlt : k < d.seen.length
    · have hki : (k : Int) < (d.seen.length : Int) := by omega
      have hkn : k < (d.seen.map (·.1)).length := by rw [List.length_map]; exact hlt
      have hB := HI.out.2
      have o2 : Own strSh wr w.heap.size (.slice a1 d.seen.length c1) (d.seen.map (·.1)) := own_of strSh HO.out fun q hq => hB.block q (own_ge strSh HO.out hq).2
      obtain ⟨b, cap, e, q0, _, _⟩ := names_at o2 hkn
      rw [List.length_map] at e
      cases e
      rw [List.getElem_map] at q0
      have hR := read_any F p d (d.seen[k]'hlt).1 (by have := (HD.out.1.r.named _ (List.getElem_mem hlt)).2; unfold maxLen; omega) wr (HP.out.below (HB.out.trans (hB.mono HB.out.size)))
      rw [read_of HD.out.1.r HD.out.2 hlt] at hR
      have HA : Hid (∀ w2, Below wr.heap.size wr w2 → w2.cell? ⟨b, k, none⟩ = some (.string (S (d.seen[k]'hlt).1)) ∧ ∃ v' w3, rw.App fileSh u3 (.slice (some ⟨w2.heap.size, 0, none⟩) 1 1) (w2.alloc (.cells #[.string (S (d.seen[k]'hlt).1), .string (S (d.seen[k]'hlt).2)] 47)) v' w3 ∧
          Hid ((∃ a m c, v' = .slice a m c) ∧ Own fileSh w3 w1.heap.size v' (d.seen.take (k + 1)) ∧ Below w1.heap.size w1 w3)) := by
        intro w2 k2
        have o3 : Own strSh w2 w.heap.size (.slice (some ⟨b, 0, none⟩) d.seen.length c1) (d.seen.map (·.1)) := own_of strSh o2 fun q hq => k2.block q (own_ge strSh o2 hq).2
        obtain ⟨b', cap', e', q0', _⟩ := names_at o3 hkn
        rw [List.length_map] at e'
        cases e'
        rw [List.getElem_map] at q0'
        refine ⟨q0', ?_⟩
        have o4 : Own fileSh w2 w1.heap.size u3 (d.seen.take k) := HI.out.1.below fileSh k2
        have hs : w1.heap.size ≤ w2.heap.size := Nat.le_trans hB.size k2.size
        obtain ⟨v', w3, x1, x2, x3⟩ := rw.append_one fileSh w1.heap.size u3 (d.seen.take k) (d.seen[k]'hlt) (by rw [List.length_take]; have := HD.out.1.s; omega) w2 o4 hs
        refine ⟨v', w3, x1, by obtain ⟨a, c, e⟩ := x2.form; exact ⟨a, _, c, e⟩, ?_, (hB.trans (k2.mono hB.size)).trans x3⟩
        rw [List.take_succ_eq_append_getElem hlt]
        exact x2
      have hwi : IntKind.i64.wrap ((k : Int) + 1) = ((k + 1 : Nat) : Int) := by
        have := HD.out.1.s
        rw [IntWalk.i64_in _ (by omega)]; omega
      obtain ⟨oa, om, oc, hv⟩ : ∃ a m c, u3 = .slice a m c := by obtain ⟨a, c, e⟩ := HI.out.1.form; exact ⟨a, _, c, e⟩
      rw [hv] at HA ⊢
      clear HI hB o2 hv
      go_wp2_with fail
      refine hR.mono ?_
      rintro e w2 ⟨rfl, b2⟩
      obtain ⟨q1, v', w3, hap, H3⟩ := HA.out w2 b2
      obtain ⟨a3, m3, c3, rfl⟩ := H3.out.1
      unfold rw.App at hap
      clear hR HA b2 q0
      go_wp2_with (first | (refine rw.wpList_append_at _ _ _ rfl rfl _ _ _ _ rfl rfl hap ?_) | fail)
      go_roundw
      case rel => exact ⟨k + 1, rfl, by omega, H3.out.2⟩
      case measure => simp [intOf]; omega
    · obtain rfl : k = d.seen.length := by omega
      have HE : Hid (Own fileSh wr w.heap.size u3 d.seen ∧ Below w.heap.size w wr) := by
        have h1 := HI.out.1
        rw [List.take_length] at h1
        exact ⟨own_base fileSh h1 HB.out.size, HB.out.trans (HI.out.2.mono HB.out.size)⟩
      obtain ⟨oa, om, oc, hv⟩ : ∃ a m c, u3 = .slice a m c := by obtain ⟨a, c, e⟩ := HI.out.1.form; exact ⟨a, _, c, e⟩
      rw [hv] at HE ⊢
      clear HI hv
      go_wp2_with fail
      go_ret
      exact ⟨_, rfl, HE.out⟩
end Go.Proofs.Ytiljhnheacppgaa.dk
