/-
  What the reference's Same and awaited answer.
-/
import Derived.Test.YtnpikjobjmffgaaDoorLinMem
import Derived.Deep.QuietTactic
import Derived.BigQuiet
namespace Go.Proofs.YtnpikjobjmffgaaDoor.li
open Go.RowKit

theorem rowH_cell {w : World} {a : Option Addr} {l : List Hd} (h : RowH w a l) {k : Nat} (hk : k < l.length) : ∃ b off, a = some ⟨b, off, none⟩ ∧ b < w.heap.size ∧ w.cell? ⟨b, off + k * 2, none⟩ = some (.int .i64 (l[k].kind : Nat)) ∧ w.cell? ⟨b, off + k * 2 + 1, none⟩ = some (.string (S l[k].text)) := by
  rcases h with rfl | ⟨b, off, e, hb, hc⟩
  · simp at hk
  · exact ⟨b, off, e, hb, hc k hk⟩
theorem below_drewN {B : Nat} {a w : World} (h : Below B a w) (q : Nat) : Below B a (w.drewN q) := ⟨h.os, h.tape, h.output, h.size, h.block⟩

set_option maxHeartbeats 1000000 in
set_option maxRecDepth 100000 in
theorem same_any (a a' : Option Addr) (cap cap' : Nat) (l : List Hd) (hl : l.length ≤ 100000000000) (w : World) (hr : RowH w a l) (hs : RowH w a' l) :
    Calls Tryd.prog 12 #[.slice a l.length cap, .slice a' l.length cap'] w fun e w' => e = .returned (.bool true) ∧ Below w.heap.size w w' := by
  go_enter Tryd.func12, Tryd.ntmps12
  go_wp2
  go_loopw [5] (fun i wr => ∃ k : Nat, i = .int .i64 k ∧ k ≤ l.length ∧ Below w.heap.size w wr)
    (fun i _ => l.length - (intOf i).toNat)
  case atStart => exact ⟨0, rfl, Nat.zero_le _, Below.refl _ _⟩
  case round =>
    obtain ⟨k, rfl, hk, hB⟩ := hrel
    by_cases hlt : k < l.length
    · obtain ⟨b, off, rfl, hb, c1, c2⟩ := rowH_cell (hr.later hB) hlt
      obtain ⟨b', off', rfl, hb', d1, d2⟩ := rowH_cell (hs.later hB) hlt
      have hki : (k : Int) < (l.length : Int) := by omega
      generalize l[k]'hlt = x at *
      obtain ⟨kk, tt⟩ := x
      have hself : ((S tt).toList == (S tt).toList) = true := by simp
      generalize S tt = st at *
      clear hr hs
      go_wp2
      go_quiet (fail)
      go_wp2
      go_roundw
      case rel => exact ⟨k + 1, by go_num, by omega, below_drewN hB _⟩
      case measure => simp [intOf]; omega
    · obtain rfl : k = l.length := by omega
      clear hr hs
      go_wp2
      go_ret
      exact ⟨rfl, hB⟩

set_option maxHeartbeats 2000000 in
set_option maxRecDepth 100000 in
theorem awaited_any (p : List UInt8) (hl : p.length ≤ 140737488355328) (w : World) :
    Calls Tryd.prog 22 #[.string (S p)] w fun e w' => e = .returned (.tuple #[.int .u64 (litN p : Nat), .bool (litB p)]) ∧ Below w.heap.size w w' := by
  have hz := S_size p
  have fin : Hid (litB p = false ∧ litN p = 0) → Ending.returned (Value.tuple #[.int .u64 0, .bool false]) = Ending.returned (.tuple #[.int .u64 (litN p : Nat), .bool (litB p)]) := fun h => by rw [h.out.1, h.out.2]; rfl
  by_cases h3 : p.length < 3
  · have HB := Lib.hid (lit_short h3)
    have hi : (p.length : Int) < 3 := by omega
    go_enter Tryd.func22, Tryd.ntmps22
    go_wp2
    refine bodyPost_ret (results_tmp2 rfl _ _ _) rfl ⟨?_, Below.refl _ _⟩; exact fin HB
  · have hi : ¬ (p.length : Int) < 3 := by omega
    have hw1 : IntKind.i64.wrap ((p.length : Int) - 1) = ((p.length - 1 : Nat) : Int) := by rw [show (p.length : Int) - 1 = ((p.length - 1 : Nat) : Int) by omega]; exact IntWalk.i64_in _ (by omega)
    have hw2 : IntKind.i64.wrap ((p.length : Int) - 2) = ((p.length - 2 : Nat) : Int) := by rw [show (p.length : Int) - 2 = ((p.length - 2 : Nat) : Int) by omega]; exact IntWalk.i64_in _ (by omega)
    have hk1 : p.length - 1 < p.length := by omega
    have hk1' : p.length - 1 < (S p).size := by rw [S_size]; omega
    obtain ⟨d, hd⟩ : ∃ d, p[p.length - 1]'hk1 = d := ⟨_, rfl⟩
    have hx : ((S p)[p.length - 1]'hk1').toNat = d.toNat := by rw [S_get p _ hk1 hk1', hd]
    have hg : p.getD (p.length - 1) 0 = d := by rw [List.getD_eq_getElem?_getD, List.getElem?_eq_getElem hk1, hd]; rfl
    have hki : ((p.length - 1 : Nat) : Int) < (p.length : Int) := by omega
    by_cases h125 : d = 125
    · have hq : ((d.toNat : Int) == 125) = true := by rw [h125]; rfl
      have hlast : p.getD (p.length - 1) 0 = 125 := hg.trans h125
      have HLN : Hid (∀ i, lastIn 123 p p.length = some i → litM p = some (mid p i)) := Lib.hid (fun i h => litM_some hlast h)
      have HL0 : Hid (lastIn 123 p p.length = lastIn 123 p (p.length - 2 + 1)) := Lib.hid (by
        have e : p.length = (p.length - 1) + 1 := by omega
        rw [show p.length - 2 + 1 = p.length - 1 by omega]
        conv => lhs; rw [e]
        exact lastIn_no (by rw [hlast]; decide))
      have hn2 : p.length - 2 < p.length := by omega
      have hn1 : p.length - 1 = p.length - 2 + 1 := by omega
      have HN1 := Lib.hid hn1
      clear hlast hg hd h125 hn1
      generalize d.toNat = y at *
      obtain ⟨m, hm⟩ : ∃ m, m = p.length - 1 := ⟨_, rfl⟩
      have HM := Lib.hid hm
      clear hm
      go_enter Tryd.func22, Tryd.ntmps22
      go_wp2
      go_loopw [4] (fun i wr => ∃ k : Nat, i = .int .i64 ((k : Int) - 1) ∧ k + 1 ≤ p.length ∧ Hid (lastIn 123 p p.length = lastIn 123 p k) ∧ wr = w)
        (fun i _ => (intOf i + 1).toNat)
      case atStart => exact ⟨p.length - 2 + 1, by congr 1; omega, by omega, HL0, rfl⟩
      case round =>
        clear hx hq hki hw2 HL0
        obtain ⟨k, rfl, hk, HL, rfl⟩ := hrel
        match k, hk, HL with
        | 0, hk, HL =>
          have HB := Lib.hid (lit_of_none (litM_none (HL.out.trans (lastIn_zero _ _))))
          clear HL HLN
          go_wp2
          refine bodyPost_ret (results_tmp2 rfl _ _ _) rfl ⟨?_, Below.refl _ _⟩; exact fin HB
        | k + 1, hk, HL =>
          have hlt : k < p.length := by omega
          have hlt' : k < (S p).size := by rw [S_size]; exact hlt
          have he : ((k + 1 : Nat) : Int) - 1 = (k : Int) := by omega
          rw [he]
          clear he
          obtain ⟨e, hd⟩ : ∃ e, p[k]'hlt = e := ⟨_, rfl⟩
          have hx : ((S p)[k]'hlt').toNat = e.toNat := by rw [S_get p k hlt hlt', hd]
          have hg : p.getD k 0 = e := by rw [List.getD_eq_getElem?_getD, List.getElem?_eq_getElem hlt, hd]; rfl
          have hkk : (k : Int) < (p.length : Int) := by omega
          by_cases hdc : e = 123
          · have hq : ((e.toNat : Int) == 123) = true := by rw [hdc]; rfl
            have HB := Lib.hid (lit_of_some (HLN.out k (HL.out.trans (lastIn_yes (hg.trans hdc)))))
            have hml : (mid p k).length ≤ 140737488355328 := by unfold mid; rw [List.length_take, List.length_drop]; omega
            have hcall := refnumber_any (mid p k) hml wr
            have hsl := fun W => run_slice_string (P := Tryd.prog) W 9 (S p) .i64 .i64 ((k : Int) + 1) ((p.length - 1 : Nat) : Int) Tryd.underlying9 (by omega) (by omega) (by rw [hz]; omega)
            have e1 : ((k : Int) + 1).toNat = k + 1 := by omega
            have e2 : (((p.length - 1 : Nat) : Int)).toNat = p.length - 1 := by omega
            have hex : (S p).extract (k + 1) (p.length - 1) = S (mid p k) := by rw [S_mid]; rfl
            simp only [e1, e2, hex] at hsl
            have hw3 : IntKind.i64.wrap ((k : Int) + 1) = (k : Int) + 1 := IntWalk.i64_in _ (by omega)
            clear HL HLN hd hg hdc e1 e2 hex
            generalize e.toNat = z at *
            generalize mid p k = mm at *
            go_wp2_with fail
            refine hcall.mono ?_
            rintro e w1 ⟨rfl, rfl⟩
            go_wp2_with fail
            refine bodyPost_ret (results_tmp2 rfl _ _ _) rfl ⟨?_, Below.refl _ _⟩
            rw [HB.out.1, HB.out.2]; rfl
          · have hq : ((e.toNat : Int) == 123) = false := by
              rw [beq_eq_false_iff_ne]
              intro h
              exact hdc (UInt8.toNat_inj.1 (by show e.toNat = 123; omega))
            have hfin : Hid (lastIn 123 p p.length = lastIn 123 p k) := by rw [HL.out, lastIn_no (by rw [hg]; exact hdc)]; exact rfl
            have hw3 : IntKind.i64.wrap ((k : Int) - 1) = (k : Int) - 1 := IntWalk.i64_in _ (by omega)
            clear HL hd hg hdc
            generalize e.toNat = z at *
            go_wp2
            go_roundw
            case rel => exact ⟨k, rfl, by omega, hfin, trivial⟩
            case measure => simp [intOf]
    · have hq : ((d.toNat : Int) == 125) = false := by
        rw [beq_eq_false_iff_ne]
        intro h
        exact h125 (UInt8.toNat_inj.1 (by show d.toNat = 125; omega))
      have HB := Lib.hid (lit_of_none (litM_not_end (by rw [hg]; exact h125)))
      clear hd hg h125
      generalize d.toNat = y at *
      go_enter Tryd.func22, Tryd.ntmps22
      go_wp2
      refine bodyPost_ret (results_tmp2 rfl _ _ _) rfl ⟨?_, Below.refl _ _⟩; exact fin HB
end Go.Proofs.YtnpikjobjmffgaaDoor.li
