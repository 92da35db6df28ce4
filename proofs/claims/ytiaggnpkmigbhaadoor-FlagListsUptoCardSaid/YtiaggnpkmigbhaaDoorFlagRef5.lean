/-
  What the reference's Change answers.
-/
import Derived.Test.YtiaggnpkmigbhaaDoorFlagRef4
namespace Go.Proofs.YtiaggnpkmigbhaaDoor.fl
open Go.RowKit

theorem takeIns {m L : List (List UInt8)} {k : Nat} (h : k < L.length) : insAll m (L.take (k + 1)) = ins L[k] (insAll m (L.take k)) := by
  rw [List.take_succ_eq_append_getElem h, insAll_snoc]
theorem takeIns_le (m L : List (List UInt8)) {k : Nat} (h : k ≤ L.length) : (insAll m (L.take k)).length ≤ m.length + k := by
  have := (insAll_le (L.take k) m).2
  rw [List.length_take] at this; omega
/-- What is left of the first k. -/
def leftAt (l bs : List (List UInt8)) (k : Nat) : List (List UInt8) := (l.take k).filter fun x => decide (x ∉ bs)
theorem leftAt_in {l bs : List (List UInt8)} {k : Nat} (h : k < l.length) (hm : l[k] ∈ bs) : leftAt l bs (k + 1) = leftAt l bs k := by
  unfold leftAt
  rw [List.take_succ_eq_append_getElem h, List.filter_append]
  simp [hm]
theorem leftAt_out {l bs : List (List UInt8)} {k : Nat} (h : k < l.length) (hm : l[k] ∉ bs) : leftAt l bs (k + 1) = leftAt l bs k ++ [l[k]] := by
  unfold leftAt
  rw [List.take_succ_eq_append_getElem h, List.filter_append]
  simp [hm]
theorem leftAt_le (l bs : List (List UInt8)) {k : Nat} (h : k ≤ l.length) : (leftAt l bs k).length ≤ k := by
  have := List.length_filter_le (fun x => decide (x ∉ bs)) (l.take k)
  rw [List.length_take] at this
  unfold leftAt; omega
theorem change_err {l bs : List (List UInt8)} {how : Int} (h : ¬ (IsRight l ∧ IsRight bs ∧ 0 ≤ how ∧ how ≤ 2)) : change l how bs = ([], 1) := if_neg h
theorem change_ok {l bs : List (List UInt8)} {how : Int} (h : IsRight l ∧ IsRight bs ∧ 0 ≤ how ∧ how ≤ 2) : change l how bs = full (insAll [] (body how l bs)) := if_pos h

set_option maxHeartbeats 4000000 in
set_option maxRecDepth 100000 in
theorem refchange_any (a a' : Option Addr) (cap cap' : Nat) (l bs : List (List UInt8)) (how : Int) (hl : l.length ≤ 8796093022000) (hb' : bs.length ≤ 8796093022000) (hx : ∀ x ∈ l, x.length ≤ 140737488355328) (hy : ∀ x ∈ bs, x.length ≤ 140737488355328) (w : World) (hr : RowS w a l) (hs : RowS w a' bs) :
    Calls Tryd.prog 21 #[.slice a l.length cap, .int .i64 how, .slice a' bs.length cap'] w fun e w' => (∃ a2 c2, e = .returned (.tuple #[.slice a2 (change l how bs).1.length c2, .int .i64 ((change l how bs).2 : Nat)]) ∧ RowS w' a2 (change l how bs).1) ∧ Below w.heap.size w w' := by
  have hl1 := refright_any a cap l hl hx
  have hl2 := refright_any a' cap' bs hb' hy
  have HWI := Lib.hid refwith_any
  have HHA := Lib.hid (fun x (W : World) => refhas_any a' cap' bs x (by omega) W)
  unfold right at hl1 hl2
  by_cases hrl : IsRight l
  · by_cases hrb : IsRight bs
    · rw [decide_eq_true hrl] at hl1
      rw [decide_eq_true hrb] at hl2
      have hln := hrl.n
      have hbn := hrb.n
      have HRL := Lib.hid hrl
      have HRB := Lib.hid hrb
      clear hrl hrb
      by_cases h0 : how = 0
      · subst h0
        go_enter Tryd.func21, Tryd.ntmps21
        go_wp2_with fail
        refine (hl1 _ hr).mono ?_
        rintro e w1 ⟨rfl, b1⟩
        go_wp2_with fail
        refine (hl2 _ (hs.later b1)).mono ?_
        rintro e w2 ⟨rfl, b2⟩
        have hB2 := b1.trans (b2.mono b1.size)
        clear b1 b2
        go_wp2_with fail
        go_loopw [8, 10] (fun v i wr => ∃ (k : Nat) (a2 : Option Addr) (c2 : Nat), i = .int .i64 k ∧ v = .slice a2 (insAll [] (bs.take k)).length c2 ∧ k ≤ bs.length ∧ Hid (RowS wr a2 (insAll [] (bs.take k))) ∧ Below w.heap.size w wr)
          (fun _ i _ => bs.length - (intOf i).toNat)
        case atStart => exact ⟨0, none, 0, rfl, rfl, Nat.zero_le _, Lib.hid (.inl rfl), hB2⟩
        case round =>
          clear hB2
          obtain ⟨k, a2, c2, rfl, rfl, hk, HO, hB⟩ := hrel
          by_cases hlt : k < bs.length
          · skip
            have hB0 := hB.size
            have hml := takeIns_le [] bs hk
            have hwi := HWI.out a2 c2 (insAll [] (bs.take k)) (bs[k]'hlt) (by simp at hml; omega) (insAll_sorted List.Pairwise.nil)
            have HN := Lib.hid (takeIns (m := []) hlt)
            rcases hs.later hB with h0 | ⟨b, off, rfl, hb, hc⟩
            · rw [h0] at hlt; simp at hlt
            have hcell := hc k hlt
            have hki : (k : Int) < (bs.length : Int) := by omega
            have hw1 := hwi wr HO.out
            generalize bs[k]'hlt = x at *
            clear hc hml hwi HO
            go_wp2_with fail
            refine hw1.mono ?_
            rintro e w2 ⟨⟨a3, c3, rfl, hrow⟩, b2⟩
            clear hw1
            rw [← HN.out] at hrow ⊢
            have HR := Lib.hid hrow
            have hB3 := hB.trans (b2.mono hB0)
            clear hrow HN b2 hB
            go_wp2_with fail
            go_roundw
            case rel => exact ⟨k + 1, a3, c3, by go_num, rfl, by omega, HR, hB3⟩
            case measure => simp [intOf]; omega
          · obtain rfl : k = bs.length := by omega
            rw [List.take_length] at *
            have HV : Hid (insAll [] (body 0 l bs) = insAll [] bs) := Lib.hid (by unfold body; rw [if_pos rfl])
            have hch := change_ok (l := l) (bs := bs) (how := 0) ⟨HRL.out, HRB.out, by omega, by omega⟩
            rw [HV.out] at hch
            by_cases h16 : 16 < (insAll [] bs).length
            · have HP : Hid (change l 0 bs = ([], 7)) := Lib.hid (by rw [hch]; unfold full; rw [if_pos h16])
              have h16i : ((insAll [] bs).length : Int) > 16 := by omega
              clear hch hr hs HV
              generalize insAll [] bs = m at *
              go_wp2_with fail
              refine bodyPost_ret (results_tmp2 rfl _ _ _) rfl ?_
              rw [HP.out]
              exact ⟨by first | exact ⟨none, 0, rfl, .inl rfl⟩ | exact ⟨none, ⟨0, rfl⟩, .inl rfl⟩, hB⟩
            · have HP : Hid (change l 0 bs = (insAll [] bs, 0)) := Lib.hid (by rw [hch]; unfold full; rw [if_neg h16])
              have h16i : ¬ ((insAll [] bs).length : Int) > 16 := by omega
              clear hch hr hs HV
              generalize insAll [] bs = m at *
              have HRW := HO.out
              go_wp2_with fail
              refine bodyPost_ret (results_tmp2 rfl _ _ _) rfl ?_
              rw [HP.out]
              exact ⟨by first | exact ⟨a2, c2, rfl, HRW⟩ | exact ⟨a2, ⟨c2, rfl⟩, HRW⟩, hB⟩
      · by_cases h1 : how = 1
        · subst h1
          go_enter Tryd.func21, Tryd.ntmps21
          go_wp2_with fail
          refine (hl1 _ hr).mono ?_
          rintro e w1 ⟨rfl, b1⟩
          go_wp2_with fail
          refine (hl2 _ (hs.later b1)).mono ?_
          rintro e w2 ⟨rfl, b2⟩
          have hB2 := b1.trans (b2.mono b1.size)
          clear b1 b2
          go_wp2_with fail
          go_loopw [8, 9] (fun v i wr => ∃ (k : Nat) (a2 : Option Addr) (c2 : Nat), i = .int .i64 k ∧ v = .slice a2 (insAll [] (l.take k)).length c2 ∧ k ≤ l.length ∧ Hid (RowS wr a2 (insAll [] (l.take k))) ∧ Below w.heap.size w wr)
            (fun _ i _ => l.length - (intOf i).toNat)
          case atStart => exact ⟨0, none, 0, rfl, rfl, Nat.zero_le _, Lib.hid (.inl rfl), hB2⟩
          case round =>
            clear hB2
            obtain ⟨k, a2, c2, rfl, rfl, hk, HO, hB⟩ := hrel
            by_cases hlt : k < l.length
            · skip
              have hB0 := hB.size
              have hml := takeIns_le [] l hk
              have hwi := HWI.out a2 c2 (insAll [] (l.take k)) (l[k]'hlt) (by simp at hml; omega) (insAll_sorted List.Pairwise.nil)
              have HN := Lib.hid (takeIns (m := []) hlt)
              rcases hr.later hB with h0 | ⟨b, off, rfl, hb, hc⟩
              · rw [h0] at hlt; simp at hlt
              have hcell := hc k hlt
              have hki : (k : Int) < (l.length : Int) := by omega
              have hw1 := hwi wr HO.out
              generalize l[k]'hlt = x at *
              clear hc hml hwi HO
              go_wp2_with fail
              refine hw1.mono ?_
              rintro e w2 ⟨⟨a3, c3, rfl, hrow⟩, b2⟩
              clear hw1
              rw [← HN.out] at hrow ⊢
              have HR := Lib.hid hrow
              have hB3 := hB.trans (b2.mono hB0)
              clear hrow HN b2 hB
              go_wp2_with fail
              go_roundw
              case rel => exact ⟨k + 1, a3, c3, by go_num, rfl, by omega, HR, hB3⟩
              case measure => simp [intOf]; omega
            · obtain rfl : k = l.length := by omega
              rw [List.take_length] at *
              have hml0 : (insAll [] l).length ≤ l.length := by have := (insAll_le l []).2; simpa using this
              go_wp2_with fail
              go_loopw [8, 10] (fun v i wr => ∃ (k : Nat) (a2 : Option Addr) (c2 : Nat), i = .int .i64 k ∧ v = .slice a2 (insAll (insAll [] l) (bs.take k)).length c2 ∧ k ≤ bs.length ∧ Hid (RowS wr a2 (insAll (insAll [] l) (bs.take k))) ∧ Below w.heap.size w wr)
                (fun _ i _ => bs.length - (intOf i).toNat)
              case atStart => exact ⟨0, _, _, rfl, rfl, Nat.zero_le _, HO, hB⟩
              case round =>
                clear HO hB
                obtain ⟨k, a2, c2, rfl, rfl, hk, HO, hB⟩ := hrel
                by_cases hlt : k < bs.length
                · skip
                  have hB0 := hB.size
                  have hml := takeIns_le (insAll [] l) bs hk
                  have hwi := HWI.out a2 c2 (insAll (insAll [] l) (bs.take k)) (bs[k]'hlt) (by omega) (insAll_sorted (insAll_sorted List.Pairwise.nil))
                  have HN := Lib.hid (takeIns (m := (insAll [] l)) hlt)
                  rcases hs.later hB with h0 | ⟨b, off, rfl, hb, hc⟩
                  · rw [h0] at hlt; simp at hlt
                  have hcell := hc k hlt
                  have hki : (k : Int) < (bs.length : Int) := by omega
                  have hw1 := hwi wr HO.out
                  generalize bs[k]'hlt = x at *
                  clear hc hml hwi HO
                  go_wp2_with fail
                  refine hw1.mono ?_
                  rintro e w2 ⟨⟨a3, c3, rfl, hrow⟩, b2⟩
                  clear hw1
                  rw [← HN.out] at hrow ⊢
                  have HR := Lib.hid hrow
                  have hB3 := hB.trans (b2.mono hB0)
                  clear hrow HN b2 hB
                  go_wp2_with fail
                  go_roundw
                  case rel => exact ⟨k + 1, a3, c3, by go_num, rfl, by omega, HR, hB3⟩
                  case measure => simp [intOf]; omega
                · obtain rfl : k = bs.length := by omega
                  rw [List.take_length] at *
                  have HV : Hid (insAll [] (body 1 l bs) = insAll (insAll [] l) bs) := Lib.hid (by unfold body; rw [if_neg (by omega), if_pos rfl, insAll_append])
                  have hch := change_ok (l := l) (bs := bs) (how := 1) ⟨HRL.out, HRB.out, by omega, by omega⟩
                  rw [HV.out] at hch
                  by_cases h16 : 16 < (insAll (insAll [] l) bs).length
                  · have HP : Hid (change l 1 bs = ([], 7)) := Lib.hid (by rw [hch]; unfold full; rw [if_pos h16])
                    have h16i : ((insAll (insAll [] l) bs).length : Int) > 16 := by omega
                    clear hch hr hs HV
                    generalize insAll (insAll [] l) bs = m at *
                    go_wp2_with fail
                    refine bodyPost_ret (results_tmp2 rfl _ _ _) rfl ?_
                    rw [HP.out]
                    exact ⟨by first | exact ⟨none, 0, rfl, .inl rfl⟩ | exact ⟨none, ⟨0, rfl⟩, .inl rfl⟩, hB⟩
                  · have HP : Hid (change l 1 bs = (insAll (insAll [] l) bs, 0)) := Lib.hid (by rw [hch]; unfold full; rw [if_neg h16])
                    have h16i : ¬ ((insAll (insAll [] l) bs).length : Int) > 16 := by omega
                    clear hch hr hs HV
                    generalize insAll (insAll [] l) bs = m at *
                    have HRW := HO.out
                    go_wp2_with fail
                    refine bodyPost_ret (results_tmp2 rfl _ _ _) rfl ?_
                    rw [HP.out]
                    exact ⟨by first | exact ⟨a2, c2, rfl, HRW⟩ | exact ⟨a2, ⟨c2, rfl⟩, HRW⟩, hB⟩
        · by_cases h2 : how = 2
          · subst h2
            go_enter Tryd.func21, Tryd.ntmps21
            go_wp2_with fail
            refine (hl1 _ hr).mono ?_
            rintro e w1 ⟨rfl, b1⟩
            go_wp2_with fail
            refine (hl2 _ (hs.later b1)).mono ?_
            rintro e w2 ⟨rfl, b2⟩
            have hB2 := b1.trans (b2.mono b1.size)
            clear b1 b2
            go_wp2_with fail
            go_loopw [8, 9] (fun v i wr => ∃ (k : Nat) (a2 : Option Addr) (c2 : Nat), i = .int .i64 k ∧ v = .slice a2 (insAll [] (leftAt l bs k)).length c2 ∧ k ≤ l.length ∧ Hid (RowS wr a2 (insAll [] (leftAt l bs k))) ∧ Below w.heap.size w wr)
              (fun _ i _ => l.length - (intOf i).toNat)
            case atStart => exact ⟨0, none, 0, rfl, rfl, Nat.zero_le _, Lib.hid (.inl rfl), hB2⟩
            case round =>
              clear hB2
              obtain ⟨k, a2, c2, rfl, rfl, hk, HO, hB⟩ := hrel
              by_cases hlt : k < l.length
              · have hB0 := hB.size
                have hml : (insAll [] (leftAt l bs k)).length ≤ k := by
                  have h1 := (insAll_le (leftAt l bs k) []).2
                  have h2 := leftAt_le l bs hk
                  simp at h1; omega
                have hwi := HWI.out a2 c2 (insAll [] (leftAt l bs k)) (l[k]'hlt) (by omega) (insAll_sorted List.Pairwise.nil)
                have hha := HHA.out (l[k]'hlt) wr (hs.later hB)
                rcases hr.later hB with h0 | ⟨b, off, rfl, hb, hc⟩
                · rw [h0] at hlt; simp at hlt
                have hcell := hc k hlt
                have hki : (k : Int) < (l.length : Int) := by omega
                by_cases hm : l[k]'hlt ∈ bs
                · have HN := Lib.hid (leftAt_in hlt hm)
                  rw [decide_eq_true hm] at hha
                  generalize l[k]'hlt = x at *
                  clear hc hml hwi hm
                  go_wp2_with fail
                  refine hha.mono ?_
                  rintro e w2 ⟨rfl, b2⟩
                  have HR : Hid (RowS w2 a2 (insAll [] (leftAt l bs (k + 1)))) := Lib.hid (by rw [HN.out]; exact HO.out.later b2)
                  have hB3 := hB.trans (b2.mono hB0)
                  rw [← HN.out]
                  clear hha b2 hB HO HN
                  go_wp2_with fail
                  go_roundw
                  case rel => exact ⟨k + 1, a2, c2, by go_num, rfl, by omega, HR, hB3⟩
                  case measure => simp [intOf]; omega
                · have HN := Lib.hid (leftAt_out hlt hm)
                  rw [decide_eq_false hm] at hha
                  generalize l[k]'hlt = x at *
                  clear hml hm hc
                  go_wp2_with fail
                  refine hha.mono ?_
                  rintro e w2 ⟨rfl, b2⟩
                  have hcell2 := (b2.cell (p := ⟨b, off + k, none⟩) hb).trans hcell
                  have hw1 := hwi w2 (HO.out.later b2)
                  have hB3 := hB.trans (b2.mono hB0)
                  have hB4 := hB3.size
                  have HN2 : Hid (insAll [] (leftAt l bs (k + 1)) = ins x (insAll [] (leftAt l bs k))) := Lib.hid (by rw [HN.out, insAll_snoc])
                  clear hha b2 hB HO HN hcell hwi hb
                  go_wp2_with fail
                  refine hw1.mono ?_
                  rintro e w3 ⟨⟨a3, c3, rfl, hrow⟩, b3⟩
                  clear hw1
                  rw [← HN2.out] at hrow ⊢
                  have HR := Lib.hid hrow
                  have hB5 := hB3.trans (b3.mono hB4)
                  clear hrow HN2 b3 hB3
                  go_wp2_with fail
                  go_roundw
                  case rel => exact ⟨k + 1, a3, c3, by go_num, rfl, by omega, HR, hB5⟩
                  case measure => simp [intOf]; omega
              · obtain rfl : k = l.length := by omega
                have hle : leftAt l bs l.length = l.filter (fun x => decide (x ∉ bs)) := by unfold leftAt; rw [List.take_length]
                rw [hle] at HO ⊢
                clear hle
                have HV : Hid (insAll [] (body 2 l bs) = insAll [] (l.filter (fun x => decide (x ∉ bs)))) := Lib.hid (by unfold body; rw [if_neg (by omega), if_neg (by omega)])
                have hch := change_ok (l := l) (bs := bs) (how := 2) ⟨HRL.out, HRB.out, by omega, by omega⟩
                rw [HV.out] at hch
                by_cases h16 : 16 < (insAll [] (l.filter (fun x => decide (x ∉ bs)))).length
                · have HP : Hid (change l 2 bs = ([], 7)) := Lib.hid (by rw [hch]; unfold full; rw [if_pos h16])
                  have h16i : ((insAll [] (l.filter (fun x => decide (x ∉ bs)))).length : Int) > 16 := by omega
                  clear hch hr hs HV
                  generalize insAll [] (l.filter (fun x => decide (x ∉ bs))) = m at *
                  go_wp2_with fail
                  refine bodyPost_ret (results_tmp2 rfl _ _ _) rfl ?_
                  rw [HP.out]
                  exact ⟨by first | exact ⟨none, 0, rfl, .inl rfl⟩ | exact ⟨none, ⟨0, rfl⟩, .inl rfl⟩, hB⟩
                · have HP : Hid (change l 2 bs = (insAll [] (l.filter (fun x => decide (x ∉ bs))), 0)) := Lib.hid (by rw [hch]; unfold full; rw [if_neg h16])
                  have h16i : ¬ ((insAll [] (l.filter (fun x => decide (x ∉ bs)))).length : Int) > 16 := by omega
                  clear hch hr hs HV
                  generalize insAll [] (l.filter (fun x => decide (x ∉ bs))) = m at *
                  have HRW := HO.out
                  go_wp2_with fail
                  refine bodyPost_ret (results_tmp2 rfl _ _ _) rfl ?_
                  rw [HP.out]
                  exact ⟨by first | exact ⟨a2, c2, rfl, HRW⟩ | exact ⟨a2, ⟨c2, rfl⟩, HRW⟩, hB⟩
          · have HP := Lib.hid (change_err (l := l) (bs := bs) (how := how) (fun h => by omega))
            by_cases hneg : how < 0
            · go_enter Tryd.func21, Tryd.ntmps21
              go_wp2_with fail
              refine (hl1 _ hr).mono ?_
              rintro e w1 ⟨rfl, b1⟩
              go_wp2_with fail
              refine (hl2 _ (hs.later b1)).mono ?_
              rintro e w2 ⟨rfl, b2⟩
              have hB2 := b1.trans (b2.mono b1.size)
              clear b1 b2
              go_wp2_with fail
              refine bodyPost_ret (results_tmp2 rfl _ _ _) rfl ?_
              rw [HP.out]
              exact ⟨by first | exact ⟨none, 0, rfl, .inl rfl⟩ | exact ⟨none, ⟨0, rfl⟩, .inl rfl⟩, hB2⟩
            · have hbig : how > 2 := by omega
              go_enter Tryd.func21, Tryd.ntmps21
              go_wp2_with fail
              refine (hl1 _ hr).mono ?_
              rintro e w1 ⟨rfl, b1⟩
              go_wp2_with fail
              refine (hl2 _ (hs.later b1)).mono ?_
              rintro e w2 ⟨rfl, b2⟩
              have hB2 := b1.trans (b2.mono b1.size)
              clear b1 b2
              go_wp2_with fail
              refine bodyPost_ret (results_tmp2 rfl _ _ _) rfl ?_
              rw [HP.out]
              exact ⟨by first | exact ⟨none, 0, rfl, .inl rfl⟩ | exact ⟨none, ⟨0, rfl⟩, .inl rfl⟩, hB2⟩
    · have HP := Lib.hid (change_err (l := l) (bs := bs) (how := how) (fun h => hrb h.2.1))
      rw [decide_eq_true hrl] at hl1
      rw [decide_eq_false hrb] at hl2
      go_enter Tryd.func21, Tryd.ntmps21
      go_wp2_with fail
      refine (hl1 _ hr).mono ?_
      rintro e w1 ⟨rfl, b1⟩
      go_wp2_with fail
      refine (hl2 _ (hs.later b1)).mono ?_
      rintro e w2 ⟨rfl, b2⟩
      have hB2 := b1.trans (b2.mono b1.size)
      clear b1 b2
      go_wp2_with fail
      refine bodyPost_ret (results_tmp2 rfl _ _ _) rfl ?_
      rw [HP.out]
      exact ⟨by first | exact ⟨none, 0, rfl, .inl rfl⟩ | exact ⟨none, ⟨0, rfl⟩, .inl rfl⟩, hB2⟩
  · have HP := Lib.hid (change_err (l := l) (bs := bs) (how := how) (fun h => hrl h.1))
    rw [decide_eq_false hrl] at hl1
    go_enter Tryd.func21, Tryd.ntmps21
    go_wp2_with fail
    refine (hl1 _ hr).mono ?_
    rintro e w1 ⟨rfl, b1⟩
    go_wp2_with fail
    refine bodyPost_ret (results_tmp2 rfl _ _ _) rfl ?_
    rw [HP.out]
    exact ⟨by first | exact ⟨none, 0, rfl, .inl rfl⟩ | exact ⟨none, ⟨0, rfl⟩, .inl rfl⟩, b1⟩
end Go.Proofs.YtiaggnpkmigbhaaDoor.fl
