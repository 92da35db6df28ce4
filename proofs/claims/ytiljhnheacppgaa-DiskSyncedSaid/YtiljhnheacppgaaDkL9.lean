/-
  The law DiskSynced, walked.
-/
import Derived.Test.YtiljhnheacppgaaDkL8
import Derived.Deep.CutBlock
namespace Go.Proofs.Ytiljhnheacppgaa.dk
set_option linter.unusedVariables false
open Go.RowKit
open fl (S S_size S_append S_inj str_eq str_ne)
open rw (Arr But Row Own bnext below_box below_drew below_drewN addr_add Fr RowB)
open mp (Mp Turned kget kput kwithout kmap KSorted Ranging)

set_option maxHeartbeats 1000000 in
set_option maxRecDepth 100000 in
theorem synced_walk (cap : Int) (v : Value) (l : List Ac) (v2 : Value) (l2 : List Ac) (kk : Int) (w : World) (hl : ActRow w v l) (hl2 : ActRow w v2 l2) :
    Calls Try.prog 5 #[.int .i64 cap, v, v2, .int .i64 kk] w fun e w' => e = .returned (.bool true) ∧ Below w.heap.size w w' := by
  have hA := alive_any w
  obtain ⟨la, lc, rfl⟩ := hl.form
  obtain ⟨ma, mc, rfl⟩ := hl2.form
  have HL := Lib.hid hl
  have HM := Lib.hid hl2
  have HN := Lib.hid fun W => pnew_any cap W
  clear hl hl2
  go_enter Try.func5, Try.ntmps5
  go_wp2_with fail
  refine hA.mono ?_
  rintro e w1 ⟨rfl, b1⟩
  have HB1 := Lib.hid b1
  have hN := HN.out w1
  clear hA b1 HN
  go_wp2_with fail
  refine hN.mono ?_
  rintro e w2 (⟨hc, rfl, rfl⟩ | ⟨c, rfl, hc2, p, rfl, hP, b2⟩)
  · clear hN hc
    go_wp2_with fail
    go_ret
    exact ⟨rfl, HB1.out⟩
  · have H0 := Lib.hid (Wd.new hc2 HB1.out hP b2)
    clear hN hP b2 HB1
    go_upto_block 0 with (fail)
    go_cut [] from 30 to 45 (fun wx => ∃ d j, Hid (j ≤ 100 ∧ Wd w wx p c j d (.slice none 0 0) []))
    case first =>
      go_wp2_with fail
      go_loopw [11] (fun i wr => ∃ k : Nat, i = .int .i64 k ∧ k ≤ 100 ∧ k ≤ l.length ∧ Hid (∃ d, Wd w wr p c k d (.slice none 0 0) []))
        (fun i _ => 100 - (intOf i).toNat)
      case atStart => exact ⟨0, rfl, by omega, by omega, ⟨_, H0.out⟩⟩
      case round =>
        obtain ⟨k, rfl, hk3, hkl, HI⟩ := hrel
        by_cases hgo : k < l.length ∧ k < 100
        · have hli : (k : Int) < (l.length : Int) := by omega
          have h3i : (k : Int) < 100 := by omega
          have hlt := hgo.1
          obtain ⟨d, hi⟩ := HI.out
          have hrow := HL.out.later hi.since
          obtain ⟨b, off, rfl, x0, x1, x2, x3⟩ := hrow.at hlt
          have hT := hi.turn (by omega) (HL.out.2.2 _ (List.getElem_mem hlt))
          unfold acV at hT
          have hwi : IntKind.i64.wrap ((k : Int) + 1) = ((k + 1 : Nat) : Int) := by rw [IntWalk.i64_in _ (by omega)]; omega
          clear HI hi hrow
          generalize l[k]'hlt = a at *
          generalize (tn d a).1 = rc at *
          go_wp2_with fail
          refine hT.mono ?_
          rintro e w5 ⟨rfl, o5⟩
          have H5 : Hid (∃ d, Wd w w5 p c (k + 1) d (.slice none 0 0) []) := ⟨_, o5⟩
          clear hT o5 x0 x1 x2 x3
          go_wp2_with fail
          go_roundw
          case rel => exact ⟨k + 1, rfl, by omega, by omega, H5⟩
          case measure => simp [intOf]; omega
        · obtain ⟨d, hi⟩ := HI.out
          have hor : ((k : Int) < (l.length : Int) ∧ ¬ (k : Int) < 100) ∨ ¬ (k : Int) < (l.length : Int) := by omega
          have HR : Hid (k ≤ 100 ∧ Wd w wr p c k d (.slice none 0 0) []) := ⟨by omega, hi⟩
          clear HI hi H0
          rcases hor with ⟨hli, h3i⟩ | hli
          all_goals (
            go_wp2_with fail
            go_meet
            case rel => exact ⟨d, k, HR⟩)
    case rest =>
      obtain ⟨d, j, HR⟩ := hcut
      clear H0
      have hi := HR.out.2
      have hS := hi.sync (Nat.le_trans HR.out.1 (by decide))
      obtain ⟨q1, q2, q3, q4, q5⟩ := sync_of hi.f
      generalize (sync d).2 = d0 at *
      have HQ := Lib.hid q2
      clear hi q1 q2 q3 q4 q5
      go_wp2_with fail
      refine hS.mono ?_
      rintro e w3 ⟨rfl, o3⟩
      have hF := o3.files (by have := HR.out.1; omega)
      clear hS o3
      go_wp2_with fail
      refine hF.mono ?_
      rintro e w4 ⟨a4, c4, rfl, o4, b4⟩
      have H4 : Hid (Wd w w4 p c (101 + 0) (all d0 ((l2.take 0).map toC)) (.slice a4 d0.seen.length c4) d0.seen) := by
        obtain ⟨F, h1, h2⟩ := o4
        exact ⟨F, ⟨h1.pd, h1.i.mono (by have := HR.out.1; omega), h1.f, h1.c, h1.g, h1.b⟩, h2⟩
      have HRt := Lib.hid o4.i.r
      have HDl := Lib.hid (o4.rm (by have := HR.out.1; omega)).s
      clear hF o4 b4 HR
      go_upto_block 2 with (fail)
      go_cut [] from 51 to 66 (fun wx => ∃ m : List Ac, Hid (m = l2.take (min l2.length 100) ∧ Wd w wx p c 201 (all d0 (m.map toC)) (.slice a4 d0.seen.length c4) d0.seen))
      case first =>
        go_wp2_with fail
        go_loopw [13] (fun i wr => ∃ k : Nat, i = .int .i64 k ∧ k ≤ 100 ∧ k ≤ l2.length ∧ Hid (Wd w wr p c (101 + k) (all d0 ((l2.take k).map toC)) (.slice a4 d0.seen.length c4) d0.seen))
          (fun i _ => 100 - (intOf i).toNat)
        case atStart => exact ⟨0, rfl, by omega, by omega, H4⟩
        case round =>
          obtain ⟨k, rfl, hk3, hkl, HI⟩ := hrel
          by_cases hgo : k < l2.length ∧ k < 100
          · have hli : (k : Int) < (l2.length : Int) := by omega
            have h3i : (k : Int) < 100 := by omega
            have hlt := hgo.1
            have hi := HI.out
            have hrow := HM.out.later hi.since
            obtain ⟨b, off, rfl, x0, x1, x2, x3⟩ := hrow.at hlt
            have hT := hi.turn (by omega) (HM.out.2.2 _ (List.getElem_mem hlt))
            rw [← take_tn d0 l2 hlt] at hT
            unfold acV at hT
            have hwi : IntKind.i64.wrap ((k : Int) + 1) = ((k + 1 : Nat) : Int) := by rw [IntWalk.i64_in _ (by omega)]; omega
            generalize (tn (all d0 ((l2.take k).map toC)) l2[k]).1 = rc at *
            clear HI hi hrow
            generalize l2[k]'hlt = a at *
            go_wp2_with fail
            refine hT.mono ?_
            rintro e w5 ⟨rfl, o5⟩
            have H5 := Lib.hid o5
            clear hT o5 x0 x1 x2 x3
            go_wp2_with fail
            go_roundw
            case rel => exact ⟨k + 1, rfl, by omega, by omega, H5⟩
            case measure => simp [intOf]; omega
          · have hor : ((k : Int) < (l2.length : Int) ∧ ¬ (k : Int) < 100) ∨ ¬ (k : Int) < (l2.length : Int) := by omega
            have hk : k = min l2.length 100 := by omega
            have HR : Hid (l2.take k = l2.take (min l2.length 100) ∧ Wd w wr p c 201 (all d0 ((l2.take k).map toC)) (.slice a4 d0.seen.length c4) d0.seen) := by
              obtain ⟨F, h1, h2⟩ := HI.out
              exact ⟨by rw [← hk], F, ⟨h1.pd, h1.i.mono (by omega), h1.f, h1.c, h1.g, h1.b⟩, h2⟩
            clear HI H4 hk
            rcases hor with ⟨hli, h3i⟩ | hli
            all_goals (
              go_wp2_with fail
              go_meet
              case rel => exact ⟨l2.take k, HR⟩)
      case rest =>
        obtain ⟨m, HR⟩ := hcut
        clear H4
        have hi := HR.out.2
        have hPe := hi.pending
        obtain ⟨r, hr, g1, g2, g3, g4, g5⟩ := step_of kk _ ((hi.rm (by omega)).count)
        obtain ⟨d2, ⟨e1, e2, e3⟩, e4, e5⟩ := crashes hr
        have hC1 := hi.crash (by omega) (r : Int)
        rw [e1] at hC1
        have HD2 : Hid (∀ i (h : i < d0.seen.length), tur m d0.seen[i].1 = false → read d2 d0.seen[i].1 = (d0.seen[i].2, 0)) := fun i hi ht => kept_read HRt.out HQ.out m r e4 e5 hi ht
        have HC2 : Hid (∀ wx, Wd w wx p c 202 d2 (.slice a4 d0.seen.length c4) d0.seen → Calls Try.prog 18 #[.pointer (some ⟨p, 0, none⟩), .int .i64 1] wx fun e w' => e = .returned (.int .i64 1) ∧ Wd w w' p c 203 d2 (.slice a4 d0.seen.length c4) d0.seen) := fun wx h => by
          have := h.crash (by omega) 1
          rw [e2] at this
          exact this
        have HC3 : Hid (∀ wx, Wd w wx p c 203 d2 (.slice a4 d0.seen.length c4) d0.seen → Calls Try.prog 18 #[.pointer (some ⟨p, 0, none⟩), .int .i64 0] wx fun e w' => e = .returned (.int .i64 0) ∧ Wd w w' p c 204 d2 (.slice a4 d0.seen.length c4) d0.seen) := fun wx h => by
          have := h.crash (by omega) 0
          rw [e3] at this
          exact this
        have HNm : Hid (∀ f ∈ d0.seen, f.1.length ≤ maxLen) := fun f hf => Nat.le_trans (HRt.out.named f hf).2 (by unfold maxLen; decide)
        have Hm : Hid (m = l2.take (min l2.length 100)) := HR.out.1
        generalize count (all d0 (m.map toC)).pend = n at *
        generalize all d0 (m.map toC) = d1 at *
        clear hi HR e1 e2 e3 e4 e5 hr HQ HRt
        go_wp2_with fail
        refine hPe.mono ?_
        rintro e w5 ⟨rfl, rfl⟩
        clear hPe
        go_wp2_with fail
        refine hC1.mono ?_
        rintro e w6 ⟨rfl, o6⟩
        have hC2 := HC2.out w6 o6
        clear hC1 o6 HC2
        go_wp2_with fail
        refine hC2.mono ?_
        rintro e w7 ⟨rfl, o7⟩
        have hC3 := HC3.out w7 o7
        clear hC2 o7 HC3
        go_wp2_with fail
        refine hC3.mono ?_
        rintro e w8 ⟨rfl, o8⟩
        have H8 := Lib.hid o8
        clear hC3 o8
        go_wp2_with fail
        go_loopw [14, 15, 16, 17, 18] (fun i _ _ _ _ wr => ∃ k : Nat, i = .int .i64 k ∧ k ≤ d0.seen.length ∧ Hid (Wd w wr p c 204 d2 (.slice a4 d0.seen.length c4) d0.seen))
          (fun i _ _ _ _ _ => d0.seen.length - (intOf i).toNat)
        case atStart => exact ⟨0, rfl, by omega, H8⟩
        case round =>
          obtain ⟨k, rfl, hkl, HI⟩ := hrel
          by_cases hlt : k < d0.seen.length
          · have hli : (k : Int) < (d0.seen.length : Int) := by omega
            have hwi : IntKind.i64.wrap ((k : Int) + 1) = ((k + 1 : Nat) : Int) := by have := HDl.out; rw [IntWalk.i64_in _ (by omega)]; omega
            have HX : Hid (tur m (d0.seen[k]'hlt).1 = false → read d2 (d0.seen[k]'hlt).1 = ((d0.seen[k]'hlt).2, 0)) := HD2.out k hlt
            have Hf : Hid (∀ W, Wd w W p c 204 d2 (.slice a4 d0.seen.length c4) d0.seen → ∃ b off, a4 = some ⟨b, off, none⟩ ∧ W.cell? ⟨b, off + k * 2, none⟩ = some (.string (S (d0.seen[k]'hlt).1)) ∧ W.cell? ⟨b, off + k * 2 + 1, none⟩ = some (.string (S (d0.seen[k]'hlt).2))) := by
              intro W hW
              obtain ⟨a, c', e1, _, e3, _⟩ := hW.sl
              cases e1
              obtain ⟨b, off, e, _, x0, x1⟩ := slF_at e3 hlt
              exact ⟨b, off, e, x0, x1⟩
            have Hnl : Hid ((d0.seen[k]'hlt).1.length ≤ maxLen) := HNm.out _ (List.getElem_mem hlt)
            generalize d0.seen[k]'hlt = fl0 at *
            obtain ⟨fb, fo, rfl, y0, y1⟩ := Hf.out wr HI.out
            clear y0 y1
            go_upto_block 6 with (fail)
            go_cut [15] from 94 to 117 (fun t wx => t = .bool (tur m fl0.1) ∧ Hid (Wd w wx p c 204 d2 (.slice (some ⟨fb, fo, none⟩) d0.seen.length c4) d0.seen))
            case first =>
              go_wp2_with fail
              go_loopw [15, 16] (fun t i wx => ∃ j : Nat, i = .int .i64 j ∧ j ≤ 100 ∧ j ≤ l2.length ∧ t = .bool (tur (l2.take j) fl0.1) ∧ Hid (Wd w wx p c 204 d2 (.slice (some ⟨fb, fo, none⟩) d0.seen.length c4) d0.seen))
                (fun _ i _ => 100 - (intOf i).toNat)
              case atStart => exact ⟨0, rfl, by omega, by omega, rfl, HI⟩
              case round =>
                obtain ⟨j, rfl, hj3, hjl, rfl, HJ⟩ := hrel
                by_cases hgo : j < l2.length ∧ j < 100
                · have hji : (j : Int) < (l2.length : Int) := by omega
                  have h3i : (j : Int) < 100 := by omega
                  have hjt := hgo.1
                  have hts := tur_snoc l2 fl0.1 hjt
                  have hrow := HM.out.later HJ.out.since
                  obtain ⟨b, off, rfl, x0, x1, x2, x3⟩ := hrow.at hjt
                  obtain ⟨b', off', e', y0, y1⟩ := Hf.out _ HJ.out
                  cases e'
                  have hwj : IntKind.i64.wrap ((j : Int) + 1) = ((j + 1 : Nat) : Int) := by rw [IntWalk.i64_in _ (by omega)]; omega
                  have HJ2 : Hid (∀ n, Wd w (wr.drewN n) p c 204 d2 (.slice (some ⟨fb, fo, none⟩) d0.seen.length c4) d0.seen) := fun n => HJ.out.below (below_drewN (Below.refl _ _) n)
                  generalize l2[j]'hjt = a at *
                  obtain ⟨t2, ht0⟩ : ∃ t2, tur (l2.take (j + 1)) fl0.1 = t2 := ⟨_, rfl⟩
                  rw [ht0] at hts
                  have HT0 := Lib.hid ht0
                  clear ht0
                  generalize tur (l2.take j) fl0.1 = t1 at *
                  have Hts := Lib.hid hts
                  clear HI HJ hrow hts x0 x2 x3 y1
                  cases t1 with
                  | true =>
                    have ht2 : t2 = true := by rw [Hts.out]; rfl
                    subst ht2
                    go_upto_region 26 with (fail)
                    go_quiet (fail)
                    go_wp2_with fail
                    go_roundw
                    case rel => exact ⟨j + 1, rfl, by omega, by omega, by rw [HT0.out], HJ2.out _⟩
                    case measure => simp [intOf]; omega
                  | false =>
                    by_cases he : a.name = fl0.1
                    · have hq : ((S a.name).toList == (S fl0.1).toList) = true := str_eq (by rw [he])
                      have ht2 : t2 = true := by rw [Hts.out, decide_eq_true he]; rfl
                      subst ht2
                      go_upto_region 26 with (fail)
                      go_quiet (fail)
                      go_wp2_with fail
                      go_roundw
                      case rel => exact ⟨j + 1, rfl, by omega, by omega, by rw [HT0.out], HJ2.out _⟩
                      case measure => simp [intOf]; omega
                    · have hq : ((S a.name).toList == (S fl0.1).toList) = false := str_ne (fun e => he (S_inj e))
                      have ht2 : t2 = false := by rw [Hts.out, decide_eq_false he]; rfl
                      subst ht2
                      go_upto_region 26 with (fail)
                      go_quiet (fail)
                      go_wp2_with fail
                      go_roundw
                      case rel => exact ⟨j + 1, rfl, by omega, by omega, by rw [HT0.out], HJ2.out _⟩
                      case measure => simp [intOf]; omega
                · have hor : ((j : Int) < (l2.length : Int) ∧ ¬ (j : Int) < 100) ∨ ¬ (j : Int) < (l2.length : Int) := by omega
                  have hj : j = min l2.length 100 := by omega
                  have ht : tur (l2.take j) fl0.1 = tur m fl0.1 := by rw [Hm.out, ← hj]
                  rw [ht]
                  clear ht hj HI
                  rcases hor with ⟨hji, h3i⟩ | hji
                  all_goals (
                    go_wp2_with fail
                    go_meet
                    case rel => exact ⟨rfl, HJ⟩)
            case rest =>
              obtain ⟨rfl, HC⟩ := hcut
              obtain ⟨b', off', e', y0, y1⟩ := Hf.out _ HC.out
              cases e'
              have hRd := HC.out.read fl0.1 Hnl.out
              clear HI HC
              cases ht : tur m fl0.1 with
              | true =>
                generalize (read d2 fl0.1).1 = rs at *
                generalize (read d2 fl0.1).2 = re at *
                clear ht HX
                go_wp2_with fail
                refine hRd.mono ?_
                rintro e w9 ⟨rfl, o9⟩
                have H9 := Lib.hid o9
                clear hRd o9 y0 y1
                go_wp2_with fail
                go_roundw
                case rel => exact ⟨k + 1, rfl, by omega, H9⟩
                case measure => simp [intOf]; omega
              | false =>
                rw [HX.out ht] at hRd
                have hq : ((S fl0.2).toList == (S fl0.2).toList) = true := str_eq rfl
                clear ht HX
                go_wp2_with fail
                refine hRd.mono ?_
                rintro e w9 ⟨rfl, o9⟩
                obtain ⟨b', off', e', y0, y1⟩ := Hf.out _ o9
                cases e'
                have H9 := Lib.hid o9
                clear hRd o9 y0
                go_wp2_with fail
                go_roundw
                case rel => exact ⟨k + 1, rfl, by omega, H9⟩
                case measure => simp [intOf]; omega
          · have hli : ¬ (k : Int) < (d0.seen.length : Int) := by omega
            have HB : Hid (Below w.heap.size w wr) := HI.out.since
            clear HI
            go_wp2_with fail
            go_ret
            exact ⟨rfl, HB.out⟩
end Go.Proofs.Ytiljhnheacppgaa.dk
