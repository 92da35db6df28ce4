/-
  The law DiskBegins, walked.
-/
import Derived.Test.YtiljhnheacppgaaDkM1
import Derived.Deep.CutBlock
namespace Go.Proofs.Ytiljhnheacppgaa.dk
set_option linter.unusedVariables false
open Go.RowKit
open fl (S S_size S_append S_inj str_eq str_ne)
open rw (Arr But Row Own bnext below_box below_drew below_drewN addr_add Fr RowB)
open mp (Mp Turned kget kput kwithout kmap KSorted Ranging)

set_option maxHeartbeats 4000000 in
set_option maxRecDepth 100000 in
theorem begins_walk (cap : Int) (v : Value) (l : List Ac) (v2 : Value) (l2 : List Ac) (kk : Int) (w : World) (hl : ActRow w v l) (hl2 : ActRow w v2 l2) :
    Calls Try.prog 4 #[.int .i64 cap, v, v2, .int .i64 kk] w fun e w' => e = .returned (.bool true) ∧ Below w.heap.size w w' := by
  have hA := alive_any w
  obtain ⟨la, lc, rfl⟩ := hl.form
  obtain ⟨ma, mc, rfl⟩ := hl2.form
  have HL := Lib.hid hl
  have HM := Lib.hid hl2
  have HN := Lib.hid fun W => pnew_any cap W
  clear hl hl2
  go_enter Try.func4, Try.ntmps4
  go_wp2_with fail
  refine hA.mono ?_
  rintro e w1 ⟨rfl, b1⟩
  have HB1 := Lib.hid b1
  have hN := HN.out w1
  clear hA b1 HN
  go_wp2_with fail
  refine hN.mono ?_
  rintro e w2 (⟨hc, rfl, rfl⟩ | ⟨c, rfl, hc2, p, rfl, hP, b2⟩)
  · clear hN hc
    go_wp2_with fail
    go_ret
    exact ⟨rfl, HB1.out⟩
  · have H0 := Lib.hid (Wd.new hc2 HB1.out hP b2)
    clear hN hP b2 HB1
    go_upto_block 0 with (fail)
    go_cut [] from 29 to 44 (fun wx => ∃ d j, Hid (j ≤ 100 ∧ Wd w wx p c j d (.slice none 0 0) []))
    case first =>
      go_wp2_with fail
      go_loopw [11] (fun i wr => ∃ k : Nat, i = .int .i64 k ∧ k ≤ 100 ∧ k ≤ l.length ∧ Hid (∃ d, Wd w wr p c k d (.slice none 0 0) []))
        (fun i _ => 100 - (intOf i).toNat)
      case atStart => exact ⟨0, rfl, by omega, by omega, ⟨_, H0.out⟩⟩
      case round =>
        obtain ⟨k, rfl, hk3, hkl, HI⟩ := hrel
        by_cases hgo : k < l.length ∧ k < 100
        · have hli : (k : Int) < (l.length : Int) := by omega
          have h3i : (k : Int) < 100 := by omega
          have hlt := hgo.1
          obtain ⟨d, hi⟩ := HI.out
          have hrow := HL.out.later hi.since
          obtain ⟨b, off, rfl, x0, x1, x2, x3⟩ := hrow.at hlt
          have hT := hi.turn (by omega) (HL.out.2.2 _ (List.getElem_mem hlt))
          unfold acV at hT
          have hwi : IntKind.i64.wrap ((k : Int) + 1) = ((k + 1 : Nat) : Int) := by rw [IntWalk.i64_in _ (by omega)]; omega
          clear HI hi hrow
          generalize l[k]'hlt = a at *
          generalize (tn d a).1 = rc at *
          go_wp2_with fail
          refine hT.mono ?_
          rintro e w5 ⟨rfl, o5⟩
          have H5 : Hid (∃ d, Wd w w5 p c (k + 1) d (.slice none 0 0) []) := ⟨_, o5⟩
          clear hT o5 x0 x1 x2 x3
          go_wp2_with fail
          go_roundw
          case rel => exact ⟨k + 1, rfl, by omega, by omega, H5⟩
          case measure => simp [intOf]; omega
        · obtain ⟨d, hi⟩ := HI.out
          have hor : ((k : Int) < (l.length : Int) ∧ ¬ (k : Int) < 100) ∨ ¬ (k : Int) < (l.length : Int) := by omega
          have HR : Hid (k ≤ 100 ∧ Wd w wr p c k d (.slice none 0 0) []) := ⟨by omega, hi⟩
          clear HI hi H0
          rcases hor with ⟨hli, h3i⟩ | hli
          all_goals (
            go_wp2_with fail
            go_meet
            case rel => exact ⟨d, k, HR⟩)
    case rest =>
      obtain ⟨d, j, HR⟩ := hcut
      clear H0
      have hi := HR.out.2
      have hS := hi.sync (Nat.le_trans HR.out.1 (by decide))
      obtain ⟨q1, q2, q3, q4, q5⟩ := sync_of hi.f
      generalize (sync d).2 = d0 at *
      have HQ := Lib.hid q2
      clear hi q1 q2 q3 q4 q5
      go_wp2_with fail
      refine hS.mono ?_
      rintro e w3 ⟨rfl, o3⟩
      have hF := o3.twin (by have := HR.out.1; omega)
      have HRt := Lib.hid o3.i.r
      have HDf : Hid (d0.fused = false) := o3.f
      clear hS o3
      go_wp2_with fail
      refine hF.mono ?_
      rintro e w4 ⟨q, rfl, o4⟩
      have H4 : Hid (Pr w w4 c p (101 + 0) (all d0 ((l2.take 0).map toC)) q 101 d0) := o4.up (by have := HR.out.1; omega) (by have := HR.out.1; omega)
      clear hF o4 HR
      go_upto_block 2 with (fail)
      go_cut [] from 52 to 67 (fun wx => ∃ m : List Ac, Hid (m = l2.take (min l2.length 100) ∧ Pr w wx c p 201 (all d0 (m.map toC)) q 101 d0))
      case first =>
        go_wp2_with fail
        go_loopw [13] (fun i wr => ∃ k : Nat, i = .int .i64 k ∧ k ≤ 100 ∧ k ≤ l2.length ∧ Hid (Pr w wr c p (101 + k) (all d0 ((l2.take k).map toC)) q 101 d0))
          (fun i _ => 100 - (intOf i).toNat)
        case atStart => exact ⟨0, rfl, by omega, by omega, H4⟩
        case round =>
          obtain ⟨k, rfl, hk3, hkl, HI⟩ := hrel
          by_cases hgo : k < l2.length ∧ k < 100
          · have hli : (k : Int) < (l2.length : Int) := by omega
            have h3i : (k : Int) < 100 := by omega
            have hlt := hgo.1
            have hi := HI.out
            have hrow := HM.out.later hi.since
            obtain ⟨b, off, rfl, x0, x1, x2, x3⟩ := hrow.at hlt
            have hT := hi.turn (by omega) (HM.out.2.2 _ (List.getElem_mem hlt))
            rw [← take_tn d0 l2 hlt] at hT
            unfold acV at hT
            have hwi : IntKind.i64.wrap ((k : Int) + 1) = ((k + 1 : Nat) : Int) := by rw [IntWalk.i64_in _ (by omega)]; omega
            generalize (tn (all d0 ((l2.take k).map toC)) l2[k]).1 = rc at *
            clear HI hi hrow
            generalize l2[k]'hlt = a at *
            go_wp2_with fail
            refine hT.mono ?_
            rintro e w5 ⟨rfl, o5⟩
            have H5 := Lib.hid o5
            clear hT o5 x0 x1 x2 x3
            go_wp2_with fail
            go_roundw
            case rel => exact ⟨k + 1, rfl, by omega, by omega, H5⟩
            case measure => simp [intOf]; omega
          · have hor : ((k : Int) < (l2.length : Int) ∧ ¬ (k : Int) < 100) ∨ ¬ (k : Int) < (l2.length : Int) := by omega
            have hk : k = min l2.length 100 := by omega
            have HR : Hid (l2.take k = l2.take (min l2.length 100) ∧ Pr w wr c p 201 (all d0 ((l2.take k).map toC)) q 101 d0) := ⟨by rw [← hk], HI.out.up (by omega) (by omega)⟩
            clear HI H4 hk
            rcases hor with ⟨hli, h3i⟩ | hli
            all_goals (
              go_wp2_with fail
              go_meet
              case rel => exact ⟨l2.take k, HR⟩)
      case rest =>
        obtain ⟨m, HR⟩ := hcut
        clear H4
        have hi := HR.out.2
        have hPe := hi.pending
        obtain ⟨r, hr, g1, g2, g3, g4, g5'⟩ := step_of kk _ (((hi.i.1.both (by omega)).rm).count)
        have g5 : Hid (r ≤ 1048576000) := Nat.le_trans hr (((hi.i.1.both (by omega)).rm).count)
        have hC1 := hi.crash (by omega) (r : Int)
        have hbg := begins (m.map toC) d0 HRt.out HDf.out r (by rw [HQ.out]; exact Nat.zero_le _)
        obtain ⟨d2, e1, e4, e5⟩ : ∃ d2 : Dk, crash (all d0 (m.map toC)) (r : Int) = (0, d2) ∧ d2.seen = again (all d0 (m.map toC)).lasts (all d0 (m.map toC)).pend r ∧ d2.pend = [] := ⟨_, crash_ok hr, rfl, rfl⟩
        rw [e1] at hC1
        rw [← e4] at hbg
        have HA0 : Hid (At d2.seen d0 r m) := ⟨by rw [HQ.out]; exact Nat.zero_le _, hbg⟩
        have Hm : Hid (m = l2.take (min l2.length 100)) := HR.out.1
        have hp2 : ((count d2.pend : Nat) : Int) = 0 := by rw [e5]; rfl
        generalize count (all d0 (m.map toC)).pend = n at *
        generalize all d0 (m.map toC) = d1 at *
        clear hi HR e1 e4 e5 hr HQ HRt HDf hbg
        go_wp2_with fail
        refine hPe.mono ?_
        rintro e w5 ⟨rfl, rfl⟩
        clear hPe
        go_wp2_with fail
        refine hC1.mono ?_
        rintro e w6 ⟨rfl, o6⟩
        have hP2 := o6.pending
        have hU2 := o6.used
        have hui : ¬ ((used d2.seen : Nat) : Int) > (c : Int) := by have h1 := o6.i.1.r.used; rw [o6.i.2.2] at h1; omega
        have hun : ¬ c < used d2.seen := by omega
        have hud : decide (c < used d2.seen) = false := decide_eq_false hun
        rw [hp2] at hP2
        have H6 := Lib.hid o6
        clear hC1 o6 hp2
        go_wp2_with fail
        refine hP2.mono ?_
        rintro e w7 ⟨rfl, rfl⟩
        clear hP2
        go_wp2_with fail
        refine hU2.mono ?_
        rintro e w7 ⟨rfl, rfl⟩
        clear hU2
        go_wp2_with fail
        go_loopw [14, 15, 16, 17] (fun i _ _ _ wr => ∃ j : Nat, i = .int .i64 j ∧ j ≤ 100 ∧ j ≤ l2.length ∧ ∃ t, Hid (Pr w wr c p 202 d2 q (101 + j) t ∧ At d2.seen t r (m.drop j)))
          (fun i _ _ _ _ => 100 - (intOf i).toNat)
        case atStart => exact ⟨0, rfl, by omega, by omega, d0, H6.out, HA0.out⟩
        case round =>
          obtain ⟨j, rfl, hj3, hjl, t, HI⟩ := hrel
          by_cases hgo : j < l2.length ∧ j < 100
          · have hli : (j : Int) < (l2.length : Int) := by omega
            have h3i : (j : Int) < 100 := by omega
            have hlt := hgo.1
            have hwi : IntKind.i64.wrap ((j : Int) + 1) = ((j + 1 : Nat) : Int) := by rw [IntWalk.i64_in _ (by omega)]; omega
            have hat := HI.out.2
            have hml : j < m.length := by rw [Hm.out, List.length_take]; omega
            have hmj : m[j]'hml = l2[j]'hlt := by
              have := Hm.out
              subst this
              rw [List.getElem_take]
            rw [List.drop_eq_getElem_cons hml, hmj] at hat
            have hfit : Fits (l2[j]'hlt) := HM.out.2.2 _ (List.getElem_mem hlt)
            have hrow := HM.out.later HI.out.1.since
            obtain ⟨b, off, rfl, x0, x1, x2, x3⟩ := hrow.at hlt
            have HP := Lib.hid HI.out.1
            clear HI hrow hmj
            generalize l2[j]'hlt = a at *
            go_upto_region 26 with (fail)
            obtain ⟨W1, hW1⟩ : ∃ W1, wr.alloc (.cells #[.int .i64 a.kind, .string (S a.name), .string (S a.s), .int .i64 a.n] 31) = W1 := ⟨_, rfl⟩
            have b1 : Below wr.heap.size wr W1 := hW1 ▸ below_box wr _
            have A1 : Arr W1 wr.heap.size 31 #[.int .i64 a.kind, .string (S a.name), .string (S a.s), .int .i64 a.n] := hW1 ▸ Arr.new wr _ _
            rw [hW1]
            have hp1 := HP.out.below b1
            have HA1 := Lib.hid A1
            have hPt := hp1.symm.pending
            have hTw := hp1.twin (by omega)
            have HFit := Lib.hid hfit
            clear hW1 b1 A1 HP hp1 x0 x1 x2 x3 hfit
            generalize wr.heap.size = gb at *
            go_wp2_with fail
            refine hPt.mono ?_
            rintro e w5 ⟨rfl, rfl⟩
            clear hPt
            go_wp2_with fail
            refine hTw.mono ?_
            rintro e w6 ⟨r6, rfl, b6, o6⟩
            have A6 := HA1.out.below b6
            have k0 : w6.cell? ⟨gb, 0, none⟩ = some (.int .i64 a.kind) := A6.cell rfl
            have k1 : w6.cell? ⟨gb, 1, none⟩ = some (.string (S a.name)) := A6.cell rfl
            have k2 : w6.cell? ⟨gb, 2, none⟩ = some (.string (S a.s)) := A6.cell rfl
            have k3 : w6.cell? ⟨gb, 3, none⟩ = some (.int .i64 a.n) := A6.cell rfl
            have hT := o6.turn (by omega) HFit.out
            unfold acV at hT
            have HA6 := Lib.hid A6
            clear hTw b6 o6 A6 HA1
            have HS2 : Hid (∀ wx t2, Pr w wx c p 202 d2 q (101 + j + 1) t2 → At d2.seen t2 r (m.drop (j + 1)) → Pr w wx c p 202 d2 q (101 + (j + 1)) t2 ∧ At d2.seen t2 r (m.drop (j + 1))) := fun wx t2 h1 h2 => ⟨h1.up (Nat.le_refl _) (by omega), h2⟩
            rcases hat.go with ⟨he, hat2⟩ | ⟨he, hcn, hat2⟩ | ⟨he, hcn, hk, hw, hsl0, hX⟩ | ⟨he, hcn, hk, hX⟩
            · have hd2 := tn_refused he
              rw [hd2] at hT
              have hri : (((tn t a).1 : Nat) : Int) != 0 := by simpa using he
              generalize (tn t a).1 = rc at *
              have HA2 := Lib.hid hat2
              clear he hd2 hat hat2
              go_wp2_with fail
              refine hT.mono ?_
              rintro e w7 ⟨rfl, o7, _⟩
              have H7 := Lib.hid (HS2.out w7 t o7.dt HA2.out)
              clear hT o7 k0 k1 k2 k3
              go_wp2_with fail
              go_roundw
              case rel => exact ⟨j + 1, rfl, by omega, by omega, t, H7⟩
              case measure => simp [intOf]; omega
            · rw [he, show ((0 : Nat) : Int) = 0 from rfl] at hT
              have HA2 := Lib.hid hat2
              generalize (tn t a).2 = t2 at *
              have hgi : ¬ ((count t2.pend : Nat) : Int) > (r : Int) := by omega
              clear he hat hat2 hcn
              go_wp2_with fail
              refine hT.mono ?_
              rintro e w7 ⟨rfl, o7, _⟩
              have hPt := o7.dt.symm.pending
              have H7 := Lib.hid (HS2.out w7 t2 o7.dt HA2.out)
              clear hT o7 k0 k1 k2 k3
              go_wp2_with fail
              refine hPt.mono ?_
              rintro e w8 ⟨rfl, rfl⟩
              clear hPt
              go_wp2_with fail
              go_roundw
              case rel => exact ⟨j + 1, rfl, by omega, by omega, t2, H7⟩
              case measure => simp [intOf]; omega
            · rw [he, show ((0 : Nat) : Int) = 0 from rfl] at hT
              generalize (tn t a).2 = t2 at *
              have hgi : ((count t2.pend : Nat) : Int) > (r : Int) := by omega
              have hgw : (r : Int) > ((count t.pend : Nat) : Int) := by omega
              have HX := Lib.hid hX
              have hsz : (S a.s).size = a.s.length := S_size _
              have hsl := fun (W : World) => run_slice_string_h (P := Try.prog) (w := W) (t := 9) (s := S a.s) Try.underlying9 .i64 ((r - count t.pend : Nat) : Int) (by omega) (by rw [hsz]; omega)
              have hex : (S a.s).extract 0 (((r - count t.pend : Nat) : Int)).toNat = S (a.s.take (r - count t.pend)) := by
                unfold S
                rw [ByteArray.extract_mk]
                congr 1
              rw [hex] at hsl
              have hwr : IntKind.i64.wrap ((r : Int) - ((count t.pend : Nat) : Int)) = ((r - count t.pend : Nat) : Int) := by
                rw [IntWalk.i64_in _ (by have := g5.out; omega)]; omega
              have HK := Lib.hid hk
              clear he hat hcn hX hw hsz hex hk
              go_wp2_with fail
              refine hT.mono ?_
              rintro e w7 ⟨rfl, o7, kp7⟩
              have hPt := o7.dt.symm.pending
              have A7 := kp7 _ _ HA6.out
              have k0 : w7.cell? ⟨gb, 0, none⟩ = some (.int .i64 a.kind) := A7.cell rfl
              rw [HK.out] at k0
              have A8 := A7.below (below_drew (Below.refl w7.heap.size w7))
              have k1 : w7.drew.cell? ⟨gb, 1, none⟩ = some (.string (S a.name)) := A8.cell rfl
              have k2 : w7.drew.cell? ⟨gb, 2, none⟩ = some (.string (S a.s)) := A8.cell rfl
              have hAd : Calls Try.prog 20 #[.pointer (some ⟨r6, 0, none⟩), .string (S a.name), .string (S (a.s.take (r - count t.pend)))] w7.drew fun e w' => (∃ n : Int, e = .returned (.int .i64 n)) ∧ Hid (Pr w w' c p 202 d2 r6 (101 + j + 1) (turn t ⟨1, a.name, a.s.take (r - count t.pend)⟩).2) ∧ w'.cell? ⟨gb, 1, none⟩ = some (.string (S a.name)) ∧ w'.cell? ⟨gb, 2, none⟩ = some (.string (S a.s)) := by
                refine ((o7.du.below (below_drew (Below.refl _ _))).add (by omega) a.name (a.s.take (r - count t.pend)) (by have := HFit.out.s; rw [List.length_take]; omega)).mono fun e w' ⟨y1, y2, y3⟩ => ?_
                have A9 := y3 _ _ A8
                exact ⟨⟨_, y1⟩, y2, A9.cell rfl, A9.cell rfl⟩
              generalize a.s.take (r - count t.pend) = st at *
              generalize r - count t.pend = ns at *
              clear hT o7 kp7 A7 A8 HS2 HA6 HFit
              go_wp2_with fail
              refine hPt.mono ?_
              rintro e w8 ⟨rfl, rfl⟩
              clear hPt
              go_upto_region 31 with (fail)
              go_region_held3 (fun W => W.cell? ⟨gb, 1, none⟩ = some (.string (S a.name)) ∧ W.cell? ⟨gb, 2, none⟩ = some (.string (S a.s)))
                (first | (with_reducible exact ⟨k1, k2⟩) | (with_reducible exact k5) | go_keep)
                ((first | (go_at_call 20; with_reducible refine hAd.mono ?_; rintro e w9 ⟨⟨nn, rfl⟩, r5, k5⟩)))
              have hS := r5.out.two (by omega) (by omega) HX.out
              clear hAd k0 k1 k2 k5 r5 HX
              go_wp2_with fail
              refine hS.mono ?_
              rintro e w8 ⟨a8, c8, rfl, hS⟩
              go_wp2_with fail
              refine hS.mono ?_
              rintro e w9 ⟨a9, c9, rfl, hS⟩
              go_wp2_with fail
              refine hS.mono ?_
              rintro e w10 ⟨rfl, b10⟩
              clear hS
              have H10 := Lib.hid b10
              clear b10
              go_wp2_with fail
              go_ret
              exact ⟨rfl, H10.out⟩
            · rw [he, show ((0 : Nat) : Int) = 0 from rfl] at hT
              generalize (tn t a).2 = t2 at *
              have hgi : ((count t2.pend : Nat) : Int) > (r : Int) := by omega
              have HX := Lib.hid hX
              have hkor : (a.kind == 1) = false ∨ ((a.kind == 1) = true ∧ ¬ (r : Int) > ((count t.pend : Nat) : Int)) := by
                by_cases h1 : a.kind = 1
                · exact .inr ⟨by simpa using h1, by omega⟩
                · exact .inl (by simpa using h1)
              clear he hat hcn hX hk
              go_wp2_with fail
              refine hT.mono ?_
              rintro e w7 ⟨rfl, o7, kp7⟩
              have hPt := o7.dt.symm.pending
              have A7 := kp7 _ _ HA6.out
              have k0 : w7.cell? ⟨gb, 0, none⟩ = some (.int .i64 a.kind) := A7.cell rfl
              have hS := o7.du.two (by omega) (by omega) HX.out
              clear hT o7 kp7 A7 HS2 HA6 HFit HX k1 k2 k3
              go_wp2_with fail
              refine hPt.mono ?_
              rintro e w8 ⟨rfl, rfl⟩
              clear hPt
              rcases hkor with hk0 | ⟨hk0, hk1⟩
              all_goals (
                go_wp2_with fail
                refine hS.mono ?_
                rintro e w8 ⟨a8, c8, rfl, hS⟩
                go_wp2_with fail
                refine hS.mono ?_
                rintro e w9 ⟨a9, c9, rfl, hS⟩
                go_wp2_with fail
                refine hS.mono ?_
                rintro e w10 ⟨rfl, b10⟩
                clear hS
                have H10 := Lib.hid b10
                clear b10
                go_wp2_with fail
                go_ret
                exact ⟨rfl, H10.out⟩)
          · have hor : ((j : Int) < (l2.length : Int) ∧ ¬ (j : Int) < 100) ∨ ¬ (j : Int) < (l2.length : Int) := by omega
            have hX : d2.seen = t.seen := by
              have h2 := HI.out.2.2
              rw [List.drop_of_length_le (by rw [Hm.out, List.length_take]; omega)] at h2
              exact h2
            have hS := HI.out.1.two (by omega) (by omega) hX
            clear HI hX
            rcases hor with ⟨hli, h3i⟩ | hli
            all_goals (
              go_wp2_with fail
              refine hS.mono ?_
              rintro e w8 ⟨a8, c8, rfl, hS⟩
              go_wp2_with fail
              refine hS.mono ?_
              rintro e w9 ⟨a9, c9, rfl, hS⟩
              go_wp2_with fail
              refine hS.mono ?_
              rintro e w10 ⟨rfl, b10⟩
              clear hS
              have H10 := Lib.hid b10
              clear b10
              go_wp2_with fail
              go_ret
              exact ⟨rfl, H10.out⟩)
end Go.Proofs.Ytiljhnheacppgaa.dk
