/-
  The law DiskFull, walked.
-/
import Derived.Test.YtiljhnheacppgaaDkL6
namespace Go.Proofs.Ytiljhnheacppgaa.dk
set_option linter.unusedVariables false
open Go.RowKit
open fl (S S_size S_append S_inj str_eq str_ne)
open rw (Arr But Row Own bnext below_box below_drew below_drewN addr_add Fr RowB)
open mp (Mp Turned kget kput kwithout kmap KSorted Ranging)

/-- One disk that is played, no fuse. -/
structure One (w wr : World) (F : Nat → Prop) (p cap j : Nat) (d : Dk) : Prop where
  pd : PD wr F p d
  i : Inv j d
  f : d.fused = false
  c : d.cap = cap
  g : ∀ q, F q → w.heap.size ≤ q
  b : Below w.heap.size w wr
theorem One.rm {w wr : World} {F : Nat → Prop} {p cap j : Nat} {d : Dk} (h : One w wr F p cap j d) (hj : j ≤ 1000) : Rm d := (h.i.both hj).rm
theorem One.live {w wr : World} {F : Nat → Prop} {p cap j : Nat} {d : Dk} (h : One w wr F p cap j d) : Live w wr p d := ⟨F, h.pd, h.g, h.b⟩
theorem One.below {w wr wx : World} {F : Nat → Prop} {p cap j : Nat} {d : Dk} (h : One w wr F p cap j d) (k : Below wr.heap.size wr wx) : One w wx F p cap j d := ⟨h.pd.below k, h.i, h.f, h.c, h.g, h.b.trans (k.mono h.b.size)⟩
theorem tn_kept (d : Dk) (a : Ac) : (tn d a).2.fused = d.fused ∧ (tn d a).2.cap = d.cap := by
  unfold tn
  split
  · exact ⟨(turn_kept d (toC a)).2.1, (turn_kept d (toC a)).2.2.1⟩
  · exact ⟨rfl, rfl⟩
theorem tn_refused {d : Dk} {a : Ac} (h : (tn d a).1 ≠ 0) : (tn d a).2 = d := by
  unfold tn at h ⊢
  split
  · next hk => rw [if_pos hk] at h; exact turn_refused h
  · rfl
theorem One.step {w wr wx : World} {F : Nat → Prop} {p cap j : Nat} {d : Dk} {a : Ac} (h : One w wr F p cap j d) (ha : Fits a) (s : Step wr F p (tn d a).2 wx) : ∃ F', One w wx F' p cap (j + 1) (tn d a).2 := by
  obtain ⟨F', h1, h2, h3⟩ := s
  have hk := tn_kept d a
  refine ⟨F', h1, inv_tn h.i ha, hk.1.trans h.f, hk.2.trans h.c, fun q hq => ?_, h.b.trans (h2.below h.b.size h.g)⟩
  rcases h3 q hq with h' | h'
  · exact h.g q h'
  · exact Nat.le_trans h.b.size h'
theorem One.new {w w1 w2 : World} {p cap : Nat} (hc : cap ≤ 1048576) (hB : Below w.heap.size w w1) (h : PNew w1 w2 p (fresh cap)) (k : Below w1.heap.size w1 w2) : ∃ F, One w w2 F p cap 0 (fresh cap) := by
  obtain ⟨F, h1, h2⟩ := h
  exact ⟨F, h1, inv_fresh hc, rfl, rfl, fun i hi => Nat.le_trans hB.size (h2 i hi), hB.trans (k.mono hB.size)⟩
/-- A row of files stays where a disk turns. -/
theorem files_kept {wr wx : World} {F : Nat → Prop} {p : Nat} {d d' : Dk} {v : Value} {l : List File} (h : SlF wr v l) (hp : PD wr F p d) (s : Step wr F p d' wx) : SlF wx v l := by
  obtain ⟨F', h1, h2, h3⟩ := s
  exact sl_fr fileSh h h2 (PD.types hp (by decide) (by decide) (by decide))

set_option maxHeartbeats 1000000 in
set_option maxRecDepth 100000 in
theorem full_walk (cap : Int) (v : Value) (l : List Ac) (nm : Bs) (hn : nm.length ≤ 140737488355328) (w : World) (hl : ActRow w v l) :
    Calls Try.prog 6 #[.int .i64 cap, v, .string (S nm)] w fun e w' => e = .returned (.bool true) ∧ Below w.heap.size w w' := by
  have hA := alive_any w
  obtain ⟨la, lc, rfl⟩ := hl.form
  have HL := Lib.hid hl
  have HN := Lib.hid fun W => pnew_any cap W
  have HNm := Lib.hid hn
  clear hl hn
  go_enter Try.func6, Try.ntmps6
  go_wp2_with fail
  refine hA.mono ?_
  rintro e w1 ⟨rfl, b1⟩
  have HB1 := Lib.hid b1
  have hN := HN.out w1
  clear hA b1 HN
  go_wp2_with fail
  refine hN.mono ?_
  rintro e w2 (⟨hc, rfl, rfl⟩ | ⟨c, rfl, hc2, p, rfl, hP, b2⟩)
  · clear hN hc
    go_wp2_with fail
    go_ret
    exact ⟨rfl, HB1.out⟩
  · have H0 := Lib.hid (One.new hc2 HB1.out hP b2)
    clear hN hP b2 HB1
    go_wp2_with fail
    go_loopw [9, 10, 11] (fun i wv nv wr => ∃ k : Nat, i = .int .i64 k ∧ k ≤ 100 ∧ k ≤ l.length ∧ Hid (∃ F d, One w wr F p c k d))
      (fun i _ _ _ => 100 - (intOf i).toNat)
    case atStart => exact ⟨0, rfl, by omega, by omega, by obtain ⟨F, h⟩ := H0.out; exact ⟨F, _, h⟩⟩
    case round =>
      obtain ⟨k, rfl, hk3, hkl, HI⟩ := hrel
      by_cases hgo : k < l.length ∧ k < 100
      · have hli : (k : Int) < (l.length : Int) := by omega
        have h3i : (k : Int) < 100 := by omega
        have hlt := hgo.1
        obtain ⟨F, d, ho⟩ := HI.out
        have hrm := ho.rm (by omega)
        have hoff : off d = false := off_not ho.f
        obtain ⟨a, ha⟩ : ∃ a, l[k]'hlt = a := ⟨_, rfl⟩
        have hfit : Fits a := ha ▸ HL.out.2.2 _ (List.getElem_mem hlt)
        have hF1 := files_any F p d hrm hoff wr ho.pd
        have hwi : IntKind.i64.wrap ((k : Int) + 1) = ((k + 1 : Nat) : Int) := by rw [IntWalk.i64_in _ (by omega)]; omega
        have HO := Lib.hid ho
        have HX : Hid (Rm d ∧ off d = false ∧ l[k]'hlt = a ∧ Fits a ∧ k < 100) := ⟨hrm, hoff, ha, hfit, hgo.2⟩
        clear HI ho hrm hoff ha hfit
        go_wp2_with fail
        refine hF1.mono ?_
        rintro e w3 ⟨v3, rfl, o3, b3⟩
        have ho3 := HO.out.below b3
        have hPe := pending_any F p d w3 ho3.pd
        have HO3 := Lib.hid ho3
        have HV := Lib.hid (rw.Own.sl fileSh o3)
        obtain ⟨a3, c3, rfl⟩ := o3.form
        have hlenS : d.seen.length ≤ 1000 := HX.out.1.s
        clear hF1 b3 ho3 o3
        go_wp2_with fail
        refine hPe.mono ?_
        rintro e w4 ⟨rfl, rfl⟩
        have hrow := HL.out.later HO3.out.b
        obtain ⟨b, off, rfl, x0, x1, x2, x3⟩ := hrow.at hlt
        rw [HX.out.2.2.1] at x0 x1 x2 x3
        have hT := lturn_any F p d a HX.out.1 HX.out.2.2.2.1 w4 HO3.out.pd
        unfold acV at hT
        have hcap : (tn d a).2.cap = c := (tn_kept d a).2.trans HO3.out.c
        have HFin : Hid (∀ wx, Step w4 F p (tn d a).2 wx → ∃ F', One w wx F' p c (k + 1) (tn d a).2) := fun wx s => HO3.out.step HX.out.2.2.2.1 s
        have hle : Hid (∀ wx F', One w wx F' p c (k + 1) (tn d a).2 → ((used (tn d a).2.seen : Nat) : Int) ≤ (c : Int)) := by
          intro wx F' h1
          have h2 := h1.i.r.used
          rw [hcap] at h2
          exact Int.ofNat_le.2 h2
        clear hPe hrow hcap
        by_cases he : (tn d a).1 = 0
        · rw [he, show ((0 : Nat) : Int) = 0 from rfl] at hT
          clear he
          generalize (tn d a).2 = d2 at *
          clear hlenS HV
          go_wp2_with fail
          refine hT.mono ?_
          rintro e w5 ⟨rfl, s5⟩
          obtain ⟨F5, o5⟩ := HFin.out w5 s5
          have hU := used_any F5 p d2 w5 o5.pd
          have hui : ¬ ((used d2.seen : Nat) : Int) > (c : Int) := by have := hle.out _ _ o5; omega
          have H5 : Hid (∃ F d, One w w5 F p c (k + 1) d) := ⟨F5, d2, o5⟩
          clear hT s5 HFin hle o5 x0 x1 x2 x3
          go_wp2_with fail
          refine hU.mono ?_
          rintro e w6 ⟨rfl, rfl⟩
          clear hU
          go_wp2_with fail
          go_roundw
          case rel => exact ⟨k + 1, rfl, by omega, by omega, H5⟩
          case measure => simp [intOf]; omega
        · have hd2 := tn_refused he
          rw [hd2] at HFin hle hT
          have hri : (((tn d a).1 : Nat) : Int) != 0 := by simpa using he
          generalize (tn d a).1 = r at *
          clear he hd2
          have hpn : (((count d.pend : Nat) : Int) != ((count d.pend : Nat) : Int)) = false := by simp
          go_wp2_with fail
          refine hT.mono ?_
          rintro e w5 ⟨rfl, s5⟩
          obtain ⟨F5, o5⟩ := HFin.out w5 s5
          have hV5 := files_kept HV.out HO3.out.pd s5
          have hF5 := files_any F5 p d HX.out.1 HX.out.2.1 w5 o5.pd
          have H5 := Lib.hid o5
          clear hT s5 HFin o5 x0 x1 x2 x3
          have HV5 := Lib.hid hV5
          clear hV5 HV
          go_wp2_with fail
          refine hF5.mono ?_
          rintro e w6 ⟨v6, rfl, o6, b6⟩
          have h6 := H5.out.below b6
          have hSm := refsame_any (.slice a3 d.seen.length c3) v6 d.seen d.seen (by omega) (by omega) w6 (HV5.out.later _ b6) (rw.Own.sl fileSh o6)
          rw [decide_eq_true rfl] at hSm
          obtain ⟨a6, c6, rfl⟩ := o6.form
          have H6 := Lib.hid h6
          clear hF5 o6 b6 h6 HV5 H5
          go_wp2_with fail
          refine hSm.mono ?_
          rintro e w7 ⟨rfl, b7⟩
          have h7 := H6.out.below b7
          have hPe := pending_any F5 p d w7 h7.pd
          have hU := used_any F5 p d w7 h7.pd
          have hui : ¬ ((used d.seen : Nat) : Int) > (c : Int) := by have := hle.out _ _ h7; omega
          have H7 : Hid (∃ F d, One w w7 F p c (k + 1) d) := ⟨F5, d, h7⟩
          clear hSm b7 h7 H6 hle
          go_wp2_with fail
          refine hPe.mono ?_
          rintro e w8 ⟨rfl, rfl⟩
          clear hPe
          go_wp2_with fail
          refine hU.mono ?_
          rintro e w9 ⟨rfl, rfl⟩
          clear hU
          go_wp2_with fail
          go_roundw
          case rel => exact ⟨k + 1, rfl, by omega, by omega, H7⟩
          case measure => simp [intOf]; omega
      · obtain ⟨F, d, ho⟩ := HI.out
        have hrm := ho.rm (by omega)
        have hRd := read_any F p d nm (by have := HNm.out; unfold maxLen; omega) wr ho.pd
        have hor : ((k : Int) < (l.length : Int) ∧ ¬ (k : Int) < 100) ∨ ¬ (k : Int) < (l.length : Int) := by omega
        have LV := Lib.hid ho.live
        have HB : Hid (Below w.heap.size w wr) := ho.b
        have h0f : off d = false := off_not ho.f
        clear HI
        cases hg : get d.seen nm with
        | none =>
          have er : read d nm = ([], 6) := by unfold read; rw [h0f, hg]; rfl
          rw [er] at hRd
          have hs0 : S [] = ⟨#[]⟩ := rfl
          clear ho hrm er hg h0f
          rcases hor with ⟨hli, h3i⟩ | hli
          all_goals (
            go_wp2_with fail
            refine hRd.mono ?_
            rintro e w3 ⟨rfl, b3⟩
            have h3 := HB.out.trans (b3.mono HB.out.size)
            have H3 := Lib.hid h3
            clear hRd b3 h3
            go_wp2_with fail
            go_ret
            exact ⟨rfl, H3.out⟩)
        | some s =>
          have er : read d nm = (s, 0) := by unfold read; rw [h0f, hg]; rfl
          rw [er] at hRd
          obtain ⟨m1, m2, m3, m4, m5⟩ := makes_room hrm.r ho.f hg
          have hsl := used_without hrm.r.sorted nm
          rw [hg] at hsl
          simp only [Option.getD_some] at hsl
          have hucap := hrm.r.used
          have hcap := hrm.r.cap
          have hi1 := inv_turn ho.i ⟨3, nm, []⟩ (by simp)
          have hrm1 := (hi1.both (by omega)).rm
          have hd1 : (turn (turn d ⟨3, nm, []⟩).2 ⟨3, nm, []⟩).2 = (turn d ⟨3, nm, []⟩).2 := turn_refused (by rw [m3]; decide)
          have C1 := Lib.hid fun W L => lused_any (w0 := w) p d W L
          have C2 := Lib.hid fun W L => ldrop_any (w0 := w) p d nm hrm.room W L
          rw [m1] at C2
          generalize (turn d ⟨3, nm, []⟩).2 = d1 at *
          have C3 := Lib.hid fun W L => lused_any (w0 := w) p d1 W L
          have C4 := Lib.hid fun W L => ldrop_any (w0 := w) p d1 nm hrm1.room W L
          rw [m3, hd1] at C4
          have C5 := Lib.hid fun W L => lput_any (w0 := w) p d1 nm s hrm1.room (by omega) W L
          rw [m4] at C5
          generalize (turn d1 ⟨2, nm, s⟩).2 = d2 at *
          have C6 := Lib.hid fun W L => lused_any (w0 := w) p d2 W L
          rw [m5] at C6
          have hwr : IntKind.i64.wrap (((used d.seen : Nat) : Int) - ((S s).size : Int)) = ((used d1.seen : Nat) : Int) := by
            rw [S_size, IntWalk.i64_in _ (by omega), m2]; omega
          clear ho hrm er hg h0f m1 m2 m3 m4 m5 hsl hucap hcap hi1 hrm1 hd1 HB
          rcases hor with ⟨hli, h3i⟩ | hli
          all_goals (
            go_wp2_with fail
            refine hRd.mono ?_
            rintro e w3 ⟨rfl, b3⟩
            have L3 := Lib.hid (LV.out.below b3)
            have hC1 := C1.out w3 L3.out
            clear hRd b3 C1
            go_wp2_with fail
            refine hC1.mono ?_
            rintro e w4 ⟨rfl, rfl⟩
            have hC2 := C2.out w4 L3.out
            clear hC1 C2
            go_wp2_with fail
            refine hC2.mono ?_
            rintro e w5 ⟨rfl, l5⟩
            have hC3 := C3.out w5 l5
            have L5 := Lib.hid l5
            clear hC2 l5 C3
            go_wp2_with fail
            refine hC3.mono ?_
            rintro e w6 ⟨rfl, rfl⟩
            have hC4 := C4.out w6 L5.out
            clear hC3 C4
            go_wp2_with fail
            refine hC4.mono ?_
            rintro e w7 ⟨rfl, l7⟩
            have hC5 := C5.out w7 l7
            clear hC4 l7 C5
            go_wp2_with fail
            refine hC5.mono ?_
            rintro e w8 ⟨rfl, l8⟩
            have hC6 := C6.out w8 l8
            have L8 := Lib.hid l8
            clear hC5 l8 C6
            go_wp2_with fail
            refine hC6.mono ?_
            rintro e w9 ⟨rfl, rfl⟩
            clear hC6
            go_wp2_with fail
            go_ret
            exact ⟨rfl, L8.out.since⟩)
end Go.Proofs.Ytiljhnheacppgaa.dk
