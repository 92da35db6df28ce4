/-
  The law DiskPlays, walked.
-/
import Derived.Test.YtiljhnheacppgaaDkL5
namespace Go.Proofs.Ytiljhnheacppgaa.dk
set_option linter.unusedVariables false
open Go.RowKit
open fl (S S_size S_append S_inj str_eq str_ne)
open rw (Arr But Row Own bnext below_box below_drew below_drewN addr_add Fr RowB)
open mp (Mp Turned kget kput kwithout kmap KSorted Ranging)

/-- A round's state. -/
def Rd (w wr : World) (p xb k : Nat) : Prop := ∃ F d, PD wr F p d ∧ RefD wr xb d ∧ Inv k d ∧ (∀ q, F q → w.heap.size ≤ q) ∧ w.heap.size ≤ xb ∧ Below w.heap.size w wr
theorem Rd.two {w wr wx : World} {F : Nat → Prop} {p xb k : Nat} {d' : Dk} (hF : ∀ q, F q → w.heap.size ≤ q) (hx : w.heap.size ≤ xb) (hB : Below w.heap.size w wr) (h : Two wr F p xb d' wx) (hi : Inv k d') : Rd w wx p xb k := by
  obtain ⟨F', h1, h2, h3, h4⟩ := h
  refine ⟨F', d', h1, h2, hi, fun q hq => ?_, hx, hB.trans (h3.below hB.size fun i hi => ?_)⟩
  · rcases h4 q hq with h | h
    · exact hF q h
    · exact Nat.le_trans hB.size h
  · rcases hi with h | h
    · exact hF i h
    · omega
theorem Rd.below {w wr wx : World} {p xb k : Nat} (h : Rd w wr p xb k) (b : Below wr.heap.size wr wx) : Rd w wx p xb k := by
  obtain ⟨F, d, h1, h2, h3, h4, h5, h6⟩ := h
  exact ⟨F, d, h1.below b, h2.below b, h3, h4, h5, h6.trans (b.mono h6.size)⟩
/-- Behind a Twin, and a Put to the other one. -/
theorem Rd.twin {w wr w1 w2 wx : World} {F : Nat → Prop} {p p2 xb k : Nat} {d d' : Dk} (hp : PD wr F p d) (hx : RefD wr xb d) (hi : Inv k d) (hF : ∀ q, F q → w.heap.size ≤ q) (hxb : w.heap.size ≤ xb) (hB : Below w.heap.size w wr)
    (ht : PNew wr w1 p2 d) (b1 : Below wr.heap.size wr w1) (b2 : Below w1.heap.size w1 w2) (s : Step w2 F p d' wx) : Rd w wx p2 xb (k + 1) := by
  obtain ⟨F2, t1, t2⟩ := ht
  have bb : Below wr.heap.size wr w2 := b1.trans (b2.mono b1.size)
  have hp2 := hp.below bb
  obtain ⟨F', x1, x2, x3⟩ := s
  refine ⟨F2, d, (t1.below b2).fr x2 (fun i hi hk => ?_) hp2.nobox, (hx.below bb).fr hp2 x2, hi.mono (Nat.le_succ k), fun q hq => Nat.le_trans hB.size (t2 q hq), hxb, ?_⟩
  · have := t2 i hi
    have := hp.lt hk
    omega
  · have hB2 : Below w.heap.size w w2 := hB.trans (bb.mono hB.size)
    exact hB2.trans (x2.below hB2.size hF)

set_option maxHeartbeats 1000000 in
set_option maxRecDepth 100000 in
theorem plays_walk (cap : Int) (v : Value) (l : List Ac) (w : World) (hl : ActRow w v l) :
    Calls Try.prog 3 #[.int .i64 cap, v] w fun e w' => e = .returned (.bool true) ∧ Below w.heap.size w w' := by
  have hA := alive_any w
  obtain ⟨la, lc, rfl⟩ := hl.form
  have HL := Lib.hid hl
  have HN := Lib.hid fun W => pnew_any cap W
  have HR := Lib.hid fun W => refnew_any cap W
  clear hl
  go_enter Try.func3, Try.ntmps3
  go_wp2_with fail
  refine hA.mono ?_
  rintro e w1 ⟨rfl, b1⟩
  have HB1 := Lib.hid b1
  have hN := HN.out w1
  clear hA b1 HN
  go_wp2_with fail
  refine hN.mono ?_
  rintro e w2 hN2
  have hR := HR.out w2
  clear hN HR
  rcases hN2 with ⟨hc, rfl, rfl⟩ | ⟨c, rfl, hc2, p, rfl, hP, b2⟩
  · go_wp2_with fail
    refine hR.mono ?_
    rintro e w3 (⟨_, rfl, rfl⟩ | ⟨c', hc', hc2', _⟩)
    · clear hR hc
      go_wp2_with fail
      go_loopw [8] (fun i wr => i = .int .i64 0 ∧ wr = w3) (fun _ _ => 0)
      case atStart => exact ⟨rfl, rfl⟩
      case round =>
        obtain ⟨rfl, rfl⟩ := hrel
        by_cases h0 : 0 < l.length
        · have hli : (0 : Int) < (l.length : Int) := by omega
          go_wp2_with fail
          go_ret
          exact ⟨rfl, HB1.out⟩
        · have hli : ¬ (0 : Int) < (l.length : Int) := by omega
          go_wp2_with fail
          go_ret
          exact ⟨rfl, HB1.out⟩
    · omega
  · have hb := HB1.out
    have B2 := Lib.hid (hb.trans (b2.mono hb.size))
    have HP2 := Lib.hid hP
    clear hb b2 hP
    go_wp2_with fail
    refine hR.mono ?_
    rintro e w3 (⟨hc', rfl, rfl⟩ | ⟨c', hc', hc2', rfl, hx, b3⟩)
    · omega
    obtain rfl : c' = c := by omega
    have H0 : Hid (Rd w w3 p w2.heap.size 0) := by
      obtain ⟨F, x1, x2⟩ := HP2.out
      have h2 := B2.out
      exact ⟨F, fresh c', x1.below b3, hx, inv_fresh hc2, fun q hq => Nat.le_trans HB1.out.size (x2 q hq), h2.size, h2.trans (b3.mono h2.size)⟩
    clear hR HP2 hx b3 B2 HB1 hc' hc2 hc2'
    generalize w2.heap.size = xb at *
    go_wp2_with fail
    go_loopw [5, 8, 9] (fun dv i t wr => ∃ k p : Nat, i = .int .i64 k ∧ dv = .pointer (some ⟨p, 0, none⟩) ∧ k ≤ 300 ∧ k ≤ l.length ∧ Hid (Rd w wr p xb k))
      (fun _ i _ _ => 300 - (intOf i).toNat)
    case atStart => exact ⟨0, p, rfl, rfl, by omega, by omega, H0.out⟩
    case round =>
      obtain ⟨k, q, rfl, rfl, hk3, hkl, HI⟩ := hrel
      by_cases hlt : k < l.length
      · by_cases h3 : k < 300
        · have hli : (k : Int) < (l.length : Int) := by omega
          have h3i : (k : Int) < 300 := by omega
          obtain ⟨F, d, hp, hx, hi, hF, hxb, hB⟩ := HI.out
          have hrow := HL.out.later hB
          obtain ⟨b, off, rfl, c0, c1, c2, c3⟩ := hrow.at hlt
          obtain ⟨a, ha⟩ : ∃ a, l[k]'hlt = a := ⟨_, rfl⟩
          have hfit : Fits a := ha ▸ HL.out.2.2 _ (List.getElem_mem hlt)
          rw [ha] at c0 c1 c2 c3
          have hrm := (hi.both (by omega)).rm
          have HSt : Hid (∀ p2 wx, Rd w wx p2 xb (k + 1) → Calls Try.prog 14 #[.pointer (some ⟨p2, 0, none⟩), .pointer (some ⟨xb, 0, none⟩)] wx fun e w' => e = .returned (.bool true) ∧ Hid (Rd w w' p2 xb (k + 1))) := by
            intro p2 wx hr
            obtain ⟨F2, d2, y1, y2, y3, y4, y5, y6⟩ := id hr
            refine (stands_any F2 p2 xb d2 (y3.both (by omega)) wx y1 y2).mono ?_
            rintro e w' ⟨e1, e2⟩
            exact ⟨e1, hr.below e2⟩
          have hwi : IntKind.i64.wrap ((k : Int) + 1) = ((k + 1 : Nat) : Int) := by rw [IntWalk.i64_in _ (by omega)]; omega
          by_cases h8 : a.kind = 8
          · -- on with a Twin
            have hT := ptwin_any F q d hi.r (Nat.le_trans hrm.s (by decide)) (Nat.le_trans hrm.l (by decide)) (by have := hrm.p; omega) wr hp
            have HP : Hid (∀ w1 p2, PNew wr w1 p2 d → Below wr.heap.size wr w1 → w1.drew.cell? ⟨b, off + k * 4 + 1, none⟩ = some (.string (S a.name)) ∧ w1.drew.cell? ⟨b, off + k * 4 + 2, none⟩ = some (.string (S a.s)) ∧
                Calls Try.prog 12 #[.pointer (some ⟨q, 0, none⟩), .string (S a.name), .string (S a.s)] w1.drew fun e w' => (∃ n : Int, e = .returned (.int .i64 n)) ∧ (Hid (Rd w w' p2 xb (k + 1)) ∧ w'.cell? ⟨b, off + k * 4 + 1, none⟩ = some (.string (S a.name)) ∧ w'.cell? ⟨b, off + k * 4 + 2, none⟩ = some (.string (S a.s)))) := by
              intro w1 p2 t1 b1
              have b2 : Below w1.heap.size w1 w1.drew := below_drew (Below.refl _ _)
              have bb := b1.trans (b2.mono b1.size)
              have hrow2 := hrow.later bb
              obtain ⟨b', off', e', _, x1, x2, _⟩ := hrow2.at hlt
              cases e'
              rw [ha] at x1 x2
              refine ⟨x1, x2, (pput_any F q d a.name a.s hrm.room (by have := hfit.s; omega) w1.drew (hp.below bb)).mono ?_⟩
              rintro e w' ⟨e1, e2⟩
              have hr := Rd.twin hp hx hi hF hxb hB t1 b1 b2 e2
              obtain ⟨F3, d3, z1, z2, z3, z4, z5, z6⟩ := id hr
              have hrow3 := HL.out.later z6
              obtain ⟨b', off', e', _, x1, x2, _⟩ := hrow3.at hlt
              cases e'
              rw [ha] at x1 x2
              exact ⟨⟨_, e1⟩, hr, x1, x2⟩
            rw [h8] at c0
            clear hp hx hi hF hxb hB hrow hrm HI ha hfit
            go_wp2_with fail
            refine hT.mono ?_
            rintro e w4 ⟨p2, rfl, t4, b4⟩
            obtain ⟨x1, x2, hP⟩ := HP.out w4 p2 t4 b4
            clear hT HP t4 b4 c0 c1 c2 c3
            go_upto_region 14 with (fail)
            go_region_held3 (fun W => W.cell? ⟨b, off + k * 4 + 1, none⟩ = some (.string (S a.name)) ∧ W.cell? ⟨b, off + k * 4 + 2, none⟩ = some (.string (S a.s)))
              (first | (with_reducible exact ⟨x1, x2⟩) | (with_reducible exact k5) | go_keep)
              ((first | (go_at_call 12; with_reducible refine hP.mono ?_; rintro e w5 ⟨⟨nn, rfl⟩, r5, k5⟩)))
            have hS := HSt.out p2 w5 r5.out
            clear hP x1 x2 k5 HSt r5
            go_wp2_with fail
            refine hS.mono ?_
            rintro e w6 ⟨rfl, r6⟩
            clear hS
            go_wp2_with fail
            go_roundw
            case rel => exact ⟨k + 1, p2, rfl, rfl, by omega, by omega, r6⟩
            case measure => simp [intOf]; omega
          · have hA := act_any F q xb d a (hi.both (by omega)) hfit wr hp hx
            have HR2 : Hid (∀ w', Two wr F q xb (play d a) w' → Rd w w' q xb (k + 1)) := fun w' h => Rd.two hF hxb hB h (inv_play hi hfit)
            have h8i : (a.kind == 8) = false := by rw [beq_eq_false_iff_ne]; exact h8
            unfold acV at hA
            clear hp hx hi hF hxb hB hrow hrm HI ha hfit
            go_wp2_with fail
            refine hA.mono ?_
            rintro e w4 ⟨rfl, t4⟩
            have hS := HSt.out q w4 (HR2.out w4 t4)
            clear hA t4 HR2 HSt c0 c1 c2 c3
            go_wp2_with fail
            refine hS.mono ?_
            rintro e w6 ⟨rfl, r6⟩
            clear hS
            go_wp2_with fail
            go_roundw
            case rel => exact ⟨k + 1, q, rfl, rfl, by omega, by omega, r6⟩
            case measure => simp [intOf]; omega
        · have hli : (k : Int) < (l.length : Int) := by omega
          have h3i : ¬ (k : Int) < 300 := by omega
          have HB : Hid (Below w.heap.size w wr) := by obtain ⟨_, _, _, _, _, _, _, h⟩ := HI.out; exact h
          clear HI
          go_wp2_with fail
          go_ret
          exact ⟨rfl, HB.out⟩
      · have hli : ¬ (k : Int) < (l.length : Int) := by omega
        have HB : Hid (Below w.heap.size w wr) := by obtain ⟨_, _, _, _, _, _, _, h⟩ := HI.out; exact h
        clear HI
        go_wp2_with fail
        go_ret
        exact ⟨rfl, HB.out⟩
end Go.Proofs.Ytiljhnheacppgaa.dk
