/-
  What the reference's Make, Right answer.
-/
import Derived.Test.YtiaggnpkmigbhaaDoorFlagRef3
namespace Go.Proofs.YtiaggnpkmigbhaaDoor.fl
open Go.RowKit

theorem okAll_snoc {l : List (List UInt8)} {k : Nat} (h : k < l.length) : okAll (l.take (k + 1)) = (okAll (l.take k) && (canon l[k]).isSome) := by
  unfold okAll
  rw [List.take_succ_eq_append_getElem h, List.all_append]
  simp
theorem okAll_no {l : List (List UInt8)} {k : Nat} (h : k < l.length) (hc : (canon l[k]).isSome = false) : make l = ([], 4) := by
  have : okAll l = false := by
    unfold okAll
    rw [List.all_eq_false]
    exact ⟨l[k], List.getElem_mem h, by rw [hc]; decide⟩
  unfold make
  rw [this]; rfl
/-- What is made of the first k. -/
def madeAt (l : List (List UInt8)) (k : Nat) : List (List UInt8) := insAll [] ((l.take k).map cf)
theorem madeAt_succ {l : List (List UInt8)} {k : Nat} (h : k < l.length) : madeAt l (k + 1) = ins (cf l[k]) (madeAt l k) := by
  unfold madeAt
  rw [List.take_succ_eq_append_getElem h, List.map_append, List.map_singleton, insAll_snoc]
theorem madeAt_sorted (l : List (List UInt8)) (k : Nat) : Sorted (madeAt l k) := insAll_sorted List.Pairwise.nil
theorem madeAt_le (l : List (List UInt8)) {k : Nat} (hk : k ≤ l.length) : (madeAt l k).length ≤ k := by
  have := (insAll_le ((l.take k).map cf) []).2
  rw [List.length_map, List.length_take] at this
  unfold madeAt
  simp at this ⊢; omega
theorem made_end {l : List (List UInt8)} (h : okAll l = true) : make l = full (madeAt l l.length) := by
  unfold make madeAt
  rw [if_pos h, List.take_length]

set_option maxHeartbeats 2000000 in
set_option maxRecDepth 100000 in
theorem refmake_any (a : Option Addr) (cap : Nat) (l : List (List UInt8)) (hl : l.length ≤ 8796093022000) (hx : ∀ x ∈ l, x.length ≤ 140737488355328) (w : World) (hr : RowS w a l) :
    Calls Tryd.prog 18 #[.slice a l.length cap] w fun e w' => (∃ a2 c2, e = .returned (.tuple #[.slice a2 (make l).1.length c2, .int .i64 ((make l).2 : Nat)]) ∧ RowS w' a2 (make l).1) ∧ Below w.heap.size w w' := by
  have HX := Lib.hid hx
  have HCA := Lib.hid refcanon_any
  have HWI := Lib.hid refwith_any
  clear hx
  go_enter Tryd.func18, Tryd.ntmps18
  go_wp2
  go_loopw [4, 5] (fun v i wr => ∃ (k : Nat) (a2 : Option Addr) (c2 : Nat), i = .int .i64 k ∧ v = .slice a2 (madeAt l k).length c2 ∧ k ≤ l.length ∧ Hid (RowS wr a2 (madeAt l k) ∧ okAll (l.take k) = true) ∧ Below w.heap.size w wr)
    (fun _ i _ => l.length - (intOf i).toNat)
  case atStart => exact ⟨0, none, 0, rfl, rfl, Nat.zero_le _, Lib.hid ⟨.inl rfl, rfl⟩, Below.refl _ _⟩
  case round =>
    obtain ⟨k, a2, c2, rfl, rfl, hk, HH, hB⟩ := hrel
    have hB0 := hB.size
    have hml := madeAt_le l hk
    by_cases hlt : k < l.length
    · rcases hr.later hB with h0 | ⟨b, off, rfl, hb, hc⟩
      · rw [h0] at hlt; simp at hlt
      have hcell := hc k hlt
      have hki : (k : Int) < (l.length : Int) := by omega
      have hca := HCA.out (l[k]'hlt) (HX.out _ (List.getElem_mem hlt)) wr
      cases hok : (canon (l[k]'hlt)).isSome with
      | false =>
        have HP := Lib.hid (okAll_no hlt hok)
        rw [hok] at hca
        generalize cf (l[k]'hlt) = g at *
        generalize l[k]'hlt = x at *
        clear hok hc hr hml
        go_wp2_with fail
        refine hca.mono ?_
        rintro e w1 ⟨rfl, b1⟩
        go_wp2_with fail
        refine bodyPost_ret (results_tmp2 rfl _ _ _) rfl ⟨⟨none, 0, ?_, ?_⟩, hB.trans (b1.mono hB0)⟩
        · rw [HP.out]; rfl
        · rw [HP.out]; exact .inl rfl
      | true =>
        have HN := Lib.hid (madeAt_succ hlt)
        have HK : Hid (okAll (l.take (k + 1)) = true) := Lib.hid (by rw [okAll_snoc hlt, HH.out.2, hok]; rfl)
        rw [hok] at hca
        have hwi := HWI.out a2 c2 (madeAt l k) (cf (l[k]'hlt)) (by omega) (madeAt_sorted l k)
        generalize cf (l[k]'hlt) = g at *
        generalize l[k]'hlt = x at *
        clear hok hc hml
        go_wp2_with fail
        refine hca.mono ?_
        rintro e w1 ⟨rfl, b1⟩
        have hw1 := hwi w1 (HH.out.1.later (b1.mono (Nat.le_refl _)))
        clear hca hwi
        go_wp2_with fail
        refine hw1.mono ?_
        rintro e w2 ⟨⟨a3, c3, rfl, hrow⟩, b2⟩
        clear hw1
        rw [← HN.out] at hrow ⊢
        have HR := Lib.hid hrow
        clear hrow HN
        have hB2 := (hB.trans (b1.mono hB0)).trans (b2.mono (Nat.le_trans hB0 b1.size))
        go_wp2_with fail
        go_roundw
        case rel => exact ⟨k + 1, a3, c3, by go_num, rfl, by omega, Lib.hid ⟨HR.out, HK.out⟩, hB2⟩
        case measure => simp [intOf]; omega
    · obtain rfl : k = l.length := by omega
      have hme := made_end (by have := HH.out.2; rw [List.take_length] at this; exact this)
      by_cases h16 : 16 < (madeAt l l.length).length
      · have HP : Hid (make l = ([], 7)) := Lib.hid (by rw [hme]; unfold full; rw [if_pos h16])
        have h16i : ((madeAt l l.length).length : Int) > 16 := by omega
        clear hme hr
        go_wp2_with fail
        refine bodyPost_ret (results_tmp2 rfl _ _ _) rfl ⟨⟨none, 0, ?_, ?_⟩, hB⟩
        · rw [HP.out]; rfl
        · rw [HP.out]; exact .inl rfl
      · have HP : Hid (make l = (madeAt l l.length, 0)) := Lib.hid (by rw [hme]; unfold full; rw [if_neg h16])
        have h16i : ¬ ((madeAt l l.length).length : Int) > 16 := by omega
        clear hme hr
        go_wp2_with fail
        have HRW := HH.out.1
        refine bodyPost_ret (results_tmp2 rfl _ _ _) rfl ?_
        rw [HP.out]
        exact ⟨by first | exact ⟨a2, c2, rfl, HRW⟩ | exact ⟨a2, ⟨c2, rfl⟩, HRW⟩, hB⟩

/-- The first k are flags as they are kept, and rise. -/
def riseTo (l : List (List UInt8)) (k : Nat) : Prop := ∀ j (h : j < l.length), j < k → canon l[j] = some l[j] ∧ ∀ h0 : 0 < j, less (l[j - 1]'(by omega)) l[j] = true
theorem rise_sorted {l : List (List UInt8)} (h : riseTo l l.length) : Sorted l := by
  unfold Sorted
  rw [List.pairwise_iff_getElem]
  intro i j hi hj hij
  obtain ⟨d, rfl⟩ : ∃ d, j = i + d + 1 := ⟨j - i - 1, by omega⟩
  induction d with
  | zero => exact (h (i + 1) hj (by omega)).2 (by omega)
  | succ d ih =>
    have h1 := ih (by omega) (by omega)
    have h2 := (h (i + (d + 1) + 1) hj (by omega)).2 (by omega)
    exact less_tr h1 h2
theorem rise_right {l : List (List UInt8)} (h : riseTo l l.length) : right l = decide (l.length ≤ 16) := by
  unfold right
  rw [decide_eq_decide]
  refine ⟨fun hr => hr.n, fun hn => ⟨fun x hx => ?_, rise_sorted h, hn⟩⟩
  obtain ⟨j, hj, e⟩ := List.getElem_of_mem hx
  rw [← e]; exact (h j hj hj).1
theorem right_no_canon {l : List (List UInt8)} {k : Nat} (hk : k < l.length) (h : canon l[k] ≠ some l[k]) : right l = false :=
  decide_eq_false fun hr => h (hr.c _ (List.getElem_mem hk))
theorem right_no_less {l : List (List UInt8)} {k : Nat} (hk : k < l.length) (h0 : 0 < k) (h : less (l[k - 1]'(by omega)) l[k] = false) : right l = false :=
  decide_eq_false fun hr => by
    have := (List.pairwise_iff_getElem.1 hr.s) (k - 1) k (by omega) hk (by omega)
    rw [h] at this; cases this
theorem cf_some {x : List UInt8} (h : (canon x).isSome = true) : canon x = some (cf x) := by
  obtain ⟨f, hf⟩ := Option.isSome_iff_exists.1 h
  unfold cf; rw [hf]; rfl

set_option maxHeartbeats 2000000 in
set_option maxRecDepth 100000 in
theorem refright_any (a : Option Addr) (cap : Nat) (l : List (List UInt8)) (hl : l.length ≤ 8796093022000) (hx : ∀ x ∈ l, x.length ≤ 140737488355328) (w : World) (hr : RowS w a l) :
    Calls Tryd.prog 14 #[.slice a l.length cap] w fun e w' => e = .returned (.bool (right l)) ∧ Below w.heap.size w w' := by
  have HX := Lib.hid hx
  have HCA := Lib.hid refcanon_any
  have HLE := Lib.hid refless_any
  clear hx
  go_enter Tryd.func14, Tryd.ntmps14
  go_wp2
  go_loopw [3] (fun i wr => ∃ (k : Nat), i = .int .i64 k ∧ k ≤ l.length ∧ Hid (riseTo l k) ∧ Below w.heap.size w wr)
    (fun i _ => l.length - (intOf i).toNat)
  case atStart => exact ⟨0, rfl, Nat.zero_le _, Lib.hid (fun j _ h => absurd h (by omega)), Below.refl _ _⟩
  case round =>
    obtain ⟨k, rfl, hk, HN, hB⟩ := hrel
    have hB0 := hB.size
    by_cases hlt : k < l.length
    · rcases hr.later hB with h0 | ⟨b, off, rfl, hb, hc⟩
      · rw [h0] at hlt; simp at hlt
      have hcell := hc k hlt
      have hki : (k : Int) < (l.length : Int) := by omega
      have hca := HCA.out (l[k]'hlt) (HX.out _ (List.getElem_mem hlt)) wr
      cases hok : (canon (l[k]'hlt)).isSome with
      | false =>
        have HP := Lib.hid (right_no_canon hlt (fun e => by rw [e] at hok; cases hok))
        rw [hok] at hca
        generalize cf (l[k]'hlt) = g at *
        generalize l[k]'hlt = x at *
        clear hok hc hr HN
        go_wp2_with fail
        refine hca.mono ?_
        rintro e w1 ⟨rfl, b1⟩
        go_wp2_with fail
        go_quiet (fail)
        go_wp2
        go_ret
        exact ⟨by rw [HP.out]; rfl, below_drewN (hB.trans (b1.mono hB0)) _⟩
      | true =>
        have hcs := cf_some hok
        rw [hok] at hca
        by_cases he : cf (l[k]'hlt) = l[k]'hlt
        · have hcx : canon (l[k]'hlt) = some (l[k]'hlt) := by rw [hcs, he]
          have hq : ((S (cf (l[k]'hlt))).toList == (S (l[k]'hlt)).toList) = true := str_eq (by rw [he])
          rw [he] at hca hq
          by_cases hk0 : 0 < k
          · have hlt1 : k - 1 < l.length := by omega
            have hcell1 := hc (k - 1) hlt1
            have hki1 : (k : Int) - 1 = ((k - 1 : Nat) : Int) := by omega
            have hk0i : (k : Int) > 0 := by omega
            have hle := HLE.out (l[k - 1]'hlt1) (l[k]'hlt)
            cases hls : less (l[k - 1]'hlt1) (l[k]'hlt) with
            | true =>
              have HNN : Hid (riseTo l (k + 1)) := Lib.hid (fun j h hj => by
                by_cases h2 : j < k
                · exact HN.out j h h2
                · obtain rfl : j = k := by omega
                  exact ⟨hcx, fun _ => hls⟩)
              rw [hls] at hle
              generalize l[k]'hlt = x at *
              generalize l[k - 1]'hlt1 = y at *
              clear hcs he hok hc HN hcx hls
              go_wp2_with fail
              refine hca.mono ?_
              rintro e w1 ⟨rfl, b1⟩
              have hcx1 := (b1.cell (p := ⟨b, off + k, none⟩) hb).trans hcell
              have hcy1 := (b1.cell (p := ⟨b, off + (k - 1), none⟩) hb).trans hcell1
              have hBB := hB.trans (b1.mono hB0)
              clear hcell hcell1 hB
              go_wp2_with fail
              go_quiet (first | (go_at_call 33; refine Calls.quiet_of_same (hle _)))
              have hBq := below_drewN hBB nq
              go_wp2
              go_roundw
              case rel => exact ⟨k + 1, by go_num, by omega, HNN, hBq⟩
              case measure => simp [intOf]; omega
            | false =>
              have HP := Lib.hid (right_no_less hlt hk0 hls)
              rw [hls] at hle
              generalize l[k]'hlt = x at *
              generalize l[k - 1]'hlt1 = y at *
              clear hcs he hok hc HN hcx hls
              go_wp2_with fail
              refine hca.mono ?_
              rintro e w1 ⟨rfl, b1⟩
              have hcx1 := (b1.cell (p := ⟨b, off + k, none⟩) hb).trans hcell
              have hcy1 := (b1.cell (p := ⟨b, off + (k - 1), none⟩) hb).trans hcell1
              have hBB := hB.trans (b1.mono hB0)
              clear hcell hcell1 hB
              go_wp2_with fail
              go_quiet (first | (go_at_call 33; refine Calls.quiet_of_same (hle _)))
              have hBq := below_drewN hBB nq
              go_wp2
              go_ret
              exact ⟨by rw [HP.out]; rfl, hBq⟩
          · obtain rfl : k = 0 := by omega
            have HNN : Hid (riseTo l (0 + 1)) := Lib.hid (fun j h hj => by
              obtain rfl : j = 0 := by omega
              exact ⟨hcx, fun h0 => absurd h0 (by omega)⟩)
            rw [Nat.add_zero] at hcell
            generalize l[0]'hlt = x at *
            clear hcs he hok hc HN hcx
            go_wp2_with fail
            refine hca.mono ?_
            rintro e w1 ⟨rfl, b1⟩
            have hcx1 := (b1.cell (p := ⟨b, off, none⟩) hb).trans hcell
            have hBB := hB.trans (b1.mono hB0)
            clear hcell hB
            go_wp2_with fail
            go_quiet (fail)
            have hBq := below_drewN hBB nq
            go_wp2
            go_roundw
            case rel => exact ⟨0 + 1, by go_num, by omega, HNN, hBq⟩
            case measure => simp [intOf]; omega
        · have HP := Lib.hid (right_no_canon hlt (fun e => he (by rw [hcs] at e; exact Option.some.inj e)))
          have hq : ((S (cf (l[k]'hlt))).toList == (S (l[k]'hlt)).toList) = false := str_ne (S_ne he)
          generalize cf (l[k]'hlt) = g at *
          generalize l[k]'hlt = x at *
          clear hcs he hok hc hr HN
          go_wp2_with fail
          refine hca.mono ?_
          rintro e w1 ⟨rfl, b1⟩
          have hcell1 := (b1.cell (p := ⟨b, off + k, none⟩) hb).trans hcell
          clear hcell
          go_wp2_with fail
          go_quiet (fail)
          go_wp2
          go_ret
          exact ⟨by rw [HP.out]; rfl, below_drewN (hB.trans (b1.mono hB0)) _⟩
    · obtain rfl : k = l.length := by omega
      have HP := Lib.hid (rise_right HN.out)
      clear HN hr
      have hdl : decide (l.length ≤ 16) = decide ((l.length : Int) ≤ 16) := by rw [decide_eq_decide]; omega
      rw [hdl] at HP
      go_wp2_with fail
      go_ret
      exact ⟨by rw [HP.out]; rfl, hB⟩
end Go.Proofs.YtiaggnpkmigbhaaDoor.fl
