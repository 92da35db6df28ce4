/-
  The walks of SeqsetWrites, SeqsetHolds, SeqsetNorms.
-/
import Derived.Test.YtbaeillecojilaaDoorSeqCopy
namespace Go.Proofs.YtbaeillecojilaaDoor.sq
open Go.RowKit

set_option maxHeartbeats 2000000 in
set_option maxRecDepth 100000 in
theorem seqsetwrites_any (a : Option Addr) (cap : Nat) (l : List (Nat × Nat)) (hl : l.length ≤ 1048576) (w : World) (hrow : RowR w a l) (hnil : a = none → cap = 0 ∧ l = []) (hL : Laid w) :
    Calls Tryd.prog 4 #[.slice a l.length cap] w fun e w' => e = .returned (.bool true) ∧ Below w.heap.size w w' := by
  obtain ⟨v1, w1, hrun, ⟨a1, c1, rfl, hr1⟩, hb1⟩ := copyR w a cap l hl hrow hnil
  have hp := print_any a1 c1 l (by omega) w1 hr1 (hL.later hb1).t
  have HLD := Lib.hid hL
  clear hL
  have HR := Lib.hid hrow
  have HR1 := Lib.hid hr1
  have HRun := Lib.hid hrun
  clear hrow hnil hr1 hrun
  have hq := fun W (hb : Below w.heap.size w W) => refprint_any a cap l (by omega) W (HR.out.later hb)
  have HQ := Lib.hid hq
  clear hq
  have hs := fun W (hb : Below w.heap.size w W) (hb' : Below w1.heap.size w1 W) => refsame_any a1 a c1 cap l l (by omega) W (HR1.out.later hb') (HR.out.later hb)
  have HS := Lib.hid hs
  clear hs
  obtain ⟨n, hn⟩ : ∃ n, n = l.length := ⟨_, rfl⟩
  rw [← hn] at hp HQ HS HRun ⊢
  clear hn
  generalize printOf l = t at *
  generalize printOk l = q at *
  go_enter Tryd.func4, Tryd.ntmps4
  go_wp2_with (at_builtin; refine wpList_append_at _ _ _ rfl rfl _ _ _ _ rfl rfl HRun.out ?_)
  clear HRun
  refine hp.mono ?_
  rintro e w2 ⟨rfl, hb2⟩
  have HB2 := hb1.trans (hb2.mono hb1.size)
  clear hp
  go_wp2_with fail
  refine (HQ.out w2 HB2).mono ?_
  rintro e w3 ⟨rfl, hb3⟩
  have HB3 := HB2.trans (hb3.mono HB2.size)
  have HO3 := hb2.trans (hb3.mono hb2.size)
  clear HQ HB2 hb2 hb3
  go_wp2_with fail
  refine (alive_any w3 (HLD.out.later HB3)).mono ?_
  rintro e w4 ⟨rfl, hb4⟩
  have HB4 := HB3.trans (hb4.mono HB3.size)
  have HO4 := HO3.trans (hb4.mono HO3.size)
  have hs := HS.out w4 HB4 HO4
  rw [decide_eq_true trivial] at hs
  clear HB3 HO3 hb4 HS HO4
  have hte := str_eq (rfl : S t = S t)
  have hqe : (q == q) = true := by simp
  go_wp2_with fail
  refine hs.mono ?_
  rintro e w5 ⟨rfl, hb5⟩
  have HB5 := HB4.trans (hb5.mono HB4.size)
  go_wp2
  go_ret
  exact ⟨rfl, HB5⟩

set_option maxHeartbeats 2000000 in
set_option maxRecDepth 100000 in
theorem seqsetholds_any (a a' : Option Addr) (cap cap' : Nat) (l : List (Nat × Nat)) (most n : Nat) (of : List Nat) (hl : l.length ≤ 1048576) (ho : of.length ≤ 1048576) (w : World)
    (hrow : RowR w a l) (hrow' : Row64 w a' of) (hnil : a' = none → cap' = 0 ∧ of = []) (hL : Laid w) :
    Calls Tryd.prog 5 #[.slice a l.length cap, .int .u64 (most : Nat), .int .u64 (n : Nat), .slice a' of.length cap'] w fun e w' => e = .returned (.bool true) ∧ Below w.heap.size w w' := by
  obtain ⟨v1, w1, hrun, ⟨a1, c1, rfl, hr1⟩, hb1⟩ := copy64 w a' cap' of ho hrow' hnil
  have hp := pick_any a a1 cap c1 l most of (by omega) (by omega) w1 (hrow.later hb1) hr1
  have HLD := Lib.hid hL
  clear hL
  have HR := Lib.hid hrow
  have HO := Lib.hid hrow'
  have HR1 := Lib.hid hr1
  have HRun := Lib.hid hrun
  clear hrow hrow' hnil hr1 hrun
  have HH := Lib.hid (fun W (hb : Below w.heap.size w W) => has_any a cap l most n (by omega) W (HR.out.later hb))
  have HG := Lib.hid (fun W (hb : Below w.heap.size w W) => refhas_any a cap l most n (by omega) W (HR.out.later hb))
  have HQ := Lib.hid (fun W (hb : Below w.heap.size w W) => refpick_any a a' cap cap' l most of (by omega) (by omega) W (HR.out.later hb) (HO.out.later hb))
  have HS := Lib.hid (fun W (hb : Below w.heap.size w W) (hb' : Below w1.heap.size w1 W) => refsame64_any a1 a' c1 cap' of of (by omega) W (HR1.out.later hb') (HO.out.later hb))
  have hpk : (pick l most of).length ≤ 140737488355328 := by
    have := List.length_filter_le (has l most) of
    unfold pick; omega
  clear HR HO
  generalize pick l most of = p at *
  generalize has l most n = q at *
  obtain ⟨k, hk⟩ : ∃ k, k = l.length := ⟨_, rfl⟩
  obtain ⟨m, hm⟩ : ∃ m, m = of.length := ⟨_, rfl⟩
  rw [← hk, ← hm] at hp HQ
  rw [← hk] at HH HG ⊢
  rw [← hm] at HS HRun ⊢
  clear hk hm
  go_enter Tryd.func5, Tryd.ntmps5
  go_wp2_with (at_builtin; refine wpList_append_at _ _ _ rfl rfl _ _ _ _ rfl rfl HRun.out ?_)
  clear HRun
  refine hp.mono ?_
  rintro e w2 ⟨⟨a2, c2, rfl, hr2⟩, hb2⟩
  have HR2 := Lib.hid hr2
  have HB2 := hb1.trans (hb2.mono hb1.size)
  clear hp hr2
  go_wp2_with fail
  refine (alive_any w2 (HLD.out.later HB2)).mono ?_
  rintro e w3 ⟨rfl, hb3⟩
  have HB3 := HB2.trans (hb3.mono HB2.size)
  have HO3 := hb2.trans (hb3.mono hb2.size)
  have HP3 := hb3
  clear HB2 hb2 hb3
  go_wp2_with fail
  refine (HH.out w3 HB3).mono ?_
  rintro e w4 ⟨rfl, hb4⟩
  have HB4 := HB3.trans (hb4.mono HB3.size)
  have HO4 := HO3.trans (hb4.mono HO3.size)
  have HP4 := HP3.trans (hb4.mono HP3.size)
  clear HB3 HO3 HP3 hb4 HH
  go_wp2_with fail
  refine (HG.out w4 HB4).mono ?_
  rintro e w5 ⟨rfl, hb5⟩
  have HB5 := HB4.trans (hb5.mono HB4.size)
  have HO5 := HO4.trans (hb5.mono HO4.size)
  have HP5 := HP4.trans (hb5.mono HP4.size)
  clear HB4 HO4 HP4 hb5 HG
  have hqe : (q == q) = true := by simp
  go_wp2_with fail
  refine (HQ.out w5 HB5).mono ?_
  rintro e w6 ⟨⟨a6, c6, rfl, hr6⟩, hb6⟩
  have HB6 := HB5.trans (hb6.mono HB5.size)
  have HO6 := HO5.trans (hb6.mono HO5.size)
  have HP6 := HP5.trans (hb6.mono HP5.size)
  have hs := refsame64_any a2 a6 c2 c6 p p hpk w6 (HR2.out.later HP6) hr6
  rw [decide_eq_true rfl] at hs
  clear HB5 HO5 HP5 hb6 HQ hr6 HP6 HR2
  go_wp2_with fail
  refine hs.mono ?_
  rintro e w7 ⟨rfl, hb7⟩
  have HB7 := HB6.trans (hb7.mono HB6.size)
  have HO7 := HO6.trans (hb7.mono HO6.size)
  have hs2 := HS.out w7 HB7 HO7
  rw [decide_eq_true trivial] at hs2
  clear HB6 HO6 hb7 hs HS HO7
  go_wp2_with fail
  refine hs2.mono ?_
  rintro e w8 ⟨rfl, hb8⟩
  have HB8 := HB7.trans (hb8.mono HB7.size)
  go_wp2
  go_ret
  exact ⟨rfl, HB8⟩

theorem norm_length {of : List Nat} : ∀ (L : List (Nat × Nat)) (lo : Nat), NormFrom of lo L → L.length + upto of lo ≤ of.length
  | [], lo, _ => by have := upto_le of lo; simpa using this
  | r :: L, lo, h => by
    obtain ⟨h1, h2, _, _, h5, _, h7⟩ := NormFrom.cons.1 h
    have := norm_length L r.2 h7
    have := upto_more of (h5 r.1 (Nat.le_refl _) h2) h1 h2
    simp only [List.length_cons]
    omega

set_option maxHeartbeats 2000000 in
set_option maxRecDepth 100000 in
theorem seqsetnorms_any (hS : SortAt 300) (a : Option Addr) (cap : Nat) (of : List Nat) (h64 : Hid (∀ x ∈ of, x < 18446744073709551616)) (w : World) (hrow : Row64 w a of) (hnil : a = none → cap = 0 ∧ of = []) (hL : Laid w) :
    Calls Tryd.prog 6 #[.slice a of.length cap] w fun e w' => e = .returned (.bool true) ∧ Below w.heap.size w w' := by
  have HLD := Lib.hid hL
  clear hL
  by_cases hlong : 300 < of.length
  · clear h64 hrow hnil hS
    go_enter Tryd.func6, Tryd.ntmps6
    have hi : (300 : Int) < (of.length : Int) := by omega
    go_wp2_with fail
    refine (alive_any w HLD.out).mono ?_
    rintro e w1 ⟨rfl, hb1⟩
    go_wp2
    go_ret
    exact ⟨rfl, hb1⟩
  have ho : of.length ≤ 1048576 := by omega
  obtain ⟨v1, w1, hrun, ⟨a1, c1, rfl, hr1⟩, hb1⟩ := copy64 w a cap of ho hrow hnil
  have HO := Lib.hid hrow
  have HR1 := Lib.hid hr1
  have HRun := Lib.hid hrun
  clear hrow hnil hr1 hrun
  have HN := Lib.hid (fun W (hb : Below w1.heap.size w1 W) => norm_any 300 (by decide) hS a1 c1 of (by omega) h64 W (HR1.out.later hb))
  have HM := Lib.hid (fun W (hb : Below w.heap.size w W) => refnorm_any a cap of (by omega) h64 W (HO.out.later hb))
  have HS := Lib.hid (fun W (hb : Below w.heap.size w W) (hb' : Below w1.heap.size w1 W) => refsame64_any a1 a c1 cap of of (by omega) W (HR1.out.later hb') (HO.out.later hb))
  clear h64 HO HR1 hS
  have hlen : Hid (∀ L, IsNorm of L → L.length ≤ 140737488355328) := fun L h => by
    have := norm_length L 0 h
    omega
  obtain ⟨m, hm⟩ : ∃ m, m = of.length := ⟨_, rfl⟩
  rw [← hm] at HN HM HS HRun hlong ⊢
  clear hm ho
  have hi : ¬ ((300 : Int) < (m : Int)) := by omega
  go_enter Tryd.func6, Tryd.ntmps6
  go_wp2_with (at_builtin; refine wpList_append_at _ _ _ rfl rfl _ _ _ _ rfl rfl HRun.out ?_)
  clear HRun
  refine (alive_any w1 (HLD.out.later hb1)).mono ?_
  rintro e w2 ⟨rfl, hb2⟩
  have HB2 := hb1.trans (hb2.mono hb1.size)
  go_wp2_with fail
  refine (HN.out w2 hb2).mono ?_
  rintro e w3 ⟨⟨L, a3, c3, rfl, hr3, hn3⟩, hb3⟩
  have HR3 := Lib.hid hr3
  have HN3 := Lib.hid hn3
  have HB3 := HB2.trans (hb3.mono HB2.size)
  have HO3 := hb2.trans (hb3.mono hb2.size)
  clear hr3 hn3 hb3 hb2 HB2 HN
  go_wp2_with fail
  refine (HM.out w3 HB3).mono ?_
  rintro e w4 ⟨⟨L', a4, c4, rfl, hr4, hn4⟩, hb4⟩
  obtain rfl := isNorm_one hn4 HN3.out
  have hs := refsame_any a3 a4 c3 c4 L' L' (hlen.out _ hn4) w4 (HR3.out.later hb4) hr4
  rw [decide_eq_true rfl] at hs
  have HB4 := HB3.trans (hb4.mono HB3.size)
  have HO4 := HO3.trans (hb4.mono HO3.size)
  clear hr4 hn4 hb4 HB3 HO3 HM HR3 HN3 hlen
  go_wp2_with fail
  refine hs.mono ?_
  rintro e w5 ⟨rfl, hb5⟩
  have HB5 := HB4.trans (hb5.mono HB4.size)
  have HO5 := HO4.trans (hb5.mono HO4.size)
  have hs2 := HS.out w5 HB5 HO5
  rw [decide_eq_true trivial] at hs2
  clear HB4 HO4 hb5 hs HS HO5
  go_wp2_with fail
  refine hs2.mono ?_
  rintro e w6 ⟨rfl, hb6⟩
  have HB6 := HB5.trans (hb6.mono HB5.size)
  go_wp2
  go_ret
  exact ⟨rfl, HB6⟩
end Go.Proofs.YtbaeillecojilaaDoor.sq
