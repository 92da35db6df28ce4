/-
  What the reference's Field answers.
-/
import Derived.Test.YtecemfebbonkpaaDoorPtRef2
namespace Go.Proofs.YtecemfebbonkpaaDoor.pt
open Go.RowKit Go.Shelf fl
attribute [local go_sem] Oper.semAt_some

/-- The cells of a row of fields. -/
theorem ownF_cells {w : World} {base n : Nat} {v : Value} {F : List Fd2} (h : w.ownsRow base 35 2 v n (cellsF F)) (hn : n = F.length) (h0 : 0 < n) :
    ∃ g c, v = .slice (some ⟨g, 0, none⟩) n c ∧ base ≤ g ∧ g < w.heap.size ∧ ∀ j (hj : j < F.length), w.cell? ⟨g, j * 2, none⟩ = some (.string (S F[j].1)) ∧ w.cell? ⟨g, j * 2 + 1, none⟩ = some (.string (S F[j].2)) := by
  subst hn
  rcases h.2 with ⟨rfl, h1⟩ | ⟨g, cap, cur, rfl, hg, hh, hn, hcap, hsz, htake⟩
  · omega
  · refine ⟨g, cap, rfl, hg, (Array.getElem?_eq_some_iff.1 hh).1, fun j hj => ?_⟩
    have hc := cellsF_get F j hj
    exact ⟨(h.cellAt _ (by omega)).trans hc.1, (h.cellAt _ (by omega)).trans hc.2⟩
theorem own_below {w w' : World} {base size n : Nat} {e : TypeId} {v : Value} {xs : List Value} (h : w.ownsRow base e size v n xs) (hb : Below w.heap.size w w') : w'.ownsRow base e size v n xs :=
  (Below.frm hb (O := fun k => k < w.heap.size) (fun _ h => h)).own h (fun g hg => (h.lt g hg).2)
theorem found_eq (x name : List UInt8) : ((S (upper x)).toList == (S (upper name)).toList) = decide (lower x = lower name) := by
  by_cases h : lower x = lower name
  · rw [decide_eq_true h, str_eq (by rw [(lower_iff _ _).1 h])]
  · rw [decide_eq_false h, str_ne (fun e => h ((lower_iff _ _).2 (S_inj e)))]

theorem fields_count (m : List UInt8) : (fields m).length ≤ m.length + 1 := by
  have h1 := count_fields (unf (lines (head m)))
  have h2 := unf_count (head m)
  have h3 : (head m).length ≤ m.length := by unfold head; rw [List.length_take]; omega
  unfold fields
  omega

set_option maxHeartbeats 4000000 in
set_option maxRecDepth 100000 in
theorem reffield_any (m name : List UInt8) (hm : m.length ≤ 4294967281) (hn : name.length ≤ 140737488355328) (w : World) :
    Calls Tryd.prog 18 #[.string (S m), .string (S name)] w fun e w' => e = .returned (.tuple #[.string (S (value (found (fields m) name))), .bool (found (fields m) name).isSome]) ∧ Below w.heap.size w w' := by
  have hf := reffields_any m hm w
  have HL : Hid (∀ x ∈ fields m, x.1.length ≤ m.length) := Lib.hid (fun x hx => by
    obtain ⟨pre, post, h⟩ := List.append_of_mem hx
    exact (size_of_field h).1)
  have HU := Lib.hid (refupper_any name hn)
  have hcn := fields_count m
  generalize fields m = F at *
  go_enter Tryd.func18, Tryd.ntmps18
  go_wp2_with fail
  refine hf.mono ?_
  rintro e w1 ⟨⟨v, rfl, hown⟩, b1⟩
  obtain ⟨a, cp, rfl⟩ := own_sl hown
  obtain ⟨n, hnF⟩ : ∃ n, F.length = n := ⟨_, rfl⟩
  rw [hnF] at hown hcn ⊢
  have HO := Lib.hid hown
  have HNF := Lib.hid hnF
  clear hf hown hnF
  go_wp2_with fail
  go_loopw [7] (fun i wr => ∃ k : Nat, i = .int .i64 k ∧ k ≤ n ∧ Hid (found (F.take k) name = none) ∧ Below w1.heap.size w1 wr)
    (fun i _ => n - (intOf i).toNat)
  case atStart => exact ⟨0, rfl, Nat.zero_le _, Lib.hid rfl, Below.refl _ _⟩
  case round =>
    obtain ⟨k, rfl, hk, HN, hB⟩ := hrel
    by_cases hlt : k < n
    · have hkF : k < F.length := by rw [HNF.out]; exact hlt
      have hki : (k : Int) < (n : Int) := by omega
      obtain ⟨g, c2, e0, _, hgw, hcs⟩ := ownF_cells (own_below HO.out hB) HNF.out.symm (by omega)
      obtain ⟨rfl, rfl⟩ : a = some ⟨g, 0, none⟩ ∧ cp = c2 := by simpa using e0
      clear e0
      have hc1 := (hcs k hkF).1
      have hc2 := (hcs k hkF).2
      have hxl := HL.out F[k] (List.getElem_mem hkF)
      have hft : F.take (k + 1) = F.take k ++ [F[k]] := List.take_succ_eq_append_getElem hkF
      have hcmp := found_eq F[k].1 name
      have hpre : F.take (k + 1) <+: F := List.take_prefix _ _
      have HFT := Lib.hid (And.intro hft hpre)
      clear hcs hft hpre
      generalize F[k] = x at *
      have hu1 := refupper_any x.1 (by omega) wr
      obtain ⟨x1, x2⟩ := x
      dsimp only at *
      obtain ⟨ans, hans⟩ : ∃ ans, decide (lower x1 = lower name) = ans := ⟨_, rfl⟩
      rw [hans] at hcmp
      have HA := Lib.hid hans
      clear hans hxl
      generalize hux : upper x1 = ux at *
      generalize hun : upper name = un at *
      clear hux hun
      have HU' := HU
      go_wp2_with fail
      refine hu1.mono ?_
      rintro e w2 ⟨rfl, b2⟩
      clear hu1 hc1
      have hc2' := (b2.cell (p := ⟨g, k * 2 + 1, none⟩) hgw).trans hc2
      have hu2 := HU.out w2
      clear hc2
      go_wp2_with fail
      refine hu2.mono ?_
      rintro e w3 ⟨rfl, b3⟩
      have hgw2 : g < w2.heap.size := Nat.lt_of_lt_of_le hgw b2.size
      have hc3 := (b3.cell (p := ⟨g, k * 2 + 1, none⟩) hgw2).trans hc2'
      have B3 := Below.after (Below.after hB b2 (Nat.le_refl _)) b3 (Nat.le_refl _)
      clear hu2 hc2' b2 b3 hB HU HU'
      cases ans with
      | true =>
        have hff : found F name = some (x1, x2) := by
          obtain ⟨h1, h2⟩ := HFT.out
          refine found_prefix h2 ?_
          rw [h1]
          exact found_yes HN.out (of_decide_eq_true HA.out)
        have HFF := Lib.hid hff
        clear hff HN HFT HA
        go_wp2_with fail
        refine bodyPost_ret (results_tmp2 rfl _ _ _) rfl ⟨?_, b1.trans (B3.mono b1.size)⟩
        rw [HFF.out]; rfl
      | false =>
        have HN2 : Hid (found (F.take (k + 1)) name = none) := Lib.hid (by
          rw [HFT.out.1]
          exact found_no HN.out (of_decide_eq_false HA.out))
        clear HN HFT HA
        go_wp2_with fail
        go_roundw
        case rel => exact ⟨k + 1, by go_num, by omega, HN2, B3⟩
        case measure => simp [intOf]; omega
    · obtain rfl : k = n := by omega
      have hki : ¬ (k : Int) < (k : Int) := by omega
      have hff : found F name = none := by
        have h := HN.out
        rw [List.take_of_length_le (by have := HNF.out; omega)] at h
        exact h
      have HFF := Lib.hid hff
      clear hff HN
      go_wp2_with fail
      refine bodyPost_ret (results_tmp2 rfl _ _ _) rfl ⟨?_, b1.trans (hB.mono b1.size)⟩
      rw [HFF.out]; rfl
end Go.Proofs.YtecemfebbonkpaaDoor.pt
