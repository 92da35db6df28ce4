/-
  The library's sifting is the plain one.
-/
import Derived.Test.YtbaeillecojilaaDoorSrtRev
namespace Go.Proofs.YtbaeillecojilaaDoor.sq
open Go.RowKit
open Go.Sort (swp PermIn SortedIn ltInt SWO siftDown)

def kid (hi F r : Nat) (d : Array Int) : Nat := if (decide (2 * r + 1 + 1 < hi) && ltInt d[F + (2 * r + 1)]! d[F + (2 * r + 1) + 1]!) = true then 2 * r + 2 else 2 * r + 1
theorem sift_stop (hi F r : Nat) (d : Array Int) (h : hi ≤ 2 * r + 1) : siftDown ltInt hi F r d = d := by rw [siftDown, dif_pos h]
theorem sift_step (hi F r : Nat) (d : Array Int) (h : ¬ hi ≤ 2 * r + 1) : siftDown ltInt hi F r d = if ltInt d[F + r]! d[F + kid hi F r d]! = true then siftDown ltInt hi F (kid hi F r d) (swp d (F + r) (F + kid hi F r d)) else d := by
  rw [siftDown, dif_neg h]
  unfold kid
  by_cases hk : (decide (2 * r + 1 + 1 < hi) && ltInt d[F + (2 * r + 1)]! d[F + (2 * r + 1) + 1]!) = true
  · rw [if_pos hk, if_pos hk]
    have h2 : 2 * r + 2 < hi := by
      simp only [Bool.and_eq_true, decide_eq_true_eq] at hk
      omega
    cases hl : ltInt d[F + r]! d[F + (2 * r + 2)]! with
    | true => simp [h2]
    | false => simp
  · rw [if_neg hk, if_neg hk]
    cases hl : ltInt d[F + r]! d[F + (2 * r + 1)]! with
    | true => simp
    | false => simp

set_option maxHeartbeats 2000000 in
set_option maxRecDepth 100000 in
theorem sift_any (g cap lo hi F : Nat) (d : Array Int) (w : World) (hR : RowI w g d) (hg : g < w.heap.size) (hlo : lo ≤ d.size) (hb : F + hi ≤ d.size) (hsz : d.size < 4611686018427387904) :
    Calls Tryd.prog 83 #[.slice (some ⟨g, 0, none⟩) d.size cap, .int .i64 lo, .int .i64 hi, .int .i64 F] w fun e w' =>
      e = .returned (.tuple #[]) ∧ St w g (siftDown ltInt hi F lo d) w' := by
  have HS := Lib.hid (St.start hR hg)
  clear hR
  go_enter Tryd.func83, Tryd.ntmps83
  go_wp2
  go_loopw [8] (fun vr wr => ∃ (r : Nat) (dk : Array Int), vr = .int .i64 r ∧ r ≤ d.size ∧ dk.size = d.size ∧ Hid (siftDown ltInt hi F r dk = siftDown ltInt hi F lo d) ∧ Hid (St w g dk wr)) (fun vr _ => hi - (intOf vr).toNat)
  case atStart => exact ⟨lo, d, rfl, hlo, rfl, Lib.hid rfl, HS⟩
  case round =>
    obtain ⟨r, dk, rfl, hrs, hsk, HE, HK⟩ := hrel
    have hm1 : IntKind.i64.wrap (2 * (r : Int)) = ((2 * r : Nat) : Int) := wrapi (by omega) (by omega)
    obtain ⟨r2, hr2⟩ : ∃ r2, 2 * r = r2 := ⟨_, rfl⟩
    rw [hr2] at hm1
    obtain ⟨c1, hc1⟩ : ∃ c1, r2 + 1 = c1 := ⟨_, rfl⟩
    have hm2 : IntKind.i64.wrap ((r2 : Int) + 1) = (c1 : Int) := wrapi (by omega) (by omega)
    by_cases hstop : hi ≤ c1
    · have HF := Lib.hid (sift_stop hi F r dk (by omega))
      have hz : (hi : Int) ≤ (c1 : Int) := by omega
      clear hr2 hc1
      go_wp2
      go_end0
      refine ⟨rfl, ?_⟩
      have h1 := HE.out
      rw [HF.out] at h1
      rw [← h1]
      exact HK.out
    · have hz : ¬ (hi : Int) ≤ (c1 : Int) := by omega
      have HF := Lib.hid (sift_step hi F r dk (by omega))
      have HKID : Hid (kid hi F r dk = if (decide (2 * r + 1 + 1 < hi) && ltInt dk[F + (2 * r + 1)]! dk[F + (2 * r + 1) + 1]!) = true then 2 * r + 2 else 2 * r + 1) := rfl
      have hm3 : IntKind.i64.wrap ((c1 : Int) + 1) = ((c1 + 1 : Nat) : Int) := wrapi (by omega) (by omega)
      obtain ⟨c2, hc2⟩ : ∃ c2, c1 + 1 = c2 := ⟨_, rfl⟩
      rw [hc2] at hm3
      have hm4 : IntKind.i64.wrap ((F : Int) + (c1 : Int)) = ((F + c1 : Nat) : Int) := wrapi (by omega) (by omega)
      obtain ⟨x1, hx1⟩ : ∃ x1, F + c1 = x1 := ⟨_, rfl⟩
      rw [hx1] at hm4
      have hm5 : IntKind.i64.wrap ((x1 : Int) + 1) = ((x1 + 1 : Nat) : Int) := wrapi (by omega) (by omega)
      obtain ⟨x2, hx2⟩ : ∃ x2, x1 + 1 = x2 := ⟨_, rfl⟩
      rw [hx2] at hm5
      have hm6 : IntKind.i64.wrap ((F : Int) + (r : Int)) = ((F + r : Nat) : Int) := wrapi (by omega) (by omega)
      obtain ⟨x0, hx0⟩ : ∃ x0, F + r = x0 := ⟨_, rfl⟩
      rw [hx0] at hm6
      have hm7 : IntKind.i64.wrap ((F : Int) + (c2 : Int)) = (x2 : Int) := wrapi (by omega) (by omega)
      have hd0 : (x0 : Int) < (d.size : Int) := by omega
      have hd1 : (x1 : Int) < (d.size : Int) := by omega
      have he0 : x0 < d.size := by omega
      have he1 : x1 < d.size := by omega
      obtain ⟨G, hG, hcw, hfw⟩ := HK.out.fam
      rw [hsk] at hcw hfw
      have HG := Lib.hid hG
      have HX : Hid (r2 = 2 * r ∧ c1 = 2 * r + 1 ∧ c2 = 2 * r + 2 ∧ x0 = F + r ∧ x1 = F + (2 * r + 1) ∧ x2 = F + (2 * r + 2)) := Lib.hid ⟨by omega, by omega, by omega, by omega, by omega, by omega⟩
      have nxt : Hid (∀ (c x : Nat), kid hi F r dk = c → x = F + c → c < hi → r < c → ltInt dk[x0]! dk[x]! = true → ∀ W q, St w g dk W → (∃ (r' : Nat) (dk' : Array Int), Value.int .i64 (c : Int) = .int .i64 (r' : Nat) ∧ r' ≤ d.size ∧ dk'.size = d.size ∧ Hid (siftDown ltInt hi F r' dk' = siftDown ltInt hi F lo d) ∧ Hid (St w g dk' (((W.drewN q).setCell ⟨g, x0, none⟩ (.int .u64 (G x))).setCell ⟨g, x, none⟩ (.int .u64 (G x0)))))) := by
        intro c x hk hx hc hrc hl W q hW
        refine ⟨c, swp dk x0 x, rfl, by omega, by rw [Go.Sort.size_swp]; exact hsk, ?_, ?_⟩
        · refine Lib.hid ?_
          have h1 := HE.out
          rw [HF.out, hk, ← hx, hx0, if_pos hl] at h1
          exact h1
        · have := hW.swap q (i := x0) (j := x) (by omega) (by omega)
          rw [← HG.out, ← HG.out] at this
          exact Lib.hid this
      have fin : Hid (∀ (c x : Nat), kid hi F r dk = c → x = F + c → ltInt dk[x0]! dk[x]! = false → ∀ W, St w g dk W → St w g (siftDown ltInt hi F lo d) W) := by
        intro c x hk hx hl W hW
        have h1 := HE.out
        rw [HF.out, hk, ← hx, hx0, if_neg (by rw [hl]; decide)] at h1
        rw [← h1]
        exact hW
      clear hG hr2 hc1 hc2 hx0 hx1 hx2
      by_cases h2 : c2 < hi
      · have h2z : (c2 : Int) < (hi : Int) := by omega
        have hd2 : (x2 : Int) < (d.size : Int) := by have := HX.out; omega
        have he2 : x2 < d.size := by omega
        go_wp2
        go_quiet (first | (go_at_call 72; refine Calls.quiet_of_same (less_any _ _ _)))
        go_wp2
        · have hl0 : ltInt (G x1) (G x2) = true := by assumption
          have HKK : Hid (kid hi F r dk = c2) := Lib.hid (by
            have hx := HX.out
            rw [HKID.out, if_pos (by rw [decide_eq_true (show 2 * r + 1 + 1 < hi by omega), show F + (2 * r + 1) = x1 by omega, show x1 + 1 = x2 by omega, ← HG.out, ← HG.out, hl0]; rfl)]
            omega)
          have hxr : x2 = F + c2 := by have := HX.out; omega
          have hrc : r < c2 := by have := HX.out; omega
          have hch : c2 < hi := by omega
          have hne : x0 ≠ x2 := by have := HX.out; omega
          have HXX := Lib.hid (And.intro hxr (And.intro hrc hch))
          clear hxr
          have hcw2 : ∀ t, t < d.size → (wr.drewN nq).cell? ⟨g, t, none⟩ = some (.int .u64 (G t)) := hcw
          have hfw2 : ∀ t, t < d.size → (wr.drewN nq).frozen? ⟨g, t, none⟩ = false := hfw
          have HK2 := Lib.hid (HK.out.drewN nq)
          clear hcw hfw HK
          generalize wr.drewN nq = w2 at *
          go_quiet (first | (go_at_call 72; refine Calls.quiet_of_same (less_any _ _ _)))
          go_wp2
          · have hl : ltInt (G x0) (G x2) = false := by have h : (!ltInt (G x0) (G x2)) = true := (by assumption); simpa using h
            exact bodyPost_ret (results_none rfl _ _ _) rfl ⟨rfl, fin.out c2 x2 HKK.out HXX.out.1 (by rw [← HG.out, ← HG.out]; exact hl) _ (HK2.out.drewN _)⟩
          · have hl : ltInt (G x0) (G x2) = true := by have h : (!ltInt (G x0) (G x2)) = false := (by assumption); simpa using h
            have HL : Hid (ltInt dk[x0]! dk[x2]! = true) := Lib.hid (by rw [← HG.out, ← HG.out]; exact hl)
            clear fin
            go_region
            all_goals go_wp2
            go_roundw
            case rel => exact nxt.out c2 x2 HKK.out HXX.out.1 (by omega) (by omega) HL.out _ (nq + 1) HK2.out
            case measure => simp [intOf]; omega
        · have hl0 : ltInt (G x1) (G x2) = false := by assumption
          have HKK : Hid (kid hi F r dk = c1) := Lib.hid (by
            have hx := HX.out
            rw [HKID.out, if_neg (by rw [show F + (2 * r + 1) = x1 by omega, show x1 + 1 = x2 by omega, ← HG.out, ← HG.out, hl0]; simp)]
            omega)
          have hxr : x1 = F + c1 := by have := HX.out; omega
          have hrc : r < c1 := by have := HX.out; omega
          have hch : c1 < hi := by omega
          have hne : x0 ≠ x1 := by have := HX.out; omega
          have HXX := Lib.hid (And.intro hxr (And.intro hrc hch))
          clear hxr
          have hcw2 : ∀ t, t < d.size → (wr.drewN nq).cell? ⟨g, t, none⟩ = some (.int .u64 (G t)) := hcw
          have hfw2 : ∀ t, t < d.size → (wr.drewN nq).frozen? ⟨g, t, none⟩ = false := hfw
          have HK2 := Lib.hid (HK.out.drewN nq)
          clear hcw hfw HK
          generalize wr.drewN nq = w2 at *
          go_quiet (first | (go_at_call 72; refine Calls.quiet_of_same (less_any _ _ _)))
          go_wp2
          · have hl : ltInt (G x0) (G x1) = false := by have h : (!ltInt (G x0) (G x1)) = true := (by assumption); simpa using h
            exact bodyPost_ret (results_none rfl _ _ _) rfl ⟨rfl, fin.out c1 x1 HKK.out HXX.out.1 (by rw [← HG.out, ← HG.out]; exact hl) _ (HK2.out.drewN _)⟩
          · have hl : ltInt (G x0) (G x1) = true := by have h : (!ltInt (G x0) (G x1)) = false := (by assumption); simpa using h
            have HL : Hid (ltInt dk[x0]! dk[x1]! = true) := Lib.hid (by rw [← HG.out, ← HG.out]; exact hl)
            clear fin
            go_region
            all_goals go_wp2
            go_roundw
            case rel => exact nxt.out c1 x1 HKK.out HXX.out.1 (by omega) (by omega) HL.out _ (nq + 1) HK2.out
            case measure => simp [intOf]; omega
      · have h2z : ¬ (c2 : Int) < (hi : Int) := by omega
        go_wp2
        go_quiet (first | (go_at_call 72; refine Calls.quiet_of_same (less_any _ _ _)))
        go_wp2
        have HKK : Hid (kid hi F r dk = c1) := Lib.hid (by
          have hx := HX.out
          rw [HKID.out, if_neg (by rw [decide_eq_false (show ¬ 2 * r + 1 + 1 < hi by omega)]; simp)]
          omega)
        have hxr : x1 = F + c1 := by have := HX.out; omega
        have hrc : r < c1 := by have := HX.out; omega
        have hch : c1 < hi := by omega
        have hne : x0 ≠ x1 := by have := HX.out; omega
        have HXX := Lib.hid (And.intro hxr (And.intro hrc hch))
        clear hxr
        have hcw2 : ∀ t, t < d.size → (wr.drewN nq).cell? ⟨g, t, none⟩ = some (.int .u64 (G t)) := hcw
        have hfw2 : ∀ t, t < d.size → (wr.drewN nq).frozen? ⟨g, t, none⟩ = false := hfw
        have HK2 := Lib.hid (HK.out.drewN nq)
        clear hcw hfw HK
        generalize wr.drewN nq = w2 at *
        go_quiet (first | (go_at_call 72; refine Calls.quiet_of_same (less_any _ _ _)))
        go_wp2
        · have hl : ltInt (G x0) (G x1) = false := by have h : (!ltInt (G x0) (G x1)) = true := (by assumption); simpa using h
          exact bodyPost_ret (results_none rfl _ _ _) rfl ⟨rfl, fin.out c1 x1 HKK.out HXX.out.1 (by rw [← HG.out, ← HG.out]; exact hl) _ (HK2.out.drewN _)⟩
        · have hl : ltInt (G x0) (G x1) = true := by have h : (!ltInt (G x0) (G x1)) = false := (by assumption); simpa using h
          have HL : Hid (ltInt dk[x0]! dk[x1]! = true) := Lib.hid (by rw [← HG.out, ← HG.out]; exact hl)
          clear fin
          go_region
          all_goals go_wp2
          go_roundw
          case rel => exact nxt.out c1 x1 HKK.out HXX.out.1 (by omega) (by omega) HL.out _ (nq + 1) HK2.out
          case measure => simp [intOf]; omega
end Go.Proofs.YtbaeillecojilaaDoor.sq
