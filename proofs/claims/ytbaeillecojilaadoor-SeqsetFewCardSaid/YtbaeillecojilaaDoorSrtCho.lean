/-
  The library's choice of a pivot: some place of the part, some hint; the row stays.
-/
import Derived.Test.YtbaeillecojilaaDoorSrtPiv
namespace Go.Proofs.YtbaeillecojilaaDoor.sq
open Go.RowKit
open Go.Sort (swp PermIn SortedIn ltInt SWO)

theorem One.start (w : World) (T : TypeId) : One (w.alloc (.cells #[.int .i64 0] T)) w.heap.size (w.alloc (.cells #[.int .i64 0] T)) :=
  ⟨World.grownBy.refl _ _, ⟨0, by rw [World.cell?_alloc_new]; rfl⟩, World.frozen?_alloc_at _ _ _ _ rfl⟩
theorem One.back {w w' : World} {g : Nat} {d : Array Int} {T : TypeId} (h : One (w.alloc (.cells #[.int .i64 0] T)) w.heap.size w') (hr : RowI w g d) (hg : g < w.heap.size) : St w g d w' := by
  have hr0 : RowI (w.alloc (.cells #[.int .i64 0] T)) g d := fun t ht => by
    have hb := (World.grownBy_alloc w (.cells #[.int .i64 0] T) none).block g hg (by simp)
    exact ⟨(World.cell?_of_block (a := ⟨g, t, none⟩) hb).trans (hr t ht).1, (World.frozen?_of_block (a := ⟨g, t, none⟩) hb).trans (hr t ht).2⟩
  have h1 := (World.grownBy_alloc w (.cells #[.int .i64 0] T) (some g)).andThen h.grown (fun j hj => by cases hj; exact Or.inl (Nat.le_refl _))
  exact ⟨h1, h.row hr0 (by simp; omega) (by omega), by have := h1.size; omega⟩

set_option maxHeartbeats 2000000 in
set_option maxRecDepth 100000 in
theorem choose_any (g cap a b : Nat) (d : Array Int) (w : World) (hR : RowI w g d) (hg : g < w.heap.size) (hab : a + 12 < b) (hb : b ≤ d.size) (hsz : d.size < 4611686018427387904) :
    Calls Tryd.prog 69 #[.slice (some ⟨g, 0, none⟩) d.size cap, .int .i64 a, .int .i64 b] w fun e w' =>
      (∃ p h : Nat, e = .returned (.tuple #[.int .i64 p, .int .i64 h]) ∧ (a ≤ p ∧ p < b) ∧ h ≤ 2) ∧ St w g d w' := by
  have hr0 : RowI (w.alloc (.cells #[.int .i64 0] 3)) g d := fun t ht => by
    have hbk := (World.grownBy_alloc w (.cells #[.int .i64 0] 3) none).block g hg (by simp)
    exact ⟨(World.cell?_of_block (a := ⟨g, t, none⟩) hbk).trans (hR t ht).1, (World.frozen?_of_block (a := ⟨g, t, none⟩) hbk).trans (hR t ht).2⟩
  have hg0 : g < (w.alloc (.cells #[.int .i64 0] 3)).heap.size := by simp; omega
  have hne : g ≠ w.heap.size := by omega
  have HO0 := Lib.hid (One.start w 3)
  have HBK : Hid (∀ W, One (w.alloc (.cells #[.int .i64 0] 3)) w.heap.size W → St w g d W) := Lib.hid (fun W h => h.back hR hg)
  have HM : Hid (∀ (x y z : Nat) W, One (w.alloc (.cells #[.int .i64 0] 3)) w.heap.size W → (a ≤ x ∧ x < b) → (a ≤ y ∧ y < b) → (a ≤ z ∧ z < b) → Calls Tryd.prog 87 #[.slice (some ⟨g, 0, none⟩) d.size cap, .int .i64 x, .int .i64 y, .int .i64 z, .pointer (some ⟨w.heap.size, 0, none⟩)] W fun e w' =>
      (∃ m : Nat, e = .returned (.int .i64 m) ∧ (a ≤ m ∧ m < b)) ∧ One (w.alloc (.cells #[.int .i64 0] 3)) w.heap.size w') := fun x y z W hW hx hy hz =>
    (median_any g cap w.heap.size a b x y z d W (hW.row hr0 hg0 hne) (Nat.lt_of_lt_of_le hg0 hW.grown.size) hne ⟨World.grownBy.refl _ _, hW.cell, hW.fz⟩ hx hy hz hb).mono fun e w' ⟨h1, h2⟩ => ⟨h1, hW.then h2⟩
  have HA : Hid (∀ (x : Nat) W, One (w.alloc (.cells #[.int .i64 0] 3)) w.heap.size W → (a + 1 ≤ x ∧ x + 1 < b) → Calls Tryd.prog 86 #[.slice (some ⟨g, 0, none⟩) d.size cap, .int .i64 x, .pointer (some ⟨w.heap.size, 0, none⟩)] W fun e w' =>
      (∃ m : Nat, e = .returned (.int .i64 m) ∧ (a ≤ m ∧ m < b)) ∧ One (w.alloc (.cells #[.int .i64 0] 3)) w.heap.size w') := fun x W hW hx =>
    (adjacent_any g cap w.heap.size a b x d W (hW.row hr0 hg0 hne) (Nat.lt_of_lt_of_le hg0 hW.grown.size) hne ⟨World.grownBy.refl _ _, hW.cell, hW.fz⟩ hx hb hsz).mono fun e w' ⟨h1, h2⟩ => ⟨h1, hW.then h2⟩
  obtain ⟨l, hl⟩ : ∃ l, b - a = l := ⟨_, rfl⟩
  have hw1 : IntKind.i64.wrap ((b : Int) - (a : Int)) = (l : Int) := wrapi (by omega) (by omega)
  obtain ⟨q, hq⟩ : ∃ q, l / 4 = q := ⟨_, rfl⟩
  have hw2 : IntKind.i64.wrap ((l : Int) / 4) = (q : Int) := wrapi (by omega) (by omega)
  have hwq : IntKind.i64.wrap (q : Int) = (q : Int) := wrapi rfl (by omega)
  obtain ⟨q2, hq2⟩ : ∃ q2, q * 2 = q2 := ⟨_, rfl⟩
  have hw3 : IntKind.i64.wrap ((q : Int) * 2) = (q2 : Int) := wrapi (by omega) (by omega)
  obtain ⟨q3, hq3⟩ : ∃ q3, q * 3 = q3 := ⟨_, rfl⟩
  have hw4 : IntKind.i64.wrap ((q : Int) * 3) = (q3 : Int) := wrapi (by omega) (by omega)
  obtain ⟨i, hi⟩ : ∃ i, a + q = i := ⟨_, rfl⟩
  have hw5 : IntKind.i64.wrap ((a : Int) + (q : Int)) = (i : Int) := wrapi (by omega) (by omega)
  obtain ⟨j, hj⟩ : ∃ j, a + q2 = j := ⟨_, rfl⟩
  have hw6 : IntKind.i64.wrap ((a : Int) + (q2 : Int)) = (j : Int) := wrapi (by omega) (by omega)
  obtain ⟨k, hk⟩ : ∃ k, a + q3 = k := ⟨_, rfl⟩
  have hw7 : IntKind.i64.wrap ((a : Int) + (q3 : Int)) = (k : Int) := wrapi (by omega) (by omega)
  have h8 : (8 : Int) ≤ (l : Int) := by omega
  have HI : Hid ((a + 1 ≤ i ∧ i + 1 < b) ∧ (a + 1 ≤ j ∧ j + 1 < b) ∧ (a + 1 ≤ k ∧ k + 1 < b)) := Lib.hid (by omega)
  have HI2 : Hid ((a ≤ i ∧ i < b) ∧ (a ≤ j ∧ j < b) ∧ (a ≤ k ∧ k < b)) := Lib.hid (by omega)
  have hsplit : (l : Int) < 50 ∨ ¬ (l : Int) < 50 := by omega
  clear hR hr0 hg0 hne hl hq hq2 hq3 hi hj hk
  go_enter Tryd.func69, Tryd.ntmps69
  rcases hsplit with hs | hs
  · go_wp2_with fail
    refine (HM.out i j k _ HO0.out HI2.out.1 HI2.out.2.1 HI2.out.2.2).mono ?_
    rintro e w1 ⟨⟨m1, rfl, hm1⟩, k1⟩
    have KK := Lib.hid k1
    have HST := Lib.hid (HBK.out _ k1)
    obtain ⟨s, hs0⟩ := k1.cell
    clear k1 HM HA HBK HI HI2 hw1 hw2 hw3 hw4 hw5 hw6 hw7 hwq HO0
    by_cases z0 : s = 0
    · have zq : (s == 0) = true := by rw [z0]; rfl
      clear z0
      go_wp2_with fail
      exact bodyPost_ret (results_tmp2 rfl _ _ _) rfl ⟨⟨m1, 1, rfl, hm1, by decide⟩, HST.out⟩
    · have zq : (s == 0) = false := by rw [beq_eq_false_iff_ne]; exact z0
      by_cases z1 : s = 12
      · have zr : (s == 12) = true := by rw [z1]; rfl
        clear z0 z1
        go_wp2_with fail
        exact bodyPost_ret (results_tmp2 rfl _ _ _) rfl ⟨⟨m1, 2, rfl, hm1, by decide⟩, HST.out⟩
      · have zr : (s == 12) = false := by rw [beq_eq_false_iff_ne]; exact z1
        clear z0 z1
        go_wp2_with fail
        exact bodyPost_ret (results_tmp2 rfl _ _ _) rfl ⟨⟨m1, 0, rfl, hm1, by decide⟩, HST.out⟩
  · go_wp2_with fail
    refine (HA.out i _ HO0.out HI.out.1).mono ?_
    rintro e w1 ⟨⟨m1, rfl, hm1⟩, k1⟩
    have K1 := Lib.hid k1
    clear k1 HO0
    go_wp2_with fail
    refine (HA.out j _ K1.out HI.out.2.1).mono ?_
    rintro e w2 ⟨⟨m2, rfl, hm2⟩, k2⟩
    have K2 := Lib.hid k2
    clear k2 K1
    go_wp2_with fail
    refine (HA.out k _ K2.out HI.out.2.2).mono ?_
    rintro e w3 ⟨⟨m3, rfl, hm3⟩, k3⟩
    have K3 := Lib.hid k3
    clear k3 K2
    go_wp2_with fail
    refine (HM.out m1 m2 m3 _ K3.out hm1 hm2 hm3).mono ?_
    rintro e w4 ⟨⟨m4, rfl, hm4⟩, k4⟩
    have KK := Lib.hid k4
    have HST := Lib.hid (HBK.out _ k4)
    obtain ⟨s, hs0⟩ := k4.cell
    clear k4 HM HA HBK HI HI2 hw1 hw2 hw3 hw4 hw5 hw6 hw7 hwq K3
    by_cases z0 : s = 0
    · have zq : (s == 0) = true := by rw [z0]; rfl
      clear z0
      go_wp2_with fail
      exact bodyPost_ret (results_tmp2 rfl _ _ _) rfl ⟨⟨m4, 1, rfl, hm4, by decide⟩, HST.out⟩
    · have zq : (s == 0) = false := by rw [beq_eq_false_iff_ne]; exact z0
      by_cases z1 : s = 12
      · have zr : (s == 12) = true := by rw [z1]; rfl
        clear z0 z1
        go_wp2_with fail
        exact bodyPost_ret (results_tmp2 rfl _ _ _) rfl ⟨⟨m4, 2, rfl, hm4, by decide⟩, HST.out⟩
      · have zr : (s == 12) = false := by rw [beq_eq_false_iff_ne]; exact z1
        clear z0 z1
        go_wp2_with fail
        exact bodyPost_ret (results_tmp2 rfl _ _ _) rfl ⟨⟨m4, 0, rfl, hm4, by decide⟩, HST.out⟩
end Go.Proofs.YtbaeillecojilaaDoor.sq
