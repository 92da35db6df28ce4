/-
  The library's heap sort sorts a part of a row.
-/
import Derived.Test.YtbaeillecojilaaDoorSrtSift
namespace Go.Proofs.YtbaeillecojilaaDoor.sq
open Go.RowKit
open Go.Sort (swp PermIn SortedIn ltInt SWO siftDown heapBuild heapPop)

theorem sift_size (hi F : Nat) : ∀ (n r : Nat) (d : Array Int), hi - r ≤ n → (siftDown ltInt hi F r d).size = d.size
  | n, r, d, h => by
    by_cases hs : hi ≤ 2 * r + 1
    · rw [sift_stop hi F r d hs]
    · rw [sift_step hi F r d hs]
      split
      · have hk : r < kid hi F r d := by unfold kid; split <;> omega
        match n with
        | 0 => omega
        | n + 1 => rw [sift_size hi F n _ _ (by omega), Go.Sort.size_swp]
      · rfl
theorem build_size (hi F : Nat) : ∀ (k : Nat) (d : Array Int), (heapBuild ltInt hi F k d).size = d.size
  | 0, d => rfl
  | k + 1, d => by rw [heapBuild, build_size hi F k, sift_size hi F _ _ _ (Nat.le_refl _)]

set_option maxHeartbeats 4000000 in
set_option maxRecDepth 100000 in
theorem heap_any (g cap a b : Nat) (d : Array Int) (w : World) (hR : RowI w g d) (hg : g < w.heap.size) (hab : a < b) (hb : b ≤ d.size) (hsz : d.size < 4611686018427387904) :
    Calls Tryd.prog 67 #[.slice (some ⟨g, 0, none⟩) d.size cap, .int .i64 a, .int .i64 b] w fun e w' =>
      e = .returned (.tuple #[]) ∧ ∃ d', PermIn a b d d' ∧ SortedIn ltInt a b d' ∧ St w g d' w' := by
  have HS := Lib.hid (St.start hR hg)
  have hfin : Hid (∀ w', St w g (heapPop ltInt a (b - a) (heapBuild ltInt (b - a) a ((b - a - 1) / 2 + 1) d)) w' → ∃ d', PermIn a b d d' ∧ SortedIn ltInt a b d' ∧ St w g d' w') := fun w' h => by
    obtain ⟨h1, h2⟩ := Go.Sort.heapSort_holds Go.Sort.swo_ltInt d a b (by omega) hb
    exact ⟨_, h1, h2, h⟩
  obtain ⟨n, hn⟩ : ∃ n, b - a = n := ⟨_, rfl⟩
  rw [hn] at hfin
  have hw1 : IntKind.i64.wrap ((b : Int) - (a : Int)) = (n : Int) := wrapi (by omega) (by omega)
  have hw2 : IntKind.i64.wrap ((n : Int) - 1) = ((n - 1 : Nat) : Int) := wrapi (by omega) (by omega)
  obtain ⟨m, hm⟩ : ∃ m, n - 1 = m := ⟨_, rfl⟩
  rw [hm] at hw2 hfin
  obtain ⟨h, hh⟩ : ∃ h, m / 2 = h := ⟨_, rfl⟩
  rw [hh] at hfin
  have hq : IntKind.i64.wrap ((m : Int) / 2) = (h : Int) := wrapi (by omega) (by omega)
  have hhm : h ≤ m := by omega
  have hn1 : 1 ≤ n := by omega
  have hnd : a + n ≤ d.size := by omega
  have hmn : m + 1 = n := by omega
  have hmn2 : m < n := by omega
  have HMN := Lib.hid hmn
  clear hR hn hm hab hb hmn hh
  go_enter Tryd.func67, Tryd.ntmps67
  go_wp2
  clear hq hw1 hw2
  go_loopw [9] (fun vi wr => ∃ (k : Nat) (dk : Array Int), vi = .int .i64 ((k : Int) - 1) ∧ k ≤ h + 1 ∧ dk.size = d.size ∧ Hid (heapBuild ltInt n a k dk = heapBuild ltInt n a (h + 1) d) ∧ Hid (St w g dk wr)) (fun vi _ => (intOf vi + 1).toNat)
  case atStart => exact ⟨h + 1, d, by congr 1; omega, by omega, rfl, Lib.hid rfl, HS⟩
  case round =>
    obtain ⟨k, dk, rfl, hk, hsk, HB, HK⟩ := hrel
    by_cases hk0 : k = 0
    · subst hk0
      have HD : Hid (dk = heapBuild ltInt n a (h + 1) d) := HB.out
      rw [show ((0 : Nat) : Int) - 1 = -1 from rfl]
      have hw2 : IntKind.i64.wrap ((n : Int) - 1) = (m : Int) := wrapi (by have := HMN.out; omega) (by omega)
      clear HB
      go_wp2
      rename World => wo
      clear hw2
      go_loopw [10] (fun vi wr2 => ∃ (k : Nat) (dj : Array Int), vi = .int .i64 ((k : Int) - 1) ∧ k ≤ n ∧ dj.size = d.size ∧ Hid (heapPop ltInt a k dj = heapPop ltInt a n (heapBuild ltInt n a (h + 1) d)) ∧ Hid (St w g dj wr2)) (fun vi _ => (intOf vi + 1).toNat)
      case atStart => exact ⟨n, dk, by have := HMN.out; congr 1; omega, Nat.le_refl _, hsk, Lib.hid (by rw [← HD.out]), HK⟩
      case round =>
        obtain ⟨k, dj, rfl, hkn, hsj, HPP, HKj⟩ := hrel
        by_cases hk0 : k = 0
        · subst hk0
          have HF := Lib.hid (hfin.out wr (by
            have h1 := HPP.out
            rw [heapPop] at h1
            rw [← h1]; exact HKj.out))
          go_wp2
          go_end0
          exact ⟨rfl, HF.out⟩
        · obtain ⟨k', rfl⟩ : ∃ k', k = k' + 1 := ⟨k - 1, by omega⟩
          have hz : (0 : Int) ≤ ((k' + 1 : Nat) : Int) - 1 := by omega
          have hv : ((k' + 1 : Nat) : Int) - 1 = (k' : Int) := by omega
          have hwk : IntKind.i64.wrap ((k' : Int) - 1) = (k' : Int) - 1 := IntWalk.i64_in _ (by omega)
          rw [hv] at hz ⊢
          obtain ⟨x, hx⟩ : ∃ x, a + k' = x := ⟨_, rfl⟩
          have hw : IntKind.i64.wrap ((a : Int) + (k' : Int)) = (x : Int) := wrapi (by omega) (by omega)
          have had : a < d.size := by omega
          have hxd : x < d.size := by omega
          have hadz : (a : Int) < (d.size : Int) := by omega
          have hxdz : (x : Int) < (d.size : Int) := by omega
          have hstep : Hid (heapPop ltInt a k' (siftDown ltInt k' a 0 (swp dj a x)) = heapPop ltInt a n (heapBuild ltInt n a (h + 1) d)) := by
            have h1 := HPP.out
            rw [heapPop, hx] at h1
            exact Lib.hid h1
          obtain ⟨G, hG, hcw, hfw⟩ := HKj.out.fam
          have hseen := fun v => HKj.out.seen (a := a) (q := x) (by omega) hG v
          rw [hsj] at hcw hfw
          have HG := Lib.hid hG
          have HX := Lib.hid hx
          have hsw : (swp dj a x).size = d.size := by rw [Go.Sort.size_swp]; exact hsj
          have hcall : Hid (∀ W, St w g (swp dj a x) W → Calls Tryd.prog 83 #[.slice (some ⟨g, 0, none⟩) d.size cap, .int .i64 0, .int .i64 k', .int .i64 a] W fun e w' => e = .returned (.tuple #[]) ∧ St w g (siftDown ltInt k' a 0 (swp dj a x)) w') := fun W hW => by
            have h1 := sift_any g cap 0 k' a (swp dj a x) W hW.row hW.lt (Nat.zero_le _) (by rw [hsw]; omega) (by rw [hsw]; exact hsz)
            rw [hsw] at h1
            exact h1.mono fun e w' ⟨e1, e2⟩ => ⟨e1, hW.then e2⟩
          clear hG hx hz hv
          go_wp2
          go_region
          all_goals go_wp2_with fail
          have HK2 : Hid (St w g (swp dj a x) _) := Lib.hid (by
            have := HKj.out.swap 1 (i := a) (j := x) (by omega) (by omega)
            rw [← HG.out, ← HG.out] at this
            exact this)
          refine (hcall.out _ HK2.out).mono ?_
          rintro e w1 ⟨rfl, hst⟩
          have HK3 := Lib.hid hst
          have hs1 : (siftDown ltInt k' a 0 (swp dj a x)).size = d.size := by rw [sift_size k' a _ _ _ (Nat.le_refl _)]; exact hsw
          clear hst hcall HK2 hcw hfw hseen
          go_wp2
          go_roundw
          case rel => exact ⟨k', siftDown ltInt k' a 0 (swp dj a x), rfl, by omega, hs1, hstep, HK3⟩
          case measure => first | (simp [intOf]; done) | (simp [intOf]; omega)
    · obtain ⟨k', rfl⟩ : ∃ k', k = k' + 1 := ⟨k - 1, by omega⟩
      have hv : ((k' + 1 : Nat) : Int) - 1 = (k' : Int) := by omega
      have hz : (0 : Int) ≤ (k' : Int) := by omega
      have hwk : IntKind.i64.wrap ((k' : Int) - 1) = (k' : Int) - 1 := IntWalk.i64_in _ (by omega)
      rw [hv]
      have hstep : Hid (heapBuild ltInt n a k' (siftDown ltInt n a k' dk) = heapBuild ltInt n a (h + 1) d) := by
        have h1 := HB.out
        rw [heapBuild] at h1
        exact Lib.hid h1
      have hcall := sift_any g cap k' n a dk wr HK.out.row HK.out.lt (by omega) (by omega) (by rw [hsk]; exact hsz)
      rw [hsk] at hcall
      have HC := Lib.hid hcall
      clear hcall HB hv
      go_wp2_with fail
      refine HC.out.mono ?_
      rintro e w1 ⟨rfl, hst⟩
      have HK1 := Lib.hid (HK.out.then hst)
      have hs1 : (siftDown ltInt n a k' dk).size = d.size := by rw [sift_size n a _ _ _ (Nat.le_refl _)]; exact hsk
      clear hst HC
      go_wp2
      go_roundw
      case rel => exact ⟨k', siftDown ltInt n a k' dk, rfl, by omega, hs1, hstep, HK1⟩
      case measure => first | (simp [intOf]; done) | (simp [intOf]; omega)
end Go.Proofs.YtbaeillecojilaaDoor.sq
