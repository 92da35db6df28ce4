/-
  The library's sort sorts a row of at most twelve numbers; a row as a list.
-/
import Derived.Test.YtbaeillecojilaaDoorSrtIns
import Derived.Test.YtbaeillecojilaaDoorShelf
import Derived.Test.YtbaeillecojilaaDoorSeqRiseP
namespace Go.Proofs.YtbaeillecojilaaDoor.sq
open Go.RowKit
open Go.Sort (swp PermIn SortedIn ltInt SWO Ins)

set_option maxHeartbeats 2000000 in
set_option maxRecDepth 100000 in
theorem pdq_small (g cap : Nat) (d : Array Int) (lim : Int) (w : World) (hR : RowI w g d) (hg : g < w.heap.size) (h12 : d.size ≤ 12) :
    Calls Tryd.prog 55 #[.slice (some ⟨g, 0, none⟩) d.size cap, .int .i64 0, .int .i64 d.size, .int .i64 lim] w fun e w' =>
      e = .returned (.tuple #[]) ∧ ∃ d', PermIn 0 d.size d d' ∧ SortedIn ltInt 0 d.size d' ∧ St w g d' w' := by
  have hi := insertion_any g cap 0 d.size d w hR hg (Nat.zero_le _) (Nat.le_refl _) (by omega)
  change Calls Tryd.prog 66 #[.slice (some ⟨g, 0, none⟩) d.size cap, .int .i64 0, .int .i64 d.size] w _ at hi
  have HI := Lib.hid hi
  have h12z : (d.size : Int) ≤ 12 := by omega
  clear hi hR
  go_enter Tryd.func55, Tryd.ntmps55
  go_wp2
  refine wp_loop_rounds 1 ?_
  rw [rounds_succ]
  go_wp2_with fail
  refine HI.out.mono ?_
  rintro e w1 ⟨rfl, hd⟩
  have HD := Lib.hid hd
  clear HI hd
  go_wp2
  exact bodyPost_ret (results_none rfl _ _ _) rfl ⟨rfl, HD.out⟩

/-- A contract of pdqsortOrdered over whole rows of at most N numbers. -/
def PdqAt (N : Nat) : Prop := ∀ (g cap : Nat) (d : Array Int) (w : World), RowI w g d → g < w.heap.size → d.size ≤ N →
  Calls Tryd.prog 55 #[.slice (some ⟨g, 0, none⟩) d.size cap, .int .i64 0, .int .i64 d.size, .int .i64 (Lib.bitLen d.size : Nat)] w fun e w' =>
    e = .returned (.tuple #[]) ∧ ∃ d', PermIn 0 d.size d d' ∧ SortedIn ltInt 0 d.size d' ∧ St w g d' w'
theorem pdq_at12 : PdqAt 12 := fun g cap d w hR hg h => pdq_small g cap d _ w hR hg h

set_option maxRecDepth 100000 in
theorem sort_row (N : Nat) (hN : N ≤ 1000000) (hP : PdqAt N) (g cap : Nat) (d : Array Int) (w : World) (hR : RowI w g d) (hg : g < w.heap.size) (hd : d.size ≤ N) :
    Calls Tryd.prog 47 #[.slice (some ⟨g, 0, none⟩) d.size cap] w fun e w' =>
      e = .returned (.tuple #[]) ∧ ∃ d', PermIn 0 d.size d d' ∧ SortedIn ltInt 0 d.size d' ∧ St w g d' w' := by
  have HP := Lib.hid (hP g cap d w hR hg hd)
  have hL := fun W => Tryd.bits_Len (d.size : Int) W (by omega) (by omega)
  rw [Int.toNat_natCast] at hL
  have hs : d.size ≤ 1000000 := by omega
  clear hP hR
  go_enter Tryd.func47, Tryd.ntmps47
  go_wp2_with fail
  refine (hL _).mono ?_
  rintro e w1 ⟨rfl, rfl⟩
  clear hL
  go_wp2_with fail
  refine HP.out.mono ?_
  rintro e w2 ⟨rfl, hx⟩
  have HX := Lib.hid hx
  clear HP hx
  go_wp2
  go_end0
  exact ⟨rfl, HX.out⟩

/-- The row of none. -/
theorem insertion_none (w : World) : Calls Tryd.prog 66 #[.slice none 0 0, .int .i64 0, .int .i64 0] w fun e w' => e = .returned (.tuple #[]) ∧ w' = w := by
  go_enter Tryd.func66, Tryd.ntmps66
  go_wp2
  refine wp_loop_rounds 1 ?_
  rw [rounds_succ]
  go_wp2
  go_end0
  exact ⟨rfl, rfl⟩
set_option maxRecDepth 100000 in
theorem pdq_none (lim : Int) (w : World) : Calls Tryd.prog 55 #[.slice none 0 0, .int .i64 0, .int .i64 0, .int .i64 lim] w fun e w' => e = .returned (.tuple #[]) ∧ w' = w := by
  go_enter Tryd.func55, Tryd.ntmps55
  go_wp2
  refine wp_loop_rounds 1 ?_
  rw [rounds_succ]
  go_wp2_with (go_at_call 66; refine (insertion_none _).mono ?_; rintro e w1 ⟨rfl, rfl⟩)
  exact bodyPost_ret (results_none rfl _ _ _) rfl ⟨rfl, rfl⟩
set_option maxRecDepth 100000 in
theorem sort_none (w : World) : Calls Tryd.prog 47 #[.slice none 0 0] w fun e w' => e = .returned (.tuple #[]) ∧ Below w.heap.size w w' := by
  have hL := fun W => Tryd.bits_Len 0 W (by omega) (by omega)
  go_enter Tryd.func47, Tryd.ntmps47
  go_wp2_with fail
  refine (hL _).mono ?_
  rintro e w1 ⟨rfl, rfl⟩
  clear hL
  go_wp2_with fail
  refine (pdq_none _ _).mono ?_
  rintro e w2 ⟨rfl, rfl⟩
  go_wp2
  go_end0
  exact ⟨rfl, Below.refl _ _⟩

/-- A list of numbers as a row. -/
def rowOf (l : List Nat) : Array Int := (l.map fun x : Nat => (x : Int)).toArray
theorem rowOf_size (l : List Nat) : (rowOf l).size = l.length := by simp [rowOf]
theorem rowOf_get (l : List Nat) (j : Nat) (h : j < l.length) : (rowOf l)[j]! = (l[j] : Nat) := by
  rw [getElem!_pos _ j (by rw [rowOf_size]; exact h)]
  simp [rowOf]
theorem sort_at (N : Nat) (hN : N ≤ 1000000) (hP : PdqAt N) : SortAt N := by
  refine ⟨fun g cap d w hd hg hc => ?_, sort_none⟩
  have h := sort_row N hN hP g cap (rowOf d) w (fun t ht => by
    rw [rowOf_size] at ht
    rw [rowOf_get d t ht]
    exact hc t ht) hg (by rw [rowOf_size]; exact hd)
  rw [rowOf_size] at h
  refine h.mono ?_
  rintro e w' ⟨rfl, d', hp, hs, hst⟩
  obtain ⟨p1, _, p3⟩ := hp
  rw [rowOf_size] at p1
  have e1 : (d'.extract 0 d.length).toList = d'.toList := by rw [← p1]; simp
  have e2 : ((rowOf d).extract 0 d.length).toList = d.map fun x : Nat => (x : Int) := by
    rw [← rowOf_size d]
    simp [rowOf]
    exact List.take_of_length_le (by simp)
  rw [e1, e2] at p3
  have hnat : ∀ x ∈ d'.toList, ((x.toNat : Nat) : Int) = x := fun x hx => by
    obtain ⟨y, _, rfl⟩ := List.mem_map.1 (p3.mem_iff.1 hx)
    simp
  have hL : (d'.toList.map Int.toNat).length = d.length := by rw [List.length_map, Array.length_toList, p1]
  have hget : ∀ j (h : j < (d'.toList.map Int.toNat).length), (((d'.toList.map Int.toNat)[j] : Nat) : Int) = d'[j]! := fun j h => by
    have hj : j < d'.size := by rw [List.length_map, Array.length_toList] at h; exact h
    rw [List.getElem_map, hnat _ (List.getElem_mem _), getElem!_pos d' j hj]
    simp
  refine ⟨rfl, ⟨d'.toList.map Int.toNat, ?_, ?_, fun j hj => ?_⟩, ⟨hst.grown.os, hst.grown.tape, hst.grown.output, by have := hst.grown.size; omega, fun k hk => hst.grown.block k (by omega) (by simp; omega)⟩, hst.grown.size⟩
  · have := p3.map Int.toNat
    rw [List.map_map] at this
    rw [show (Int.toNat ∘ fun x : Nat => (x : Int)) = id by funext x; simp, List.map_id] at this
    exact this
  · rw [List.pairwise_iff_getElem]
    intro i j hi hj hij
    have hi2 := hget i hi
    have hj2 := hget j hj
    have := hs i j (Nat.zero_le _) hij (by omega)
    unfold Go.Sort.ltInt at this
    rw [decide_eq_false_iff_not] at this
    omega
  · rw [hget j hj]
    exact (hst.row j (by rw [p1]; omega)).1
theorem sort_at12 : SortAt 12 := sort_at 12 (by decide) pdq_at12
end Go.Proofs.YtbaeillecojilaaDoor.sq
