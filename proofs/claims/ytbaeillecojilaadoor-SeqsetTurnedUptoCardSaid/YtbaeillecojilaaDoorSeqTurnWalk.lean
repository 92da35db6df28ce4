/-
  The walk of SeqsetTurned.
-/
import Derived.Test.YtbaeillecojilaaDoorSeqCopy
import Derived.Deep.RegionHeld3
import Derived.Deep.AppendLies
namespace Go.Proofs.YtbaeillecojilaaDoor.sq
open Go.RowKit

def turned (l : List (Nat × Nat)) (k : Nat) : List (Nat × Nat) := (l.drop k).reverse.map (fun r => (r.2, r.1))
theorem turned_all (l : List (Nat × Nat)) : turned l l.length = [] := by simp [turned]
theorem turned_none (l : List (Nat × Nat)) : turned l 0 = l.reverse.map (fun r => (r.2, r.1)) := rfl
theorem turned_more (l : List (Nat × Nat)) (j : Nat) (h : j < l.length) : turned l j = turned l (j + 1) ++ [(l[j].2, l[j].1)] := by
  unfold turned
  rw [List.drop_eq_getElem_cons h, List.reverse_cons, List.map_append]
  rfl
theorem turned_length (l : List (Nat × Nat)) (k : Nat) : (turned l k).length = l.length - k := by simp [turned]

set_option maxHeartbeats 1000000 in
set_option maxRecDepth 100000 in
theorem seqsetturned_any (a : Option Addr) (cap : Nat) (l : List (Nat × Nat)) (most n : Nat) (hl : l.length ≤ 8796093022000) (w : World) (hr : RowR w a l) (hL : Laid w) :
    Calls Tryd.prog 9 #[.slice a l.length cap, .int .u64 (most : Nat), .int .u64 (n : Nat)] w fun e w' => e = .returned (.bool true) ∧ Below w.heap.size w w' := by
  obtain ⟨i0, hi, hz0, hz1, hz2⟩ := info_parts infoR
  have HR := Lib.hid hr
  have HLD := Lib.hid hL
  clear hr hL
  go_enter Tryd.func9, Tryd.ntmps9
  go_wp2
  go_loopw [7, 8] (fun v i wr => ∃ k m : Nat, i = .int .i64 ((k : Int) - 1) ∧ m + k = l.length ∧ Hid (wr.ownsRow w.heap.size 41 2 v m (cellsR (turned l k))) ∧ Below w.heap.size w wr)
    (fun _ i _ => (intOf i + 1).toNat)
  case atStart => exact ⟨l.length, 0, rfl, by omega, Lib.hid (by rw [turned_all]; exact World.ownsRow_nil _ _ _ _), Below.refl _ _⟩
  case round =>
    obtain ⟨k, m, hik, hkm, HO, hB⟩ := hrel
    have hBs := hB.size
    cases k with
    | succ j =>
      have hjl : j < l.length := by omega
      have hik2 := hik.trans (show Value.int .i64 (((j + 1 : Nat) : Int) - 1) = .int .i64 (j : Int) by congr 1; omega)
      clear hik
      subst hik2
      rcases HR.out with h0 | ⟨b, off, rfl, hb0, hc⟩
      · rw [h0] at hjl; simp at hjl
      obtain ⟨c1, c2⟩ := hc j hjl
      replace c1 := (hB.cell (p := ⟨b, _, none⟩) hb0).trans c1
      replace c2 := (hB.cell (p := ⟨b, _, none⟩) hb0).trans c2
      have hb : b < wr.heap.size := Nat.lt_of_lt_of_le hb0 hB.size
      have hT := turned_more l j hjl
      obtain ⟨⟨x, y⟩, hxy⟩ : ∃ r, l[j]'hjl = r := ⟨_, rfl⟩
      rw [hxy] at c1 c2 hT
      simp only at c1 c2 hT
      have HT := Lib.hid hT
      have hji : (j : Int) < (l.length : Int) := by omega
      clear hT hxy hc
      generalize turned l (j + 1) = o at *
      have hmm : m ≤ 8796093022000 := by omega
      have hOd : Hid (wr.drew.ownsRow w.heap.size 41 2 u7 m (cellsR o)) := HO
      have HN2 := Lib.hid (fun W : World => news2 W (y : Int) (x : Int) 41)
      have HONE := Lib.hid (ones2 (y : Int) (x : Int))
      have HAL : Hid (∀ ob, (wr.drew.alloc ob).cell? ⟨b, off + j * 2, none⟩ = some (.int .u64 (x : Nat)) ∧ (wr.drew.alloc ob).cell? ⟨b, off + j * 2 + 1, none⟩ = some (.int .u64 (y : Nat))) := fun ob =>
        have k := (Below.refl w.heap.size wr.drew).alloc hBs ob
        ⟨(World.cell?_alloc_past _ _ _ hb).trans c1, (World.cell?_alloc_past _ _ _ hb).trans c2⟩
      go_upto_region 5 with (fail)
      go_region_held3 (fun w' => w'.cell? ⟨b, off + j * 2, none⟩ = some (.int .u64 (x : Nat)) ∧ w'.cell? ⟨b, off + j * 2 + 1, none⟩ = some (.int .u64 (y : Nat)))
        (first | exact ⟨c1, c2⟩ | exact HAL.out _ | exact ⟨(hbw.cell (p := ⟨b, _, none⟩) hb0).trans c1, (hbw.cell (p := ⟨b, _, none⟩) hb0).trans c2⟩ | go_keep)
        ((refine step_append_lies _ rfl (.tmp 16) (.tmp 28) 22 rfl w.heap.size 41 i0 (.agg #[.int .u64 0, .int .u64 0]) 2 16 Tryd.underlying22 hi hz0 hz1 hz2 rfl (by decide) u7 m (cellsR o) (by simp [Act.eval]) (hOd.out.alloc _) ⟨wr.drew.heap.size, 0, none⟩ 1 1 [.int .u64 (y : Int), .int .u64 (x : Int)] (by simp [Act.eval]) rfl (HN2.out _) HONE.out (by decide) (by unfold maxLen; omega) (by omega) (by simp; omega) _ rfl ?_; intro g2 cap2 w' hown' hgrow _ hgl; have hbw : Below w.heap.size wr.drew w' := ((Below.refl w.heap.size wr.drew).alloc hBs _).grown hgrow (by simp; omega) (fun j hj => (hOd.out.lt j hj).1)))
      have HO2 : Hid (w'.ownsRow w.heap.size 41 2 (.slice (some ⟨g2, 0, none⟩) (m + 1) cap2) (m + 1) (cellsR (turned l j))) := by
        rw [HT.out, cellsR_snoc]
        exact hown'
      have hbq : Below w.heap.size w w' := hB.drew.trans hbw
      clear hown' hgrow hbw hgl HAL HONE HN2 hOd HO hB c1 c2 HT hBs
      go_wp2_with fail
      go_roundw
      case rel => exact ⟨j, m + 1, by go_num, by omega, HO2, hbq⟩
      case measure => simp [intOf]
    | zero =>
      have hik2 := hik.trans (show Value.int .i64 (((0 : Nat) : Int) - 1) = .int .i64 (-1) by rfl)
      clear hik
      subst hik2
      obtain rfl : m = l.length := by omega
      obtain ⟨a2, c2, rfl, hr2⟩ := rowR_of_own (by rw [turned_length]; omega) HO.out
      have hhe := has_turned l most n
      rw [← turned_none] at hhe
      have hl2 : (turned l 0).length ≤ 140737488355328 := by rw [turned_length]; omega
      have HH := Lib.hid (fun W (hb : Below w.heap.size w W) => has_any a cap l most n (by omega) W (HR.out.later hb))
      have HG := Lib.hid (fun W (hb : Below wr.heap.size wr W) => has_any a2 c2 (turned l 0) most n hl2 W (hr2.later hb))
      rw [hhe] at HG
      clear hhe hr2 HO hkm hl2
      generalize turned l 0 = o at *
      generalize has l most n = q at *
      go_wp2_with fail
      refine (alive_any wr (HLD.out.later hB)).mono ?_
      rintro e w1 ⟨rfl, hb1⟩
      have HB1 := hB.trans (hb1.mono hBs)
      go_wp2_with fail
      refine (HH.out w1 HB1).mono ?_
      rintro e w2 ⟨rfl, hb2⟩
      have HB2 := HB1.trans (hb2.mono HB1.size)
      have HG2 := HG.out w2 (hb1.trans (hb2.mono hb1.size))
      clear HB1 hb1 hb2 HH HG
      go_wp2_with fail
      refine HG2.mono ?_
      rintro e w3 ⟨rfl, hb3⟩
      have HB3 := HB2.trans (hb3.mono HB2.size)
      have hqe : (q == q) = true := by simp
      clear HG2 hb3 HB2
      go_wp2
      go_ret
      exact ⟨rfl, HB3⟩
end Go.Proofs.YtbaeillecojilaaDoor.sq
