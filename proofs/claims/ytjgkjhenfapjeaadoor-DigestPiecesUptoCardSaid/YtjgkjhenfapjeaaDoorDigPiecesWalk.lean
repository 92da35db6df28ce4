/-
  The walk of DigestPieces.
-/
import Derived.Test.YtjgkjhenfapjeaaDoorDigTwinsWalk
namespace Go.Proofs.YtjgkjhenfapjeaaDoor.dg
open Go.RowKit

/-- A slice of texts, as the walks take it. -/
def SV (w : World) (v : Value) (l : List (List UInt8)) : Prop :=
  ∃ a cap, v = .slice a l.length cap ∧ (l = [] ∨ ∃ b off, a = some ⟨b, off, none⟩ ∧ b < w.heap.size ∧ ∀ j (h : j < l.length), w.cell? ⟨b, off + j, none⟩ = some (.string (S l[j])))
theorem flat_take (L : List (List UInt8)) (k : Nat) (h : k < L.length) : (L.take (k + 1)).flatten = (L.take k).flatten ++ L[k] := by
  rw [List.take_succ_eq_append_getElem h, List.flatten_append]
  simp
theorem flat_le (L : List (List UInt8)) (k : Nat) : (L.take k).flatten.length ≤ L.flatten.length := by
  have h : (L.take k).flatten ++ (L.drop k).flatten = L.flatten := by rw [← List.flatten_append, List.take_append_drop]
  rw [← h, List.length_append]
  omega

set_option maxHeartbeats 4000000 in
set_option maxRecDepth 100000 in
theorem pieces_any (L : List (List UInt8)) (hL : L.flatten.length ≤ 16777216) (hn : L.length ≤ 16777216) (v0 : Value) (w : World) (h0 : SV w v0 L) (hK : Keys w) :
    Calls Tryd.prog 6 #[v0] w fun e w' => e = .returned (.bool true) ∧ Below w.heap.size w w' := by
  obtain ⟨a, cap, rfl, ha⟩ := h0
  have hpos := hK.pos
  obtain ⟨n, hnd⟩ : ∃ n, n = L.length := ⟨_, rfl⟩
  rw [← hnd] at hn ⊢
  have HN := Lib.hid hnd
  have HA := Lib.hid ha
  clear hnd ha
  go_enter Tryd.func6, Tryd.ntmps6
  go_wp2_with fail
  refine (alive_any w hK).mono ?_
  rintro e w1 ⟨rfl, hb1⟩
  go_wp2_with fail
  refine (new_any w1).mono ?_
  rintro e w2 ⟨b, rfl, hbb, H2, hb2⟩
  have hB2 := hb1.trans (hb2.mono hb1.size)
  have hb0 : w.heap.size ≤ b := Nat.le_trans hb1.size hbb
  have hbp : 0 < b := by omega
  have HH2 := Lib.hid H2
  clear H2 hb1 hb2 hbb
  go_wp2_with fail
  go_loopw [4, 5] (fun s i wr => ∃ k : Nat, i = .int .i64 k ∧ k ≤ n ∧ s = .string (S (L.take k).flatten) ∧ Hid (HashAt wr b (L.take k).flatten) ∧ Below w.heap.size w wr)
    (fun _ i _ => n - (intOf i).toNat)
  case atStart => exact ⟨0, rfl, Nat.zero_le _, rfl, HH2, hB2⟩
  case round =>
    clear HH2 hB2
    obtain ⟨k, rfl, hk, rfl, HH, hB⟩ := hrel
    have hle := flat_le L k
    have hKr := hK.below hB hpos
    by_cases hlt : k < n
    · have hkl : k < L.length := by have := HN.out; omega
      have hft := flat_take L k hkl
      have hle2 := flat_le L (k + 1)
      rw [hft, List.length_append] at hle2
      rcases HA.out with h0 | ⟨pb, off, rfl, hpl, hcell⟩
      · rw [h0] at hkl; simp at hkl
      · have c0 := hcell k hkl
        obtain ⟨x, hx⟩ : ∃ x, x = L[k] := ⟨_, rfl⟩
        rw [← hx] at c0 hft hle2
        obtain ⟨o, ho⟩ : ∃ o, o = (L.take k).flatten := ⟨_, rfl⟩
        rw [← ho] at hft hle2 hle HH ⊢
        have hzo := S_size o
        have hzx := S_size x
        have hcat := S_append o x
        have HFT := Lib.hid hft
        have HC := Lib.hid hcell
        clear hft hcell hx ho
        have hki : (k : Int) < (n : Int) := by omega
        go_wp2_with fail
        refine (sum_at b o wr hKr HH.out (by omega)).mono ?_
        rintro e w3 ⟨rfl, hb3⟩
        have hB3 := hB.trans (hb3.mono hB.size)
        have hK3 := hKr.below hb3 hKr.pos
        have HH3 := Lib.hid (HH.out.below hb3)
        clear hb3 hB hKr HH
        go_wp2_with fail
        refine (sum_any o w3 hK3 (by omega)).mono ?_
        rintro e w4 ⟨rfl, hb4⟩
        have hB4 := hB3.trans (hb4.mono hB3.size)
        have hK4 := hK3.below hb4 hK3.pos
        have HH4 := Lib.hid (HH3.out.below hb4)
        clear hb4 hB3 hK3 HH3
        go_wp2_with fail
        refine (size_any b _ _ _ w4 HH4.out).mono ?_
        rintro e w5 ⟨rfl, rfl⟩
        have c1 : w5.cell? ⟨pb, off + k, none⟩ = some (.string (S x)) := (hB4.cell (p := ⟨pb, off + k, none⟩) hpl).trans c0
        go_wp2_with fail
        refine (write_at b o x w5 hK4 hbp HH4.out (by omega)).mono ?_
        rintro e w6 ⟨rfl, H6, hT6⟩
        have hB6 := hB4.trans (hT6.below hb0 hB4.size)
        have c2 : w6.cell? ⟨pb, off + k, none⟩ = some (.string (S x)) := (hB6.cell (p := ⟨pb, off + k, none⟩) hpl).trans c0
        rw [← HFT.out] at H6
        have HH6 := Lib.hid H6
        clear H6 hT6 hB4 hK4 HH4 c1 c0
        go_wp2_with fail
        rw [← HFT.out]
        go_roundw
        case rel => exact ⟨k + 1, by go_num, by omega, rfl, HH6, hB6⟩
        case measure => simp [intOf]; omega
    · obtain rfl : k = n := by omega
      obtain ⟨o, ho⟩ : ∃ o, o = (L.take k).flatten := ⟨_, rfl⟩
      rw [← ho] at hle HH ⊢
      have hzo := S_size o
      clear ho
      go_wp2_with fail
      refine (sum_at b o wr hKr HH.out (by omega)).mono ?_
      rintro e w3 ⟨rfl, hb3⟩
      have hB3 := hB.trans (hb3.mono hB.size)
      have hK3 := hKr.below hb3 hKr.pos
      have HH3 := Lib.hid (HH.out.below hb3)
      clear hb3 hB hKr HH
      go_wp2_with fail
      refine (sum_any o w3 hK3 (by omega)).mono ?_
      rintro e w4 ⟨rfl, hb4⟩
      have hB4 := hB3.trans (hb4.mono hB3.size)
      have hK4 := hK3.below hb4 hK3.pos
      have HH4 := Lib.hid (HH3.out.below hb4)
      clear hb4 hB3 hK3 HH3
      go_wp2_with fail
      refine (size_any b _ _ _ w4 HH4.out).mono ?_
      rintro e w5 ⟨rfl, rfl⟩
      go_wp2_with fail
      refine (sum_at b o w5 hK4 HH4.out (by omega)).mono ?_
      rintro e w6 ⟨rfl, hb6⟩
      have hB6 := hB4.trans (hb6.mono hB4.size)
      have hK6 := hK4.below hb6 hK4.pos
      have HH6 := Lib.hid (HH4.out.below hb6)
      clear hb6 hB4 hK4 HH4
      go_wp2_with fail
      refine (sum_at b o w6 hK6 HH6.out (by omega)).mono ?_
      rintro e w7 ⟨rfl, hb7⟩
      have hB7 := hB6.trans (hb7.mono hB6.size)
      go_wp2_with fail
      go_ret
      exact ⟨rfl, hB7⟩
end Go.Proofs.YtjgkjhenfapjeaaDoor.dg
