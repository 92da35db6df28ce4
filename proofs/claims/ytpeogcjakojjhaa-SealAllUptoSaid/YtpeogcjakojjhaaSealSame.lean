/-
  What the reference's Same answers of two lists of the same texts: true.
-/
import Derived.Test.YtpeogcjakojjhaaSealRefAll
namespace Go.Proofs.Ytpeogcjakojjhaa.sl
open Go.RowKit

/-- The value v is a slice of the texts l. -/
def SV (w : World) (v : Value) (l : List (List UInt8)) : Prop :=
  ∃ a cap, v = .slice a l.length cap ∧ (l = [] ∨ ∃ b off, a = some ⟨b, off, none⟩ ∧ b < w.heap.size ∧ ∀ j (h : j < l.length), w.cell? ⟨b, off + j, none⟩ = some (.string (S l[j])))
theorem SV.below {w w' : World} {v : Value} {l : List (List UInt8)} (h : SV w v l) (hb : Below w.heap.size w w') : SV w' v l := by
  obtain ⟨a, cap, h1, h2 | ⟨b, off, h3, h4, h5⟩⟩ := h
  · exact ⟨a, cap, h1, .inl h2⟩
  · exact ⟨a, cap, h1, .inr ⟨b, off, h3, Nat.lt_of_lt_of_le h4 hb.size, fun j hj => (hb.cell (p := ⟨b, off + j, none⟩) h4).trans (h5 j hj)⟩⟩
theorem SV.of_row {w : World} {B n : Nat} {v : Value} {l : List (List UInt8)} (hn : n = l.length) (h : w.ownsRow B 9 1 v n (l.map fun x => .string (S x))) : SV w v l := by
  subst hn
  have h' := h
  obtain ⟨h1, ⟨h2, h3⟩ | ⟨g, cap, cur, h3, h4, h5, h6⟩⟩ := h
  · exact ⟨none, 0, by rw [h2, h3], .inl (List.length_eq_zero_iff.1 h3)⟩
  · refine ⟨_, _, h3, .inr ⟨g, 0, rfl, (Array.getElem?_eq_some_iff.1 h5).1, fun j hj => ?_⟩⟩
    subst h3
    have := h'.cellAt j (by omega)
    rw [Nat.zero_add, this]
    simp [List.getElem?_eq_getElem hj]

set_option maxHeartbeats 1000000 in
set_option maxRecDepth 100000 in
theorem same_any (l : List (List UInt8)) (hl : l.length ≤ 9223372036854775806) (v u : Value) (w : World) (hv : SV w v l) (hu : SV w u l) :
    Calls Try.prog 18 #[v, u] w fun e w' => e = .returned (.bool true) ∧ Below w.heap.size w w' := by
  obtain ⟨a, cap, rfl, ha⟩ := hv
  obtain ⟨a', cap', rfl, ha'⟩ := hu
  obtain ⟨n, hn⟩ : ∃ n, n = l.length := ⟨_, rfl⟩
  have HN := Lib.hid hn
  have HA := Lib.hid ha
  have HA' := Lib.hid ha'
  rw [← hn] at hl ⊢
  clear hn ha ha'
  go_enter Try.func18, Try.ntmps18
  go_wp2
  go_loopw [5] (fun i wr => ∃ k : Nat, i = .int .i64 k ∧ k ≤ n ∧ Below w.heap.size w wr)
    (fun i _ => n - (intOf i).toNat)
  case atStart => exact ⟨0, rfl, Nat.zero_le _, Below.refl _ _⟩
  case round =>
    obtain ⟨k, rfl, hk, hB⟩ := hrel
    by_cases hlt : k < n
    · have hkl : k < l.length := by have := HN.out; omega
      rcases HA.out with h0 | ⟨b, off, rfl, hbl, hcell⟩
      · rw [h0] at hkl; simp at hkl
      · rcases HA'.out with h0 | ⟨b', off', rfl, hbl', hcell'⟩
        · rw [h0] at hkl; simp at hkl
        · have c1 : wr.cell? ⟨b, off + k, none⟩ = some (.string (S l[k])) := (hB.cell (p := ⟨b, off + k, none⟩) hbl).trans (hcell k hkl)
          have c2 : wr.cell? ⟨b', off' + k, none⟩ = some (.string (S l[k])) := (hB.cell (p := ⟨b', off' + k, none⟩) hbl').trans (hcell' k hkl)
          have hq : ((S l[k]).toList == (S l[k]).toList) = true := str_eq rfl
          have hki : (k : Int) < (n : Int) := by omega
          generalize S l[k] = x at c1 c2 hq
          clear hcell hcell' hbl hbl' hkl HA HA' HN
          go_wp2
          go_quiet (fail)
          go_wp2
          go_roundw
          case rel => exact ⟨k + 1, by go_num, by omega, below_drewN hB nq⟩
          case measure => simp [intOf]; omega
    · go_wp2
      go_ret
      exact ⟨rfl, hB⟩
end Go.Proofs.Ytpeogcjakojjhaa.sl
