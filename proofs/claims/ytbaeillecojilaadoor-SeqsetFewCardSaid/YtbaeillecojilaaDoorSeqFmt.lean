/-
  What the program's Digits answers.
-/
import Derived.Test.YtbaeillecojilaaDoorSeqRowAt
import Derived.Test.YtbaeillecojilaaDoorShelf
import Derived.Lib.ItoaMem
import Derived.BigCall
import Derived.BigGuard
namespace Go.Proofs.YtbaeillecojilaaDoor.sq
open Go.RowKit Go.Sort Go.Lib

/-- The table of powers of ten holds what it is laid with. -/
def Tab (W : World) : Prop := Lib.TabIs Tryd.prog W "internal/strconv.uint64pow10" .u64 Lib.pow10Tab
theorem Tab.later {w w' : World} (h : Tab w) (hb : Below w.heap.size w w') : Tab w' := by
  unfold Tab Lib.TabIs World.var? at *
  cases hg : Tryd.prog.globalNamed "internal/strconv.uint64pow10" with
  | none => simp [hg] at h
  | some g =>
    simp only [hg, Option.bind_some] at h ⊢
    have hlt : g < w.heap.size := by
      rcases Nat.lt_or_ge g w.heap.size with h' | h'
      · exact h'
      · rw [Array.getElem?_eq_none h'] at h; simp at h
    rw [hb.block g hlt]
    exact h

theorem dec_eq (n : Nat) : Lib.decDigits n = dec n := by
  induction n using Nat.strongRecOn with
  | ind n ih =>
    have e : ∀ k, k < 10 → UInt8.ofNat (48 + k) = 48 + UInt8.ofNat k := fun k hk => by
      apply UInt8.toNat_inj.1
      rw [UInt8.toNat_add, UInt8.toNat_ofNat', UInt8.toNat_ofNat']
      show _ = (48 + k % 256) % 256
      omega
    by_cases h : n < 10
    · rw [Lib.decDigits_one h, dec_small h, e n h]
    · rw [Lib.decDigits, dif_neg h, dec_big (by omega), ih (n / 10) (by omega), e _ (by omega)]

/-- The array of 24 bytes, as it is laid. -/
def blank : Array Value := Array.replicate 24 (.int .u8 0)
theorem blank_cell (w : World) (T : TypeId) (j : Nat) (h : j < 24) : (w.alloc (.cells blank T)).cell? ⟨w.heap.size, j, none⟩ = some (.int .u8 0) := by
  rw [World.cell?_alloc_new]
  simp [blank, h]
theorem below_put (w : World) (o : Obj) (dk : Array UInt8) (k : Nat) : Below w.heap.size w ((putRow (fun (b : UInt8) => Value.int .u8 (b.toNat : Int)) (w.alloc o) w.heap.size 0 dk).drewN k) := by
  rw [alloc_eq_grow]
  obtain ⟨os', _, e⟩ := putRow_grow_new (fun (b : UInt8) => Value.int .u8 (b.toNat : Int)) w #[o] w.heap.size 0 dk (Nat.le_refl _)
  rw [e]
  exact ⟨rfl, rfl, rfl, by show w.heap.size ≤ (w.heap ++ os').size; rw [Array.size_append]; omega, fun j hj => heap_grow_old w os' hj⟩

/-- What the writing of the digits leaves in the array: the number's digits, as many as it has. -/
theorem digits_row (u : Nat) (hu64 : u < 18446744073709551616) (hn : Lib.nDigits u ≤ 24) (w : World) :
    Calls Tryd.prog 97 #[.slice (some ⟨w.heap.size, 0, none⟩) (Lib.nDigits u) 24, .int .u64 u] (w.alloc (.cells blank 120)) fun e w' => e = .returned (.tuple #[]) ∧ RowAt w.heap.size (dec u) w' ∧ Below w.heap.size w w' := by
  have hz : Holds (fun (b : UInt8) => Value.int .u8 (b.toNat : Int)) (w.alloc (.cells blank 120)) w.heap.size 0 (Array.replicate (Lib.nDigits u) (0 : UInt8)) := fun j hj => by
    rw [Array.size_replicate] at hj
    refine ⟨?_, World.frozen?_alloc_new _ _ _ _⟩
    rw [Nat.zero_add, blank_cell w _ j (by omega), getElem!_pos _ j (by rw [Array.size_replicate]; exact hj), Array.getElem_replicate]
    rfl
  have h := Tryd.internal_strconv_formatBase10 w.heap.size 0 24 u (Array.replicate (Lib.nDigits u) 0) _ hz (by rw [Array.size_replicate]; exact Lib.lt_pow_nDigits u) hu64 (by rw [Array.size_replicate]; omega)
  rw [Array.size_replicate] at h
  refine h.mono fun e w' ⟨he, n, v', dk, hw, hF⟩ => ⟨he, ?_, hw ▸ below_put w _ dk n⟩
  have hsz := hF.size
  have hlen : (dec u).length = Lib.nDigits u := by rw [← dec_eq, Lib.decDigits_length]
  subst hw
  refine ⟨fun i hi => ?_, fun i hi => ?_⟩
  · have hc := cell?_putRow (fun (b : UInt8) => Value.int .u8 (b.toNat : Int)) _ w.heap.size 0 _ dk hz (by rw [hsz, Array.size_replicate]) i (by omega)
    rw [Nat.zero_add] at hc
    rw [World.cell?_drewN, hc]
    have e : (dec u)[i] = dk[i]! := by
      have := Lib.row_is_numeral hF i (by rw [Lib.decDigits_length]; omega)
      rw [← this]
      congr 1
      rw [dec_eq]
    rw [e]
  · have hf := (hz i (by rw [Array.size_replicate]; omega)).2
    rw [Nat.zero_add] at hf
    rw [World.frozen?_drewN, frozen?_putRow]
    exact hf

set_option maxHeartbeats 2000000 in
set_option maxRecDepth 100000 in
theorem fmt_big (u : Nat) (h100 : 100 ≤ u) (hu64 : u < 18446744073709551616) (w : World) (hT : Tab w) :
    Calls Tryd.prog 82 #[.int .u64 u, .int .i64 10] w fun e w' => e = .returned (.string (S (dec u))) ∧ Below w.heap.size w w' := by
  have hn20 : Lib.nDigits u ≤ 20 := by rw [← Lib.decDigits_length, dec_eq]; exact dec_length64 hu64
  have hlen : (dec u).length = Lib.nDigits u := by rw [← dec_eq, Lib.decDigits_length]
  have hcut : ∀ W, (Instr.sliceAt 120 (.pointer (some ⟨w.heap.size, 0, none⟩)) none (some (.int .i64 (Lib.nDigits u : Int))) none).run Tryd.prog W = .ok (.slice (some ⟨w.heap.size, 0, none⟩) (Lib.nDigits u) 24) W := fun W => by
    have hal : Tryd.prog.arrayLen 120 = 24 := by simp [Program.arrayLen, Tryd.underlying120]
    have h := run_sliceAt_array_h (P := Tryd.prog) W 120 ⟨w.heap.size, 0, none⟩ (by simp [Program.arrayLen, Program.elem, Tryd.underlying120]) .i64 (Lib.nDigits u : Int) (by omega) (by rw [hal]; omega)
    rw [h]
    go_simp
  have hnum := Tryd.internal_strconv_numDigits u (by omega) hu64 _ (hT.later ((Below.refl _ w).alloc (Nat.le_refl _) (.cells blank 120)))
  have hrow := digits_row u hu64 (by omega) w
  have i100 : ¬ (u : Int) < 100 := by omega
  clear hT
  go_enter Tryd.func82, Tryd.ntmps82
  go_wp2_with fail
  refine hnum.mono ?_
  rintro e w' ⟨rfl, rfl⟩
  go_wp2_with fail
  refine hrow.mono ?_
  rintro e w2 ⟨rfl, hr, hb⟩
  have hcv := conv_row w2 w.heap.size 24 (dec u) hr
  rw [hlen] at hcv
  clear hr
  go_wp2_with fail
  go_ret
  exact ⟨rfl, hb⟩

set_option maxRecDepth 100000 in
theorem digits_any (n : Nat) (hn : n < 18446744073709551616) (w : World) (hT : Tab w) :
    Calls Tryd.prog 52 #[.int .u64 n] w fun e w' => e = .returned (.string (S (dec n))) ∧ Below w.heap.size w w' := by
  by_cases h : n < 100
  · have hs := Tryd.internal_strconv_small n h
    rw [dec_eq n] at hs
    have hi : (n : Int) < 100 := by omega
    clear hT
    go_enter Tryd.func52, Tryd.ntmps52
    go_wp2_with (first | (go_at_call 95; refine (hs _).mono ?_; rintro e w' ⟨rfl, rfl⟩) | go_in)
    go_ret
    exact ⟨rfl, Below.refl _ _⟩
  · have hf := fmt_big n (by omega) hn w hT
    clear hT
    go_enter Tryd.func52, Tryd.ntmps52
    go_wp2_with (first | (go_at_call 82; refine hf.mono ?_; rintro e w' ⟨rfl, hb⟩) | go_in)
    go_ret
    exact ⟨rfl, hb⟩
end Go.Proofs.YtbaeillecojilaaDoor.sq
