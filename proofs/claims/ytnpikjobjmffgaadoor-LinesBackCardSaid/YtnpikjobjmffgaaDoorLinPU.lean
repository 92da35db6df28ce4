/-
  What the library's reading of a number makes of a text, at 63 bits.
-/
import Derived.Test.YtnpikjobjmffgaaDoorLinFmt
import Derived.Lib.Walk
import Derived.Laws.Strings3
import Derived.Laws.Closers25
import Derived.Laws.Closers25b
namespace Go.Proofs.YtnpikjobjmffgaaDoor.li
open Go.RowKit

/- Numbers, digit by digit. -/
def val (a : Nat) (l : List UInt8) : Nat := l.foldl (fun a c => 10 * a + (c.toNat - 48)) a
theorem val_cons (a : Nat) (c : UInt8) (l : List UInt8) : val a (c :: l) = val (10 * a + (c.toNat - 48)) l := by unfold val; rw [List.foldl_cons]
theorem val_ge : ∀ (l : List UInt8) (a : Nat), a * 10 ^ l.length ≤ val a l
  | [], a => by simp [val]
  | c :: l, a => by
    rw [val_cons]
    have ih := val_ge l (10 * a + (c.toNat - 48))
    refine Nat.le_trans ?_ ih
    rw [List.length_cons, Nat.pow_succ, Nat.mul_comm (10 ^ l.length) 10, ← Nat.mul_assoc]
    exact Nat.mul_le_mul_right _ (by omega)
theorem numv_prefix (l : List UInt8) (k : Nat) : numv (l.take k) ≤ numv l := by
  have h : numv l = val (numv (l.take k)) (l.drop k) := by
    conv => lhs; rw [← List.take_append_drop k l]
    unfold numv val
    rw [List.foldl_append]
  rw [h]
  exact Nat.le_trans (Nat.le_mul_of_pos_right _ (Nat.pow_pos (by decide))) (val_ge _ _)

/-- A text that is read: digits alone, and no more than fits 63 bits. -/
def fits (l : List UInt8) : Bool := l.all isDig && decide (numv l ≤ 9223372036854775807)
/-- The ways in which the reading ends. -/
def Reads (l : List UInt8) (e : Ending) : Prop :=
  (fits l = true ∧ e = .returned (.tuple #[.int .u64 (numv l : Nat), .nilIface])) ∨
  (fits l = false ∧ (e = .returned (.tuple #[.int .u64 0, .iface 70 (.int .i64 2)]) ∨ e = .returned (.tuple #[.int .u64 9223372036854775807, .iface 70 (.int .i64 1)])))
theorem fits_not_dig {l : List UInt8} {k : Nat} (h : k < l.length) (hd : isDig l[k] = false) : fits l = false := by
  unfold fits
  rw [all_steps isDig l k h hd, Bool.false_and]
theorem fits_not_small {l : List UInt8} {k : Nat} (h : 9223372036854775807 < numv (l.take k)) : fits l = false := by
  have := numv_prefix l k
  unfold fits
  rw [decide_eq_false (by omega), Bool.and_false]
theorem fits_all {l : List UInt8} (H : ∀ j (h : j < l.length), j < l.length → isDig l[j] = true) (hv : numv l ≤ 9223372036854775807) : fits l = true := by
  unfold fits
  rw [all_whole isDig l H, decide_eq_true hv]
  rfl

set_option maxHeartbeats 8000000 in
set_option maxRecDepth 100000 in
theorem read_any (l : List UInt8) (hl : l.length ≤ 140737488355328) (h0 : 0 < l.length) (w : World) :
    Calls Tryd.prog 36 #[.string (S l), .int .i64 10, .int .i64 63] w fun e w' => Reads l e ∧ Below w.heap.size w w' := by
  have hz := S_size l
  have hemp := S_empty_no h0
  have hcv1 := Lib.run_convert_string_bytes (P := Tryd.prog) w 9 48 5 (S l) Tryd.underlying9 Tryd.underlying48 Tryd.underlying5
  rw [S_size] at hcv1
  have hb1 := bytes_below w (S l)
  have hrow := RowAt.bytes w l
  generalize grownCap w l.length 0 5 = cap at *
  generalize Lib.bytesWorld w 5 (S l) = w1 at *
  have HR := Lib.hid hrow
  clear hrow
  -- the greatest number of the size
  have hgreat : IntKind.u64.wrap (IntKind.u64.wrap 9223372036854775808 - 1) = 9223372036854775807 := by
    rw [IntKind.wrap_u64, IntKind.wrap_u64]; decide
  have bad2 : Hid (fits l = false) → Reads l (.returned (.tuple #[.int .u64 0, .iface 70 (.int .i64 2)])) := fun h => .inr ⟨h.out, .inl rfl⟩
  have bad1 : Hid (fits l = false) → Reads l (.returned (.tuple #[.int .u64 9223372036854775807, .iface 70 (.int .i64 1)])) := fun h => .inr ⟨h.out, .inr rfl⟩
  have HB2 := Lib.hid bad2
  have HB1 := Lib.hid bad1
  clear bad1 bad2
  go_enter Tryd.func36, Tryd.ntmps36
  go_wp2
  go_loop [12, 13, 101] (fun u n i => ∃ (k : Nat) (a : Int), u = .bool false ∧ n = .int .u64 a ∧ i = .int .i64 k ∧ k ≤ l.length ∧ 0 ≤ a ∧ a ≤ 9223372036854775807 ∧ Hid (a = (numv (l.take k) : Nat) ∧ ∀ j (h : j < l.length), j < k → isDig l[j] = true))
    (fun _ _ i => l.length - (intOf i).toNat)
  case atStart => exact ⟨0, 0, rfl, rfl, rfl, Nat.zero_le _, by omega, by omega, Lib.hid ⟨rfl, fun j _ h => absurd h (by omega)⟩⟩
  case round =>
    obtain ⟨k, a, rfl, rfl, rfl, hk, ha0, ha1, HA⟩ := hrel
    by_cases hlt : k < l.length
    · obtain ⟨d, hd⟩ : ∃ d, l[k]'hlt = d := ⟨_, rfl⟩
      have hcell := HR.out.c k hlt
      rw [hd] at hcell
      have hnext := numv_take l k hlt
      rw [hd] at hnext
      have hd256 := UInt8.toNat_lt d
      have hki : (k : Int) < (l.length : Int) := by omega
      by_cases hdig : 48 ≤ d.toNat ∧ d.toNat ≤ 57
      · have hx1 := hdig.1
        have hx2 := hdig.2
        have HNN : Hid (∀ j (h : j < l.length), j < k + 1 → isDig l[j] = true) := fun j h hj => by
          by_cases h2 : j < k
          · exact HA.out.2 j h h2
          · obtain rfl : j = k := by omega
            rw [hd]; unfold isDig; rw [decide_eq_true hx1, decide_eq_true hx2]; rfl
        have hval : Hid (((numv (l.take (k + 1)) : Nat) : Int) = a * 10 + ((d.toNat : Int) - 48)) := by
          have e := HA.out.1
          show ((numv (l.take (k + 1)) : Nat) : Int) = a * 10 + ((d.toNat : Int) - 48)
          rw [hnext, e]
          omega
        have hbig : Hid (9223372036854775807 < a * 10 + ((d.toNat : Int) - 48) → fits l = false) := fun h => fits_not_small (k := k + 1) (by have := hval.out; omega)
        clear hd hnext hdig HA HR
        generalize d.toNat = x at *
        by_cases h1 : 1844674407370955162 ≤ a
        · have HX := HB1.out (Lib.hid (hbig.out (by omega)))
          clear hbig hval HNN HB1 HB2
          go_wp2
          go_ret2
          exact ⟨HX, hb1⟩
        · have h1' : a < 1844674407370955162 := by omega
          by_cases h2 : 9223372036854775807 < a * 10 + ((x : Int) - 48)
          · have HX := HB1.out (Lib.hid (hbig.out h2))
            clear hbig hval HNN HB1 HB2 h1
            by_cases h3 : 18446744073709551616 ≤ a * 10 + ((x : Int) - 48)
            · have hround : IntKind.u64.wrap (a * 10 + ((x : Int) - 48)) = a * 10 + ((x : Int) - 48) - 18446744073709551616 := by
                rw [IntKind.wrap_u64]; omega
              go_wp2
              go_ret2
              exact ⟨HX, hb1⟩
            · have h3' : a * 10 + ((x : Int) - 48) < 18446744073709551616 := by omega
              clear h3
              go_wp2
              go_ret2
              exact ⟨HX, hb1⟩
          · have h2' : a * 10 + ((x : Int) - 48) ≤ 9223372036854775807 := by omega
            have HN : Hid (a * 10 + ((x : Int) - 48) = (numv (l.take (k + 1)) : Nat) ∧ ∀ j (h : j < l.length), j < k + 1 → isDig l[j] = true) := ⟨hval.out.symm, HNN.out⟩
            clear hbig hval HNN HB1 HB2 h1 h2
            go_wp2
            exact ⟨⟨k + 1, a * 10 + ((x : Int) - 48), rfl, (by first | rfl | (congr 1; omega)), (by first | rfl | (congr 1; omega)), by omega, by omega, h2', HN⟩, by simp [intOf]; omega⟩
      · have HX := HB2.out (Lib.hid (fits_not_dig hlt (by
          rw [hd]
          unfold isDig
          by_cases h : 48 ≤ d.toNat
          · rw [decide_eq_false (show ¬ d.toNat ≤ 57 from fun h2 => hdig ⟨h, h2⟩), Bool.and_false]
          · rw [decide_eq_false h, Bool.false_and])))
        clear hnext hd HA HR HB1 HB2
        have o1 := bits_lo_u8 .or (d.toNat : Int) 32
        have o2 := bits_hi_u8 .or (d.toNat : Int) 32
        have o3 := bits_lo_u8 .or 95 32
        have o4 := bits_hi_u8 .or 95 32
        generalize d.toNat = x at *
        go_wp2_with (go_at_call 38; refine (Tryd.internal_strconv_lower _ _).mono ?_; rintro e w' ⟨rfl, rfl⟩)
        all_goals go_ret2
        all_goals exact ⟨HX, hb1⟩
    · obtain rfl : k = l.length := by omega
      have hfin : Hid (a = (numv l : Nat) ∧ fits l = true) := by
        obtain ⟨e1, e2⟩ := HA.out
        rw [List.take_length] at e1
        exact ⟨e1, fits_all e2 (by omega)⟩
      clear HA HR HB1 HB2
      go_wp2
      go_ret2
      exact ⟨.inl ⟨hfin.out.2, by rw [← hfin.out.1]; rfl⟩, hb1⟩

set_option maxRecDepth 100000 in
theorem read_none (w : World) :
    Calls Tryd.prog 36 #[.string ⟨#[]⟩, .int .i64 10, .int .i64 63] w fun e w' => e = .returned (.tuple #[.int .u64 0, .iface 70 (.int .i64 2)]) ∧ w' = w := by
  go_enter Tryd.func36, Tryd.ntmps36
  go_wp2
  go_ret2
  exact ⟨rfl, rfl⟩
end Go.Proofs.YtnpikjobjmffgaaDoor.li
