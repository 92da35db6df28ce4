/-
  A reader that stands ahead of some rest of its text: what each read of what was written answers, and where it stands then.
-/
import Derived.Test.YtmgmhnohocamfaaGreatPackMeth
import Derived.Test.YtmgmhnohocamfaaGreatPackRead1
import Derived.Test.YtmgmhnohocamfaaGreatPackForm
namespace Go.Proofs.YtmgmhnohocamfaaGreat.pk
open Go.RowKit

/-- The reader rb has no fault and stands ahead of the last part of T. -/
def At (w : World) (rb : Nat) (T rest : List UInt8) : Prop := RD w rb (S T) (T.length - rest.length : Nat) 0 ∧ ∃ pre, T = pre ++ rest

theorem suffix_data {T pre rest : List UInt8} (h : T = pre ++ rest) : ((S T).extract (T.length - rest.length) (S T).size).data.toList = rest := by
  have hl : T.length = pre.length + rest.length := by rw [h, List.length_append]
  rw [Lib.extract_data, S_data, S_size, show T.length - rest.length = pre.length by omega, h, List.drop_left, List.take_of_length_le (by rw [List.length_append]; omega)]

theorem At.of_below {w w' : World} {B rb : Nat} {T rest : List UInt8} (h : At w rb T rest) (k : Below B w w') (hlt : rb < B) : At w' rb T rest := ⟨h.1.of_below k hlt, h.2⟩
theorem At.drew {w : World} {rb : Nat} {T rest : List UInt8} (h : At w rb T rest) : At w.drew rb T rest := ⟨h.1.drew, h.2⟩
theorem At.drewN {w : World} {rb : Nat} {T rest : List UInt8} (h : At w rb T rest) (q : Nat) : At (w.drewN q) rb T rest := ⟨h.1.drewN q, h.2⟩
theorem At.lt {w : World} {rb : Nat} {T rest : List UInt8} (h : At w rb T rest) : rb < w.heap.size := h.1.lt

theorem count_at (rb : Nat) (T : List UInt8) (hT : T.length ≤ 281474976710656) (v : Nat) (m : Int) (hm : m ≤ 9223372036854775807) (hv : (v : Int) ≤ m) (r : List UInt8) (w : World) (h : At w rb T (Lib.uvarint v ++ r)) :
    Calls Tryz.prog 105 #[.pointer (some ⟨rb, 0, none⟩), .int .i64 m] w fun e w' => e = .returned (.int .i64 v) ∧ At w' rb T r ∧ Touch rb w w' := by
  obtain ⟨hR, pre, hpre⟩ := h
  have hlen : T.length = pre.length + ((Lib.uvarint v).length + r.length) := by rw [hpre, List.length_append, List.length_append]
  have hd : dec 0 0 ((S T).extract (T.length - (Lib.uvarint v ++ r).length) (S T).size).data.toList = (0, v, r) := by
    rw [suffix_data hpre, dec_back r v 0 0 (by omega) (by omega) (by simp; omega)]
    simp
  refine (rcount_ok rb (S T) (by rw [S_size]; exact hT) _ (by rw [S_size]; omega) m hm w hR v r hd (by rw [S_size]; omega) (by omega)).mono ?_
  rintro e w' ⟨rfl, hR', t⟩
  exact ⟨rfl, ⟨hR', pre ++ Lib.uvarint v, by rw [hpre, List.append_assoc]⟩, t⟩

theorem left_at (rb : Nat) (T : List UInt8) (hT : T.length ≤ 281474976710656) (r : List UInt8) (w : World) (h : At w rb T r) :
    Calls Tryz.prog 133 #[.pointer (some ⟨rb, 0, none⟩)] w fun e w' => ∃ q, e = .returned (.int .i64 r.length) ∧ w' = w.drewN q := by
  obtain ⟨hR, pre, hpre⟩ := h
  have hlen : T.length = pre.length + r.length := by rw [hpre, List.length_append]
  refine (left_any rb (S T) _ 0 w hR (by rw [S_size]; omega) (by rw [S_size]; omega)).mono ?_
  rintro e w' ⟨q, rfl, rfl⟩
  exact ⟨q, by rw [S_size, show T.length - (T.length - r.length) = r.length by omega], rfl⟩

theorem end_at_nil (rb : Nat) (T : List UInt8) (hT : T.length ≤ 281474976710656) (w : World) (h : At w rb T []) :
    Calls Tryz.prog 106 #[.pointer (some ⟨rb, 0, none⟩)] w fun e w' => e = .returned (.int .i64 0) ∧ Touch rb w w' := by
  obtain ⟨hR, pre, hpre⟩ := h
  refine (end_ok rb (S T) w hR (by rw [S_size]; omega)).mono ?_
  rintro e w' ⟨rfl, _, o⟩
  exact ⟨rfl, o.touch⟩

theorem end_at_rest (rb : Nat) (T : List UInt8) (hT : T.length ≤ 281474976710656) (r : List UInt8) (hr : 0 < r.length) (w : World) (h : At w rb T r) :
    Calls Tryz.prog 106 #[.pointer (some ⟨rb, 0, none⟩)] w fun e w' => e = .returned (.int .i64 9) ∧ Touch rb w w' := by
  obtain ⟨hR, pre, hpre⟩ := h
  have hlen : T.length = pre.length + r.length := by rw [hpre, List.length_append]
  refine (end_rest rb (S T) _ w hR (by rw [S_size]; omega) (by rw [S_size]; omega)).mono ?_
  rintro e w' ⟨rfl, _, o⟩
  exact ⟨rfl, o.touch⟩
end Go.Proofs.YtmgmhnohocamfaaGreat.pk
