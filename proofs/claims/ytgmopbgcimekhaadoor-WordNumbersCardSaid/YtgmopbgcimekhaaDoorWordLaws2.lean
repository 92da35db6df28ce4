/-
  The walks of WordNumbers, WordBack.
-/
import Derived.Test.YtgmopbgcimekhaaDoorWordAlive
namespace Go.Proofs.YtgmopbgcimekhaaDoor.wo
open Go.RowKit

theorem numOf_le (l : List UInt8) : numOf l ≤ 9223372036854775807 := by
  unfold numOf
  split
  · rename_i h
    simp only [numOk, Bool.and_eq_true, decide_eq_true_eq] at h
    exact h.2
  · omega
theorem numOf_bad {l : List UInt8} (h : numOk l = false) : numOf l = 0 := by unfold numOf; rw [h]; rfl

/-- The end of WordNumbers: what is read of the text. -/
theorem number_end (l : List UInt8) : (numOk l = false ∧ numOf l = 0) ∨ (numOk l = true ∧ dec (numOf l) = l) := by
  cases h : numOk l with
  | false => exact .inl ⟨rfl, numOf_bad h⟩
  | true => exact .inr ⟨rfl, dec_num h⟩

set_option maxHeartbeats 2000000 in
set_option maxRecDepth 100000 in
theorem wordnumbers_any (n : Nat) (hn : n < 18446744073709551616) (l : List UInt8) (hl : l.length ≤ 140737488355328) (w : World) (hT : Tab w) (hE : Errs w) :
    Calls Tryd.prog 7 #[.int .u64 n, .string (S l)] w fun e w' => e = .returned (.bool true) ∧ Below w.heap.size w w' := by
  have hal := alive_any w hT
  have hd := fun W (hb : Below w.heap.size w W) => digits_any n hn W (hT.later hb)
  have hnum := fun W (hb : Below w.heap.size w W) => number_any (dec n) (Nat.le_trans (dec_length64 hn) (by decide)) W (hE.later hb)
  have hl2 := fun W (hb : Below w.heap.size w W) => number_any l hl W (hE.later hb)
  have hle := numOf_le l
  have hdk := fun W (hb : Below w.heap.size w W) => digits_any (numOf l) (by omega) W (hT.later hb)
  clear hT hE
  have hend := number_end l
  rw [num_dec n hn] at hnum
  by_cases hs : n < 9223372036854775808
  · rw [decide_eq_true hs, num_of_dec n hs] at hnum
    have hsi : (n : Int) < 9223372036854775808 := by omega
    generalize dec n = d at *
    go_enter Tryd.func7, Tryd.ntmps7
    go_wp2_with fail
    refine hal.mono ?_
    rintro e w1 ⟨rfl, hb1⟩
    go_wp2_with fail
    refine (hd w1 hb1).mono ?_
    rintro e w2 ⟨rfl, hb2⟩
    have hB2 := hb1.trans (hb2.mono hb1.size)
    go_wp2_with fail
    refine (hnum w2 hB2).mono ?_
    rintro e w3 ⟨rfl, hb3⟩
    have hB3 := hB2.trans (hb3.mono hB2.size)
    rcases hend with ⟨e1, e2⟩ | ⟨e1, e2⟩
    · rw [e1, e2] at hl2
      clear e1 e2 hdk
      go_wp2_with fail
      refine (hl2 w3 hB3).mono ?_
      rintro e w4 ⟨rfl, hb4⟩
      have hB4 := hB3.trans (hb4.mono hB3.size)
      go_wp2_with fail
      go_ret
      exact ⟨rfl, hB4⟩
    · rw [e1] at hl2
      rw [e2] at hdk
      clear e1 e2
      go_wp2_with fail
      refine (hl2 w3 hB3).mono ?_
      rintro e w4 ⟨rfl, hb4⟩
      have hB4 := hB3.trans (hb4.mono hB3.size)
      go_wp2_with fail
      refine (hdk w4 hB4).mono ?_
      rintro e w5 ⟨rfl, hb5⟩
      have hB5 := hB4.trans (hb5.mono hB4.size)
      go_wp2_with fail
      go_ret
      exact ⟨rfl, hB5⟩
  · have hbad := numOf_bad ((num_dec n hn).trans (decide_eq_false hs))
    rw [decide_eq_false hs, hbad] at hnum
    have hsi : decide ((n : Int) < 9223372036854775808) = false := decide_eq_false (by omega)
    clear hbad hs
    generalize dec n = d at *
    go_enter Tryd.func7, Tryd.ntmps7
    go_wp2_with fail
    refine hal.mono ?_
    rintro e w1 ⟨rfl, hb1⟩
    go_wp2_with fail
    refine (hd w1 hb1).mono ?_
    rintro e w2 ⟨rfl, hb2⟩
    have hB2 := hb1.trans (hb2.mono hb1.size)
    go_wp2_with fail
    refine (hnum w2 hB2).mono ?_
    rintro e w3 ⟨rfl, hb3⟩
    have hB3 := hB2.trans (hb3.mono hB2.size)
    rcases hend with ⟨e1, e2⟩ | ⟨e1, e2⟩
    · rw [e1, e2] at hl2
      clear e1 e2 hdk
      go_wp2_with fail
      refine (hl2 w3 hB3).mono ?_
      rintro e w4 ⟨rfl, hb4⟩
      have hB4 := hB3.trans (hb4.mono hB3.size)
      go_wp2_with fail
      go_ret
      exact ⟨rfl, hB4⟩
    · rw [e1] at hl2
      rw [e2] at hdk
      clear e1 e2
      go_wp2_with fail
      refine (hl2 w3 hB3).mono ?_
      rintro e w4 ⟨rfl, hb4⟩
      have hB4 := hB3.trans (hb4.mono hB3.size)
      go_wp2_with fail
      refine (hdk w4 hB4).mono ?_
      rintro e w5 ⟨rfl, hb5⟩
      have hB5 := hB4.trans (hb5.mono hB4.size)
      go_wp2_with fail
      go_ret
      exact ⟨rfl, hB5⟩

theorem S_take (l : List UInt8) (k : Nat) : (S l).extract 0 k = S (l.take k) := by
  apply ByteArray.ext
  apply Array.toList_inj.1
  rw [Lib.extract_data, S_data, S_data]
  simp

set_option maxHeartbeats 2000000 in
set_option maxRecDepth 100000 in
theorem wordback_any (l : List UInt8) (hl : l.length ≤ 140737488351232) (b : List UInt8) (hb : b.length ≤ 140737488351232) (w : World) (hT : Tab w) :
    Calls Tryd.prog 6 #[.string (S l), .string (S b)] w fun e w' => e = .returned (.bool true) ∧ Below w.heap.size w w' := by
  have hz := S_size l
  have hzb := S_size b
  have hal := alive_any w hT
  clear hT
  have h1 := quote_any l (by omega)
  have h3 := unquote_any l (by omega)
  -- the second half, from the reading of the text itself on
  have hinv : ∀ t n, unquote l = some (t, n) → quoteOk t = true ∧ n ≤ l.length ∧ quote t = l.take n := fun t n h => quote_unquote h
  cases hq : quoteOk l with
  | false =>
    rw [hq, show quoteOf l = [] by unfold quoteOf; rw [hq]; rfl] at h1
    clear hq
    go_enter Tryd.func6, Tryd.ntmps6
    go_wp2_with fail
    refine hal.mono ?_
    rintro e w1 ⟨rfl, hb1⟩
    go_wp2_with fail
    refine (h1 w1).mono ?_
    rintro e w2 ⟨rfl, hb2⟩
    have hB2 := hb1.trans (hb2.mono hb1.size)
    cases hu : unquote l with
    | none =>
      rw [hu] at h3
      change ∀ w, Calls Tryd.prog 20 #[.string (S l)] w fun e w' => e = .returned (.tuple #[.string ⟨#[]⟩, .int .i64 0, .bool false]) ∧ Below w.heap.size w w' at h3
      clear hinv hu
      go_wp2_with fail
      refine (h3 w2).mono ?_
      rintro e w3 ⟨rfl, hb3⟩
      have hB3 := hB2.trans (hb3.mono hB2.size)
      go_wp2_with fail
      go_ret
      exact ⟨rfl, hB3⟩
    | some x =>
      obtain ⟨t, n⟩ := x
      rw [hu] at h3
      change ∀ w, Calls Tryd.prog 20 #[.string (S l)] w fun e w' => e = .returned (.tuple #[.string (S t), .int .i64 (n : Nat), .bool true]) ∧ Below w.heap.size w w' at h3
      obtain ⟨i1, i2, i3⟩ := hinv t n hu
      have htl : t.length ≤ 512 := by simp only [quoteOk, Bool.and_eq_true, decide_eq_true_eq] at i1; exact i1.1
      have h5 := quote_any t (by omega)
      rw [i1, show quoteOf t = l.take n by unfold quoteOf; rw [i1, if_pos rfl, i3]] at h5
      have hni : (n : Int) ≤ (l.length : Int) := by omega
      have hsl := fun W => run_slice_string_h (P := Tryd.prog) (w := W) (t := 9) (s := S l) Tryd.underlying9 .i64 (n : Int) (by omega) (by rw [hz]; omega)
      have e1 : (n : Int).toNat = n := by omega
      simp only [e1, S_take] at hsl
      generalize l.take n = q at *
      clear hinv hu i1 i3 e1
      go_wp2_with fail
      refine (h3 w2).mono ?_
      rintro e w3 ⟨rfl, hb3⟩
      have hB3 := hB2.trans (hb3.mono hB2.size)
      go_wp2_with fail
      refine (h5 w3).mono ?_
      rintro e w4 ⟨rfl, hb4⟩
      have hB4 := hB3.trans (hb4.mono hB3.size)
      go_wp2_with fail
      go_ret
      exact ⟨rfl, hB4⟩
  | true =>
    have hll : l.length ≤ 512 := by simp only [quoteOk, Bool.and_eq_true, decide_eq_true_eq] at hq; exact hq.1
    have hql := quote_length l
    have hel := esc_len l
    rw [hq, show quoteOf l = quote l by unfold quoteOf; rw [hq]; rfl] at h1
    have h2 := unquote_any (quote l ++ b) (by rw [List.length_append]; omega)
    rw [unquote_quote hq b] at h2
    change ∀ w, Calls Tryd.prog 20 #[.string (S (quote l ++ b))] w fun e w' => e = .returned (.tuple #[.string (S l), .int .i64 ((quote l).length : Nat), .bool true]) ∧ Below w.heap.size w w' at h2
    have hzq := S_size (quote l)
    have hcat := S_append (quote l) b
    have hqb : (quote l).length ≤ 1026 := by omega
    clear hq hql hel
    generalize quote l = q at *
    go_enter Tryd.func6, Tryd.ntmps6
    go_wp2_with fail
    refine hal.mono ?_
    rintro e w1 ⟨rfl, hb1⟩
    go_wp2_with fail
    refine (h1 w1).mono ?_
    rintro e w2 ⟨rfl, hb2⟩
    have hB2 := hb1.trans (hb2.mono hb1.size)
    go_wp2_with fail
    refine (h2 w2).mono ?_
    rintro e w2' ⟨rfl, hb2'⟩
    have hB2' := hB2.trans (hb2'.mono hB2.size)
    clear hb2' hB2 hb2 hb1 h1 h2 hcat
    cases hu : unquote l with
    | none =>
      rw [hu] at h3
      change ∀ w, Calls Tryd.prog 20 #[.string (S l)] w fun e w' => e = .returned (.tuple #[.string ⟨#[]⟩, .int .i64 0, .bool false]) ∧ Below w.heap.size w w' at h3
      clear hinv hu
      go_wp2_with fail
      refine (h3 w2').mono ?_
      rintro e w3 ⟨rfl, hb3⟩
      have hB3 := hB2'.trans (hb3.mono hB2'.size)
      go_wp2_with fail
      go_ret
      exact ⟨rfl, hB3⟩
    | some x =>
      obtain ⟨t, n⟩ := x
      rw [hu] at h3
      change ∀ w, Calls Tryd.prog 20 #[.string (S l)] w fun e w' => e = .returned (.tuple #[.string (S t), .int .i64 (n : Nat), .bool true]) ∧ Below w.heap.size w w' at h3
      obtain ⟨i1, i2, i3⟩ := hinv t n hu
      have htl : t.length ≤ 512 := by simp only [quoteOk, Bool.and_eq_true, decide_eq_true_eq] at i1; exact i1.1
      have h5 := quote_any t (by omega)
      rw [i1, show quoteOf t = l.take n by unfold quoteOf; rw [i1, if_pos rfl, i3]] at h5
      have hni : (n : Int) ≤ (l.length : Int) := by omega
      have hsl := fun W => run_slice_string_h (P := Tryd.prog) (w := W) (t := 9) (s := S l) Tryd.underlying9 .i64 (n : Int) (by omega) (by rw [hz]; omega)
      have e1 : (n : Int).toNat = n := by omega
      simp only [e1, S_take] at hsl
      generalize l.take n = qq at *
      clear hinv hu i1 i3 e1
      go_wp2_with fail
      refine (h3 w2').mono ?_
      rintro e w3 ⟨rfl, hb3⟩
      have hB3 := hB2'.trans (hb3.mono hB2'.size)
      go_wp2_with fail
      refine (h5 w3).mono ?_
      rintro e w4 ⟨rfl, hb4⟩
      have hB4 := hB3.trans (hb4.mono hB3.size)
      go_wp2_with fail
      go_ret
      exact ⟨rfl, hB4⟩
end Go.Proofs.YtgmopbgcimekhaaDoor.wo
