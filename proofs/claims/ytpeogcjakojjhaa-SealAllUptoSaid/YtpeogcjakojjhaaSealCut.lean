/-
  What seal.Cut answers.
-/
import Derived.Test.YtpeogcjakojjhaaSealCutDef
import Derived.Test.YtpeogcjakojjhaaSealClone
namespace Go.Proofs.Ytpeogcjakojjhaa.sl
open Go.RowKit

theorem str_size (s : ByteArray) : s.size = s.data.toList.length := by rw [Array.length_toList]; rfl
/-- A string's first four bytes as a number. -/
def bigS (s : ByteArray) : Nat := big (s.data.toList.take 4)
theorem bigS_lt {s : ByteArray} (h : 4 ≤ s.size) : bigS s < 4294967296 := big_lt (take4_length (by rw [← str_size]; exact h))
theorem lift_str (s : ByteArray) (h : 4 ≤ s.size) (w : World) :
    Calls Try.prog 23 #[.string s] w fun e w' => e = .returned (.int .u32 (bigS s)) ∧ w' = w := by
  have := lift_any s.data.toList (by rw [← str_size]; exact h) w
  rw [S_of] at this
  exact this

/-- A string's check sum. -/
def crcS (s : ByteArray) : Nat := crc s.data.toList
theorem crcS_lt (s : ByteArray) : crcS s < 4294967296 := crc_lt _
theorem sum_str (s : ByteArray) (h : s.size ≤ 9223372036854775807) (w : World) :
    Calls Try.prog 12 #[.string s] w fun e w' => e = .returned (.int .u32 (crcS s)) ∧ w' = w := by
  have := sum_any s.data.toList (by rw [← str_size]; exact h) w
  rw [S_of] at this
  exact this

set_option maxHeartbeats 1000000 in
set_option maxRecDepth 100000 in
theorem cut_core_ok (s B : ByteArray) (n m : Nat) (h8 : 8 ≤ s.size) (hs : s.size ≤ 9223372036854775807) (en : Hid (bigS s = n)) (em : Hid (bigS (s.extract 4 s.size) = m)) (hzd : 4 ≤ (s.extract 4 s.size).size)
    (hn : n ≤ 65536) (hend : 8 + n ≤ s.size) (hB : Hid (s.extract 8 (8 + n) = B)) (hB0 : B.size ≤ 65536) (hc : Hid (crcS B = m)) (w : World) :
    Calls Try.prog 14 #[.string s] w fun e w' => e = .returned (.tuple #[.string B, .int .i64 (8 + n : Nat), .int .i64 0]) ∧ Below w.heap.size w w' := by
  have hsl := fun W => run_slice_string (P := Try.prog) W 9 s .i64 .i64 (8 : Int) (8 + (n : Nat) : Int) Try.underlying9 (by omega) (by omega) (by omega)
  have e8 : (8 + (n : Int)).toNat = 8 + n := by omega
  simp only [e8, show (8 : Int).toNat = 8 from rfl, hB.out] at hsl
  clear e8 hB
  go_enter Try.func14, Try.ntmps14
  go_wp2
  go_quiet (first | (go_at_call 23; refine Calls.quiet_of_same (lift_str _ ?_ _); omega))
  simp only [en.out, em.out]
  go_wp2_with fail
  refine (sum_str B (by omega) _).mono ?_
  rintro e w1 ⟨rfl, rfl⟩
  rw [hc.out]
  go_wp2_with fail
  refine (clone_any B _ (by omega)).mono ?_
  rintro e w2 ⟨rfl, hb⟩
  go_wp2
  refine bodyPost_ret (results_tmp3 rfl _ _ _) rfl ?_
  exact ⟨rfl, (below_drewN (Below.refl _ w) nq).trans hb⟩

set_option maxHeartbeats 1000000 in
set_option maxRecDepth 100000 in
theorem cut_core_sum (s B : ByteArray) (n m c : Nat) (h8 : 8 ≤ s.size) (hs : s.size ≤ 9223372036854775807) (en : Hid (bigS s = n)) (em : Hid (bigS (s.extract 4 s.size) = m)) (hzd : 4 ≤ (s.extract 4 s.size).size)
    (hn : n ≤ 65536) (hne : c ≠ m) (hend : 8 + n ≤ s.size) (hB : Hid (s.extract 8 (8 + n) = B)) (hB0 : B.size ≤ 65536) (hc : Hid (crcS B = c)) (w : World) :
    Calls Try.prog 14 #[.string s] w fun e w' => e = .returned (.tuple #[.string (S []), .int .i64 0, .int .i64 5]) ∧ Below w.heap.size w w' := by
  have hsl := fun W => run_slice_string (P := Try.prog) W 9 s .i64 .i64 (8 : Int) (8 + (n : Nat) : Int) Try.underlying9 (by omega) (by omega) (by omega)
  have e8 : (8 + (n : Int)).toNat = 8 + n := by omega
  simp only [e8, show (8 : Int).toNat = 8 from rfl, hB.out] at hsl
  clear e8 hB
  go_enter Try.func14, Try.ntmps14
  go_wp2
  go_quiet (first | (go_at_call 23; refine Calls.quiet_of_same (lift_str _ ?_ _); omega))
  simp only [en.out, em.out]
  go_wp2_with fail
  refine (sum_str B (by omega) _).mono ?_
  rintro e w1 ⟨rfl, rfl⟩
  rw [hc.out]
  go_wp2
  refine bodyPost_ret (results_tmp3 rfl _ _ _) rfl ?_
  exact ⟨rfl, below_drewN (Below.refl _ w) nq⟩

set_option maxHeartbeats 1000000 in
set_option maxRecDepth 100000 in
theorem cut_any (l : List UInt8) (hl : l.length ≤ 9223372036854775807) (w : World) :
    Calls Try.prog 14 #[.string (S l)] w fun e w' => e = .returned (.tuple #[.string (S (cut l).1), .int .i64 (cut l).2.1, .int .i64 (cut l).2.2]) ∧ Below w.heap.size w w' := by
  have hz := S_size l
  by_cases h8 : l.length < 8
  · rw [cut_short h8]
    go_enter Try.func14, Try.ntmps14
    go_wp2
    refine bodyPost_ret (results_tmp3 rfl _ _ _) rfl ?_
    exact ⟨rfl, Below.refl _ w⟩
  · have h8' : 8 ≤ l.length := by omega
    have hd4 := S_drop l 4
    have hn : big (l.take 4) = bigS (S l) := by unfold bigS; rw [S_data]
    have hm : big ((l.drop 4).take 4) = bigS ((S l).extract 4 l.length) := by unfold bigS; rw [hd4, S_data]
    have hzd : ((S l).extract 4 l.length).size = l.length - 4 := by rw [hd4, S_size, List.length_drop]
    have hb0 := bigS_lt (s := S l) (by omega)
    have hb1 := bigS_lt (s := (S l).extract 4 l.length) (by omega)
    clear hd4
    by_cases hlong : 65536 < bigS (S l)
    · rw [cut_long h8' (by omega)]
      clear hn hm
      go_enter Try.func14, Try.ntmps14
      go_wp2
      go_quiet (first | (go_at_call 23; refine Calls.quiet_of_same (lift_str _ ?_ _); omega))
      go_wp2
      refine bodyPost_ret (results_tmp3 rfl _ _ _) rfl ?_
      exact ⟨rfl, below_drewN (Below.refl _ w) nq⟩
    · by_cases htorn : l.length < 8 + bigS (S l)
      · rw [cut_torn h8' (by omega) (by omega)]
        clear hn hm
        go_enter Try.func14, Try.ntmps14
        go_wp2
        go_quiet (first | (go_at_call 23; refine Calls.quiet_of_same (lift_str _ ?_ _); omega))
        go_wp2
        refine bodyPost_ret (results_tmp3 rfl _ _ _) rfl ?_
        exact ⟨rfl, below_drewN (Below.refl _ w) nq⟩
      · have hp := S_part l 8 (bigS (S l))
        have hq : crc ((l.drop 8).take (bigS (S l))) = crcS ((S l).extract 8 (8 + bigS (S l))) := by unfold crcS; rw [hp, S_data]
        have hzp : ((S l).extract 8 (8 + bigS (S l))).size = bigS (S l) := by rw [hp, S_size, List.length_take, List.length_drop]; omega
        by_cases hsum : crcS ((S l).extract 8 (8 + bigS (S l))) = bigS ((S l).extract 4 l.length)
        · rw [cut_ok h8' (by omega) (by omega) (by rw [hn, hq, hm]; exact hsum), hn]
          have h := cut_core_ok (S l) _ (bigS (S l)) (bigS ((S l).extract 4 l.length)) h8' hl (Lib.hid rfl) (Lib.hid rfl) (by rw [hz, hzd]; omega) (by omega) (by omega) (Lib.hid rfl) (by omega) (Lib.hid hsum) w
          rw [hp] at h
          exact h
        · rw [cut_sum h8' (by omega) (by omega) (by rw [hn, hq, hm]; exact hsum)]
          exact cut_core_sum (S l) _ (bigS (S l)) (bigS ((S l).extract 4 l.length)) _ h8' hl (Lib.hid rfl) (Lib.hid rfl) (by rw [hz, hzd]; omega) (by omega) hsum (by omega) (Lib.hid rfl) (by omega) (Lib.hid rfl) w
end Go.Proofs.Ytpeogcjakojjhaa.sl
