/-
  What the reference's Cut answers: the same.
-/
import Derived.Test.YtpeogcjakojjhaaSealCut
import Derived.Deep.RegionHeld3
import Derived.Deep.RegionWith
namespace Go.Proofs.Ytpeogcjakojjhaa.sl
open Go.RowKit

set_option maxHeartbeats 1000000 in
set_option maxRecDepth 100000 in
theorem refcut_short (l : List UInt8) (h8 : l.length < 8) (w : World) :
    Calls Try.prog 15 #[.string (S l)] w fun e w' => e = .returned (.tuple #[.string (S []), .int .i64 0, .int .i64 3]) ∧ w' = w := by
  have hz := S_size l
  go_enter Try.func15, Try.ntmps15
  go_wp2
  refine bodyPost_ret (results_tmp3 rfl _ _ _) rfl ?_
  exact ⟨rfl, rfl⟩

set_option maxHeartbeats 1000000 in
set_option maxRecDepth 100000 in
theorem refcut_long (s : ByteArray) (h8 : 8 ≤ s.size) (hs : s.size ≤ 9223372036854775807) (x0 x1 x2 x3 n : Nat)
    (h0 : (s[0]'(by omega)).toNat = x0) (h1 : (s[1]'(by omega)).toNat = x1) (h2 : (s[2]'(by omega)).toNat = x2) (h3 : (s[3]'(by omega)).toNat = x3)
    (hn : ((x0 * 256 + x1) * 256 + x2) * 256 + x3 = n) (hlong : 65536 < n) (w : World) :
    Calls Try.prog 15 #[.string s] w fun e w' => e = .returned (.tuple #[.string (S []), .int .i64 0, .int .i64 2]) ∧ w' = w := by
  have l0 : x0 < 256 := h0 ▸ UInt8.toNat_lt _
  have l1 : x1 < 256 := h1 ▸ UInt8.toNat_lt _
  have l2 : x2 < 256 := h2 ▸ UInt8.toNat_lt _
  have l3 : x3 < 256 := h3 ▸ UInt8.toNat_lt _
  obtain ⟨y1, e1⟩ : ∃ y : Nat, y = x0 * 256 + x1 := ⟨_, rfl⟩
  obtain ⟨y2, e2⟩ : ∃ y : Nat, y = y1 * 256 + x2 := ⟨_, rfl⟩
  have k1 : (256 : Int) * (x0 : Nat) + (x1 : Nat) = (y1 : Nat) := by omega
  have k2 : (256 : Int) * (y1 : Nat) + (x2 : Nat) = (y2 : Nat) := by omega
  have k3 : (256 : Int) * (y2 : Nat) + (x3 : Nat) = (n : Nat) := by omega
  have b1 : y1 < 65536 := by omega
  have b2 : y2 < 16777216 := by omega
  have b3 : n < 4294967296 := by omega
  clear e1 e2 hn
  go_enter Try.func15, Try.ntmps15
  go_wp2
  refine wp_loop_rounds 5 ?_
  rw [rounds_succ]
  go_wp2
  rw [rounds_succ]
  go_wp2
  rw [rounds_succ]
  go_wp2
  rw [rounds_succ]
  go_wp2
  rw [rounds_succ]
  go_wp2
  refine bodyPost_ret (results_tmp3 rfl _ _ _) rfl ?_
  exact ⟨rfl, rfl⟩
set_option maxHeartbeats 1000000 in
set_option maxRecDepth 100000 in
theorem refcut_torn (s : ByteArray) (h8 : 8 ≤ s.size) (hs : s.size ≤ 9223372036854775807) (x0 x1 x2 x3 n : Nat)
    (h0 : (s[0]'(by omega)).toNat = x0) (h1 : (s[1]'(by omega)).toNat = x1) (h2 : (s[2]'(by omega)).toNat = x2) (h3 : (s[3]'(by omega)).toNat = x3)
    (hn : ((x0 * 256 + x1) * 256 + x2) * 256 + x3 = n) (hn2 : n ≤ 65536) (htorn : s.size < 8 + n) (w : World) :
    Calls Try.prog 15 #[.string s] w fun e w' => e = .returned (.tuple #[.string (S []), .int .i64 0, .int .i64 3]) ∧ w' = w := by
  have l0 : x0 < 256 := h0 ▸ UInt8.toNat_lt _
  have l1 : x1 < 256 := h1 ▸ UInt8.toNat_lt _
  have l2 : x2 < 256 := h2 ▸ UInt8.toNat_lt _
  have l3 : x3 < 256 := h3 ▸ UInt8.toNat_lt _
  obtain ⟨y1, e1⟩ : ∃ y : Nat, y = x0 * 256 + x1 := ⟨_, rfl⟩
  obtain ⟨y2, e2⟩ : ∃ y : Nat, y = y1 * 256 + x2 := ⟨_, rfl⟩
  have k1 : (256 : Int) * (x0 : Nat) + (x1 : Nat) = (y1 : Nat) := by omega
  have k2 : (256 : Int) * (y1 : Nat) + (x2 : Nat) = (y2 : Nat) := by omega
  have k3 : (256 : Int) * (y2 : Nat) + (x3 : Nat) = (n : Nat) := by omega
  have b1 : y1 < 65536 := by omega
  have b2 : y2 < 16777216 := by omega
  have b3 : n < 4294967296 := by omega
  clear e1 e2 hn
  go_enter Try.func15, Try.ntmps15
  go_wp2
  refine wp_loop_rounds 5 ?_
  rw [rounds_succ]
  go_wp2
  rw [rounds_succ]
  go_wp2
  rw [rounds_succ]
  go_wp2
  rw [rounds_succ]
  go_wp2
  rw [rounds_succ]
  go_wp2
  refine bodyPost_ret (results_tmp3 rfl _ _ _) rfl ?_
  exact ⟨rfl, rfl⟩
theorem refsum_str (s : ByteArray) (h : s.size ≤ 9223372036854775807) (w : World) :
    Calls Try.prog 13 #[.string s] w fun e w' => e = .returned (.int .u32 (crcS s)) ∧ w' = w := by
  have := refsum_any s.data.toList (by rw [← str_size]; exact h) w
  rw [S_of] at this
  exact this

set_option maxHeartbeats 1000000 in
set_option maxRecDepth 100000 in
theorem refcut_ok (s : ByteArray) (h8 : 8 ≤ s.size) (hs : s.size ≤ 9223372036854775807) (x0 x1 x2 x3 n : Nat)
    (h0 : (s[0]'(by omega)).toNat = x0) (h1 : (s[1]'(by omega)).toNat = x1) (h2 : (s[2]'(by omega)).toNat = x2) (h3 : (s[3]'(by omega)).toNat = x3)
    (hn : ((x0 * 256 + x1) * 256 + x2) * 256 + x3 = n) (B D : ByteArray) (c : Nat) (hn2 : n ≤ 65536) (hend : 8 + n ≤ s.size) (hB : Hid (s.extract 8 (8 + n) = B)) (hB0 : B.size ≤ 65536) (hc : Hid (crcS B = c)) (hc0 : c < 4294967296) (hD : Hid (s.extract 4 8 = D)) (heq : Hid (S (four c) = D)) (w : World) :
    Calls Try.prog 15 #[.string s] w fun e w' => e = .returned (.tuple #[.string B, .int .i64 (8 + n : Nat), .int .i64 0]) ∧ Below w.heap.size w w' := by
  have l0 : x0 < 256 := h0 ▸ UInt8.toNat_lt _
  have l1 : x1 < 256 := h1 ▸ UInt8.toNat_lt _
  have l2 : x2 < 256 := h2 ▸ UInt8.toNat_lt _
  have l3 : x3 < 256 := h3 ▸ UInt8.toNat_lt _
  obtain ⟨y1, e1⟩ : ∃ y : Nat, y = x0 * 256 + x1 := ⟨_, rfl⟩
  obtain ⟨y2, e2⟩ : ∃ y : Nat, y = y1 * 256 + x2 := ⟨_, rfl⟩
  have k1 : (256 : Int) * (x0 : Nat) + (x1 : Nat) = (y1 : Nat) := by omega
  have k2 : (256 : Int) * (y1 : Nat) + (x2 : Nat) = (y2 : Nat) := by omega
  have k3 : (256 : Int) * (y2 : Nat) + (x3 : Nat) = (n : Nat) := by omega
  have b1 : y1 < 65536 := by omega
  have b2 : y2 < 16777216 := by omega
  have b3 : n < 4294967296 := by omega
  have hsl := fun W => run_slice_string (P := Try.prog) W 9 s .i64 .i64 (8 : Int) (8 + (n : Nat) : Int) Try.underlying9 (by omega) (by omega) (by omega)
  have hsl2 := fun W => run_slice_string (P := Try.prog) W 9 s .i64 .i64 (4 : Int) (8 : Int) Try.underlying9 (by omega) (by omega) (by omega)
  have e8 : (8 + (n : Int)).toNat = 8 + n := by omega
  simp only [e8, show (8 : Int).toNat = 8 from rfl, hB.out] at hsl
  simp only [show (8 : Int).toNat = 8 from rfl, show (4 : Int).toNat = 4 from rfl, hD.out] at hsl2
  clear e8 hB hD
  have hS := refsum_str B (by omega)
  rw [hc.out] at hS
  have hF := four_any c hc0
  have hSH := Lib.hid hS
  have hFH := Lib.hid hF
  clear hS hF
  clear e1 e2 hn
  have hne : ((S (four c)).toList == D.toList) = true := str_eq heq.out
  go_enter Try.func15, Try.ntmps15
  go_wp2
  refine wp_loop_rounds 5 ?_
  rw [rounds_succ]
  go_wp2
  rw [rounds_succ]
  go_wp2
  rw [rounds_succ]
  go_wp2
  rw [rounds_succ]
  go_wp2
  rw [rounds_succ]
  go_wp2_with fail
  go_region_with (first | (go_at_call 13; refine (hSH.out _).mono ?_; rintro e w1 ⟨rfl, rfl⟩) | (go_at_call 22; refine (hFH.out _).mono ?_; rintro e w2 ⟨rfl, hb2⟩))
  all_goals go_wp2
  all_goals refine bodyPost_ret (results_tmp3 rfl _ _ _) rfl ?_
  all_goals refine ⟨rfl, ?_⟩
  all_goals exact ((Below.refl w.heap.size w).drew).trans hb2

set_option maxHeartbeats 1000000 in
set_option maxRecDepth 100000 in
theorem refcut_sum (s : ByteArray) (h8 : 8 ≤ s.size) (hs : s.size ≤ 9223372036854775807) (x0 x1 x2 x3 n : Nat)
    (h0 : (s[0]'(by omega)).toNat = x0) (h1 : (s[1]'(by omega)).toNat = x1) (h2 : (s[2]'(by omega)).toNat = x2) (h3 : (s[3]'(by omega)).toNat = x3)
    (hn : ((x0 * 256 + x1) * 256 + x2) * 256 + x3 = n) (B D : ByteArray) (c : Nat) (hn2 : n ≤ 65536) (hend : 8 + n ≤ s.size) (hB : Hid (s.extract 8 (8 + n) = B)) (hB0 : B.size ≤ 65536) (hc : Hid (crcS B = c)) (hc0 : c < 4294967296) (hD : Hid (s.extract 4 8 = D)) (heq : Hid (S (four c) ≠ D)) (w : World) :
    Calls Try.prog 15 #[.string s] w fun e w' => e = .returned (.tuple #[.string (S []), .int .i64 0, .int .i64 5]) ∧ Below w.heap.size w w' := by
  have l0 : x0 < 256 := h0 ▸ UInt8.toNat_lt _
  have l1 : x1 < 256 := h1 ▸ UInt8.toNat_lt _
  have l2 : x2 < 256 := h2 ▸ UInt8.toNat_lt _
  have l3 : x3 < 256 := h3 ▸ UInt8.toNat_lt _
  obtain ⟨y1, e1⟩ : ∃ y : Nat, y = x0 * 256 + x1 := ⟨_, rfl⟩
  obtain ⟨y2, e2⟩ : ∃ y : Nat, y = y1 * 256 + x2 := ⟨_, rfl⟩
  have k1 : (256 : Int) * (x0 : Nat) + (x1 : Nat) = (y1 : Nat) := by omega
  have k2 : (256 : Int) * (y1 : Nat) + (x2 : Nat) = (y2 : Nat) := by omega
  have k3 : (256 : Int) * (y2 : Nat) + (x3 : Nat) = (n : Nat) := by omega
  have b1 : y1 < 65536 := by omega
  have b2 : y2 < 16777216 := by omega
  have b3 : n < 4294967296 := by omega
  have hsl := fun W => run_slice_string (P := Try.prog) W 9 s .i64 .i64 (8 : Int) (8 + (n : Nat) : Int) Try.underlying9 (by omega) (by omega) (by omega)
  have hsl2 := fun W => run_slice_string (P := Try.prog) W 9 s .i64 .i64 (4 : Int) (8 : Int) Try.underlying9 (by omega) (by omega) (by omega)
  have e8 : (8 + (n : Int)).toNat = 8 + n := by omega
  simp only [e8, show (8 : Int).toNat = 8 from rfl, hB.out] at hsl
  simp only [show (8 : Int).toNat = 8 from rfl, show (4 : Int).toNat = 4 from rfl, hD.out] at hsl2
  clear e8 hB hD
  have hS := refsum_str B (by omega)
  rw [hc.out] at hS
  have hF := four_any c hc0
  have hSH := Lib.hid hS
  have hFH := Lib.hid hF
  clear hS hF
  clear e1 e2 hn
  have hne : ((S (four c)).toList == D.toList) = false := str_ne heq.out
  go_enter Try.func15, Try.ntmps15
  go_wp2
  refine wp_loop_rounds 5 ?_
  rw [rounds_succ]
  go_wp2
  rw [rounds_succ]
  go_wp2
  rw [rounds_succ]
  go_wp2
  rw [rounds_succ]
  go_wp2
  rw [rounds_succ]
  go_wp2_with fail
  go_region_with (first | (go_at_call 13; refine (hSH.out _).mono ?_; rintro e w1 ⟨rfl, rfl⟩) | (go_at_call 22; refine (hFH.out _).mono ?_; rintro e w2 ⟨rfl, hb2⟩))
  all_goals go_wp2
  all_goals refine bodyPost_ret (results_tmp3 rfl _ _ _) rfl ?_
  all_goals refine ⟨rfl, ?_⟩
  all_goals exact ((Below.refl w.heap.size w).drew).trans hb2

theorem big_cons (l : List UInt8) (h : 4 ≤ l.length) (h' : 4 ≤ (S l).size) :
    (((((S l)[0]'(by omega)).toNat * 256 + ((S l)[1]'(by omega)).toNat) * 256 + ((S l)[2]'(by omega)).toNat) * 256 + ((S l)[3]'(by omega)).toNat) = big (l.take 4) := by
  obtain ⟨a, b, c, d, r, rfl⟩ : ∃ a b c d r, l = a :: b :: c :: d :: r := by
    match l, h with
    | a :: b :: c :: d :: r, _ => exact ⟨a, b, c, d, r, rfl⟩
  rfl

theorem refcut_any (l : List UInt8) (hl : l.length ≤ 9223372036854775807) (w : World) :
    Calls Try.prog 15 #[.string (S l)] w fun e w' => e = .returned (.tuple #[.string (S (cut l).1), .int .i64 (cut l).2.1, .int .i64 (cut l).2.2]) ∧ Below w.heap.size w w' := by
  have hz := S_size l
  by_cases h8 : l.length < 8
  · rw [cut_short h8]
    refine (refcut_short l h8 w).mono ?_
    rintro e w' ⟨rfl, rfl⟩
    exact ⟨rfl, Below.refl _ _⟩
  · have h8' : 8 ≤ l.length := by omega
    have hbig := big_cons l (by omega) (by omega)
    by_cases hlong : 65536 < big (l.take 4)
    · rw [cut_long h8' hlong]
      refine (refcut_long (S l) (by omega) (by omega) _ _ _ _ _ rfl rfl rfl rfl hbig hlong w).mono ?_
      rintro e w' ⟨rfl, rfl⟩
      exact ⟨rfl, Below.refl _ _⟩
    · by_cases htorn : l.length < 8 + big (l.take 4)
      · rw [cut_torn h8' (by omega) (by omega)]
        refine (refcut_torn (S l) (by omega) (by omega) _ _ _ _ _ rfl rfl rfl rfl hbig (by omega) (by omega) w).mono ?_
        rintro e w' ⟨rfl, rfl⟩
        exact ⟨rfl, Below.refl _ _⟩
      · have hp := S_part l 8 (big (l.take 4))
        have hD : (S l).extract 4 8 = S ((l.drop 4).take 4) := S_part l 4 4
        have hq : crcS (S ((l.drop 8).take (big (l.take 4)))) = crc ((l.drop 8).take (big (l.take 4))) := by unfold crcS; rw [S_data]
        have hzp : (S ((l.drop 8).take (big (l.take 4)))).size ≤ 65536 := by rw [S_size, List.length_take]; omega
        have h4 : ((l.drop 4).take 4).length = 4 := take4_length (by rw [List.length_drop]; omega)
        by_cases hsum : crc ((l.drop 8).take (big (l.take 4))) = big ((l.drop 4).take 4)
        · rw [cut_ok h8' (by omega) (by omega) hsum]
          exact refcut_ok (S l) (by omega) (by omega) _ _ _ _ _ rfl rfl rfl rfl hbig _ _ _ (by omega) (by omega) (Lib.hid hp) hzp (Lib.hid hq) (crc_lt _) (Lib.hid hD) (Lib.hid (by rw [hsum, four_big h4])) w
        · rw [cut_sum h8' (by omega) (by omega) hsum]
          exact refcut_sum (S l) (by omega) (by omega) _ _ _ _ _ rfl rfl rfl rfl hbig _ _ _ (by omega) (by omega) (Lib.hid hp) hzp (Lib.hid hq) (crc_lt _) (Lib.hid hD) (Lib.hid (fun h => hsum (by
            have h5 := S_inj h
            rw [← h5, big_four (crc_lt _)]))) w
end Go.Proofs.Ytpeogcjakojjhaa.sl
