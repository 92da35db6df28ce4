/-
  What the program's Canon, rank, order answer, where the flags of the system lie as the program lays them.
-/
import Derived.Test.YtiaggnpkmigbhaaDoorFlagSmall
import Derived.Test.YtiaggnpkmigbhaaDoorFlagRef2
import Derived.Laws.Cover1
namespace Go.Proofs.YtiaggnpkmigbhaaDoor.fl
open Go.RowKit

/-- The flags of the system, as they lie. -/
structure Sys (w : World) : Prop where
  c0 : w.cell? ⟨0, 0, none⟩ = some (.string ⟨#[92, 65, 110, 115, 119, 101, 114, 101, 100]⟩)
  c1 : w.cell? ⟨0, 1, none⟩ = some (.string ⟨#[92, 70, 108, 97, 103, 103, 101, 100]⟩)
  c2 : w.cell? ⟨0, 2, none⟩ = some (.string ⟨#[92, 68, 101, 108, 101, 116, 101, 100]⟩)
  c3 : w.cell? ⟨0, 3, none⟩ = some (.string ⟨#[92, 83, 101, 101, 110]⟩)
  c4 : w.cell? ⟨0, 4, none⟩ = some (.string ⟨#[92, 68, 114, 97, 102, 116]⟩)
theorem Sys.lt {w : World} (h : Sys w) : 0 < w.heap.size := Lib.lt_of_cell h.c0
theorem Sys.later {w w' : World} {B : Nat} (h : Sys w) (k : Below B w w') (hB : 0 < B) : Sys w' :=
  ⟨(k.cell (p := ⟨0, 0, none⟩) hB).trans h.c0, (k.cell (p := ⟨0, 1, none⟩) hB).trans h.c1, (k.cell (p := ⟨0, 2, none⟩) hB).trans h.c2, (k.cell (p := ⟨0, 3, none⟩) hB).trans h.c3, (k.cell (p := ⟨0, 4, none⟩) hB).trans h.c4⟩
theorem Sys.next {w w' : World} (h : Sys w) (k : Below w.heap.size w w') : Sys w' := h.later k h.lt

def sysV : Value := .agg #[.string ⟨#[92, 65, 110, 115, 119, 101, 114, 101, 100]⟩, .string ⟨#[92, 70, 108, 97, 103, 103, 101, 100]⟩, .string ⟨#[92, 68, 101, 108, 101, 116, 101, 100]⟩, .string ⟨#[92, 83, 101, 101, 110]⟩, .string ⟨#[92, 68, 114, 97, 102, 116]⟩]
theorem sys_index0 : ∀ w : World, (Instr.index 45 sysV (.int .i64 0)).run Tryd.prog w = .ok (.string (S (sysAt 0))) w := fun _ => by kernel_rfl
theorem sys_index1 : ∀ w : World, (Instr.index 45 sysV (.int .i64 1)).run Tryd.prog w = .ok (.string (S (sysAt 1))) w := fun _ => by kernel_rfl
theorem sys_index2 : ∀ w : World, (Instr.index 45 sysV (.int .i64 2)).run Tryd.prog w = .ok (.string (S (sysAt 2))) w := fun _ => by kernel_rfl
theorem sys_index3 : ∀ w : World, (Instr.index 45 sysV (.int .i64 3)).run Tryd.prog w = .ok (.string (S (sysAt 3))) w := fun _ => by kernel_rfl
theorem sys_index4 : ∀ w : World, (Instr.index 45 sysV (.int .i64 4)).run Tryd.prog w = .ok (.string (S (sysAt 4))) w := fun _ => by kernel_rfl
theorem sys_index (k : Nat) (hk : k < 5) (w : World) : (Instr.index 45 sysV (.int .i64 (k : Nat))).run Tryd.prog w = .ok (.string (S (sysAt k))) w := by
  have h : k = 0 ∨ k = 1 ∨ k = 2 ∨ k = 3 ∨ k = 4 := by omega
  rcases h with rfl | rfl | rfl | rfl | rfl
  · exact sys_index0 w
  · exact sys_index1 w
  · exact sys_index2 w
  · exact sys_index3 w
  · exact sys_index4 w

set_option maxHeartbeats 1000000 in
set_option maxRecDepth 100000 in
theorem rank_any (f : List UInt8) (w : World) (hS : Sys w) :
    Calls Tryd.prog 80 #[.string (S f)] w fun e w' => e = .returned (.int .i64 (place f : Nat)) ∧ w' = w := by
  have c0 := hS.c0
  have c1 := hS.c1
  have c2 := hS.c2
  have c3 := hS.c3
  have c4 := hS.c4
  clear hS
  have HI := Lib.hid sys_index
  go_enter Tryd.func80, Tryd.ntmps80
  go_wp2
  clear c0 c1 c2 c3 c4
  go_loopw [6] (fun i wr => ∃ k : Nat, i = .int .i64 k ∧ k ≤ 5 ∧ Hid (∀ j, j < k → sysAt j ≠ f) ∧ wr = w)
    (fun i _ => 5 - (intOf i).toNat)
  case atStart => exact ⟨0, rfl, Nat.zero_le _, Lib.hid (fun j h => absurd h (by omega)), rfl⟩
  case round =>
    obtain ⟨k, rfl, hk, HN, rfl⟩ := hrel
    by_cases hlt : k < 5
    · have hki : (k : Int) < 5 := by omega
      have hix := HI.out k hlt
      unfold sysV at hix
      by_cases he : sysAt k = f
      · have HP := Lib.hid (place_at hlt he)
        have hq : ((S f).toList == (S (sysAt k)).toList) = true := str_eq (by rw [he])
        clear he HN
        generalize sysAt k = g at *
        go_wp2
        go_ret
        exact ⟨by rw [HP.out]; rfl, rfl⟩
      · have hq : ((S f).toList == (S (sysAt k)).toList) = false := str_ne (S_ne (fun e => he e.symm))
        have HNN : Hid (∀ j, j < k + 1 → sysAt j ≠ f) := fun j hj => by
          by_cases h2 : j < k
          · exact HN.out j h2
          · obtain rfl : j = k := by omega
            exact he
        clear he HN
        generalize sysAt k = g at *
        go_wp2
        go_roundw
        case rel => exact ⟨k + 1, by go_num, by omega, HNN, trivial⟩
        case measure => simp [intOf]; omega
    · obtain rfl : k = 5 := by omega
      have HP := Lib.hid (place_none HN.out)
      clear HN
      go_wp2
      go_ret
      exact ⟨by rw [HP.out]; rfl, rfl⟩

set_option maxHeartbeats 2000000 in
set_option maxRecDepth 100000 in
theorem canon_any (l : List UInt8) (hl : l.length ≤ 140737488355328) (w : World) (hS : Sys w) :
    Calls Tryd.prog 10 #[.string (S l)] w fun e w' => e = .returned (.tuple #[.string (S (cf l)), .bool (canon l).isSome]) ∧ Below w.heap.size w w' := by
  have hz := S_size l
  have HI := Lib.hid sys_index
  have HSM := Lib.hid small_any
  have hs0 := hS.lt
  by_cases h32 : l.length ≤ 32
  · have h32i : ¬ (l.length : Int) > 32 := by omega
    have hsm := HSM.out l hl w
    have hat := atom_any (lower l) (by rw [lower_length]; omega)
    rw [atom_lower] at hat
    go_enter Tryd.func10, Tryd.ntmps10
    go_wp2_with fail
    refine hsm.mono ?_
    rintro e w1 ⟨rfl, b1⟩
    have hS1 := hS.next b1
    have c0 := hS1.c0
    have c1 := hS1.c1
    have c2 := hS1.c2
    have c3 := hS1.c3
    have c4 := hS1.c4
    have HA := Lib.hid hat
    clear hS hS1 hsm hat
    go_wp2_with fail
    clear c0 c1 c2 c3 c4
    go_loopw [13] (fun i wr => ∃ k : Nat, i = .int .i64 k ∧ k ≤ 5 ∧ Hid (∀ j, j < k → upper (sysAt j) ≠ upper l) ∧ Below w.heap.size w wr)
      (fun i _ => 5 - (intOf i).toNat)
    case atStart => exact ⟨0, rfl, Nat.zero_le _, Lib.hid (fun j h => absurd h (by omega)), b1⟩
    case round =>
      clear b1
      obtain ⟨k, rfl, hk, HN, hB⟩ := hrel
      have hB0 := hB.size
      by_cases hlt : k < 5
      · have hki : (k : Int) < 5 := by omega
        have hix := HI.out k hlt
        unfold sysV at hix
        have hsm := HSM.out (sysAt k) (by have := sysAt_len hlt; omega)
        by_cases he : upper (sysAt k) = upper l
        · have HP := Lib.hid (canon_at (sysOf_at hlt he HN.out))
          have hq : ((S (lower l)).toList == (S (lower (sysAt k))).toList) = true := str_eq (by rw [(upper_iff _ _).1 he])
          clear he HN
          generalize sysAt k = g at *
          generalize lower g = g' at *
          generalize lower l = l' at *
          go_wp2_with fail
          refine (hsm _).mono ?_
          rintro e w2 ⟨rfl, b2⟩
          go_wp2_with fail
          refine bodyPost_ret (results_tmp2 rfl _ _ _) rfl ⟨?_, hB.trans (b2.mono hB0)⟩
          rw [HP.out.1, HP.out.2]; rfl
        · have hq : ((S (lower l)).toList == (S (lower (sysAt k))).toList) = false := str_ne (S_ne (fun e => he ((upper_iff _ _).2 e.symm)))
          have HNN : Hid (∀ j, j < k + 1 → upper (sysAt j) ≠ upper l) := fun j hj => by
            by_cases h2 : j < k
            · exact HN.out j h2
            · obtain rfl : j = k := by omega
              exact he
          clear he HN
          generalize sysAt k = g at *
          generalize lower g = g' at *
          go_wp2_with fail
          refine (hsm _).mono ?_
          rintro e w2 ⟨rfl, b2⟩
          go_wp2_with fail
          go_roundw
          case rel => exact ⟨k + 1, by go_num, by omega, HNN, hB.trans (b2.mono hB0)⟩
          case measure => simp [intOf]; omega
      · obtain rfl : k = 5 := by omega
        have hno := Lib.hid (sysOf_none HN.out)
        have ha := HA.out wr
        clear HN
        cases hat : atom l with
        | false =>
          have HP := Lib.hid (canon_none hno.out (by rw [hat]; simp))
          rw [hat] at ha
          clear hat
          go_wp2_with fail
          refine ha.mono ?_
          rintro e w2 ⟨rfl, b2⟩
          go_wp2_with fail
          refine bodyPost_ret (results_tmp2 rfl _ _ _) rfl ⟨?_, hB.trans (b2.mono hB0)⟩
          rw [HP.out.1, HP.out.2]; rfl
        | true =>
          have HP := Lib.hid (canon_word hno.out hat h32)
          rw [hat] at ha
          clear hat
          go_wp2_with fail
          refine ha.mono ?_
          rintro e w2 ⟨rfl, b2⟩
          go_wp2_with fail
          refine bodyPost_ret (results_tmp2 rfl _ _ _) rfl ⟨?_, hB.trans (b2.mono hB0)⟩
          rw [HP.out.1, HP.out.2]; rfl
  · have h32i : (l.length : Int) > 32 := by omega
    have hno : sysOf l = none := sysOf_none (fun j hj e => by
      have h1 := sysAt_len hj
      have h2 := congrArg List.length e
      rw [upper_length, upper_length] at h2
      omega)
    have HP := Lib.hid (canon_none hno (by simp [h32]))
    clear hno h32
    go_enter Tryd.func10, Tryd.ntmps10
    go_wp2_with fail
    refine bodyPost_ret (results_tmp2 rfl _ _ _) rfl ⟨?_, Below.refl _ _⟩
    rw [HP.out.1, HP.out.2]; rfl

/-! ### The order -/
def cmpN (p q : Nat) : Int := if p < q then -1 else if q < p then 1 else 0
def cmpL (a b : List UInt8) : Int := if a < b then -1 else if b < a then 1 else 0
def ord (a b : List UInt8) : Int := if cmpN (place a) (place b) ≠ 0 then cmpN (place a) (place b) else cmpL a b
theorem cmpN_zero (p q : Nat) : cmpN p q = 0 ↔ p = q := by
  unfold cmpN
  split
  · constructor <;> intro h <;> omega
  · split <;> constructor <;> intro h <;> omega
theorem cmpN_neg (p q : Nat) : cmpN p q < 0 ↔ p < q := by
  unfold cmpN
  split
  · simp; assumption
  · split <;> simp <;> omega
theorem cmpL_zero (a b : List UInt8) : cmpL a b = 0 ↔ a = b := by
  unfold cmpL
  by_cases h1 : a < b
  · rw [if_pos h1]; constructor
    · intro h; omega
    · intro h; rw [h] at h1; exact absurd h1 (lt_irr b)
  · rw [if_neg h1]
    by_cases h2 : b < a
    · rw [if_pos h2]; constructor
      · intro h; omega
      · intro h; rw [h] at h2; exact absurd h2 (lt_irr b)
    · rw [if_neg h2]
      refine ⟨fun _ => ?_, fun _ => rfl⟩
      by_cases he : a = b
      · exact he
      · exact (lt_tri he).elim (fun h => absurd h h1) (fun h => absurd h h2)
theorem cmpL_neg (a b : List UInt8) : cmpL a b < 0 ↔ a < b := by
  unfold cmpL
  by_cases h1 : a < b
  · rw [if_pos h1]; simp [h1]
  · rw [if_neg h1]
    by_cases h2 : b < a
    · rw [if_pos h2]; simp [h1]
    · rw [if_neg h2]; simp [h1]
theorem ord_neg (a b : List UInt8) : ord a b < 0 ↔ less a b = true := by
  rw [less_iff]
  unfold ord
  by_cases h : place a = place b
  · rw [if_neg (by simpa using (cmpN_zero _ _).2 h), cmpL_neg]
    constructor
    · intro h2; exact .inr ⟨h, h2⟩
    · rintro (h2 | h2)
      · omega
      · exact h2.2
  · rw [if_pos (fun e => h ((cmpN_zero _ _).1 e)), cmpN_neg]
    constructor
    · intro h2; exact .inl h2
    · rintro (h2 | h2)
      · exact h2
      · exact absurd h2.1 h
theorem ord_zero (a b : List UInt8) : ord a b = 0 ↔ a = b := by
  unfold ord
  by_cases h : place a = place b
  · rw [if_neg (by simpa using (cmpN_zero _ _).2 h), cmpL_zero]
  · rw [if_pos (fun e => h ((cmpN_zero _ _).1 e)), cmpN_zero]
    constructor
    · intro h2; exact absurd h2 h
    · intro h2; rw [h2]

set_option maxRecDepth 100000 in
theorem nanI_any (x : Int) (w : World) :
    Calls Tryd.prog 92 #[.int .i64 x] w fun e w' => e = .returned (.bool false) ∧ w' = w := by
  go_enter Tryd.func92, Tryd.ntmps92
  go_wp2
  go_ret
  exact ⟨by simp, rfl⟩
set_option maxRecDepth 100000 in
theorem nanS_any (x : ByteArray) (w : World) :
    Calls Tryd.prog 93 #[.string x] w fun e w' => e = .returned (.bool false) ∧ w' = w := by
  go_enter Tryd.func93, Tryd.ntmps93
  go_wp2
  go_ret
  exact ⟨by simp, rfl⟩
set_option maxRecDepth 100000 in
theorem cmpI_any (p q : Nat) (w : World) :
    Calls Tryd.prog 79 #[.int .i64 (p : Nat), .int .i64 (q : Nat)] w fun e w' => e = .returned (.int .i64 (cmpN p q)) ∧ w' = w := by
  have hn := nanI_any
  have HD : Hid (cmpN p q = if p < q then -1 else if q < p then 1 else 0) := rfl
  by_cases h1 : p < q
  · have i1 : (p : Int) < (q : Int) := by omega
    rw [if_pos h1] at HD
    go_enter Tryd.func79, Tryd.ntmps79
    go_wp2_with (go_at_call 92; refine (hn _ _).mono ?_; rintro e w1 ⟨rfl, rfl⟩)
    go_ret
    exact ⟨by rw [HD.out]; rfl, rfl⟩
  · rw [if_neg h1] at HD
    have i1 : ¬ (p : Int) < (q : Int) := by omega
    by_cases h2 : q < p
    · have i2 : (p : Int) > (q : Int) := by omega
      rw [if_pos h2] at HD
      go_enter Tryd.func79, Tryd.ntmps79
      go_wp2_with (go_at_call 92; refine (hn _ _).mono ?_; rintro e w1 ⟨rfl, rfl⟩)
      go_ret
      exact ⟨by rw [HD.out]; rfl, rfl⟩
    · have i2 : ¬ (p : Int) > (q : Int) := by omega
      rw [if_neg h2] at HD
      go_enter Tryd.func79, Tryd.ntmps79
      go_wp2_with (go_at_call 92; refine (hn _ _).mono ?_; rintro e w1 ⟨rfl, rfl⟩)
      go_ret
      exact ⟨by rw [HD.out]; rfl, rfl⟩
set_option maxRecDepth 100000 in
theorem cmpS_any (a b : List UInt8) (w : World) :
    Calls Tryd.prog 81 #[.string (S a), .string (S b)] w fun e w' => e = .returned (.int .i64 (cmpL a b)) ∧ w' = w := by
  have hn := nanS_any
  have HD : Hid (cmpL a b = if a < b then -1 else if b < a then 1 else 0) := rfl
  have hl : Op.bytesLess (S a).toList (S b).toList = decide (a < b) := by rw [S_toList, S_toList]; exact less_bytes a b
  by_cases h1 : a < b
  · rw [if_pos h1] at HD
    rw [decide_eq_true h1] at hl
    clear h1
    go_enter Tryd.func81, Tryd.ntmps81
    go_wp2_with (go_at_call 93; refine (hn _ _).mono ?_; rintro e w1 ⟨rfl, rfl⟩)
    go_ret
    exact ⟨by rw [HD.out]; rfl, rfl⟩
  · rw [if_neg h1] at HD
    rw [decide_eq_false h1] at hl
    by_cases h2 : b < a
    · rw [if_pos h2] at HD
      have he : ((S a).toList == (S b).toList) = false := str_ne (S_ne (fun e => by rw [e] at h2; exact lt_irr b h2))
      clear h1 h2
      go_enter Tryd.func81, Tryd.ntmps81
      go_wp2_with (go_at_call 93; refine (hn _ _).mono ?_; rintro e w1 ⟨rfl, rfl⟩)
      go_ret
      exact ⟨by rw [HD.out]; rfl, rfl⟩
    · rw [if_neg h2] at HD
      have he : ((S a).toList == (S b).toList) = true := str_eq (by
        by_cases e : a = b
        · rw [e]
        · exact absurd (lt_tri e) (by simp [h1, h2]))
      clear h1 h2
      go_enter Tryd.func81, Tryd.ntmps81
      go_wp2_with (go_at_call 93; refine (hn _ _).mono ?_; rintro e w1 ⟨rfl, rfl⟩)
      go_ret
      exact ⟨by rw [HD.out]; rfl, rfl⟩
set_option maxRecDepth 100000 in
theorem or_any (c d : Int) (b cap : Nat) (w : World) (h0 : w.cell? ⟨b, 0, none⟩ = some (.int .i64 c)) (h1 : w.cell? ⟨b, 1, none⟩ = some (.int .i64 d)) :
    Calls Tryd.prog 78 #[.slice (some ⟨b, 0, none⟩) 2 cap] w fun e w' => e = .returned (.int .i64 (if c ≠ 0 then c else d)) ∧ w' = w := by
  by_cases hc : c = 0
  · subst hc
    by_cases hd : d = 0
    · subst hd
      go_enter Tryd.func78, Tryd.ntmps78
      go_wp2
      refine wp_loop_rounds 3 ?_
      rw [rounds_succ]
      go_wp2
      rw [rounds_succ]
      go_wp2
      rw [rounds_succ]
      go_wp2
      go_ret
      exact ⟨rfl, rfl⟩
    · have hq : (d != 0) = true := by simp [hd]
      go_enter Tryd.func78, Tryd.ntmps78
      go_wp2
      refine wp_loop_rounds 3 ?_
      rw [rounds_succ]
      go_wp2
      rw [rounds_succ]
      go_wp2
      go_ret
      exact ⟨rfl, rfl⟩
  · have hq : (c != 0) = true := by simp [hc]
    rw [if_pos hc]
    go_enter Tryd.func78, Tryd.ntmps78
    go_wp2
    refine wp_loop_rounds 3 ?_
    rw [rounds_succ]
    go_wp2
    go_ret
    exact ⟨rfl, rfl⟩

set_option maxRecDepth 100000 in
theorem order_any (a b : List UInt8) (w : World) (hS : Sys w) :
    Calls Tryd.prog 64 #[.string (S a), .string (S b)] w fun e w' => e = .returned (.int .i64 (ord a b)) ∧ Below w.heap.size w w' := by
  have ha := rank_any a w hS
  have hb := rank_any b w hS
  have hn := cmpI_any (place a) (place b)
  have hs := cmpS_any a b
  have HO := Lib.hid (fun x => or_any (cmpN (place a) (place b)) (cmpL a b) x)
  have HD : Hid (ord a b = if cmpN (place a) (place b) ≠ 0 then cmpN (place a) (place b) else cmpL a b) := rfl
  clear hS
  generalize cmpN (place a) (place b) = c at *
  generalize cmpL a b = d at *
  go_enter Tryd.func64, Tryd.ntmps64
  go_wp2_with fail
  refine ha.mono ?_
  rintro e w1 ⟨rfl, rfl⟩
  clear ha
  go_wp2_with fail
  refine hb.mono ?_
  rintro e w2 ⟨rfl, rfl⟩
  clear hb
  go_wp2_with fail
  refine (hn _).mono ?_
  rintro e w3 ⟨rfl, rfl⟩
  clear hn
  go_wp2_with fail
  refine (hs _).mono ?_
  rintro e w4 ⟨rfl, rfl⟩
  clear hs
  have hor := HO.out w4.heap.size 2 (w4.alloc (.cells #[.int .i64 c, .int .i64 d] 3)) (by rw [World.cell?_alloc_at _ _ _ _ rfl]; rfl) (by rw [World.cell?_alloc_at _ _ _ _ rfl]; rfl)
  rw [← HD.out] at hor
  go_wp2_with fail
  refine hor.mono ?_
  rintro e w5 ⟨rfl, rfl⟩
  go_wp2_with fail
  go_ret
  exact ⟨rfl, (Below.refl _ _).alloc (Nat.le_refl _) _⟩
end Go.Proofs.YtiaggnpkmigbhaaDoor.fl
