/-
  The walk of SeqsetFew.
-/
import Derived.Test.YtbaeillecojilaaDoorSeqWalks
namespace Go.Proofs.YtbaeillecojilaaDoor.sq
open Go.RowKit

def stand (x : Nat) (l : List Nat) : Bool := decide (0 < x ∧ x ∈ l)
theorem stand_nil (x : Nat) : stand x [] = false := by simp [stand]
theorem stand_next (x : Nat) (l : List Nat) (k : Nat) (h : k < l.length) : stand x (l.take (k + 1)) = (stand x (l.take k) || (decide (l[k] = x) && decide (0 < l[k]))) := by
  unfold stand
  rw [List.take_succ_eq_append_getElem h]
  rw [Bool.eq_iff_iff]
  simp only [decide_eq_true_eq, Bool.or_eq_true, Bool.and_eq_true, List.mem_append, List.mem_singleton]
  constructor
  · rintro ⟨h0, h1 | h1⟩
    · exact .inl ⟨h0, h1⟩
    · exact .inr ⟨h1.symm, h1 ▸ h0⟩
  · rintro (⟨h0, h1⟩ | ⟨h1, h2⟩)
    · exact ⟨h0, .inl h1⟩
    · exact ⟨h1 ▸ h2, .inr h1.symm⟩

set_option maxHeartbeats 1000000 in
set_option maxRecDepth 100000 in
theorem seqsetfew_any (hS : SortAt 300) (a : Option Addr) (cap : Nat) (of : List Nat) (n : Nat) (hn : n < 18446744073709551616) (h64 : Hid (∀ x ∈ of, x < 18446744073709551616)) (w : World) (hrow : Row64 w a of) (hnil : a = none → cap = 0 ∧ of = []) (hL : Laid w) :
    Calls Tryd.prog 8 #[.slice a of.length cap, .int .u64 (n : Nat)] w fun e w' => e = .returned (.bool true) ∧ Below w.heap.size w w' := by
  have HLD := Lib.hid hL
  clear hL
  go_enter Tryd.func8, Tryd.ntmps8
  by_cases hlong : 300 < of.length
  · clear h64 hrow hnil hS
    have hi : (300 : Int) < (of.length : Int) := by omega
    go_wp2_with fail
    refine (alive_any w HLD.out).mono ?_
    rintro e w1 ⟨rfl, hb1⟩
    go_wp2_with fail
    refine (alive_any w1 (HLD.out.later hb1)).mono ?_
    rintro e w2 ⟨rfl, hb2⟩
    have HB := hb1.trans (hb2.mono hb1.size)
    go_wp2
    go_ret
    exact ⟨rfl, HB⟩
  have ho : of.length ≤ 1048576 := by omega
  have HO := Lib.hid hrow
  have HNIL := Lib.hid hnil
  clear hrow hnil
  have HN := Lib.hid (fun W (hb : Below w.heap.size w W) => norm_any 300 (by decide) hS a cap of (by omega) h64 W (HO.out.later hb))
  have hlen : Hid (∀ L, IsNorm of L → L.length ≤ 300) := fun L h => by
    have := norm_length L 0 h
    omega
  have hi : ¬ ((300 : Int) < (of.length : Int)) := by omega
  go_wp2_with fail
  refine (alive_any w HLD.out).mono ?_
  rintro e w1 ⟨rfl, hb1⟩
  go_wp2_with fail
  refine (HN.out w1 hb1).mono ?_
  rintro e w2 ⟨⟨L, a2, c2, rfl, hr2, hn2⟩, hb2⟩
  have HB2 := hb1.trans (hb2.mono hb1.size)
  have HR2 := Lib.hid hr2
  have hll := hlen.out L hn2
  have HA := Lib.hid (norm_apart L 0 hn2)
  have HIN := Lib.hid (norm_in hn2)
  clear hb1 hb2 hr2 hn2 hlen HN
  go_wp2
  go_loopw [6] (fun i wr => ∃ k : Nat, i = .int .i64 k ∧ k ≤ L.length ∧ Below w2.heap.size w2 wr)
    (fun i _ => L.length - (intOf i).toNat)
  case atStart => exact ⟨0, rfl, Nat.zero_le _, Below.refl _ _⟩
  case round =>
    obtain ⟨k, rfl, hk, hB⟩ := hrel
    have hBs := hB.size
    by_cases hlt : k < L.length
    · rcases HR2.out.later hB with h0 | ⟨b, off, rfl, hb, hc⟩
      · rw [h0] at hlt; simp at hlt
      obtain ⟨c1, c2⟩ := hc k hlt
      have hki : (k : Int) < (L.length : Int) := by omega
      by_cases hk0 : k = 0
      · subst hk0
        obtain ⟨f1, f2, f3, f4⟩ := HA.out 0 hlt
        obtain ⟨⟨x, y⟩, hxy⟩ : ∃ r, L[0]'hlt = r := ⟨_, rfl⟩
        rw [hxy] at c1 c2 f1 f2 f3
        simp only [Nat.zero_mul, Nat.add_zero] at c1 c2 f1 f2 f3
        have e1 : decide ((x : Int) < 1) = false := decide_eq_false (by omega)
        have e2 : decide (y < x) = false := decide_eq_false (by omega)
        clear f4 hxy hc f1 f2 f3
        go_wp2
        go_quiet (fail)
        have hBq := below_drewN hB nq
        clear hB c1 c2 e1 e2
        generalize wr.drewN nq = w3 at *
        go_wp2
        go_roundw
        case rel => exact ⟨1, by go_num, by omega, hBq⟩
        case measure => simp [intOf]; omega
      · obtain ⟨j, hjk⟩ : ∃ j, k = j + 1 := ⟨k - 1, by omega⟩
        have hj : j < L.length := by omega
        obtain ⟨d1, d2⟩ := hc j hj
        obtain ⟨f1, f2, f3, f4⟩ := HA.out k hlt
        have f5 := f4 (by omega)
        obtain ⟨⟨x, y⟩, hxy⟩ : ∃ r, L[k]'hlt = r := ⟨_, rfl⟩
        have hzz : L[k - 1]'(by omega) = L[j]'hj := by congr 1; omega
        rw [hzz] at f5
        obtain ⟨⟨p, q⟩, hpq⟩ : ∃ r, L[j]'hj = r := ⟨_, rfl⟩
        rw [hxy] at c1 c2 f1 f2 f3 f5
        rw [hpq] at d1 d2 f5
        simp only at c1 c2 d1 d2 f1 f2 f3 f5
        have g1 : ¬ ((x : Int) < 1) := by omega
        have g2 : ¬ ((y : Int) < (x : Int)) := by omega
        have g3 : ¬ ((x : Int) ≤ (q : Int)) := by omega
        have g4 : IntKind.u64.wrap ((x : Int) - (q : Int)) = (x : Int) - (q : Int) := IntWalk.u64_in _ (by omega)
        have g5 : ¬ ((x : Int) - (q : Int) < 2) := by omega
        have g6 : (0 : Int) < (k : Int) := by omega
        have g7 : IntKind.i64.wrap ((k : Int) - 1) = (j : Int) := by rw [show (k : Int) - 1 = (j : Int) by omega]; exact IntWalk.i64_in _ (by omega)
        have g8 : (j : Int) < (L.length : Int) := by omega
        have e1 : decide ((x : Int) < 1) = false := decide_eq_false g1
        have e2 : decide (y < x) = false := decide_eq_false (by omega)
        have e3 : decide (0 < k) = true := decide_eq_true (by omega)
        have e4 : decide (x ≤ q) = false := decide_eq_false (by omega)
        have e5 : decide ((x : Int) - (q : Int) < 2) = false := decide_eq_false g5
        clear f4 hxy hpq hzz hc hjk hk0 g1 g2 g3 g5 g6
        go_wp2
        go_quiet (fail)
        have hBq := below_drewN hB nq
        clear hB c1 c2 d1 d2 e1 e2 e3 e4 e5 f1 f2 f3 f5 g4 g7 g8
        generalize wr.drewN nq = w3 at *
        go_wp2
        go_roundw
        case rel => exact ⟨k + 1, by go_num, by omega, hBq⟩
        case measure => simp [intOf]; omega
    · obtain rfl : k = L.length := by omega
      obtain ⟨v4, w4, hrun, ⟨a4, c4, rfl, hr4⟩, hb4⟩ := copy64c wr n a cap of ho (HO.out.later (HB2.trans (hB.mono HB2.size))) HNIL.out
      have HRun := Lib.hid hrun
      have HR4 := Lib.hid hr4
      clear hrun hr4
      have HB4 := HB2.trans ((hB.trans (hb4.mono hBs)).mono HB2.size)
      go_wp2_with (at_builtin; refine wpList_append_at _ _ _ rfl rfl _ _ _ _ rfl rfl HRun.out ?_)
      have hA64 : Hid (∀ x ∈ n :: of, x < 18446744073709551616) := fun x hx => by
        rcases List.mem_cons.1 hx with rfl | h
        · exact hn
        · exact h64.out x h
      have hAl : (n :: of).length = of.length + 1 := rfl
      have HRL := Lib.hid (HR2.out.later (hB.trans (hb4.mono hBs)))
      have HOW := Lib.hid (HO.out.later HB4)
      clear HRun HA HO HR2 HB2 hB hBs hb4 h64 hn hk hlt HNIL
      generalize n :: of = A at *
      clear hi hlong
      go_loopw [8] (fun i wr => ∃ k : Nat, i = .int .i64 k ∧ k ≤ A.length ∧ Below w4.heap.size w4 wr)
        (fun i _ => A.length - (intOf i).toNat)
      case atStart => exact ⟨0, rfl, Nat.zero_le _, Below.refl _ _⟩
      case round =>
        obtain ⟨k, rfl, hk, hB⟩ := hrel
        rename World => w0
        by_cases hlt : k < A.length
        · have hki : (k : Int) < ((of.length : Int) + 1) := by omega
          obtain ⟨x, hx⟩ : ∃ x, A[k]'hlt = x := ⟨_, rfl⟩
          have HX := Lib.hid hx
          clear hx
          have HNX := Lib.hid (stand_next x of)
          have HNL := Lib.hid (stand_nil x)
          go_wp2
          go_loopw [9, 10] (fun sv iv wr => ∃ j : Nat, iv = .int .i64 j ∧ j ≤ of.length ∧ sv = .bool (stand x (of.take j)) ∧ Below w4.heap.size w4 wr)
            (fun _ iv _ => of.length - (intOf iv).toNat)
          case atStart => exact ⟨0, rfl, Nat.zero_le _, by rw [List.take_zero, HNL.out], hB⟩
          case round =>
            obtain ⟨j, rfl, hj, rfl, hC⟩ := hrel
            by_cases hjl : j < of.length
            · rcases HOW.out.later hC with h0 | ⟨b, off, rfl, hb, hc⟩
              · rw [h0] at hjl; simp at hjl
              rcases HR4.out.later hC with h0 | ⟨b4, off4, rfl, hb4, hc4⟩
              · rw [h0] at hlt; simp at hlt
              have c1 := hc j hjl
              have d1 := hc4 k hlt
              obtain ⟨y, hy⟩ : ∃ y, of[j]'hjl = y := ⟨_, rfl⟩
              have hsn := HNX.out j hjl
              rw [hy] at c1 hsn
              rw [HX.out] at d1
              have hji : (j : Int) < (of.length : Int) := by omega
              have HSN := Lib.hid hsn
              clear hc hc4 hy hsn
              generalize stand x (of.take j) = st at *
              cases st with
              | true =>
                go_wp2
                go_quiet (fail)
                have hCq := below_drewN hC nq
                clear hC c1 d1
                generalize wr.drewN nq = w6 at *
                go_wp2
                go_roundw
                case rel => exact ⟨j + 1, by go_num, by omega, by rw [HSN.out]; rfl, hCq⟩
                case measure => simp [intOf]; omega
              | false =>
                by_cases hyx : y = x
                · have hq : ((y : Int) == (x : Int)) = true := by rw [hyx]; simp
                  go_wp2
                  go_quiet (fail)
                  have hCq := below_drewN hC nq
                  clear hC c1 d1
                  generalize wr.drewN nq = w6 at *
                  go_wp2
                  go_roundw
                  case rel => exact ⟨j + 1, by go_num, by omega, by rw [HSN.out]; simp [hyx], hCq⟩
                  case measure => simp [intOf]; omega
                · have hq : ((y : Int) == (x : Int)) = false := by rw [beq_eq_false_iff_ne]; omega
                  go_wp2
                  go_quiet (fail)
                  have hCq := below_drewN hC nq
                  clear hC c1 d1
                  generalize wr.drewN nq = w6 at *
                  go_wp2
                  go_roundw
                  case rel => exact ⟨j + 1, by go_num, by omega, by rw [HSN.out]; simp [hyx], hCq⟩
                  case measure => simp [intOf]; omega
            · obtain rfl : j = of.length := by omega
              rw [List.take_length]
              rcases HR4.out.later hC with h0 | ⟨b4, off4, rfl, hb4, hc4⟩
              · rw [h0] at hlt; simp at hlt
              have d1 := hc4 k hlt
              rw [HX.out] at d1
              have hh := has_any a2 c2 L 0 x (by omega) wr (HRL.out.later hC)
              rw [show has L 0 x = stand x of from HIN.out x] at hh
              change Calls Tryd.prog 17 #[.slice a2 L.length c2, .int .u64 0, .int .u64 (x : Nat)] wr fun e w' => e = .returned (.bool (stand x of)) ∧ Below wr.heap.size wr w' at hh
              clear hc4
              generalize stand x of = st at *
              go_wp2_with fail
              refine hh.mono ?_
              rintro e w7 ⟨rfl, hb7⟩
              have hC7 := hC.trans (hb7.mono hC.size)
              have hne : (st != st) = false := by simp
              clear hh d1 hC hb7
              go_wp2
              go_roundw
              case rel => exact ⟨k + 1, by go_num, by omega, hC7⟩
              case measure => simp [intOf]; omega
        · obtain rfl : k = A.length := by omega
          have hBB := HB4.trans (hB.mono HB4.size)
          go_wp2
          go_ret
          exact ⟨rfl, hBB⟩
end Go.Proofs.YtbaeillecojilaaDoor.sq
