/-
  What the reference's Number, Literal answer.
-/
import Derived.Test.YtnpikjobjmffgaaDoorLinDec
namespace Go.Proofs.YtnpikjobjmffgaaDoor.li
open Go.RowKit

def isDig (c : UInt8) : Bool := decide (48 ≤ c.toNat) && decide (c.toNat ≤ 57)
def numv (l : List UInt8) : Nat := l.foldl (fun a c => 10 * a + (c.toNat - 48)) 0
/-- Is a text a number? -/
def numOk (l : List UInt8) : Bool := decide (1 ≤ l.length) && decide (l.length ≤ 19) && !(decide (l.getD 0 0 = 48) && decide (1 < l.length)) && l.all isDig && decide (numv l ≤ 9223372036854775807)
/-- What it is. -/
def numOf (l : List UInt8) : Nat := if numOk l = true then numv l else 0
theorem numv_take (l : List UInt8) (k : Nat) (h : k < l.length) : numv (l.take (k + 1)) = 10 * numv (l.take k) + (l[k].toNat - 48) := by
  unfold numv
  rw [List.take_succ_eq_append_getElem h, List.foldl_append]
  rfl
theorem numv_lt : ∀ (k : Nat) (l : List UInt8), k ≤ l.length → (∀ j (h : j < l.length), j < k → isDig l[j] = true) → numv (l.take k) < 10 ^ k
  | 0, l, _, _ => by simp [numv]
  | k + 1, l, h, hd => by
    have ih := numv_lt k l (by omega) (fun j hj hjk => hd j hj (by omega))
    have h1 := hd k (by omega) (by omega)
    simp only [isDig, Bool.and_eq_true, decide_eq_true_eq] at h1
    rw [numv_take l k (by omega), Nat.pow_succ]
    omega
theorem bad_len {l : List UInt8} (h : l.length < 1 ∨ 19 < l.length) : numOk l = false := by
  unfold numOk
  rcases h with h | h
  · have : decide (1 ≤ l.length) = false := decide_eq_false (by omega)
    rw [this]; rfl
  · have : decide (l.length ≤ 19) = false := decide_eq_false (by omega)
    rw [this]; simp
theorem bad_nought {l : List UInt8} (h0 : l.getD 0 0 = 48) (h1 : 1 < l.length) : numOk l = false := by
  unfold numOk
  rw [h0, decide_eq_true h1]
  simp
theorem bad_dig {l : List UInt8} {k : Nat} (h : k < l.length) (hd : isDig l[k] = false) : numOk l = false := by
  have : l.all isDig = false := by
    rw [List.all_eq_false]
    exact ⟨l[k], List.getElem_mem h, by rw [hd]; decide⟩
  unfold numOk
  rw [this]; simp

set_option maxHeartbeats 2000000 in
set_option maxRecDepth 100000 in
theorem refnumber_any (l : List UInt8) (hl : l.length ≤ 140737488355328) (w : World) :
    Calls Tryd.prog 26 #[.string (S l)] w fun e w' => e = .returned (.tuple #[.int .u64 (numOf l : Nat), .bool (numOk l)]) ∧ w' = w := by
  have hz := S_size l
  have bad : numOk l = false → Hid (numOf l = 0 ∧ numOk l = false) := fun h => ⟨by unfold numOf; rw [h]; rfl, h⟩
  have fin : Hid (numOf l = 0 ∧ numOk l = false) → Ending.returned (Value.tuple #[.int .u64 0, .bool false]) = Ending.returned (.tuple #[.int .u64 (numOf l : Nat), .bool (numOk l)]) := fun h => by rw [h.out.1, h.out.2]; rfl
  go_enter Tryd.func26, Tryd.ntmps26
  by_cases hb1 : l.length < 1
  · have HB := bad (bad_len (.inl hb1))
    have hi : (l.length : Int) < 1 := by omega
    clear bad
    go_wp2
    refine bodyPost_ret (results_tmp2 rfl _ _ _) rfl ⟨?_, rfl⟩; exact fin HB
  · by_cases hb2 : 19 < l.length
    · have HB := bad (bad_len (.inr hb2))
      have hi : ¬ (l.length : Int) < 1 := by omega
      have hi2 : (19 : Int) < (l.length : Int) := by omega
      clear bad
      go_wp2
      refine bodyPost_ret (results_tmp2 rfl _ _ _) rfl ⟨?_, rfl⟩; exact fin HB
    · have h0 : 0 < l.length := by omega
      have h0' : 0 < (S l).size := by rw [S_size]; exact h0
      obtain ⟨c, hc⟩ : ∃ c, l[0]'h0 = c := ⟨_, rfl⟩
      have hx : ((S l)[0]'h0').toNat = c.toNat := by rw [S_get l 0 h0 h0', hc]
      have hgd : l.getD 0 0 = c := by rw [List.getD_eq_getElem?_getD, List.getElem?_eq_getElem h0, hc]; rfl
      have hi : ¬ (l.length : Int) < 1 := by omega
      have hi2 : ¬ (19 : Int) < (l.length : Int) := by omega
      have hi0 : (0 : Int) < (l.length : Int) := by omega
      have hcn : c = 48 ↔ c.toNat = 48 := ⟨fun h => by rw [h]; rfl, fun h => UInt8.toNat_inj.1 h⟩
      by_cases hA : c.toNat = 48 ∧ 1 < l.length
      · have HB := bad (bad_nought (hgd.trans (hcn.2 hA.1)) hA.2)
        have hx48 : ((S l)[0]'h0').toNat = 48 := hx.trans hA.1
        have hi3 : (1 : Int) < (l.length : Int) := by omega
        clear bad hgd hc hcn hx hA
        go_wp2
        refine bodyPost_ret (results_tmp2 rfl _ _ _) rfl ⟨?_, rfl⟩
        exact fin HB
      · have hsplit : (c.toNat = 48 ∧ l.length = 1) ∨ c.toNat ≠ 48 := by omega
        have hgood : Hid ((∀ j (h : j < l.length), isDig l[j] = true) → numv l ≤ 9223372036854775807 → numOf l = numv l ∧ numOk l = true) := fun hd hv => by
          have hok : numOk l = true := by
            have h1 : (decide (l.getD 0 0 = 48) && decide (1 < l.length)) = false := by
              rw [hgd]
              rcases hsplit with ⟨_, h⟩ | h
              · rw [decide_eq_false (show ¬ 1 < l.length by omega), Bool.and_false]
              · rw [decide_eq_false (show ¬ c = 48 from fun e => h (hcn.1 e)), Bool.false_and]
            have h2 : l.all isDig = true := by
              rw [List.all_eq_true]
              intro x hx
              obtain ⟨j, hj, e⟩ := List.getElem_of_mem hx
              rw [← e]; exact hd j hj
            unfold numOk
            rw [h1, h2, decide_eq_true (show 1 ≤ l.length by omega), decide_eq_true (show l.length ≤ 19 by omega), decide_eq_true hv]
            rfl
          exact ⟨by unfold numOf; rw [hok]; rfl, hok⟩
        have hlong : Hid (¬ numv l ≤ 9223372036854775807 → numOk l = false) := fun h => by
          unfold numOk
          rw [decide_eq_false h, Bool.and_false]
        have hstart : (((((S l)[0]'h0').toNat : Nat) : Int) == 48) = true ∧ ¬ (1 : Int) < (l.length : Int) ∨ (((((S l)[0]'h0').toNat : Nat) : Int) == 48) = false := by
          rw [hx]
          rcases hsplit with ⟨h, h2⟩ | h
          · exact .inl ⟨by simp; omega, by omega⟩
          · exact .inr (by rw [beq_eq_false_iff_ne]; omega)
        clear hA hsplit hgd hcn hc hx
        have HBAD := Lib.hid bad
        clear bad
        rcases hstart with ⟨e1, e2⟩ | e1
        all_goals (
          go_wp2
          go_loopw [4, 5] (fun v i wr => ∃ k : Nat, i = .int .i64 k ∧ k ≤ l.length ∧ v = .int .u64 (numv (l.take k) : Nat) ∧ Hid (∀ j (h : j < l.length), j < k → isDig l[j] = true) ∧ wr = w)
            (fun _ i _ => l.length - (intOf i).toNat)
          case atStart => exact ⟨0, rfl, Nat.zero_le _, rfl, Lib.hid (fun j _ h => absurd h (by omega)), rfl⟩
          case round =>
            obtain ⟨k, rfl, hk, rfl, HN, rfl⟩ := hrel
            have hvl := numv_lt k l hk HN.out
            by_cases hlt : k < l.length
            · have hlt' : k < (S l).size := by rw [S_size]; exact hlt
              obtain ⟨d, hd⟩ : ∃ d, l[k]'hlt = d := ⟨_, rfl⟩
              have hx : ((S l)[k]'hlt').toNat = d.toNat := by rw [S_get l k hlt hlt', hd]
              have hdl := UInt8.toNat_lt d
              have hki : (k : Int) < (l.length : Int) := by omega
              have hnt := numv_take l k hlt
              rw [hd] at hnt
              have hv18 : numv (l.take k) < 1000000000000000000 := Nat.lt_of_lt_of_le hvl (Nat.pow_le_pow_right (n := 10) (by decide) (show k ≤ 18 by omega))
              by_cases ha : 48 ≤ d.toNat
              · by_cases hb : d.toNat ≤ 57
                · have HNN : Hid (∀ j (h : j < l.length), j < k + 1 → isDig l[j] = true) := fun j h hj => by
                    by_cases h2 : j < k
                    · exact HN.out j h h2
                    · obtain rfl : j = k := by omega
                      rw [hd]; unfold isDig; rw [decide_eq_true ha, decide_eq_true hb]; rfl
                  obtain ⟨y, hy⟩ : ∃ y, y = d.toNat := ⟨_, rfl⟩
                  rw [← hy] at hx hnt ha hb hdl
                  have HNT := Lib.hid hnt
                  have hai : ¬ (y : Int) < 48 := by omega
                  have hbi : ¬ (57 : Int) < (y : Int) := by omega
                  clear hnt hd hy HN hvl
                  generalize numv (l.take k) = m at *
                  go_wp2
                  go_roundw
                  case rel => exact ⟨k + 1, by go_num, by omega, by rw [HNT.out]; congr 1; omega, HNN, trivial⟩
                  case measure => simp [intOf]; omega
                · have HB := HBAD.out (bad_dig hlt (by rw [hd]; unfold isDig; rw [decide_eq_false hb, Bool.and_false]))
                  have hai : ¬ ((d.toNat : Nat) : Int) < 48 := by omega
                  have hbi : (57 : Int) < ((d.toNat : Nat) : Int) := by omega
                  clear HN hnt hvl hd
                  generalize d.toNat = y at *
                  go_wp2
                  refine bodyPost_ret (results_tmp2 rfl _ _ _) rfl ⟨?_, rfl⟩
                  exact fin HB
              · have HB := HBAD.out (bad_dig hlt (by rw [hd]; unfold isDig; rw [decide_eq_false ha, Bool.false_and]))
                have hai : ((d.toNat : Nat) : Int) < 48 := by omega
                clear HN hnt hvl hd
                generalize d.toNat = y at *
                go_wp2
                refine bodyPost_ret (results_tmp2 rfl _ _ _) rfl ⟨?_, rfl⟩
                exact fin HB
            · obtain rfl : k = l.length := by omega
              rw [List.take_length] at *
              by_cases hv : numv l ≤ 9223372036854775807
              · have HG := Lib.hid (hgood.out (fun j h => HN.out j h h) hv)
                have hvi : ¬ (9223372036854775807 : Int) < (numv l : Int) := by omega
                clear HN hvl
                generalize numv l = m at *
                go_wp2
                refine bodyPost_ret (results_tmp2 rfl _ _ _) rfl ⟨?_, rfl⟩
                rw [HG.out.1, HG.out.2]
                rfl
              · have HB := HBAD.out (hlong.out hv)
                have hvi : (9223372036854775807 : Int) < (numv l : Int) := by omega
                clear HN hvl
                generalize numv l = m at *
                go_wp2
                refine bodyPost_ret (results_tmp2 rfl _ _ _) rfl ⟨?_, rfl⟩
                exact fin HB)
end Go.Proofs.YtnpikjobjmffgaaDoor.li
