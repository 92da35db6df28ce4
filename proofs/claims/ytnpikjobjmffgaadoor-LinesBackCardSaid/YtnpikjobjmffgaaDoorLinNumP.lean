/-
  What the program's Number answers.
-/
import Derived.Test.YtnpikjobjmffgaaDoorLinPU
namespace Go.Proofs.YtnpikjobjmffgaaDoor.li
open Go.RowKit

/-- The two errors of strconv are there. -/
structure Errs (W : World) : Prop where
  syn : ∃ te pe, W.cell? ⟨1, 0, none⟩ = some (.iface te pe)
  ran : ∃ te pe, W.cell? ⟨2, 0, none⟩ = some (.iface te pe)
theorem Errs.later {w w' : World} (h : Errs w) (hb : Below w.heap.size w w') : Errs w' := by
  obtain ⟨⟨t1, p1, h1⟩, ⟨t2, p2, h2⟩⟩ := h
  exact ⟨⟨t1, p1, old_cell h1 hb (Nat.le_refl _)⟩, ⟨t2, p2, old_cell h2 hb (Nat.le_refl _)⟩⟩

set_option maxRecDepth 100000 in
theorem pu_ok (l : List UInt8) (hl : l.length ≤ 140737488355328) (h0 : 0 < l.length) (h : fits l = true) (w : World) :
    Calls Tryd.prog 33 #[.string (S l), .int .i64 10, .int .i64 63] w fun e w' => e = .returned (.tuple #[.int .u64 (numv l : Nat), .nilIface]) ∧ Below w.heap.size w w' := by
  have hp := read_any l hl h0 w
  have hr : ∀ e, Reads l e → e = .returned (.tuple #[.int .u64 (numv l : Nat), .nilIface]) := fun e he => by
    rcases he with ⟨_, he⟩ | ⟨hf, _⟩
    · exact he
    · rw [h] at hf; cases hf
  have hp2 : Calls Tryd.prog 36 #[.string (S l), .int .i64 10, .int .i64 63] w fun e w' => e = .returned (.tuple #[.int .u64 (numv l : Nat), .nilIface]) ∧ Below w.heap.size w w' :=
    hp.mono fun e w' ⟨h1, h2⟩ => ⟨hr e h1, h2⟩
  clear hp hr h
  generalize numv l = u at *
  go_enter Tryd.func33, Tryd.ntmps33
  go_wp2_with fail
  refine hp2.mono ?_
  rintro e w1 ⟨rfl, b1⟩
  go_wp2_with fail
  exact bodyPost_ret (results_tmp2 rfl _ _ _) rfl ⟨rfl, b1⟩

theorem err_form (l : List UInt8) (hl : l.length ≤ 140737488355328) (w : World) (hE : Errs w) :
    Calls Tryd.prog 37 #[.string ⟨#[80, 97, 114, 115, 101, 85, 105, 110, 116]⟩, .string (S l), .int .i64 10, .int .i64 63, .iface 70 (.int .i64 2)] w fun e w' => (∃ T N, e = .returned (.iface T (.pointer (some ⟨N, 0, none⟩)))) ∧ Below w.heap.size w w' := by
  obtain ⟨te, pe, hc⟩ := hE.syn
  exact (Tryd.strconv_toError_syntax ⟨#[80, 97, 114, 115, 101, 85, 105, 110, 116]⟩ (S l) 10 63 (.iface te pe) w (by rw [S_size]; omega) hc (.inr ⟨te, pe, rfl⟩)).mono fun e w' ⟨N, he, _, _, hb⟩ => ⟨⟨_, N, he⟩, hb⟩
theorem err_range (l : List UInt8) (hl : l.length ≤ 140737488355328) (w : World) (hE : Errs w) :
    Calls Tryd.prog 37 #[.string ⟨#[80, 97, 114, 115, 101, 85, 105, 110, 116]⟩, .string (S l), .int .i64 10, .int .i64 63, .iface 70 (.int .i64 1)] w fun e w' => (∃ T N, e = .returned (.iface T (.pointer (some ⟨N, 0, none⟩)))) ∧ Below w.heap.size w w' := by
  obtain ⟨te, pe, hc⟩ := hE.ran
  exact (Tryd.strconv_toError_range ⟨#[80, 97, 114, 115, 101, 85, 105, 110, 116]⟩ (S l) 10 63 (.iface te pe) w (by rw [S_size]; omega) hc (.inr ⟨te, pe, rfl⟩)).mono fun e w' ⟨N, he, _, _, hb⟩ => ⟨⟨_, N, he⟩, hb⟩

set_option maxRecDepth 100000 in
theorem pu_bad (l : List UInt8) (hl : l.length ≤ 140737488355328) (h : ¬ (0 < l.length ∧ fits l = true)) (w : World) (hE : Errs w) :
    Calls Tryd.prog 33 #[.string (S l), .int .i64 10, .int .i64 63] w fun e w' => (∃ (x : Int) (T N : Nat), e = .returned (.tuple #[.int .u64 x, .iface T (.pointer (some ⟨N, 0, none⟩))])) ∧ Below w.heap.size w w' := by
  have h1 := fun W hb => err_form l hl W (hE.later hb)
  have h2 := fun W hb => err_range l hl W (hE.later hb)
  have hp : Calls Tryd.prog 36 #[.string (S l), .int .i64 10, .int .i64 63] w fun e w' => (e = .returned (.tuple #[.int .u64 0, .iface 70 (.int .i64 2)]) ∨ e = .returned (.tuple #[.int .u64 9223372036854775807, .iface 70 (.int .i64 1)])) ∧ Below w.heap.size w w' := by
    by_cases h0 : 0 < l.length
    · exact (read_any l hl h0 w).mono fun e w' ⟨he, hb⟩ => ⟨by
        rcases he with ⟨hf, _⟩ | ⟨_, he⟩
        · exact absurd ⟨h0, hf⟩ h
        · exact he, hb⟩
    · have hn : l = [] := List.eq_nil_of_length_eq_zero (by omega)
      subst hn
      exact (read_none w).mono fun e w' ⟨he, hw⟩ => ⟨.inl he, hw ▸ Below.refl _ _⟩
  clear h hE
  go_enter Tryd.func33, Tryd.ntmps33
  go_wp2_with fail
  refine hp.mono ?_
  rintro e w1 ⟨he, b1⟩
  rcases he with rfl | rfl
  · have h3 := h1 w1 b1
    clear h1 h2 hp
    go_wp2_with fail
    refine h3.mono ?_
    rintro e w2 ⟨⟨T, N, rfl⟩, b2⟩
    go_wp2_with fail
    exact bodyPost_ret (results_tmp2 rfl _ _ _) rfl ⟨⟨_, _, _, rfl⟩, b1.trans (b2.mono b1.size)⟩
  · have h3 := h2 w1 b1
    clear h1 h2 hp
    go_wp2_with fail
    refine h3.mono ?_
    rintro e w2 ⟨⟨T, N, rfl⟩, b2⟩
    go_wp2_with fail
    exact bodyPost_ret (results_tmp2 rfl _ _ _) rfl ⟨⟨_, _, _, rfl⟩, b1.trans (b2.mono b1.size)⟩

/-- No nought ahead: what fits is a number, and nothing else is. -/
theorem num_parse (l : List UInt8) (hn : ¬ (1 < l.length ∧ l.getD 0 0 = 48)) :
    (numOk l = true ∧ 0 < l.length ∧ fits l = true) ∨ (numOk l = false ∧ ¬ (0 < l.length ∧ fits l = true)) := by
  cases hk : numOk l with
  | true =>
    unfold numOk at hk
    simp only [Bool.and_eq_true, decide_eq_true_eq] at hk
    obtain ⟨⟨⟨⟨h1, h2⟩, _⟩, hd⟩, hv⟩ := hk
    exact .inl ⟨rfl, h1, by unfold fits; rw [hd, decide_eq_true hv]; rfl⟩
  | false =>
    refine .inr ⟨rfl, fun ⟨h0, hf⟩ => ?_⟩
    unfold fits at hf
    rw [Bool.and_eq_true, decide_eq_true_eq] at hf
    obtain ⟨hd, hv⟩ := hf
    have hlen : l.length ≤ 19 := by
      match l, h0 with
      | c :: r, _ =>
        by_cases hr : r.length ≤ 18
        · rw [List.length_cons]; omega
        · have hc : c.toNat ≠ 48 := fun e => hn ⟨by rw [List.length_cons]; omega, UInt8.toNat_inj.1 e⟩
          rw [List.all_cons, Bool.and_eq_true] at hd
          have h1 := hd.1
          simp only [isDig, Bool.and_eq_true, decide_eq_true_eq] at h1
          have hg := val_ge r (10 * 0 + (c.toNat - 48))
          rw [← val_cons] at hg
          have hv' : val 0 (c :: r) ≤ 9223372036854775807 := hv
          have h10 : 10 ^ r.length ≤ 9223372036854775807 := Nat.le_trans (Nat.le_mul_of_pos_left _ (by omega)) (Nat.le_trans hg hv')
          exact absurd (Nat.le_trans (Nat.pow_le_pow_right (n := 10) (by decide) (show 19 ≤ r.length by omega)) h10) (by decide)
    have : numOk l = true := by
      have h2 : (decide (l.getD 0 0 = 48) && decide (1 < l.length)) = false := by
        rw [Bool.and_eq_false_iff]
        by_cases h1 : 1 < l.length
        · left; exact decide_eq_false (fun e => hn ⟨h1, e⟩)
        · right; exact decide_eq_false h1
      unfold numOk
      rw [decide_eq_true (show 1 ≤ l.length from h0), decide_eq_true hlen, hd, decide_eq_true hv, h2]
      rfl
    rw [hk] at this
    cases this

set_option maxRecDepth 100000 in
theorem number_any (l : List UInt8) (hl : l.length ≤ 140737488355328) (w : World) (hE : Errs w) :
    Calls Tryd.prog 29 #[.string (S l)] w fun e w' => e = .returned (.tuple #[.int .u64 (numOf l : Nat), .bool (numOk l)]) ∧ Below w.heap.size w w' := by
  have hz := S_size l
  have fin : Hid (numOk l = false) → Ending.returned (Value.tuple #[.int .u64 0, .bool false]) = Ending.returned (.tuple #[.int .u64 (numOf l : Nat), .bool (numOk l)]) := fun h => by unfold numOf; rw [h.out]; rfl
  by_cases hn : 1 < l.length ∧ l.getD 0 0 = 48
  · have HB := Lib.hid (bad_nought hn.2 hn.1)
    have h0 : 0 < l.length := by omega
    have h0' : 0 < (S l).size := by rw [S_size]; exact h0
    have hx : ((S l)[0]'h0').toNat = 48 := by
      have : l[0]'h0 = 48 := by rw [← hn.2, List.getD_eq_getElem?_getD, List.getElem?_eq_getElem h0]; rfl
      rw [S_get l 0 h0 h0', this]; rfl
    have h1 : (1 : Int) < (l.length : Int) := by omega
    have hi0 : (0 : Int) < (l.length : Int) := by omega
    clear hn hE
    go_enter Tryd.func29, Tryd.ntmps29
    go_wp2_with fail
    refine bodyPost_ret (results_tmp2 rfl _ _ _) rfl ⟨?_, Below.refl _ _⟩; exact fin HB
  · have hp := num_parse l hn
    have hst : (¬ (1 : Int) < (l.length : Int)) ∨ ((1 : Int) < (l.length : Int) ∧ ∃ (h0 : 0 < l.length) (h0' : 0 < (S l).size), (((((S l)[0]'h0').toNat : Nat) : Int) == 48) = false) := by
      by_cases h1 : 1 < l.length
      · right
        refine ⟨by omega, by omega, by rw [S_size]; omega, ?_⟩
        have h0 : 0 < l.length := by omega
        rw [S_get l 0 h0 _, beq_eq_false_iff_ne]
        intro e
        apply hn
        refine ⟨h1, ?_⟩
        rw [List.getD_eq_getElem?_getD, List.getElem?_eq_getElem h0]
        exact UInt8.toNat_inj.1 (by show l[0].toNat = 48; omega)
      · left; omega
    clear hn
    rcases hp with ⟨hok, hpos, hpu⟩ | ⟨hok, hpu⟩
    · have hc := pu_ok l hl hpos hpu
      rw [hok, show numOf l = numv l by unfold numOf; rw [hok]; rfl]
      generalize numv l = m at *
      clear fin hE hpu hok
      rcases hst with h1 | ⟨h1, h0, h0', hx⟩
      · go_enter Tryd.func29, Tryd.ntmps29
        go_wp2_with fail
        refine (hc _).mono ?_
        rintro e w1 ⟨rfl, b1⟩
        go_wp2_with fail
        exact bodyPost_ret (results_tmp2 rfl _ _ _) rfl ⟨rfl, b1⟩
      · have hi0 : (0 : Int) < (l.length : Int) := by omega
        go_enter Tryd.func29, Tryd.ntmps29
        go_wp2_with fail
        refine (hc _).mono ?_
        rintro e w1 ⟨rfl, b1⟩
        go_wp2_with fail
        exact bodyPost_ret (results_tmp2 rfl _ _ _) rfl ⟨rfl, b1⟩
    · have hc := pu_bad l hl hpu w hE
      have HB := Lib.hid hok
      clear hE hpu hok
      rcases hst with h1 | ⟨h1, h0, h0', hx⟩
      · go_enter Tryd.func29, Tryd.ntmps29
        go_wp2_with fail
        refine hc.mono ?_
        rintro e w1 ⟨⟨x, T, N, rfl⟩, b1⟩
        go_wp2_with fail
        refine bodyPost_ret (results_tmp2 rfl _ _ _) rfl ⟨?_, b1⟩; exact fin HB
      · have hi0 : (0 : Int) < (l.length : Int) := by omega
        go_enter Tryd.func29, Tryd.ntmps29
        go_wp2_with fail
        refine hc.mono ?_
        rintro e w1 ⟨⟨x, T, N, rfl⟩, b1⟩
        go_wp2_with fail
        refine bodyPost_ret (results_tmp2 rfl _ _ _) rfl ⟨?_, b1⟩; exact fin HB
end Go.Proofs.YtnpikjobjmffgaaDoor.li
