/-
  What the program's Number answers.
-/
import Derived.Test.YtgmopbgcimekhaaDoorWordParse
namespace Go.Proofs.YtgmopbgcimekhaaDoor.wo
open Go.RowKit

/-- The two errors of strconv are there. -/
structure Errs (W : World) : Prop where
  syn : ∃ te pe, W.cell? ⟨0, 0, none⟩ = some (.iface te pe)
  ran : ∃ te pe, W.cell? ⟨1, 0, none⟩ = some (.iface te pe)
theorem Errs.later {w w' : World} (h : Errs w) (hb : Below w.heap.size w w') : Errs w' := by
  obtain ⟨⟨t1, p1, h1⟩, ⟨t2, p2, h2⟩⟩ := h
  exact ⟨⟨t1, p1, old_cell h1 hb (Nat.le_refl _)⟩, ⟨t2, p2, old_cell h2 hb (Nat.le_refl _)⟩⟩

theorem parse_all (l : List UInt8) (hl : l.length ≤ 140737488355328) (w : World) :
    Calls Tryd.prog 40 #[.string (S l), .int .i64 10, .int .i64 63] w fun e w' => e = .returned (Lib.uintTupleM 53 9223372036854775807 (Lib.parseUintB 63 l)) ∧ Below w.heap.size w w' := by
  have eM : (2 : Nat) ^ 63 - 1 = 9223372036854775807 := by decide
  by_cases h0 : l = []
  · subst h0
    exact (parse_empty w).mono fun e w' ⟨he, hw⟩ => ⟨he, hw ▸ Below.refl _ _⟩
  · have hlp : 0 < l.length := List.length_pos_iff.2 h0
    have hs : (S l).size ≠ 0 := by rw [S_size]; omega
    refine (parse_in (S l) hs (by rw [S_size]; omega) w).mono fun e w' ⟨he, hw⟩ => ⟨?_, hw ▸ bytes_below w _⟩
    rw [he, Lib.parseUintB, if_neg h0, eM, S_data]

set_option maxRecDepth 100000 in
theorem parse_ok (l : List UInt8) (hl : l.length ≤ 140737488355328) (u : Nat) (h : Lib.parseUintB 63 l = .ok u) (w : World) :
    Calls Tryd.prog 28 #[.string (S l), .int .i64 10, .int .i64 63] w fun e w' => e = .returned (.tuple #[.int .u64 (u : Nat), .nilIface]) ∧ Below w.heap.size w w' := by
  have hp := parse_all l hl w
  rw [h] at hp
  change Calls Tryd.prog 40 #[.string (S l), .int .i64 10, .int .i64 63] w fun e w' => e = .returned (.tuple #[.int .u64 (u : Nat), .nilIface]) ∧ Below w.heap.size w w' at hp
  clear h
  go_enter Tryd.func28, Tryd.ntmps28
  go_wp2_with fail
  refine hp.mono ?_
  rintro e w1 ⟨rfl, b1⟩
  go_wp2_with fail
  exact bodyPost_ret (results_tmp2 rfl _ _ _) rfl ⟨rfl, b1⟩

theorem err_form (l : List UInt8) (hl : l.length ≤ 140737488355328) (w : World) (hE : Errs w) :
    Calls Tryd.prog 41 #[.string ⟨#[80, 97, 114, 115, 101, 85, 105, 110, 116]⟩, .string (S l), .int .i64 10, .int .i64 63, .iface 53 (.int .i64 2)] w fun e w' => (∃ T N, e = .returned (.iface T (.pointer (some ⟨N, 0, none⟩)))) ∧ Below w.heap.size w w' := by
  obtain ⟨te, pe, hc⟩ := hE.syn
  exact (Tryd.strconv_toError_syntax ⟨#[80, 97, 114, 115, 101, 85, 105, 110, 116]⟩ (S l) 10 63 (.iface te pe) w (by rw [S_size]; omega) hc (.inr ⟨te, pe, rfl⟩)).mono fun e w' ⟨N, he, _, _, hb⟩ => ⟨⟨_, N, he⟩, hb⟩
theorem err_range (l : List UInt8) (hl : l.length ≤ 140737488355328) (w : World) (hE : Errs w) :
    Calls Tryd.prog 41 #[.string ⟨#[80, 97, 114, 115, 101, 85, 105, 110, 116]⟩, .string (S l), .int .i64 10, .int .i64 63, .iface 53 (.int .i64 1)] w fun e w' => (∃ T N, e = .returned (.iface T (.pointer (some ⟨N, 0, none⟩)))) ∧ Below w.heap.size w w' := by
  obtain ⟨te, pe, hc⟩ := hE.ran
  exact (Tryd.strconv_toError_range ⟨#[80, 97, 114, 115, 101, 85, 105, 110, 116]⟩ (S l) 10 63 (.iface te pe) w (by rw [S_size]; omega) hc (.inr ⟨te, pe, rfl⟩)).mono fun e w' ⟨N, he, _, _, hb⟩ => ⟨⟨_, N, he⟩, hb⟩

theorem end_cases (T : TypeId) (e : Lib.NumEnd Nat) : (∃ u, e = .ok u) ∨ e = .range ∨ Lib.uintTupleM T 9223372036854775807 e = .tuple #[.int .u64 0, .iface T (.int .i64 2)] := by
  cases e <;> simp [Lib.uintTupleM]
set_option maxRecDepth 100000 in
theorem parse_bad (l : List UInt8) (hl : l.length ≤ 140737488355328) (h : ∀ u, Lib.parseUintB 63 l ≠ .ok u) (w : World) (hE : Errs w) :
    Calls Tryd.prog 28 #[.string (S l), .int .i64 10, .int .i64 63] w fun e w' => (∃ (x : Int) (T N : Nat), e = .returned (.tuple #[.int .u64 x, .iface T (.pointer (some ⟨N, 0, none⟩))])) ∧ Below w.heap.size w w' := by
  have hp := parse_all l hl w
  have h1 := fun W hb => err_form l hl W (hE.later hb)
  have h2 := fun W hb => err_range l hl W (hE.later hb)
  rcases end_cases 53 (Lib.parseUintB 63 l) with ⟨u, hq⟩ | hq | hq
  · exact absurd hq (h u)
  · rw [hq] at hp
    change Calls Tryd.prog 40 #[.string (S l), .int .i64 10, .int .i64 63] w fun e w' => e = .returned (.tuple #[.int .u64 9223372036854775807, .iface 53 (.int .i64 1)]) ∧ Below w.heap.size w w' at hp
    clear h hq h1
    go_enter Tryd.func28, Tryd.ntmps28
    go_wp2_with fail
    refine hp.mono ?_
    rintro e w1 ⟨rfl, b1⟩
    have h3 := h2 w1 b1
    clear h2 hp
    go_wp2_with fail
    refine h3.mono ?_
    rintro e w2 ⟨⟨T, N, rfl⟩, b2⟩
    go_wp2_with fail
    exact bodyPost_ret (results_tmp2 rfl _ _ _) rfl ⟨⟨_, _, _, rfl⟩, b1.trans (b2.mono b1.size)⟩

  · rw [hq] at hp
    change Calls Tryd.prog 40 #[.string (S l), .int .i64 10, .int .i64 63] w fun e w' => e = .returned (.tuple #[.int .u64 0, .iface 53 (.int .i64 2)]) ∧ Below w.heap.size w w' at hp
    clear h hq h2
    go_enter Tryd.func28, Tryd.ntmps28
    go_wp2_with fail
    refine hp.mono ?_
    rintro e w1 ⟨rfl, b1⟩
    have h3 := h1 w1 b1
    clear h1 hp
    go_wp2_with fail
    refine h3.mono ?_
    rintro e w2 ⟨⟨T, N, rfl⟩, b2⟩
    go_wp2_with fail
    exact bodyPost_ret (results_tmp2 rfl _ _ _) rfl ⟨⟨_, _, _, rfl⟩, b1.trans (b2.mono b1.size)⟩

/- What is parsed is a number, if it is one. -/
def val (a : Nat) (l : List UInt8) : Nat := l.foldl (fun a c => 10 * a + (c.toNat - 48)) a
theorem val_cons (a : Nat) (c : UInt8) (l : List UInt8) : val a (c :: l) = val (10 * a + (c.toNat - 48)) l := by unfold val; rw [List.foldl_cons]
theorem val_ge : ∀ (l : List UInt8) (a : Nat), a * 10 ^ l.length ≤ val a l
  | [], a => by simp [val]
  | c :: l, a => by
    rw [val_cons]
    have ih := val_ge l (10 * a + (c.toNat - 48))
    refine Nat.le_trans ?_ ih
    rw [List.length_cons, Nat.pow_succ, Nat.mul_comm (10 ^ l.length) 10, ← Nat.mul_assoc]
    exact Nat.mul_le_mul_right _ (by omega)
theorem val_ge' (l : List UInt8) (a : Nat) : a ≤ val a l :=
  Nat.le_trans (Nat.le_mul_of_pos_right _ (Nat.pow_pos (by decide))) (val_ge l a)
theorem pm_ok : ∀ (l : List UInt8) (a : Nat), l.all isDig = true → val a l ≤ 9223372036854775807 → Lib.parseUintM 9223372036854775807 a l = .ok (val a l)
  | [], a, _, _ => rfl
  | c :: l, a, hd, hv => by
    rw [List.all_cons, Bool.and_eq_true] at hd
    have h1 := hd.1
    simp only [isDig, Bool.and_eq_true, decide_eq_true_eq] at h1
    rw [val_cons] at hv ⊢
    have hg := val_ge' l (10 * a + (c.toNat - 48))
    have e : a * 10 + (c.toNat - 48) = 10 * a + (c.toNat - 48) := by omega
    rw [Lib.parseUintM, if_pos h1, e, if_neg (by omega), if_neg (by omega)]
    exact pm_ok l _ hd.2 hv
theorem pm_inv : ∀ (l : List UInt8) (a u : Nat), Lib.parseUintM 9223372036854775807 a l = .ok u → l.all isDig = true ∧ val a l = u
  | [], a, u, h => by
    simp only [Lib.parseUintM] at h
    injection h with h
    exact ⟨rfl, h⟩
  | c :: l, a, u, h => by
    rw [Lib.parseUintM] at h
    split at h
    · rename_i hd
      split at h
      · cases h
      · split at h
        · cases h
        · have e : a * 10 + (c.toNat - 48) = 10 * a + (c.toNat - 48) := by omega
          rw [e] at h
          have ih := pm_inv l _ u h
          refine ⟨?_, by rw [val_cons]; exact ih.2⟩
          rw [List.all_cons, ih.1]
          simp only [isDig, decide_eq_true hd.1, decide_eq_true hd.2, Bool.and_true]
    · cases h
theorem num_parse (l : List UInt8) (h0 : ¬ (1 < l.length ∧ l.getD 0 0 = 48)) :
    (numOk l = true ∧ Lib.parseUintB 63 l = .ok (numOf l)) ∨ (numOk l = false ∧ ∀ u, Lib.parseUintB 63 l ≠ .ok u) := by
  have eM : (2 : Nat) ^ 63 - 1 = 9223372036854775807 := by decide
  cases hk : numOk l with
  | true =>
    left
    refine ⟨rfl, ?_⟩
    have hof : numOf l = numv l := by unfold numOf; rw [hk]; rfl
    unfold numOk at hk
    simp only [Bool.and_eq_true, decide_eq_true_eq] at hk
    obtain ⟨⟨⟨⟨h1, h2⟩, _⟩, hd⟩, hv⟩ := hk
    rw [Lib.parseUintB, if_neg (by intro h; rw [h] at h1; simp at h1), eM, hof]
    exact pm_ok l 0 hd hv
  | false =>
    right
    refine ⟨rfl, fun u hu => ?_⟩
    unfold Lib.parseUintB at hu
    split at hu
    · cases hu
    · rename_i hne
      rw [eM] at hu
      have hle := Lib.parseUintM_le 9223372036854775807 l 0 u (Nat.zero_le _) hu
      obtain ⟨hd, hv⟩ := pm_inv l 0 u hu
      have hv' : numv l = u := hv
      have hlen : l.length ≤ 19 := by
        match l, hne with
        | c :: r, _ =>
          by_cases hr : r = []
          · rw [hr]; simp
          · have hrp : 0 < r.length := List.length_pos_iff.2 hr
            have hc : c.toNat ≠ 48 := fun e => h0 ⟨by rw [List.length_cons]; omega, UInt8.toNat_inj.1 e⟩
            rw [List.all_cons, Bool.and_eq_true] at hd
            have h1 := hd.1
            simp only [isDig, Bool.and_eq_true, decide_eq_true_eq] at h1
            rw [val_cons] at hv
            have hg := val_ge r (10 * 0 + (c.toNat - 48))
            rw [hv] at hg
            have h10 : 10 ^ r.length ≤ 9223372036854775807 := by
              refine Nat.le_trans ?_ (Nat.le_trans hg hle)
              exact Nat.le_mul_of_pos_left _ (by omega)
            rw [List.length_cons]
            by_cases hx : r.length ≤ 18
            · omega
            · exact absurd (Nat.le_trans (Nat.pow_le_pow_right (n := 10) (by decide) (show 19 ≤ r.length by omega)) h10) (by decide)
      have : numOk l = true := by
        unfold numOk
        rw [decide_eq_true (show 1 ≤ l.length from List.length_pos_iff.2 hne), decide_eq_true hlen, hd, decide_eq_true (show numv l ≤ 9223372036854775807 by rw [hv']; exact hle)]
        have : (decide (l.getD 0 0 = 48) && decide (1 < l.length)) = false := by
          rw [Bool.and_eq_false_iff]
          by_cases h1 : 1 < l.length
          · left; exact decide_eq_false (fun e => h0 ⟨h1, e⟩)
          · right; exact decide_eq_false h1
        rw [this]
        rfl
      rw [hk] at this
      cases this

set_option maxRecDepth 100000 in
theorem number_any (l : List UInt8) (hl : l.length ≤ 140737488355328) (w : World) (hE : Errs w) :
    Calls Tryd.prog 9 #[.string (S l)] w fun e w' => e = .returned (.tuple #[.int .u64 (numOf l : Nat), .bool (numOk l)]) ∧ Below w.heap.size w w' := by
  have hz := S_size l
  have fin : Hid (numOk l = false) → Ending.returned (Value.tuple #[.int .u64 0, .bool false]) = Ending.returned (.tuple #[.int .u64 (numOf l : Nat), .bool (numOk l)]) := fun h => by unfold numOf; rw [h.out]; rfl
  by_cases hn : 1 < l.length ∧ l.getD 0 0 = 48
  · have HB := Lib.hid (bad_nought hn.2 hn.1)
    have h0 : 0 < l.length := by omega
    have h0' : 0 < (S l).size := by rw [S_size]; exact h0
    have hx : ((S l)[0]'h0').toNat = 48 := by
      have : l[0]'h0 = 48 := by rw [← hn.2, List.getD_eq_getElem?_getD, List.getElem?_eq_getElem h0]; rfl
      rw [S_get l 0 h0 h0', this]; rfl
    have h1 : (1 : Int) < (l.length : Int) := by omega
    have hi0 : (0 : Int) < (l.length : Int) := by omega
    clear hn hE
    go_enter Tryd.func9, Tryd.ntmps9
    go_wp2_with fail
    refine bodyPost_ret (results_tmp2 rfl _ _ _) rfl ⟨?_, Below.refl _ _⟩; exact fin HB
  · have hp := num_parse l hn
    have hst : (¬ (1 : Int) < (l.length : Int)) ∨ ((1 : Int) < (l.length : Int) ∧ ∃ (h0 : 0 < l.length) (h0' : 0 < (S l).size), (((((S l)[0]'h0').toNat : Nat) : Int) == 48) = false) := by
      by_cases h1 : 1 < l.length
      · right
        refine ⟨by omega, by omega, by rw [S_size]; omega, ?_⟩
        have h0 : 0 < l.length := by omega
        rw [S_get l 0 h0 _, beq_eq_false_iff_ne]
        intro e
        apply hn
        refine ⟨h1, ?_⟩
        rw [List.getD_eq_getElem?_getD, List.getElem?_eq_getElem h0]
        exact UInt8.toNat_inj.1 (by show l[0].toNat = 48; omega)
      · left; omega
    clear hn
    rcases hp with ⟨hok, hpu⟩ | ⟨hok, hpu⟩
    · have hc := parse_ok l hl _ hpu
      rw [hok]
      generalize numOf l = m at *
      clear fin hE hpu hok
      rcases hst with h1 | ⟨h1, h0, h0', hx⟩
      · go_enter Tryd.func9, Tryd.ntmps9
        go_wp2_with fail
        refine (hc _).mono ?_
        rintro e w1 ⟨rfl, b1⟩
        go_wp2_with fail
        exact bodyPost_ret (results_tmp2 rfl _ _ _) rfl ⟨rfl, b1⟩
      · have hi0 : (0 : Int) < (l.length : Int) := by omega
        go_enter Tryd.func9, Tryd.ntmps9
        go_wp2_with fail
        refine (hc _).mono ?_
        rintro e w1 ⟨rfl, b1⟩
        go_wp2_with fail
        exact bodyPost_ret (results_tmp2 rfl _ _ _) rfl ⟨rfl, b1⟩
    · have hc := parse_bad l hl hpu w hE
      have HB := Lib.hid hok
      clear hE hpu hok
      rcases hst with h1 | ⟨h1, h0, h0', hx⟩
      · go_enter Tryd.func9, Tryd.ntmps9
        go_wp2_with fail
        refine hc.mono ?_
        rintro e w1 ⟨⟨x, T, N, rfl⟩, b1⟩
        go_wp2_with fail
        refine bodyPost_ret (results_tmp2 rfl _ _ _) rfl ⟨?_, b1⟩; exact fin HB
      · have hi0 : (0 : Int) < (l.length : Int) := by omega
        go_enter Tryd.func9, Tryd.ntmps9
        go_wp2_with fail
        refine hc.mono ?_
        rintro e w1 ⟨⟨x, T, N, rfl⟩, b1⟩
        go_wp2_with fail
        refine bodyPost_ret (results_tmp2 rfl _ _ _) rfl ⟨?_, b1⟩; exact fin HB
end Go.Proofs.YtgmopbgcimekhaaDoor.wo
