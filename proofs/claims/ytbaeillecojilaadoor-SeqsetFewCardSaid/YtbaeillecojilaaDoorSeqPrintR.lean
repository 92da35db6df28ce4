/-
  What the reference's Print answers.
-/
import Derived.Test.YtbaeillecojilaaDoorSeqPrint
namespace Go.Proofs.YtbaeillecojilaaDoor.sq
open Go.RowKit

theorem print_bad_len {l : List (Nat × Nat)} (h : l.length = 0 ∨ 64 < l.length) : printOk l = false := by
  unfold printOk
  rcases h with h | h
  · rw [decide_eq_false (show ¬ 1 ≤ l.length by omega)]; rfl
  · rw [decide_eq_false (show ¬ l.length ≤ 64 by omega), Bool.and_false]; rfl
theorem print_bad {l : List (Nat × Nat)} {k : Nat} (h : k < l.length) (hf : fitR l[k] = false) : printOk l = false := by
  have : l.all fitR = false := by
    rw [List.all_eq_false]
    exact ⟨l[k], List.getElem_mem h, by rw [hf]; decide⟩
  unfold printOk
  rw [this, Bool.and_false]
theorem print_good {l : List (Nat × Nat)} (h1 : 1 ≤ l.length) (h2 : l.length ≤ 64) (H : ∀ j (h : j < l.length), j < l.length → fitR l[j] = true) : printOk l = true := by
  have : l.all fitR = true := by
    rw [List.all_eq_true]
    intro x hx
    obtain ⟨j, hj, e⟩ := List.getElem_of_mem hx
    rw [← e]; exact H j hj hj
  unfold printOk
  rw [this, decide_eq_true h1, decide_eq_true h2]; rfl

set_option maxHeartbeats 4000000 in
set_option maxRecDepth 100000 in
theorem refprint_any (a : Option Addr) (cap : Nat) (l : List (Nat × Nat)) (hl : l.length ≤ 140737488355328) (w : World) (hr : RowR w a l) :
    Calls Tryd.prog 15 #[.slice a l.length cap] w fun e w' => e = .returned (.tuple #[.string (S (printOf l)), .bool (printOk l)]) ∧ Below w.heap.size w w' := by
  have fin : Hid (printOk l = false) → Ending.returned (Value.tuple #[.string ⟨#[]⟩, .bool false]) = Ending.returned (.tuple #[.string (S (printOf l)), .bool (printOk l)]) := fun h => by unfold printOf; rw [h.out]; rfl
  go_enter Tryd.func15, Tryd.ntmps15
  by_cases h0 : l.length = 0
  · have HB := Lib.hid (print_bad_len (.inl h0))
    have hq : ((l.length : Int) == 0) = true := by rw [h0]; rfl
    clear h0 hr
    go_wp2
    refine bodyPost_ret (results_tmp2 rfl _ _ _) rfl ⟨?_, Below.refl _ _⟩
    exact fin HB
  · have hq : ((l.length : Int) == 0) = false := by rw [beq_eq_false_iff_ne]; omega
    by_cases h64 : 64 < l.length
    · have HB := Lib.hid (print_bad_len (.inr h64))
      have hi : (64 : Int) < (l.length : Int) := by omega
      clear h0 hr
      go_wp2
      refine bodyPost_ret (results_tmp2 rfl _ _ _) rfl ⟨?_, Below.refl _ _⟩
      exact fin HB
    · have hi : ¬ (64 : Int) < (l.length : Int) := by omega
      go_wp2
      clear hq hi
      go_loopw [4, 5] (fun s i wr => ∃ (k : Nat) (t : List UInt8), i = .int .i64 k ∧ k ≤ l.length ∧ s = .string (S t) ∧ t.length ≤ 42 * k ∧ Hid (t = text (l.take k) ∧ ∀ j (h : j < l.length), j < k → fitR l[j] = true) ∧ Below w.heap.size w wr)
        (fun _ i _ => l.length - (intOf i).toNat)
      case atStart => exact ⟨0, [], rfl, Nat.zero_le _, rfl, Nat.zero_le _, Lib.hid ⟨rfl, fun j _ h => absurd h (by omega)⟩, Below.refl _ _⟩
      case round =>
        obtain ⟨k, t, rfl, hk, rfl, htl, HT, hB⟩ := hrel
        by_cases hlt : k < l.length
        · rcases hr.later hB with hn | ⟨b, off, rfl, hb, hc⟩
          · rw [hn] at hlt; simp at hlt
          obtain ⟨c1, c2⟩ := hc k hlt
          have hki : (k : Int) < (l.length : Int) := by omega
          have hst := text_take l k hlt
          obtain ⟨r, hx⟩ : ∃ r, l[k]'hlt = r := ⟨_, rfl⟩
          rw [hx] at c1 c2 hst
          have hbad : Hid (fitR r = false → printOk l = false) := fun h => print_bad hlt (by rw [hx]; exact h)
          have hgood : Hid (fitR r = true → ∀ j (h : j < l.length), j < k + 1 → fitR l[j] = true) := fun hf j h hj => by
            by_cases h2 : j < k
            · exact HT.out.2 j h h2
            · obtain rfl : j = k := by omega
              rw [hx]; exact hf
          obtain ⟨p, q⟩ := r
          have hnext : Hid (text (l.take (k + 1)) = (if 0 < k then t ++ [44] else []) ++ one (p, q)) := by
            show text (l.take (k + 1)) = _
            rw [hst, HT.out.1]
          have ht0 : Hid (k = 0 → t = []) := fun h => by rw [HT.out.1, h]; rfl
          have hfd : Hid (fitR (p, q) = (decide (p ≤ 4294967295) && decide (q ≤ 4294967295))) := rfl
          simp only at c1 c2
          clear hc hx hst HT hr
          by_cases hp : 4294967295 < p
          · have HB := Lib.hid (hbad.out (by rw [hfd.out, decide_eq_false (by omega)]; rfl))
            have hi : (4294967295 : Int) < (p : Int) := by omega
            clear hbad hgood hnext hfd ht0
            go_wp2
            refine bodyPost_ret (results_tmp2 rfl _ _ _) rfl ⟨?_, hB⟩
            exact fin HB
          · have hi : ¬ (4294967295 : Int) < (p : Int) := by omega
            by_cases hq : 4294967295 < q
            · have HB := Lib.hid (hbad.out (by rw [hfd.out, decide_eq_false (show ¬ q ≤ 4294967295 by omega), Bool.and_false]))
              have hi2 : (4294967295 : Int) < (q : Int) := by omega
              clear hbad hgood hnext hfd ht0
              go_wp2
              refine bodyPost_ret (results_tmp2 rfl _ _ _) rfl ⟨?_, hB⟩
              exact fin HB
            · have hi2 : ¬ (4294967295 : Int) < (q : Int) := by omega
              have HG := Lib.hid (hgood.out (by rw [hfd.out, decide_eq_true (show p ≤ 4294967295 by omega), decide_eq_true (show q ≤ 4294967295 by omega)]; rfl))
              have htp := reftold_any p (by omega)
              have htq := reftold_any q (by omega)
              have lp := told_length (n := p) (by omega)
              have lq := told_length (n := q) (by omega)
              have hone : Hid (one (p, q) = told p ++ (if p = q then [] else 58 :: told q)) := rfl
              clear hbad hgood hfd
              generalize told p = tp at *
              generalize told q = tq at *
              -- the text with its comma
              obtain ⟨u, hu⟩ : ∃ u, u = (if 0 < k then t ++ [44] else []) := ⟨_, rfl⟩
              have hul : u.length ≤ 42 * k + 1 := by rw [hu]; split <;> simp <;> omega
              have HU : Hid (text (l.take (k + 1)) = u ++ one (p, q)) := by show _ = _; rw [hnext.out, hu]
              have hzt := S_size t
              have hzu := S_size u
              have hzp := S_size tp
              have hzq := S_size tq
              by_cases hk0 : 0 < k
              · by_cases hpq : p = q
                · have hkp : (0 : Int) < (k : Int) := by omega
                  have hu' : u = t ++ [44] := by rw [hu, if_pos hk0]
                  have a1 : S t ++ (⟨#[44]⟩ : ByteArray) = S u := by rw [hu']; exact S_append t [44]
                  have a2 : S u ++ S tp = S (u ++ tp) := S_append u tp
                  have z2 : (S (u ++ tp)).size = u.length + tp.length := by rw [S_size, List.length_append]
                  have hne : ((p : Int) != (q : Int)) = false := by simp; omega
                  have HN : Hid (u ++ tp = text (l.take (k + 1)) ∧ ∀ j (h : j < l.length), j < k + 1 → fitR l[j] = true) := ⟨by rw [HU.out, hone.out, if_pos hpq, List.append_nil], HG.out⟩
                  have hlen : (u ++ tp).length ≤ 42 * (k + 1) := by rw [List.length_append]; omega
                  obtain ⟨g2, hg2⟩ : ∃ g, g = S (u ++ tp) := ⟨_, rfl⟩
                  rw [← hg2] at a2 z2
                  have HG2 := Lib.hid hg2
                  clear hu HU HG hone ht0 hpq hk0 hnext hg2 hu'
                  go_wp2_with fail
                  refine (htp _).mono ?_
                  rintro e w1 ⟨rfl, b1⟩
                  have d1 := (b1.cell (p := ⟨b, _, none⟩) hb).trans c1
                  have d2 := (b1.cell (p := ⟨b, _, none⟩) hb).trans c2
                  have hB1 := hB.trans (b1.mono hB.size)
                  have hb1 : b < w1.heap.size := Nat.lt_of_lt_of_le hb b1.size
                  clear c1 c2 hB b1 hb
                  go_wp2_with fail
                  go_quiet (fail)
                  have hBq := below_drewN hB1 nq
                  have f2 : (w1.drewN nq).cell? ⟨b, off + k * 2 + 1, none⟩ = some (.int .u64 (q : Nat)) := d2
                  clear hB1 d1 d2
                  generalize w1.drewN nq = w2 at *
                  go_wp2_with fail
                  go_roundw
                  case rel => exact ⟨k + 1, u ++ tp, by go_num, by omega, by rw [HG2.out], hlen, HN, hBq⟩
                  case measure => simp [intOf]; omega
                · have hkp : (0 : Int) < (k : Int) := by omega
                  have hu' : u = t ++ [44] := by rw [hu, if_pos hk0]
                  have a1 : S t ++ (⟨#[44]⟩ : ByteArray) = S u := by rw [hu']; exact S_append t [44]
                  have a2 : S u ++ S tp = S (u ++ tp) := S_append u tp
                  have z2 : (S (u ++ tp)).size = u.length + tp.length := by rw [S_size, List.length_append]
                  have hne : ((p : Int) != (q : Int)) = true := by simp; omega
                  have a3 : S (u ++ tp) ++ (⟨#[58]⟩ : ByteArray) = S (u ++ tp ++ [58]) := S_append (u ++ tp) [58]
                  have z3 : (S (u ++ tp ++ [58])).size = u.length + tp.length + 1 := by rw [S_size, List.length_append, List.length_append, List.length_singleton]
                  have a4 : S (u ++ tp ++ [58]) ++ S tq = S (u ++ tp ++ [58] ++ tq) := S_append _ tq
                  have HN : Hid (u ++ tp ++ [58] ++ tq = text (l.take (k + 1)) ∧ ∀ j (h : j < l.length), j < k + 1 → fitR l[j] = true) := ⟨by rw [HU.out, hone.out, if_neg hpq]; simp, HG.out⟩
                  have hlen : (u ++ tp ++ [58] ++ tq).length ≤ 42 * (k + 1) := by rw [List.length_append, List.length_append, List.length_append, List.length_singleton]; omega
                  obtain ⟨g2, hg2⟩ : ∃ g, g = S (u ++ tp) := ⟨_, rfl⟩
                  obtain ⟨g3, hg3⟩ : ∃ g, g = S (u ++ tp ++ [58]) := ⟨_, rfl⟩
                  obtain ⟨g4, hg4⟩ : ∃ g, g = S (u ++ tp ++ [58] ++ tq) := ⟨_, rfl⟩
                  rw [← hg2] at a2 a3 z2
                  rw [← hg3] at a3 a4 z3
                  rw [← hg4] at a4
                  have HG2 := Lib.hid hg4
                  clear hu HU HG hone ht0 hpq hk0 hnext hg2 hg3 hg4 hu'
                  go_wp2_with fail
                  refine (htp _).mono ?_
                  rintro e w1 ⟨rfl, b1⟩
                  have d1 := (b1.cell (p := ⟨b, _, none⟩) hb).trans c1
                  have d2 := (b1.cell (p := ⟨b, _, none⟩) hb).trans c2
                  have hB1 := hB.trans (b1.mono hB.size)
                  have hb1 : b < w1.heap.size := Nat.lt_of_lt_of_le hb b1.size
                  clear c1 c2 hB b1 hb
                  go_wp2_with fail
                  go_quiet (fail)
                  have hBq := below_drewN hB1 nq
                  have f2 : (w1.drewN nq).cell? ⟨b, off + k * 2 + 1, none⟩ = some (.int .u64 (q : Nat)) := d2
                  clear hB1 d1 d2
                  generalize w1.drewN nq = w2 at *
                  go_wp2_with fail
                  refine (htq _).mono ?_
                  rintro e w3 ⟨rfl, b3⟩
                  have hB3 := hBq.trans (b3.mono hBq.size)
                  clear f2 hBq b3
                  go_wp2_with fail
                  go_roundw
                  case rel => exact ⟨k + 1, u ++ tp ++ [58] ++ tq, by go_num, by omega, by rw [HG2.out], hlen, HN, hB3⟩
                  case measure => simp [intOf]; omega
              · by_cases hpq : p = q
                · have hkp : ¬ (0 : Int) < (k : Int) := by omega
                  have hu' : u = t := by rw [hu, if_neg hk0, ht0.out (by omega)]
                  subst hu'
                  have a2 : S u ++ S tp = S (u ++ tp) := S_append u tp
                  have z2 : (S (u ++ tp)).size = u.length + tp.length := by rw [S_size, List.length_append]
                  have hne : ((p : Int) != (q : Int)) = false := by simp; omega
                  have HN : Hid (u ++ tp = text (l.take (k + 1)) ∧ ∀ j (h : j < l.length), j < k + 1 → fitR l[j] = true) := ⟨by rw [HU.out, hone.out, if_pos hpq, List.append_nil], HG.out⟩
                  have hlen : (u ++ tp).length ≤ 42 * (k + 1) := by rw [List.length_append]; omega
                  obtain ⟨g2, hg2⟩ : ∃ g, g = S (u ++ tp) := ⟨_, rfl⟩
                  rw [← hg2] at a2 z2
                  have HG2 := Lib.hid hg2
                  clear hu HU HG hone ht0 hpq hk0 hnext hg2
                  go_wp2_with fail
                  refine (htp _).mono ?_
                  rintro e w1 ⟨rfl, b1⟩
                  have d1 := (b1.cell (p := ⟨b, _, none⟩) hb).trans c1
                  have d2 := (b1.cell (p := ⟨b, _, none⟩) hb).trans c2
                  have hB1 := hB.trans (b1.mono hB.size)
                  have hb1 : b < w1.heap.size := Nat.lt_of_lt_of_le hb b1.size
                  clear c1 c2 hB b1 hb
                  go_wp2_with fail
                  go_quiet (fail)
                  have hBq := below_drewN hB1 nq
                  have f2 : (w1.drewN nq).cell? ⟨b, off + k * 2 + 1, none⟩ = some (.int .u64 (q : Nat)) := d2
                  clear hB1 d1 d2
                  generalize w1.drewN nq = w2 at *
                  go_wp2_with fail
                  go_roundw
                  case rel => exact ⟨k + 1, u ++ tp, by go_num, by omega, by rw [HG2.out], hlen, HN, hBq⟩
                  case measure => simp [intOf]; omega
                · have hkp : ¬ (0 : Int) < (k : Int) := by omega
                  have hu' : u = t := by rw [hu, if_neg hk0, ht0.out (by omega)]
                  subst hu'
                  have a2 : S u ++ S tp = S (u ++ tp) := S_append u tp
                  have z2 : (S (u ++ tp)).size = u.length + tp.length := by rw [S_size, List.length_append]
                  have hne : ((p : Int) != (q : Int)) = true := by simp; omega
                  have a3 : S (u ++ tp) ++ (⟨#[58]⟩ : ByteArray) = S (u ++ tp ++ [58]) := S_append (u ++ tp) [58]
                  have z3 : (S (u ++ tp ++ [58])).size = u.length + tp.length + 1 := by rw [S_size, List.length_append, List.length_append, List.length_singleton]
                  have a4 : S (u ++ tp ++ [58]) ++ S tq = S (u ++ tp ++ [58] ++ tq) := S_append _ tq
                  have HN : Hid (u ++ tp ++ [58] ++ tq = text (l.take (k + 1)) ∧ ∀ j (h : j < l.length), j < k + 1 → fitR l[j] = true) := ⟨by rw [HU.out, hone.out, if_neg hpq]; simp, HG.out⟩
                  have hlen : (u ++ tp ++ [58] ++ tq).length ≤ 42 * (k + 1) := by rw [List.length_append, List.length_append, List.length_append, List.length_singleton]; omega
                  obtain ⟨g2, hg2⟩ : ∃ g, g = S (u ++ tp) := ⟨_, rfl⟩
                  obtain ⟨g3, hg3⟩ : ∃ g, g = S (u ++ tp ++ [58]) := ⟨_, rfl⟩
                  obtain ⟨g4, hg4⟩ : ∃ g, g = S (u ++ tp ++ [58] ++ tq) := ⟨_, rfl⟩
                  rw [← hg2] at a2 a3 z2
                  rw [← hg3] at a3 a4 z3
                  rw [← hg4] at a4
                  have HG2 := Lib.hid hg4
                  clear hu HU HG hone ht0 hpq hk0 hnext hg2 hg3 hg4
                  go_wp2_with fail
                  refine (htp _).mono ?_
                  rintro e w1 ⟨rfl, b1⟩
                  have d1 := (b1.cell (p := ⟨b, _, none⟩) hb).trans c1
                  have d2 := (b1.cell (p := ⟨b, _, none⟩) hb).trans c2
                  have hB1 := hB.trans (b1.mono hB.size)
                  have hb1 : b < w1.heap.size := Nat.lt_of_lt_of_le hb b1.size
                  clear c1 c2 hB b1 hb
                  go_wp2_with fail
                  go_quiet (fail)
                  have hBq := below_drewN hB1 nq
                  have f2 : (w1.drewN nq).cell? ⟨b, off + k * 2 + 1, none⟩ = some (.int .u64 (q : Nat)) := d2
                  clear hB1 d1 d2
                  generalize w1.drewN nq = w2 at *
                  go_wp2_with fail
                  refine (htq _).mono ?_
                  rintro e w3 ⟨rfl, b3⟩
                  have hB3 := hBq.trans (b3.mono hBq.size)
                  clear f2 hBq b3
                  go_wp2_with fail
                  go_roundw
                  case rel => exact ⟨k + 1, u ++ tp ++ [58] ++ tq, by go_num, by omega, by rw [HG2.out], hlen, HN, hB3⟩
                  case measure => simp [intOf]; omega
        · obtain rfl : k = l.length := by omega
          obtain ⟨h1, h2⟩ := HT.out
          rw [List.take_length] at h1
          have hok := print_good (by omega) (by omega) h2
          have HF : Hid (printOf l = t ∧ printOk l = true) := ⟨by unfold printOf; rw [if_pos hok, h1], hok⟩
          clear h1 h2 hok HT hr
          go_wp2
          refine bodyPost_ret (results_tmp2 rfl _ _ _) rfl ⟨?_, hB⟩
          rw [HF.out.1, HF.out.2]
          rfl
end Go.Proofs.YtbaeillecojilaaDoor.sq
