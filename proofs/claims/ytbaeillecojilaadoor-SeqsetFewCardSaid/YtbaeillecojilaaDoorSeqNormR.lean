/-
  What the reference's Norm answers.
-/
import Derived.Test.YtbaeillecojilaaDoorSeqNorm
namespace Go.Proofs.YtbaeillecojilaaDoor.sq
open Go.RowKit

theorem row64_cell {w : World} {a : Option Addr} {l : List Nat} (h : Row64 w a l) {k : Nat} (hk : k < l.length) : ∃ b off, a = some ⟨b, off, none⟩ ∧ b < w.heap.size ∧ w.cell? ⟨b, off + k, none⟩ = some (.int .u64 (l[k] : Nat)) := by
  rcases h with h | ⟨b, off, e, hb, hc⟩
  · rw [h] at hk; simp at hk
  · exact ⟨b, off, e, hb, hc k hk⟩

theorem news2 (W : World) (x y : Int) (T : TypeId) : ∀ (j : Nat) (u : Value), [Value.int .u64 x, Value.int .u64 y][j]? = some u → (W.alloc (.cells #[.int .u64 x, .int .u64 y] T)).cell? ((⟨W.heap.size, 0, none⟩ : Addr).add j) = some u := by
  intro j u hj
  match j, hj with
  | 0, hj => simp at hj; subst hj; simp [Addr.add]
  | 1, hj => simp at hj; subst hj; simp [Addr.add]
theorem ones2 (x y : Int) : ∀ u ∈ [Value.int .u64 x, Value.int .u64 y], u.oneCell' = true := by
  intro u hu; simp at hu; rcases hu with rfl | rfl <;> rfl

set_option maxHeartbeats 16000000 in
set_option maxRecDepth 100000 in
theorem refnorm_any (a : Option Addr) (cap : Nat) (of : List Nat) (hl : of.length ≤ 8796093022000) (h64 : Hid (∀ x ∈ of, x < 18446744073709551616)) (w : World) (hr : Row64 w a of) :
    Calls Tryd.prog 22 #[.slice a of.length cap] w fun e w' => (∃ L a2 c2, e = .returned (.slice a2 (List.length L) c2) ∧ RowR w' a2 L ∧ IsNorm of L) ∧ Below w.heap.size w w' := by
  obtain ⟨i0, hi, hz0, hz1, hz2⟩ := info_parts infoR
  have HR := Lib.hid hr
  have hin := fun n W (hb : Below w.heap.size w W) => refin_any a cap of n (by omega) W (HR.out.later hb)
  have HIN := Lib.hid hin
  clear hin hr
  go_enter Tryd.func22, Tryd.ntmps22
  go_wp2
  go_loopw [3, 4] (fun v lv wr => ∃ (last n : Nat), lv = .int .u64 last ∧ last < 18446744073709551616 ∧ n ≤ of.length ∧ Hid (∃ L, n = List.length L ∧ n ≤ upto of last ∧ Ends of last ∧ Pre of L last ∧ wr.ownsRow w.heap.size 41 2 v n (cellsR L)) ∧ Below w.heap.size w wr)
    (fun _ lv _ => 18446744073709551616 - (intOf lv).toNat)
  case atStart => exact ⟨0, 0, rfl, by decide, Nat.zero_le _, Lib.hid ⟨[], rfl, Nat.zero_le _, .inl rfl, Pre.start of, World.ownsRow_nil _ _ _ _⟩, Below.refl _ _⟩
  case round =>
    obtain ⟨last, n, rfl, hlast, hn, HH, hB⟩ := hrel
    rename World => w0
    have hBs := hB.size
    go_wp2
    go_loopw [5, 6] (fun bv i wi => ∃ (b k : Nat), bv = .int .u64 b ∧ i = .int .i64 k ∧ b < 18446744073709551616 ∧ k ≤ of.length ∧ Hid (Best of last k b) ∧ Below w0.heap.size w0 wi)
      (fun _ i _ => of.length - (intOf i).toNat)
    case atStart => exact ⟨0, 0, rfl, rfl, by decide, Nat.zero_le _, Lib.hid (Best.start of last), Below.refl _ _⟩
    case round =>
      obtain ⟨b, k, rfl, rfl, hb64, hk, HB, hBi⟩ := hrel
      have hBw := hB.trans (hBi.mono hBs)
      by_cases hlt : k < of.length
      · obtain ⟨g, off, rfl, hg, c1⟩ := row64_cell (HR.out.later hBw) hlt
        have hki : (k : Int) < (of.length : Int) := by omega
        obtain ⟨x, hx⟩ : ∃ x, of[k]'hlt = x := ⟨_, rfl⟩
        have hx64 := h64.out x (by rw [← hx]; exact List.getElem_mem hlt)
        have hcall := HIN.out (x - 1) wr hBw
        have hstep : Hid (∀ c, c = of.any (fun y => decide (y = x - 1)) → Best of last (k + 1) (stepB last b x c)) := fun c hc => HB.out.step hlt hx hc
        rw [hx] at c1
        have hdef : Hid (∀ c, stepB last b x c = if x = 1 ∧ last = 0 then 1 else if last < x ∧ c = false ∧ (b = 0 ∨ x < b) then x else b) := fun _ => rfl
        obtain ⟨c, hc⟩ : ∃ c, c = of.any (fun y => decide (y = x - 1)) := ⟨_, rfl⟩
        have hst := Lib.hid (hstep.out c hc)
        rw [← hc] at hcall
        have HDEF := Lib.hid (hdef.out c)
        clear hstep hdef hx hc HB HIN HR
        have hsec : ((x : Int) == 1) = true ∧ ((last : Int) == 0) = true ∧ (x = 1 ∧ last = 0) ∨ ((x : Int) == 1) = true ∧ ((last : Int) == 0) = false ∧ ¬ (x = 1 ∧ last = 0) ∨ ((x : Int) == 1) = false ∧ ¬ (x = 1 ∧ last = 0) := by
          by_cases e1 : x = 1
          · by_cases e2 : last = 0
            · exact .inl ⟨by rw [e1]; rfl, by rw [e2]; rfl, e1, e2⟩
            · exact .inr (.inl ⟨by rw [e1]; rfl, by rw [beq_eq_false_iff_ne]; omega, fun h => e2 h.2⟩)
          · exact .inr (.inr ⟨by rw [beq_eq_false_iff_ne]; omega, fun h => e1 h.1⟩)
        by_cases hA : last < x
        · have hAi : (last : Int) < (x : Int) := by omega
          have hsub : IntKind.u64.wrap ((x : Int) - 1) = ((x - 1 : Nat) : Int) := by rw [IntKind.wrap_u64]; omega
          have hxi : (0 : Int) ≤ (x : Int) - 1 := by omega
          have hxn : (x : Int) - 1 = ((x - 1 : Nat) : Int) := by omega
          go_wp2_with fail
          refine hcall.mono ?_
          rintro e w2 ⟨rfl, b2⟩
          have c2 := (b2.cell (p := ⟨g, _, none⟩) hg).trans c1
          have hBq := hBi.trans (b2.mono hBi.size)
          clear c1 hcall b2 hBi hBw hsub hxi hxn hg
          cases c with
          | true =>
            rcases hsec with ⟨s1, s2, s3⟩ | ⟨s1, s2, s3⟩ | ⟨s1, s3⟩
            · have hv : stepB last b x true = 1 := by rw [HDEF.out, if_pos s3]
              have HN : Hid (Best of last (k + 1) 1) := by have h := hst.out; rw [hv] at h; exact h
              clear hst HDEF hv s3
              go_wp2_with fail
              go_roundw
              case rel => exact ⟨1, k + 1, rfl, by go_num, by omega, by omega, HN, hBq⟩
              case measure => simp [intOf]; omega
            · have hv : stepB last b x true = b := by rw [HDEF.out, if_neg s3, if_neg (fun h => by cases h.2.1)]
              have HN : Hid (Best of last (k + 1) b) := by have h := hst.out; rw [hv] at h; exact h
              clear hst HDEF hv s3
              go_wp2_with fail
              go_roundw
              case rel => exact ⟨b, k + 1, rfl, by go_num, by omega, by omega, HN, hBq⟩
              case measure => simp [intOf]; omega
            · have hv : stepB last b x true = b := by rw [HDEF.out, if_neg s3, if_neg (fun h => by cases h.2.1)]
              have HN : Hid (Best of last (k + 1) b) := by have h := hst.out; rw [hv] at h; exact h
              clear hst HDEF hv s3
              go_wp2_with fail
              go_roundw
              case rel => exact ⟨b, k + 1, rfl, by go_num, by omega, by omega, HN, hBq⟩
              case measure => simp [intOf]; omega
          | false =>
            by_cases hb0 : b = 0
            · have q1 : ((b : Int) == 0) = true := by rw [hb0]; rfl
              rcases hsec with ⟨s1, s2, s3⟩ | ⟨s1, s2, s3⟩ | ⟨s1, s3⟩
              · have hv : stepB last b x false = 1 := by rw [HDEF.out, if_pos s3]
                have HN : Hid (Best of last (k + 1) 1) := by have h := hst.out; rw [hv] at h; exact h
                clear hst HDEF hv s3
                go_wp2_with fail
                go_roundw
                case rel => exact ⟨1, k + 1, rfl, by go_num, by omega, by omega, HN, hBq⟩
                case measure => simp [intOf]; omega
              · have hv : stepB last b x false = x := by rw [HDEF.out, if_neg s3, if_pos ⟨hA, rfl, .inl hb0⟩]
                have HN : Hid (Best of last (k + 1) x) := by have h := hst.out; rw [hv] at h; exact h
                clear hst HDEF hv s3
                go_wp2_with fail
                go_roundw
                case rel => exact ⟨x, k + 1, rfl, by go_num, by omega, by omega, HN, hBq⟩
                case measure => simp [intOf]; omega
              · have hv : stepB last b x false = x := by rw [HDEF.out, if_neg s3, if_pos ⟨hA, rfl, .inl hb0⟩]
                have HN : Hid (Best of last (k + 1) x) := by have h := hst.out; rw [hv] at h; exact h
                clear hst HDEF hv s3
                go_wp2_with fail
                go_roundw
                case rel => exact ⟨x, k + 1, rfl, by go_num, by omega, by omega, HN, hBq⟩
                case measure => simp [intOf]; omega
            · have q1 : ((b : Int) == 0) = false := by rw [beq_eq_false_iff_ne]; omega
              by_cases hxb : x < b
              · have q2 : (x : Int) < (b : Int) := by omega
                rcases hsec with ⟨s1, s2, s3⟩ | ⟨s1, s2, s3⟩ | ⟨s1, s3⟩
                · have hv : stepB last b x false = 1 := by rw [HDEF.out, if_pos s3]
                  have HN : Hid (Best of last (k + 1) 1) := by have h := hst.out; rw [hv] at h; exact h
                  clear hst HDEF hv s3
                  go_wp2_with fail
                  go_roundw
                  case rel => exact ⟨1, k + 1, rfl, by go_num, by omega, by omega, HN, hBq⟩
                  case measure => simp [intOf]; omega
                · have hv : stepB last b x false = x := by rw [HDEF.out, if_neg s3, if_pos ⟨hA, rfl, .inr hxb⟩]
                  have HN : Hid (Best of last (k + 1) x) := by have h := hst.out; rw [hv] at h; exact h
                  clear hst HDEF hv s3
                  go_wp2_with fail
                  go_roundw
                  case rel => exact ⟨x, k + 1, rfl, by go_num, by omega, by omega, HN, hBq⟩
                  case measure => simp [intOf]; omega
                · have hv : stepB last b x false = x := by rw [HDEF.out, if_neg s3, if_pos ⟨hA, rfl, .inr hxb⟩]
                  have HN : Hid (Best of last (k + 1) x) := by have h := hst.out; rw [hv] at h; exact h
                  clear hst HDEF hv s3
                  go_wp2_with fail
                  go_roundw
                  case rel => exact ⟨x, k + 1, rfl, by go_num, by omega, by omega, HN, hBq⟩
                  case measure => simp [intOf]; omega
              · have q2 : ¬ (x : Int) < (b : Int) := by omega
                rcases hsec with ⟨s1, s2, s3⟩ | ⟨s1, s2, s3⟩ | ⟨s1, s3⟩
                · have hv : stepB last b x false = 1 := by rw [HDEF.out, if_pos s3]
                  have HN : Hid (Best of last (k + 1) 1) := by have h := hst.out; rw [hv] at h; exact h
                  clear hst HDEF hv s3
                  go_wp2_with fail
                  go_roundw
                  case rel => exact ⟨1, k + 1, rfl, by go_num, by omega, by omega, HN, hBq⟩
                  case measure => simp [intOf]; omega
                · have hv : stepB last b x false = b := by rw [HDEF.out, if_neg s3, if_neg (fun h => by rcases h.2.2 with h | h <;> omega)]
                  have HN : Hid (Best of last (k + 1) b) := by have h := hst.out; rw [hv] at h; exact h
                  clear hst HDEF hv s3
                  go_wp2_with fail
                  go_roundw
                  case rel => exact ⟨b, k + 1, rfl, by go_num, by omega, by omega, HN, hBq⟩
                  case measure => simp [intOf]; omega
                · have hv : stepB last b x false = b := by rw [HDEF.out, if_neg s3, if_neg (fun h => by rcases h.2.2 with h | h <;> omega)]
                  have HN : Hid (Best of last (k + 1) b) := by have h := hst.out; rw [hv] at h; exact h
                  clear hst HDEF hv s3
                  go_wp2_with fail
                  go_roundw
                  case rel => exact ⟨b, k + 1, rfl, by go_num, by omega, by omega, HN, hBq⟩
                  case measure => simp [intOf]; omega
        · have hAi : ¬ (last : Int) < (x : Int) := by omega
          clear hcall hBw hg
          rcases hsec with ⟨s1, s2, s3⟩ | ⟨s1, s2, s3⟩ | ⟨s1, s3⟩
          · have hv : stepB last b x c = 1 := by rw [HDEF.out, if_pos s3]
            have HN : Hid (Best of last (k + 1) 1) := by have h := hst.out; rw [hv] at h; exact h
            clear hst HDEF hv s3
            go_wp2_with fail
            go_roundw
            case rel => exact ⟨1, k + 1, rfl, by go_num, by omega, by omega, HN, hBi⟩
            case measure => simp [intOf]; omega
          · have hv : stepB last b x c = b := by rw [HDEF.out, if_neg s3, if_neg (fun h => hA h.1)]
            have HN : Hid (Best of last (k + 1) b) := by have h := hst.out; rw [hv] at h; exact h
            clear hst HDEF hv s3
            go_wp2_with fail
            go_roundw
            case rel => exact ⟨b, k + 1, rfl, by go_num, by omega, by omega, HN, hBi⟩
            case measure => simp [intOf]; omega
          · have hv : stepB last b x c = b := by rw [HDEF.out, if_neg s3, if_neg (fun h => hA h.1)]
            have HN : Hid (Best of last (k + 1) b) := by have h := hst.out; rw [hv] at h; exact h
            clear hst HDEF hv s3
            go_wp2_with fail
            go_roundw
            case rel => exact ⟨b, k + 1, rfl, by go_num, by omega, by omega, HN, hBi⟩
            case measure => simp [intOf]; omega
      · obtain rfl : k = of.length := by omega
        obtain ⟨L, e1, e2, e3, e4, e5⟩ := HH.out
        have HO := Lib.hid (ownsRow_below e5 hBi)
        by_cases hb0 : b = 0
        · subst hb0
          have hnorm := e4.done (HB.out.zero e3)
          obtain ⟨a2, c2, hv, hrow⟩ := rowR_of_own e1 HO.out
          rw [← e1] at hv
          subst hv
          have HF := Lib.hid (And.intro hrow (And.intro hnorm e1))
          clear HB HO HH e1 e2 e3 e4 e5 hnorm hrow HIN HR
          go_wp2_with fail
          go_ret
          exact ⟨⟨L, a2, c2, by rw [← HF.out.2.2]; rfl, HF.out.1, HF.out.2.1⟩, hBw⟩
        · obtain ⟨p1, p2, p3⟩ := HB.out.pos hb0 e3
          have q1 : ((b : Int) == 0) = false := by rw [beq_eq_false_iff_ne]; omega
          have HP := Lib.hid (And.intro e1 (And.intro e2 (And.intro e4 (And.intro p2 p3))))
          clear HB HH e1 e2 e3 e4 e5 p2 p3 hB hBi
          rename World => w1
          have hBs1 := hBw.size
          go_wp2_with fail
          go_loopw [4] (fun ev wi => ∃ e : Nat, ev = .int .u64 e ∧ b ≤ e ∧ e < 18446744073709551616 ∧ Hid (∀ n, b ≤ n → n ≤ e → n ∈ of) ∧ Below w1.heap.size w1 wi)
            (fun ev _ => 18446744073709551616 - (intOf ev).toNat)
          case atStart => exact ⟨b, rfl, Nat.le_refl _, hb64, Lib.hid (fun n h1 h2 => by rw [show n = b by omega]; exact HP.out.2.2.2.1), Below.refl _ _⟩
          case round =>
            obtain ⟨e, rfl, hbe, he64, HE, hB2⟩ := hrel
            have hBw2 := hBw.trans (hB2.mono hBs1)
            have HO2 := Lib.hid (ownsRow_below HO.out hB2)
            have HUP : Hid (n + 1 ≤ upto of e ∧ upto of e ≤ of.length) := by
              have h1 := upto_more of HP.out.2.2.2.1 p1 hbe
              have h2 := upto_le of e
              have h3 := HP.out.2.1
              exact ⟨by omega, h2⟩
            have HL0 : Hid (e + 1 ∉ of → ∀ (W : World) (v5 : Value), W.ownsRow w.heap.size 41 2 v5 (n + 1) (cellsR L ++ [.int .u64 (b : Int), .int .u64 (e : Int)]) → ∃ L, n + 1 = List.length L ∧ n + 1 ≤ upto of e ∧ Ends of e ∧ Pre of L e ∧ W.ownsRow w.heap.size 41 2 v5 (n + 1) (cellsR L)) := fun hne W v5 hown =>
              ⟨L ++ [(b, e)], by rw [List.length_append, List.length_singleton, HP.out.1], HUP.out.1, .inr ⟨HE.out e hbe (Nat.le_refl _), hne⟩, HP.out.2.2.1.next p1 hbe he64 HP.out.2.2.2.2 HE.out hne, by rw [cellsR_snoc]; exact hown⟩
            by_cases hmax : e = 18446744073709551615
            · have hm : ¬ (e : Int) < 18446744073709551615 := by omega
              have HL := Lib.hid (HL0.out (fun h => by have := h64.out _ h; omega))
              have hBsx := hBw2.size
              clear HL0 HE HO HP hB2 hBw hmax
              go_wp2_with (at_builtin; refine wpList_append_own _ rfl _ _ 22 rfl w.heap.size 41 i0 (.agg #[.int .u64 0, .int .u64 0]) 2 16 Tryd.underlying22 hi hz0 hz1 hz2 rfl (by decide) _ _ _ rfl (HO2.out.alloc _) ⟨wr.heap.size, 0, none⟩ 1 1 [.int .u64 (b : Nat), .int .u64 (e : Nat)] rfl rfl (news2 _ _ _ _) (ones2 _ _) ?g3 ?g4 ?g5 ?_)
              case g3 => unfold maxLen; omega
              case g4 => omega
              case g5 => first | omega | (simp; omega)
              intro v5 w5 hown' hgrow hnil
              have hB5 : Below w.heap.size w w5 := (hBw2.alloc hBsx _).grown hgrow (by simp; omega) (fun k hk => (HO2.out.lt k hk).1)
              have HH5 : Hid (∃ L, n + 1 = List.length L ∧ n + 1 ≤ upto of e ∧ Ends of e ∧ Pre of L e ∧ w5.ownsRow w.heap.size 41 2 v5 (n + 1) (cellsR L)) := HL.out w5 v5 hown'
              have hn1 : n + 1 ≤ of.length := by have := HUP.out; omega
              clear hown' hgrow hnil HO2 hBw2 hBsx HL HUP HIN HR
              go_wp2_with fail
              go_roundw
              case rel => exact ⟨e, n + 1, rfl, by omega, hn1, HH5, hB5⟩
              case measure => simp [intOf]; omega
            · have hm : (e : Int) < 18446744073709551615 := by omega
              have hadd : IntKind.u64.wrap ((e : Int) + 1) = (e : Int) + 1 := by rw [IntKind.wrap_u64]; omega
              have hcall := HIN.out (e + 1) wr hBw2
              rw [show (((e + 1 : Nat)) : Int) = (e : Int) + 1 by omega] at hcall
              cases hc : of.any (fun x => decide (x = e + 1)) with
              | true =>
                rw [hc] at hcall
                have hmem : e + 1 ∈ of := by
                  rw [List.any_eq_true] at hc
                  obtain ⟨y, hy, hye⟩ := hc
                  rw [decide_eq_true_eq] at hye
                  rw [← hye]; exact hy
                have HE2 : Hid (∀ n, b ≤ n → n ≤ e + 1 → n ∈ of) := fun n h1 h2 => by
                  by_cases h3 : n ≤ e
                  · exact HE.out n h1 h3
                  · rw [show n = e + 1 by omega]; exact hmem
                clear hc hmem HL0 HE HUP HO2
                go_wp2_with fail
                refine hcall.mono ?_
                rintro e' w2 ⟨rfl, b2⟩
                have hB3 := hB2.trans (b2.mono hB2.size)
                clear hcall b2 hB2 hBw2
                go_wp2_with fail
                go_roundw
                case rel => exact ⟨e + 1, by go_num, by omega, by omega, HE2, hB3⟩
                case measure => simp [intOf]; omega
              | false =>
                rw [hc] at hcall
                have hnm : e + 1 ∉ of := fun h => by
                  rw [List.any_eq_false] at hc
                  exact absurd (hc _ h) (by simp)
                have HL := Lib.hid (HL0.out hnm)
                clear hc hnm HL0 HE
                go_wp2_with fail
                refine hcall.mono ?_
                rintro e' w2 ⟨rfl, b2⟩
                have hB3 := hBw2.trans (b2.mono hBw2.size)
                have HO3 := Lib.hid (ownsRow_below HO2.out b2)
                have hBs3 := hB3.size
                clear hcall b2 hB2 hBw2 HO2 HO HP hBw hadd
                go_wp2_with (at_builtin; refine wpList_append_own _ rfl _ _ 22 rfl w.heap.size 41 i0 (.agg #[.int .u64 0, .int .u64 0]) 2 16 Tryd.underlying22 hi hz0 hz1 hz2 rfl (by decide) _ _ _ rfl (HO3.out.alloc _) ⟨w2.heap.size, 0, none⟩ 1 1 [.int .u64 (b : Nat), .int .u64 (e : Nat)] rfl rfl (news2 _ _ _ _) (ones2 _ _) ?d3 ?d4 ?d5 ?_)
                case d3 => unfold maxLen; omega
                case d4 => omega
                case d5 => simp; omega
                intro v5 w5 hown' hgrow hnil
                have hB5 : Below w.heap.size w w5 := (hB3.alloc hBs3 _).grown hgrow (by simp; omega) (fun k hk => (HO3.out.lt k hk).1)
                have HH5 : Hid (∃ L, n + 1 = List.length L ∧ n + 1 ≤ upto of e ∧ Ends of e ∧ Pre of L e ∧ w5.ownsRow w.heap.size 41 2 v5 (n + 1) (cellsR L)) := HL.out w5 v5 hown'
                have hn1 : n + 1 ≤ of.length := by have := HUP.out; omega
                clear hown' hgrow hnil HO3 hB3 hBs3 HL HUP HIN HR
                go_wp2_with fail
                go_roundw
                case rel => exact ⟨e, n + 1, rfl, by omega, hn1, HH5, hB5⟩
                case measure => simp [intOf]; omega
end Go.Proofs.YtbaeillecojilaaDoor.sq
