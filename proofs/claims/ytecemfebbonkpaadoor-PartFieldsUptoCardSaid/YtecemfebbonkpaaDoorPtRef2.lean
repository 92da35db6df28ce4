/-
  What the reference's Fields answers. Written by gen_ref2.py.
-/
import Derived.Test.YtecemfebbonkpaaDoorPtRef
import Derived.Test.YtecemfebbonkpaaDoorPtRmath
import Derived.Test.YtecemfebbonkpaaDoorPtField
import Derived.WalkKit
namespace Go.Proofs.YtecemfebbonkpaaDoor.pt
open Go.RowKit Go.Shelf fl
attribute [local go_sem] Oper.semAt_some

theorem infoF : (Tryd.prog.info? 35).map (fun i => (i.zero, i.size, i.bytes)) = some (some (.agg #[.string ⟨#[]⟩, .string ⟨#[]⟩]), 2, 32) := by kernel_rfl
theorem newsF (W : World) (x y : ByteArray) (T : TypeId) : ∀ (j : Nat) (u : Value), [Value.string x, Value.string y][j]? = some u → (W.alloc (.cells #[.string x, .string y] T)).cell? ((⟨W.heap.size, 0, none⟩ : Addr).add j) = some u := by
  intro j u hj
  match j, hj with
  | 0, hj => simp at hj; subst hj; simp [Addr.add]
  | 1, hj => simp at hj; subst hj; simp [Addr.add]
theorem onesF (x y : ByteArray) : ∀ u ∈ [Value.string x, Value.string y], u.oneCell' = true := by
  intro u hu; simp at hu; rcases hu with rfl | rfl <;> rfl
theorem unf_count (t : List UInt8) : (unf (lines t)).length ≤ t.length + 1 := by
  rw [← accR_lines]
  exact Nat.le_trans (accR_size _ _ rfl).2 (lines_count t)
theorem last_size {R : List (List UInt8)} {x : List UInt8} : x.length ≤ (R ++ [x]).flatten.length := by simp
theorem mem_le {R : List (List UInt8)} {u : List UInt8} (h : u ∈ R) : u.length ≤ R.flatten.length := by
  induction R with
  | nil => cases h
  | cons y R ih =>
    simp only [List.flatten_cons, List.length_append]
    rcases List.mem_cons.1 h with e | h
    · subst e; omega
    · have := ih h; omega
theorem own_sl {w : World} {base n size : Nat} {e : TypeId} {v : Value} {xs : List Value} (h : w.ownsRow base e size v n xs) : ∃ a c, v = .slice a n c := by
  rcases h.2 with ⟨rfl, rfl⟩ | ⟨g, cap, cur, rfl, _⟩
  · exact ⟨none, 0, rfl⟩
  · exact ⟨_, _, rfl⟩
def strLen : Value → Nat
  | .string s => s.size
  | _ => 0
def Rst (t : List UInt8) (k fr : Nat) (R : List (List UInt8)) : Prop := (k ≤ t.length ∧ At t k fr R) ∨ (k = t.length + 1 ∧ R = unf (lines t))
theorem goesOn_at {l : List UInt8} (h : 0 < l.length) : goesOn l = blankB (l[0]'h) := by
  cases l with
  | nil => cases h
  | cons c r => rfl
theorem dropB_yes {l : List UInt8} (h : 0 < l.length) (hb : blankB (l[0]'h) = true) : l.dropWhile isB = (l.drop 1).dropWhile isB := by
  cases l with
  | nil => cases h
  | cons c r => rw [List.dropWhile_cons, if_pos (show isB c = true from hb)]; rfl
theorem dropB_no {l : List UInt8} (h : 0 < l.length) (hb : blankB (l[0]'h) = false) : l.dropWhile isB = l := by
  cases l with
  | nil => cases h
  | cons c r => rw [List.dropWhile_cons, if_neg (show ¬ isB c = true from (by show ¬ blankB c = true; rw [show blankB c = false from hb]; decide))]
theorem snoc_last (l : List UInt8) {q : Nat} (h : l.length = q + 1) : l.take q ++ [l[q]'(by omega)] = l := by
  rw [← List.take_succ_eq_append_getElem (by omega), List.take_of_length_le (by omega)]
theorem rtB_yes {l : List UInt8} {q : Nat} (h : l.length = q + 1) (hb : blankB (l[q]'(by omega)) = true) : rt isB l = rt isB (l.take q) := by
  conv => lhs; rw [← snoc_last l h]
  exact rt_go hb
theorem rtB_no {l : List UInt8} {q : Nat} (h : l.length = q + 1) (hb : blankB (l[q]'(by omega)) = false) : rt isB l = l := by
  conv => lhs; rw [← snoc_last l h]
  rw [rt_end hb, snoc_last l h]
def Rown (base : Nat) (t : List UInt8) (k fr n : Nat) (v : Value) (wr : World) : Prop :=
  ∃ R, n = List.length R ∧ wr.ownsRow base 9 1 v n (cellsS R) ∧ Rst t k fr R

set_option maxHeartbeats 16000000 in
set_option maxRecDepth 100000 in
theorem reffields_any (m : List UInt8) (hm : m.length ≤ 4294967281) (w : World) :
    Calls Tryd.prog 15 #[.string (S m)] w fun e w' => (∃ v, e = .returned v ∧ w'.ownsRow w.heap.size 35 2 v (fields m).length (cellsF (fields m))) ∧ Below w.heap.size w w' := by
  obtain ⟨i0, hi, hz0, hz1, hz2⟩ := info_parts infoS
  obtain ⟨f0, hfi, hf0, hf1, hf2⟩ := info_parts infoF
  have hsp := refsplit_any m (by omega) w
  have htl : (head m).length ≤ 4294967281 := by unfold head; rw [List.length_take]; omega
  have HFD : Hid (fields m = fieldsU (unf (lines (head m)))) := Lib.hid rfl
  generalize fields m = FM at *
  generalize head m = t at *
  generalize text m = tx at *
  clear hm
  have hz := S_size t
  have HAT := Lib.hid (fun k (hk : k ≤ t.length) (W : World) => at_any t crlf (by omega) (by decide) k hk W)
  have s2 : (⟨#[13, 10]⟩ : ByteArray) = S crlf := rfl
  have HBL := Lib.hid (fun c W => blank_any c W)
  go_enter Tryd.func15, Tryd.ntmps15
  go_wp2_with fail
  refine hsp.mono ?_
  rintro e w1 ⟨rfl, b1⟩
  clear hsp
  have hb1 := b1.size
  go_wp2_with fail
  go_loopw [5, 6, 7] (fun v f i wr => ∃ (k fr n : Nat), i = .int .i64 k ∧ f = .int .i64 fr ∧ k ≤ t.length + 1 ∧ n ≤ t.length + 1 ∧ Hid (Rown w.heap.size t k fr n v wr) ∧ Below w.heap.size w wr)
    (fun _ _ i _ => t.length + 1 - (intOf i).toNat)
  case atStart => exact ⟨0, 0, 0, rfl, rfl, by omega, by omega, Lib.hid ⟨[], rfl, World.ownsRow_nil _ _ _ _, .inl ⟨Nat.zero_le _, at_start t⟩⟩, b1⟩
  case round =>
    clear b1 hb1
    obtain ⟨k, fr, n, rfl, rfl, hk, hn, HR, hB⟩ := hrel
    obtain ⟨R, hnR, hown, hst⟩ := HR.out
    have HO := Lib.hid hown
    have HNR := Lib.hid hnR
    have hBs := hB.size
    clear HR hown
    by_cases hlt : k ≤ t.length
    · have hA : At t k fr R := by
        rcases hst with ⟨_, h'⟩ | ⟨h', _⟩
        · exact h'
        · omega
      have HA := Lib.hid hA
      have hfl := hA.le
      have hRs := hA.size
      clear hst hA
      by_cases hke : k < t.length
      · have hki : (k : Int) < (t.length : Int) := by omega
        have hki2 : (k : Int) ≤ (t.length : Int) := by omega
        have hc := HAT.out k hlt wr
        cases ho : Lib.occAt t crlf k with
        | false =>
          rw [ho] at hc
          have HN : Hid (Rown w.heap.size t (k + 1) fr n u5 wr) := Lib.hid ⟨R, hnR, HO.out, .inl ⟨by omega, HA.out.next ho⟩⟩
          clear ho HAT HO HA hRs HNR hnR hfl
          go_wp2_with fail
          refine hc.mono ?_
          rintro e w2 ⟨rfl, rfl⟩
          go_wp2_with fail
          go_roundw
          case rel => exact ⟨k + 1, fr, n, by go_num, rfl, by omega, hn, HN, hB⟩
          case measure => simp [intOf]; omega
        | true =>
          rw [ho] at hc
          have hfk := HA.out.from_le ho
          have hnx := HA.out.hit ho
          have HNX : Hid (Rst t (k + 1) (k + 2) (addR R ((t.drop fr).take (k - fr)))) := Lib.hid (.inl ⟨hke, hnx⟩)
          have HSZ : Hid ((addR R ((t.drop fr).take (k - fr))).length ≤ t.length + 1) := Lib.hid hnx.size.2
          clear ho hnx HA HAT
          have em := S_mid t fr k
          have hll : ((t.drop fr).take (k - fr)).length = k - fr := by rw [List.length_take, List.length_drop]; omega
          obtain ⟨l, hl⟩ : ∃ l, (t.drop fr).take (k - fr) = l := ⟨_, rfl⟩
          rw [hl] at em hll HNX HSZ
          clear hl
          have hzl := S_size l
          have hle : l.length ≤ 4294967281 := by omega
          have g1 : (0 : Int) ≤ (fr : Int) := by omega
          have g2 : (fr : Int) ≤ (k : Int) := by omega
          have g3 : (k : Int) ≤ (t.length : Int) := by omega
          clear hll
          rcases List.eq_nil_or_concat R with hR0 | ⟨R0, x, hR0⟩
          · have HAD : Hid (addR R l = R ++ [l]) := Lib.hid (addR_more (.inl hR0))
            obtain ⟨a0, cap, rfl⟩ := own_sl HO.out
            obtain rfl : n = 0 := by rw [hnR, hR0]; rfl
            clear hR0 hnR hRs
            go_wp2_with fail
            refine hc.mono ?_
            rintro e w2 ⟨rfl, rfl⟩
            clear hc
            go_wp2_with (at_builtin; refine wpList_append_own _ rfl _ _ 45 rfl w.heap.size 9 i0 (.string ⟨#[]⟩) 1 16 Tryd.underlying45 hi hz0 hz1 hz2 rfl (by decide) _ _ _ rfl (HO.out.alloc _) ⟨w2.heap.size, 0, none⟩ 1 1 [.string (S l)] rfl rfl ?c1a1 ?c2a1 ?c3a1 ?c4a1 ?c5a1 ?_)
            try case c1a1 =>
              intro j u hj
              match j, hj with
              | 0, hj => simp at hj; subst hj; simp [Addr.add]
            try case c2a1 => first | rfl | (intro u hu; simp at hu; subst hu; rfl)
            try case c3a1 => unfold maxLen; omega
            try case c4a1 => omega
            try case c5a1 => first | omega | (simp; omega)
            intro v5 w5 hown' hgrow hnil
            have hB5 : Below w.heap.size w w5 := (hB.alloc hBs _).grown hgrow (by simp; omega) (fun k hk => (HO.out.lt k hk).1)
            have HN : Hid (Rown w.heap.size t (k + 1) (k + 2) (0 + 1) v5 w5) := Lib.hid ⟨addR R l, by rw [HAD.out, List.length_append, List.length_singleton, ← HNR.out], by rw [HAD.out, cellsS_snoc]; exact hown', HNX.out⟩
            have HS1 : 0 + 1 ≤ t.length + 1 := by have h1 := HSZ.out; rw [HAD.out, List.length_append, List.length_singleton, ← HNR.out] at h1; exact h1
            clear hown' hgrow hnil HO hB hBs HNX HSZ HAD
            go_wp2_with fail
            go_roundw
            case rel => exact ⟨k + 1, k + 2, 0 + 1, by go_num, by go_num, by omega, HS1, HN, hB5⟩
            case measure => first | (simp [intOf]; done) | (simp [intOf]; omega)
          · rw [List.concat_eq_append] at hR0
            have hxs : x.length ≤ 4294967281 := by
              have := last_size (R := R0) (x := x)
              rw [← hR0] at this
              omega
            obtain ⟨a0, cap, rfl⟩ := own_sl HO.out
            obtain ⟨q, hq⟩ : ∃ q, R0.length = q := ⟨_, rfl⟩
            have hnq : n = q + 1 := by rw [hnR, hR0, ← hq]; simp
            have hn0 : (0 : Int) < (n : Int) := by omega
            by_cases hl0 : l.length = 0
            · have hll0 : l = [] := List.length_eq_zero_iff.1 hl0
              have HAD : Hid (addR R l = R ++ [l]) := Lib.hid (addR_more (.inr (by rw [hll0]; rfl)))
              rw [hl0] at hzl
              clear hR0 hRs hnq hq hxs hnR hll0 hl0 hle
              go_wp2_with fail
              refine hc.mono ?_
              rintro e w2 ⟨rfl, rfl⟩
              clear hc
              go_wp2_with (at_builtin; refine wpList_append_own _ rfl _ _ 45 rfl w.heap.size 9 i0 (.string ⟨#[]⟩) 1 16 Tryd.underlying45 hi hz0 hz1 hz2 rfl (by decide) _ _ _ rfl (HO.out.alloc _) ⟨w2.heap.size, 0, none⟩ 1 1 [.string (S l)] rfl rfl ?c1b1 ?c2b1 ?c3b1 ?c4b1 ?c5b1 ?_)
              try case c1b1 =>
                intro j u hj
                match j, hj with
                | 0, hj => simp at hj; subst hj; simp [Addr.add]
              try case c2b1 => first | rfl | (intro u hu; simp at hu; subst hu; rfl)
              try case c3b1 => unfold maxLen; omega
              try case c4b1 => omega
              try case c5b1 => first | omega | (simp; omega)
              intro v5 w5 hown' hgrow hnil
              have hB5 : Below w.heap.size w w5 := (hB.alloc hBs _).grown hgrow (by simp; omega) (fun k hk => (HO.out.lt k hk).1)
              have HN : Hid (Rown w.heap.size t (k + 1) (k + 2) (n + 1) v5 w5) := Lib.hid ⟨addR R l, by rw [HAD.out, List.length_append, List.length_singleton, ← HNR.out], by rw [HAD.out, cellsS_snoc]; exact hown', HNX.out⟩
              have HS1 : n + 1 ≤ t.length + 1 := by have h1 := HSZ.out; rw [HAD.out, List.length_append, List.length_singleton, ← HNR.out] at h1; exact h1
              clear hown' hgrow hnil HO hB hBs HNX HSZ HAD
              go_wp2_with fail
              go_roundw
              case rel => exact ⟨k + 1, k + 2, n + 1, by go_num, by go_num, by omega, HS1, HN, hB5⟩
              case measure => first | (simp [intOf]; done) | (simp [intOf]; omega)
            have hl0 : 0 < l.length := by omega
            have hlt0 : 0 < (S l).size := by rw [hzl]; exact hl0
            obtain ⟨c, hc0⟩ : ∃ c, l[0]'hl0 = c := ⟨_, rfl⟩
            have hgo := goesOn_at hl0
            rw [hc0] at hgo
            obtain ⟨x0, hx0⟩ : ∃ x0 : Nat, c.toNat = x0 := ⟨_, rfl⟩
            have hg0 : ((S l)[0]'hlt0).toNat = x0 := by rw [S_get l 0 hl0 hlt0, hc0]; exact hx0
            have hyi : (0 : Int) < (l.length : Int) := by omega
            have hbl := HBL.out c wr
            rw [hx0] at hbl
            clear hx0 hc0
            cases hbb : blankB c with
            | true =>
              rw [hbb] at hgo hbl
              rcases own_row hnR HO.out with ⟨e0, _⟩ | ⟨g, cap2, e0, hg, hgw, hcap, hcs⟩
              · rw [hR0] at e0; simp at e0
              rw [← hnR] at e0
              obtain ⟨rfl, rfl⟩ : a0 = some ⟨g, 0, none⟩ ∧ cap = cap2 := by simpa using e0
              clear e0
              have hqR : q < R.length := by rw [← hnR]; omega
              have hcell := hcs q hqR
              have hRq : R[q] = x := by
                subst hR0
                rw [List.getElem_append_right (by omega)]
                simp [hq]
              rw [hRq, Nat.zero_add] at hcell
              have hfr := HO.out.frozenAt q
              have v1 : IntKind.i64.wrap ((n : Int) - 1) = (q : Int) := wrapi (by omega) (by omega)
              have q0 : (0 : Int) ≤ (q : Int) := by omega
              have q1 : (q : Int) < (n : Int) := by omega
              have happ := S_append x l
              have hzx := S_size x
              have hB5 : Below w.heap.size w (wr.setCell ⟨g, q, none⟩ (.string (S (x ++ l)))) := hB.setCell (p := ⟨g, q, none⟩) hg _
              have HN : Hid (Rown w.heap.size t (k + 1) (k + 2) n (.slice (some ⟨g, 0, none⟩) n cap) (wr.setCell ⟨g, q, none⟩ (.string (S (x ++ l))))) := Lib.hid ⟨addR R l, (by rw [hR0, addR_on hgo, hnq, ← hq]; simp), by
                have h9 := (HO.out.stored q (.string (S (x ++ l)))).1
                rw [hR0, addR_on hgo]
                rw [hR0, cellsS_snoc] at h9
                rw [cellsS_snoc]
                rw [List.set_append_right _ _ (by simp [cellsS]; omega)] at h9
                have e9 : q - (cellsS R0).length = 0 := by simp [cellsS]; omega
                rw [e9] at h9
                exact h9, HNX.out⟩
              clear hR0 hnR hRs hgo hcs hRq hqR hB HNX HSZ HO HNR hnq hq hg hgw hcap hbb hl0
              generalize x ++ l = xl at *
              go_wp2_with fail
              refine hc.mono ?_
              rintro e w2 ⟨rfl, rfl⟩
              clear hc
              go_wp2_with fail
              refine hbl.mono ?_
              rintro e w3 ⟨rfl, rfl⟩
              clear hbl
              go_wp2_with fail
              go_roundw
              case rel => exact ⟨k + 1, k + 2, n, by go_num, by go_num, by omega, hn, HN, hB5⟩
              case measure => first | (simp [intOf]; done) | (simp [intOf]; omega)
            | false =>
              rw [hbb] at hgo hbl
              have HAD : Hid (addR R l = R ++ [l]) := Lib.hid (addR_more (.inr hgo))
              clear hR0 hRs hnq hq hxs hnR hgo hbb hl0
              go_wp2_with fail
              refine hc.mono ?_
              rintro e w2 ⟨rfl, rfl⟩
              clear hc
              go_wp2_with fail
              refine hbl.mono ?_
              rintro e w3 ⟨rfl, rfl⟩
              clear hbl
              go_wp2_with (at_builtin; refine wpList_append_own _ rfl _ _ 45 rfl w.heap.size 9 i0 (.string ⟨#[]⟩) 1 16 Tryd.underlying45 hi hz0 hz1 hz2 rfl (by decide) _ _ _ rfl (HO.out.alloc _) ⟨w3.heap.size, 0, none⟩ 1 1 [.string (S l)] rfl rfl ?c1c1 ?c2c1 ?c3c1 ?c4c1 ?c5c1 ?_)
              try case c1c1 =>
                intro j u hj
                match j, hj with
                | 0, hj => simp at hj; subst hj; simp [Addr.add]
              try case c2c1 => first | rfl | (intro u hu; simp at hu; subst hu; rfl)
              try case c3c1 => unfold maxLen; omega
              try case c4c1 => omega
              try case c5c1 => first | omega | (simp; omega)
              intro v5 w5 hown' hgrow hnil
              have hB5 : Below w.heap.size w w5 := (hB.alloc hBs _).grown hgrow (by simp; omega) (fun k hk => (HO.out.lt k hk).1)
              have HN : Hid (Rown w.heap.size t (k + 1) (k + 2) (n + 1) v5 w5) := Lib.hid ⟨addR R l, by rw [HAD.out, List.length_append, List.length_singleton, ← HNR.out], by rw [HAD.out, cellsS_snoc]; exact hown', HNX.out⟩
              have HS1 : n + 1 ≤ t.length + 1 := by have h1 := HSZ.out; rw [HAD.out, List.length_append, List.length_singleton, ← HNR.out] at h1; exact h1
              clear hown' hgrow hnil HO hB hBs HNX HSZ HAD
              go_wp2_with fail
              go_roundw
              case rel => exact ⟨k + 1, k + 2, n + 1, by go_num, by go_num, by omega, HS1, HN, hB5⟩
              case measure => first | (simp [intOf]; done) | (simp [intOf]; omega)
      · obtain rfl : k = t.length := by omega
        have hfk := HA.out.le
        have hla := HA.out.last
        have HNX : Hid (Rst t (t.length + 1) (t.length + 2) (addR R ((t.drop fr).take (t.length - fr)))) := Lib.hid (.inr ⟨rfl, hla⟩)
        have HSZ : Hid ((addR R ((t.drop fr).take (t.length - fr))).length ≤ t.length + 1) := Lib.hid (by rw [hla]; exact unf_count t)
        have hki : ¬ (t.length : Int) < (t.length : Int) := by omega
        clear hla HA HAT
        have em := S_mid t fr t.length
        have hll : ((t.drop fr).take (t.length - fr)).length = t.length - fr := by rw [List.length_take, List.length_drop]; omega
        obtain ⟨l, hl⟩ : ∃ l, (t.drop fr).take (t.length - fr) = l := ⟨_, rfl⟩
        rw [hl] at em hll HNX HSZ
        clear hl
        have hzl := S_size l
        have hle : l.length ≤ 4294967281 := by omega
        have g1 : (0 : Int) ≤ (fr : Int) := by omega
        have g2 : (fr : Int) ≤ (t.length : Int) := by omega
        have g3 : (t.length : Int) ≤ (t.length : Int) := by omega
        clear hll
        rcases List.eq_nil_or_concat R with hR0 | ⟨R0, x, hR0⟩
        · have HAD : Hid (addR R l = R ++ [l]) := Lib.hid (addR_more (.inl hR0))
          obtain ⟨a0, cap, rfl⟩ := own_sl HO.out
          obtain rfl : n = 0 := by rw [hnR, hR0]; rfl
          clear hR0 hnR hRs

          go_wp2_with (at_builtin; refine wpList_append_own _ rfl _ _ 45 rfl w.heap.size 9 i0 (.string ⟨#[]⟩) 1 16 Tryd.underlying45 hi hz0 hz1 hz2 rfl (by decide) _ _ _ rfl (HO.out.alloc _) ⟨wr.heap.size, 0, none⟩ 1 1 [.string (S l)] rfl rfl ?c1a2 ?c2a2 ?c3a2 ?c4a2 ?c5a2 ?_)
          try case c1a2 =>
            intro j u hj
            match j, hj with
            | 0, hj => simp at hj; subst hj; simp [Addr.add]
          try case c2a2 => first | rfl | (intro u hu; simp at hu; subst hu; rfl)
          try case c3a2 => unfold maxLen; omega
          try case c4a2 => omega
          try case c5a2 => first | omega | (simp; omega)
          intro v5 w5 hown' hgrow hnil
          have hB5 : Below w.heap.size w w5 := (hB.alloc hBs _).grown hgrow (by simp; omega) (fun k hk => (HO.out.lt k hk).1)
          have HN : Hid (Rown w.heap.size t (t.length + 1) (t.length + 2) (0 + 1) v5 w5) := Lib.hid ⟨addR R l, by rw [HAD.out, List.length_append, List.length_singleton, ← HNR.out], by rw [HAD.out, cellsS_snoc]; exact hown', HNX.out⟩
          have HS1 : 0 + 1 ≤ t.length + 1 := by have h1 := HSZ.out; rw [HAD.out, List.length_append, List.length_singleton, ← HNR.out] at h1; exact h1
          clear hown' hgrow hnil HO hB hBs HNX HSZ HAD
          go_wp2_with fail
          go_roundw
          case rel => exact ⟨t.length + 1, t.length + 2, 0 + 1, by go_num, by go_num, by omega, HS1, HN, hB5⟩
          case measure => first | (simp [intOf]; done) | (simp [intOf]; omega)
        · rw [List.concat_eq_append] at hR0
          have hxs : x.length ≤ 4294967281 := by
            have := last_size (R := R0) (x := x)
            rw [← hR0] at this
            omega
          obtain ⟨a0, cap, rfl⟩ := own_sl HO.out
          obtain ⟨q, hq⟩ : ∃ q, R0.length = q := ⟨_, rfl⟩
          have hnq : n = q + 1 := by rw [hnR, hR0, ← hq]; simp
          have hn0 : (0 : Int) < (n : Int) := by omega
          by_cases hl0 : l.length = 0
          · have hll0 : l = [] := List.length_eq_zero_iff.1 hl0
            have HAD : Hid (addR R l = R ++ [l]) := Lib.hid (addR_more (.inr (by rw [hll0]; rfl)))
            rw [hl0] at hzl
            clear hR0 hRs hnq hq hxs hnR hll0 hl0 hle
            go_wp2_with (at_builtin; refine wpList_append_own _ rfl _ _ 45 rfl w.heap.size 9 i0 (.string ⟨#[]⟩) 1 16 Tryd.underlying45 hi hz0 hz1 hz2 rfl (by decide) _ _ _ rfl (HO.out.alloc _) ⟨wr.heap.size, 0, none⟩ 1 1 [.string (S l)] rfl rfl ?c1b2 ?c2b2 ?c3b2 ?c4b2 ?c5b2 ?_)
            try case c1b2 =>
              intro j u hj
              match j, hj with
              | 0, hj => simp at hj; subst hj; simp [Addr.add]
            try case c2b2 => first | rfl | (intro u hu; simp at hu; subst hu; rfl)
            try case c3b2 => unfold maxLen; omega
            try case c4b2 => omega
            try case c5b2 => first | omega | (simp; omega)
            intro v5 w5 hown' hgrow hnil
            have hB5 : Below w.heap.size w w5 := (hB.alloc hBs _).grown hgrow (by simp; omega) (fun k hk => (HO.out.lt k hk).1)
            have HN : Hid (Rown w.heap.size t (t.length + 1) (t.length + 2) (n + 1) v5 w5) := Lib.hid ⟨addR R l, by rw [HAD.out, List.length_append, List.length_singleton, ← HNR.out], by rw [HAD.out, cellsS_snoc]; exact hown', HNX.out⟩
            have HS1 : n + 1 ≤ t.length + 1 := by have h1 := HSZ.out; rw [HAD.out, List.length_append, List.length_singleton, ← HNR.out] at h1; exact h1
            clear hown' hgrow hnil HO hB hBs HNX HSZ HAD
            go_wp2_with fail
            go_roundw
            case rel => exact ⟨t.length + 1, t.length + 2, n + 1, by go_num, by go_num, by omega, HS1, HN, hB5⟩
            case measure => first | (simp [intOf]; done) | (simp [intOf]; omega)
          have hl0 : 0 < l.length := by omega
          have hlt0 : 0 < (S l).size := by rw [hzl]; exact hl0
          obtain ⟨c, hc0⟩ : ∃ c, l[0]'hl0 = c := ⟨_, rfl⟩
          have hgo := goesOn_at hl0
          rw [hc0] at hgo
          obtain ⟨x0, hx0⟩ : ∃ x0 : Nat, c.toNat = x0 := ⟨_, rfl⟩
          have hg0 : ((S l)[0]'hlt0).toNat = x0 := by rw [S_get l 0 hl0 hlt0, hc0]; exact hx0
          have hyi : (0 : Int) < (l.length : Int) := by omega
          have hbl := HBL.out c wr
          rw [hx0] at hbl
          clear hx0 hc0
          cases hbb : blankB c with
          | true =>
            rw [hbb] at hgo hbl
            rcases own_row hnR HO.out with ⟨e0, _⟩ | ⟨g, cap2, e0, hg, hgw, hcap, hcs⟩
            · rw [hR0] at e0; simp at e0
            rw [← hnR] at e0
            obtain ⟨rfl, rfl⟩ : a0 = some ⟨g, 0, none⟩ ∧ cap = cap2 := by simpa using e0
            clear e0
            have hqR : q < R.length := by rw [← hnR]; omega
            have hcell := hcs q hqR
            have hRq : R[q] = x := by
              subst hR0
              rw [List.getElem_append_right (by omega)]
              simp [hq]
            rw [hRq, Nat.zero_add] at hcell
            have hfr := HO.out.frozenAt q
            have v1 : IntKind.i64.wrap ((n : Int) - 1) = (q : Int) := wrapi (by omega) (by omega)
            have q0 : (0 : Int) ≤ (q : Int) := by omega
            have q1 : (q : Int) < (n : Int) := by omega
            have happ := S_append x l
            have hzx := S_size x
            have hB5 : Below w.heap.size w (wr.setCell ⟨g, q, none⟩ (.string (S (x ++ l)))) := hB.setCell (p := ⟨g, q, none⟩) hg _
            have HN : Hid (Rown w.heap.size t (t.length + 1) (t.length + 2) n (.slice (some ⟨g, 0, none⟩) n cap) (wr.setCell ⟨g, q, none⟩ (.string (S (x ++ l))))) := Lib.hid ⟨addR R l, (by rw [hR0, addR_on hgo, hnq, ← hq]; simp), by
              have h9 := (HO.out.stored q (.string (S (x ++ l)))).1
              rw [hR0, addR_on hgo]
              rw [hR0, cellsS_snoc] at h9
              rw [cellsS_snoc]
              rw [List.set_append_right _ _ (by simp [cellsS]; omega)] at h9
              have e9 : q - (cellsS R0).length = 0 := by simp [cellsS]; omega
              rw [e9] at h9
              exact h9, HNX.out⟩
            clear hR0 hnR hRs hgo hcs hRq hqR hB HNX HSZ HO HNR hnq hq hg hgw hcap hbb hl0
            generalize x ++ l = xl at *

            go_wp2_with fail
            refine hbl.mono ?_
            rintro e w3 ⟨rfl, rfl⟩
            clear hbl
            go_wp2_with fail
            go_roundw
            case rel => exact ⟨t.length + 1, t.length + 2, n, by go_num, by go_num, by omega, hn, HN, hB5⟩
            case measure => first | (simp [intOf]; done) | (simp [intOf]; omega)
          | false =>
            rw [hbb] at hgo hbl
            have HAD : Hid (addR R l = R ++ [l]) := Lib.hid (addR_more (.inr hgo))
            clear hR0 hRs hnq hq hxs hnR hgo hbb hl0
            go_wp2_with fail
            refine hbl.mono ?_
            rintro e w3 ⟨rfl, rfl⟩
            clear hbl
            go_wp2_with (at_builtin; refine wpList_append_own _ rfl _ _ 45 rfl w.heap.size 9 i0 (.string ⟨#[]⟩) 1 16 Tryd.underlying45 hi hz0 hz1 hz2 rfl (by decide) _ _ _ rfl (HO.out.alloc _) ⟨w3.heap.size, 0, none⟩ 1 1 [.string (S l)] rfl rfl ?c1c2 ?c2c2 ?c3c2 ?c4c2 ?c5c2 ?_)
            try case c1c2 =>
              intro j u hj
              match j, hj with
              | 0, hj => simp at hj; subst hj; simp [Addr.add]
            try case c2c2 => first | rfl | (intro u hu; simp at hu; subst hu; rfl)
            try case c3c2 => unfold maxLen; omega
            try case c4c2 => omega
            try case c5c2 => first | omega | (simp; omega)
            intro v5 w5 hown' hgrow hnil
            have hB5 : Below w.heap.size w w5 := (hB.alloc hBs _).grown hgrow (by simp; omega) (fun k hk => (HO.out.lt k hk).1)
            have HN : Hid (Rown w.heap.size t (t.length + 1) (t.length + 2) (n + 1) v5 w5) := Lib.hid ⟨addR R l, by rw [HAD.out, List.length_append, List.length_singleton, ← HNR.out], by rw [HAD.out, cellsS_snoc]; exact hown', HNX.out⟩
            have HS1 : n + 1 ≤ t.length + 1 := by have h1 := HSZ.out; rw [HAD.out, List.length_append, List.length_singleton, ← HNR.out] at h1; exact h1
            clear hown' hgrow hnil HO hB hBs HNX HSZ HAD
            go_wp2_with fail
            go_roundw
            case rel => exact ⟨t.length + 1, t.length + 2, n + 1, by go_num, by go_num, by omega, HS1, HN, hB5⟩
            case measure => first | (simp [intOf]; done) | (simp [intOf]; omega)
    · have hRe : R = unf (lines t) := by
        rcases hst with ⟨h', _⟩ | ⟨_, h'⟩
        · omega
        · exact h'
      have hki : ¬ (k : Int) ≤ (t.length : Int) := by omega
      have hus : R.flatten.length ≤ t.length := by
        rw [hRe, unf_size]
        exact lines_size t
      rw [← hRe] at HFD
      have hne : R ≠ [] := by rw [hRe]; simp [unf]
      rcases own_row hnR HO.out with ⟨e, _⟩ | ⟨g, cap, rfl, hg, hgw, hcap, hcs⟩
      · exact absurd e hne
      rw [← hnR] at hcap
      have HC := Lib.hid hcs
      have HUL : Hid (∀ u ∈ R, u.length ≤ 4294967281) := Lib.hid (fun u hu => by have := mem_le hu; omega)
      clear hst hRe hus hne hcs HAT hcap HO hlt hk
      rw [← hnR]
      clear hnR
      go_wp2_with fail
      rename World => wa
      go_loopw [9, 10] (fun v2 i2 w2 => ∃ (j o : Nat), i2 = .int .i64 j ∧ j ≤ n ∧ o ≤ j ∧ Hid (o = (fieldsU (R.take j)).length ∧ w2.ownsRow wa.heap.size 35 2 v2 o (cellsF (fieldsU (R.take j)))) ∧ Below wa.heap.size wa w2)
        (fun _ i2 _ => n - (intOf i2).toNat)
      case atStart => exact ⟨0, 0, rfl, by omega, by omega, Lib.hid ⟨rfl, World.ownsRow_nil _ _ _ _⟩, Below.refl _ _⟩
      case round =>
        obtain ⟨j, o, rfl, hj, hoj, HO2, hB2⟩ := hrel
        have hBs2 := hB2.size
        by_cases hjn : j < n
        · have hjR : j < R.length := by rw [← HNR.out]; exact hjn
          have hji : (j : Int) < (n : Int) := by omega
          have hcell := (hB2.cell (p := ⟨g, 0 + j, none⟩) hgw).trans (HC.out j hjR)
          have hul := HUL.out R[j] (List.getElem_mem hjR)
          have hft : fieldsU (R.take (j + 1)) = fieldsU (R.take j) ++ (fieldOf R[j]).toList := by rw [List.take_succ_eq_append_getElem hjR, fieldsU_snoc]
          have HFT := Lib.hid hft
          clear hft
          generalize R[j] = u at *
          have hzu := S_size u
          rw [Nat.zero_add] at hcell
          go_wp2_with fail
          go_loopw [11] (fun c w3 => ∃ p : Nat, c = .int .i64 p ∧ p ≤ u.length ∧ Hid (∀ q, q < p → u[q]? ≠ some 58) ∧ w3 = wr)
            (fun c _ => u.length - (intOf c).toNat)
          case atStart => exact ⟨0, rfl, Nat.zero_le _, Lib.hid (fun q hq => by omega), rfl⟩
          case round =>
            obtain ⟨p, rfl, hp, HN, rfl⟩ := hrel
            by_cases hpl : p < u.length
            · have hpl' : p < (S u).size := by rw [hzu]; exact hpl
              have hpi : (p : Int) < (u.length : Int) := by omega
              obtain ⟨x, hx⟩ : ∃ x : Nat, (u[p]'hpl).toNat = x := ⟨_, rfl⟩
              have hgx : ((S u)[p]'hpl').toNat = x := by rw [S_get u p hpl hpl']; exact hx
              by_cases h58 : u[p]'hpl = 58
              · obtain rfl : x = 58 := by rw [← hx, h58]; rfl
                have h58' : u[p]? = some 58 := by rw [List.getElem?_eq_getElem hpl, h58]
                by_cases hp0 : p = 0
                · subst hp0
                  have HF : Hid (fieldsU (R.take (j + 1)) = fieldsU (R.take j)) := Lib.hid (by rw [HFT.out, fieldOf_none HN.out (.inl ⟨rfl, h58'⟩)]; simp)
                  clear hx h58 h58' HN HFT
                  go_wp2_with fail
                  go_roundw
                  case rel => exact ⟨j + 1, o, by go_num, by omega, by omega, Lib.hid (by rw [HF.out]; exact HO2.out), hB2⟩
                  case measure => simp [intOf]; omega
                · have hq1 : ((p : Int) == 0) = false := beq_eq_false_iff_ne.2 (by omega)
                  have hq2 : ((p : Int) == (u.length : Int)) = false := beq_eq_false_iff_ne.2 (by omega)
                  obtain ⟨p1, hp1⟩ : ∃ p1, p + 1 = p1 := ⟨_, rfl⟩
                  have w1' : IntKind.i64.wrap ((p : Int) + 1) = (p1 : Int) := wrapi (by omega) (by omega)
                  have e1 := S_drop u p1
                  have e2 := S_take u p
                  have hdl : (u.drop p1).length ≤ u.length := by rw [List.length_drop]; omega
                  have hp1u : p1 ≤ u.length := by omega
                  have g1 : (0 : Int) ≤ (p1 : Int) := by omega
                  have g2 : (p1 : Int) ≤ (u.length : Int) := by omega
                  have g3 : (0 : Int) ≤ (p : Int) := by omega
                  have g4 : (p : Int) ≤ (u.length : Int) := by omega
                  have HF : Hid (∀ y z, (u.drop p1).dropWhile isB = y → rt isB y = z → fieldsU (R.take (j + 1)) = fieldsU (R.take j) ++ [(u.take p, z)]) := Lib.hid (fun y z hy hz => by rw [HFT.out, fieldOf_some HN.out (by omega) h58', trim_two, hp1, hy, hz]; rfl)
                  generalize u.drop p1 = d at *
                  generalize u.take p = nm at *
                  clear hx h58 h58' HN HFT hp1 hp1u hp0
                  go_wp2_with fail
                  clear e1 g1 g2 w1' hq1 hq2 hgx hpl'
                  go_loopw [12] (fun v3 w3 => ∃ z : List UInt8, v3 = .string (S z) ∧ z.length ≤ u.length ∧ Hid (d.dropWhile isB = z.dropWhile isB) ∧ w3 = wr)
                    (fun v3 _ => strLen v3)
                  case atStart => exact ⟨d, rfl, hdl, Lib.hid rfl, rfl⟩
                  case round =>
                    obtain ⟨y, rfl, hyl, HY, rfl⟩ := hrel
                    have hzy := S_size y
                    by_cases hy0 : y.length = 0
                    · obtain rfl : y = [] := List.length_eq_zero_iff.1 hy0
                      have HD : Hid (d.dropWhile isB = []) := Lib.hid HY.out
                      rw [hy0] at hzy
                      clear HY hyl hdl hy0
                      go_wp2_with fail
                      go_loopw [12] (fun v3 w3 => ∃ z : List UInt8, v3 = .string (S z) ∧ z.length ≤ u.length ∧ Hid (rt isB ([]) = rt isB z) ∧ w3 = wr)
                        (fun v3 _ => strLen v3)
                      case atStart => exact ⟨[], rfl, Nat.zero_le _, Lib.hid rfl, by first | rfl | trivial⟩
                      case round =>
                        obtain ⟨z, rfl, hzl, HZ, rfl⟩ := hrel
                        have hzz := S_size z
                        by_cases hz0 : z.length = 0
                        · have HE : Hid (fieldsU (R.take (j + 1)) = fieldsU (R.take j) ++ [(nm, z)]) := Lib.hid (HF.out _ _ HD.out (HZ.out.trans (by rw [List.length_eq_zero_iff.1 hz0]; rfl)))
                          rw [hz0] at hzz
                          clear HZ HD HF HFD HBL hz0
                          go_wp2_with (at_builtin; refine wpList_append_own _ rfl _ _ 29 rfl wa.heap.size 35 f0 (.agg #[.string ⟨#[]⟩, .string ⟨#[]⟩]) 2 32 Tryd.underlying29 hfi hf0 hf1 hf2 rfl (by decide) _ _ _ rfl (HO2.out.2.alloc _) ⟨wr.heap.size, 0, none⟩ 1 1 [.string (S nm), .string (S z)] rfl rfl (newsF _ _ _ _) (onesF _ _) ?d3e1 ?d4e1 ?d5e1 ?_)
                          try case d3e1 => unfold maxLen; omega
                          try case d4e1 => omega
                          try case d5e1 => first | omega | (simp; omega)
                          intro v5 w5 hown' hgrow hnil
                          have hB5 : Below wa.heap.size wa w5 := (hB2.alloc hBs2 _).grown hgrow (by simp; omega) (fun k hk => (HO2.out.2.lt k hk).1)
                          have HN : Hid (o + 1 = (fieldsU (R.take (j + 1))).length ∧ w5.ownsRow wa.heap.size 35 2 v5 (o + 1) (cellsF (fieldsU (R.take (j + 1))))) := Lib.hid ⟨by rw [HE.out, List.length_append, List.length_singleton, ← HO2.out.1], by rw [HE.out, cellsF_snoc]; exact hown'⟩
                          clear hown' hgrow hnil HO2 hB2 hBs2
                          go_wp2_with fail
                          go_roundw
                          case rel => exact ⟨j + 1, o + 1, by go_num, by omega, by omega, HN, hB5⟩
                          case measure => simp [intOf]; omega
                        · obtain ⟨q, hq⟩ : ∃ q, z.length = q + 1 := ⟨z.length - 1, by omega⟩
                          have hlt1 : q < (S z).size := by rw [hzz]; omega
                          obtain ⟨c, hc0⟩ : ∃ c, z[q]'(by omega) = c := ⟨_, rfl⟩
                          have hry := rtB_yes hq
                          have hrn := rtB_no hq
                          rw [hc0] at hry hrn
                          obtain ⟨x1, hx1⟩ : ∃ x1 : Nat, c.toNat = x1 := ⟨_, rfl⟩
                          have hg1 : ((S z)[q]'hlt1).toNat = x1 := by rw [S_get z q (by omega) hlt1, hc0]; exact hx1
                          have hbl := HBL.out c wr
                          rw [hx1] at hbl
                          clear hx1 hc0
                          have v1 : IntKind.i64.wrap ((z.length : Int) - 1) = (q : Int) := wrapi (by omega) (by omega)
                          have q0 : (0 : Int) < (z.length : Int) := by omega
                          have q1 : (q : Int) < (z.length : Int) := by omega
                          have q2 : (q : Int) ≤ (z.length : Int) := by omega
                          have q3 : (0 : Int) ≤ (q : Int) := by omega
                          cases hbb : blankB c with
                          | true =>
                            rw [hbb] at hbl
                            have e3 := S_take z q
                            have HZ2 : Hid (rt isB ([]) = rt isB (z.take q)) := Lib.hid (HZ.out.trans (hry hbb))
                            have hrl : (z.take q).length ≤ u.length := by rw [List.length_take]; omega
                            have HLE : Hid ((z.take q).length < z.length) := Lib.hid (by rw [List.length_take]; omega)
                            clear HZ hbb hry hrn hq hz0
                            obtain ⟨r, hr⟩ : ∃ r, z.take q = r := ⟨_, rfl⟩
                            rw [hr] at e3 hrl HZ2 HLE
                            clear hr
                            go_wp2_with fail
                            refine hbl.mono ?_
                            rintro e w6 ⟨rfl, rfl⟩
                            clear hbl
                            go_wp2_with fail
                            go_roundw
                            case rel => exact ⟨r, rfl, hrl, HZ2, by first | rfl | trivial⟩
                            case measure =>
                              have := HLE.out
                              simp [strLen, S_size]; omega
                          | false =>
                            rw [hbb] at hbl
                            have HE : Hid (fieldsU (R.take (j + 1)) = fieldsU (R.take j) ++ [(nm, z)]) := Lib.hid (HF.out _ _ HD.out (HZ.out.trans (hrn hbb)))
                            clear HZ hbb hry hrn HD HF hq hz0
                            go_wp2_with fail
                            refine hbl.mono ?_
                            rintro e w6 ⟨rfl, rfl⟩
                            clear hbl HFD HBL
                            go_wp2_with (at_builtin; refine wpList_append_own _ rfl _ _ 29 rfl wa.heap.size 35 f0 (.agg #[.string ⟨#[]⟩, .string ⟨#[]⟩]) 2 32 Tryd.underlying29 hfi hf0 hf1 hf2 rfl (by decide) _ _ _ rfl (HO2.out.2.alloc _) ⟨w6.heap.size, 0, none⟩ 1 1 [.string (S nm), .string (S z)] rfl rfl (newsF _ _ _ _) (onesF _ _) ?d3f1 ?d4f1 ?d5f1 ?_)
                            try case d3f1 => unfold maxLen; omega
                            try case d4f1 => omega
                            try case d5f1 => first | omega | (simp; omega)
                            intro v5 w5 hown' hgrow hnil
                            have hB5 : Below wa.heap.size wa w5 := (hB2.alloc hBs2 _).grown hgrow (by simp; omega) (fun k hk => (HO2.out.2.lt k hk).1)
                            have HN : Hid (o + 1 = (fieldsU (R.take (j + 1))).length ∧ w5.ownsRow wa.heap.size 35 2 v5 (o + 1) (cellsF (fieldsU (R.take (j + 1))))) := Lib.hid ⟨by rw [HE.out, List.length_append, List.length_singleton, ← HO2.out.1], by rw [HE.out, cellsF_snoc]; exact hown'⟩
                            clear hown' hgrow hnil HO2 hB2 hBs2
                            go_wp2_with fail
                            go_roundw
                            case rel => exact ⟨j + 1, o + 1, by go_num, by omega, by omega, HN, hB5⟩
                            case measure => simp [intOf]; omega
                    · have hy0 : 0 < y.length := by omega
                      have hlt0 : 0 < (S y).size := by rw [hzy]; exact hy0
                      obtain ⟨c, hc0⟩ : ∃ c, y[0]'hy0 = c := ⟨_, rfl⟩
                      obtain ⟨x0, hx0⟩ : ∃ x0 : Nat, c.toNat = x0 := ⟨_, rfl⟩
                      have hg0 : ((S y)[0]'hlt0).toNat = x0 := by rw [S_get y 0 hy0 hlt0, hc0]; exact hx0
                      have hyi : (0 : Int) < (y.length : Int) := by omega
                      have hbl := HBL.out c wr
                      rw [hx0] at hbl
                      have hdy := dropB_yes hy0
                      have hdn := dropB_no hy0
                      rw [hc0] at hdy hdn
                      clear hx0 hc0
                      cases hbb : blankB c with
                      | true =>
                        rw [hbb] at hbl
                        have e1 := S_drop y 1
                        have g1 : (1 : Int) ≤ (y.length : Int) := by omega
                        have hrl : (y.drop 1).length ≤ u.length := by rw [List.length_drop]; omega
                        have HY2 : Hid (d.dropWhile isB = (y.drop 1).dropWhile isB) := Lib.hid (HY.out.trans (hdy hbb))
                        have HLE : Hid ((y.drop 1).length < y.length) := Lib.hid (by rw [List.length_drop]; omega)
                        clear HY hbb hyl hdy hdn hy0
                        obtain ⟨r, hr⟩ : ∃ r, y.drop 1 = r := ⟨_, rfl⟩
                        rw [hr] at e1 hrl HY2 HLE
                        clear hr
                        go_wp2_with fail
                        refine hbl.mono ?_
                        rintro e w4 ⟨rfl, rfl⟩
                        clear hbl
                        go_wp2_with fail
                        go_roundw
                        case rel => exact ⟨r, rfl, hrl, HY2, by first | rfl | trivial⟩
                        case measure =>
                          have := HLE.out
                          simp [strLen, S_size]; omega
                      | false =>
                        rw [hbb] at hbl
                        have HD : Hid (d.dropWhile isB = y) := Lib.hid (HY.out.trans (hdn hbb))
                        clear HY hbb hdy hdn hy0
                        go_wp2_with fail
                        refine hbl.mono ?_
                        rintro e w4 ⟨rfl, rfl⟩
                        clear hbl
                        go_wp2_with fail
                        clear hg0 hyi hlt0
                        go_loopw [12] (fun v3 w3 => ∃ z : List UInt8, v3 = .string (S z) ∧ z.length ≤ u.length ∧ Hid (rt isB (y) = rt isB z) ∧ w3 = w4)
                          (fun v3 _ => strLen v3)
                        case atStart => exact ⟨y, rfl, hyl, Lib.hid rfl, by first | rfl | trivial⟩
                        case round =>
                          obtain ⟨z, rfl, hzl, HZ, rfl⟩ := hrel
                          have hzz := S_size z
                          by_cases hz0 : z.length = 0
                          · have HE : Hid (fieldsU (R.take (j + 1)) = fieldsU (R.take j) ++ [(nm, z)]) := Lib.hid (HF.out _ _ HD.out (HZ.out.trans (by rw [List.length_eq_zero_iff.1 hz0]; rfl)))
                            rw [hz0] at hzz
                            clear HZ HD HF HFD HBL hz0
                            go_wp2_with (at_builtin; refine wpList_append_own _ rfl _ _ 29 rfl wa.heap.size 35 f0 (.agg #[.string ⟨#[]⟩, .string ⟨#[]⟩]) 2 32 Tryd.underlying29 hfi hf0 hf1 hf2 rfl (by decide) _ _ _ rfl (HO2.out.2.alloc _) ⟨wr.heap.size, 0, none⟩ 1 1 [.string (S nm), .string (S z)] rfl rfl (newsF _ _ _ _) (onesF _ _) ?d3e2 ?d4e2 ?d5e2 ?_)
                            try case d3e2 => unfold maxLen; omega
                            try case d4e2 => omega
                            try case d5e2 => first | omega | (simp; omega)
                            intro v5 w5 hown' hgrow hnil
                            have hB5 : Below wa.heap.size wa w5 := (hB2.alloc hBs2 _).grown hgrow (by simp; omega) (fun k hk => (HO2.out.2.lt k hk).1)
                            have HN : Hid (o + 1 = (fieldsU (R.take (j + 1))).length ∧ w5.ownsRow wa.heap.size 35 2 v5 (o + 1) (cellsF (fieldsU (R.take (j + 1))))) := Lib.hid ⟨by rw [HE.out, List.length_append, List.length_singleton, ← HO2.out.1], by rw [HE.out, cellsF_snoc]; exact hown'⟩
                            clear hown' hgrow hnil HO2 hB2 hBs2
                            go_wp2_with fail
                            go_roundw
                            case rel => exact ⟨j + 1, o + 1, by go_num, by omega, by omega, HN, hB5⟩
                            case measure => simp [intOf]; omega
                          · obtain ⟨q, hq⟩ : ∃ q, z.length = q + 1 := ⟨z.length - 1, by omega⟩
                            have hlt1 : q < (S z).size := by rw [hzz]; omega
                            obtain ⟨c, hc0⟩ : ∃ c, z[q]'(by omega) = c := ⟨_, rfl⟩
                            have hry := rtB_yes hq
                            have hrn := rtB_no hq
                            rw [hc0] at hry hrn
                            obtain ⟨x1, hx1⟩ : ∃ x1 : Nat, c.toNat = x1 := ⟨_, rfl⟩
                            have hg1 : ((S z)[q]'hlt1).toNat = x1 := by rw [S_get z q (by omega) hlt1, hc0]; exact hx1
                            have hbl := HBL.out c wr
                            rw [hx1] at hbl
                            clear hx1 hc0
                            have v1 : IntKind.i64.wrap ((z.length : Int) - 1) = (q : Int) := wrapi (by omega) (by omega)
                            have q0 : (0 : Int) < (z.length : Int) := by omega
                            have q1 : (q : Int) < (z.length : Int) := by omega
                            have q2 : (q : Int) ≤ (z.length : Int) := by omega
                            have q3 : (0 : Int) ≤ (q : Int) := by omega
                            cases hbb : blankB c with
                            | true =>
                              rw [hbb] at hbl
                              have e3 := S_take z q
                              have HZ2 : Hid (rt isB (y) = rt isB (z.take q)) := Lib.hid (HZ.out.trans (hry hbb))
                              have hrl : (z.take q).length ≤ u.length := by rw [List.length_take]; omega
                              have HLE : Hid ((z.take q).length < z.length) := Lib.hid (by rw [List.length_take]; omega)
                              clear HZ hbb hry hrn hq hz0
                              obtain ⟨r, hr⟩ : ∃ r, z.take q = r := ⟨_, rfl⟩
                              rw [hr] at e3 hrl HZ2 HLE
                              clear hr
                              go_wp2_with fail
                              refine hbl.mono ?_
                              rintro e w6 ⟨rfl, rfl⟩
                              clear hbl
                              go_wp2_with fail
                              go_roundw
                              case rel => exact ⟨r, rfl, hrl, HZ2, by first | rfl | trivial⟩
                              case measure =>
                                have := HLE.out
                                simp [strLen, S_size]; omega
                            | false =>
                              rw [hbb] at hbl
                              have HE : Hid (fieldsU (R.take (j + 1)) = fieldsU (R.take j) ++ [(nm, z)]) := Lib.hid (HF.out _ _ HD.out (HZ.out.trans (hrn hbb)))
                              clear HZ hbb hry hrn HD HF hq hz0
                              go_wp2_with fail
                              refine hbl.mono ?_
                              rintro e w6 ⟨rfl, rfl⟩
                              clear hbl HFD HBL
                              go_wp2_with (at_builtin; refine wpList_append_own _ rfl _ _ 29 rfl wa.heap.size 35 f0 (.agg #[.string ⟨#[]⟩, .string ⟨#[]⟩]) 2 32 Tryd.underlying29 hfi hf0 hf1 hf2 rfl (by decide) _ _ _ rfl (HO2.out.2.alloc _) ⟨w6.heap.size, 0, none⟩ 1 1 [.string (S nm), .string (S z)] rfl rfl (newsF _ _ _ _) (onesF _ _) ?d3f2 ?d4f2 ?d5f2 ?_)
                              try case d3f2 => unfold maxLen; omega
                              try case d4f2 => omega
                              try case d5f2 => first | omega | (simp; omega)
                              intro v5 w5 hown' hgrow hnil
                              have hB5 : Below wa.heap.size wa w5 := (hB2.alloc hBs2 _).grown hgrow (by simp; omega) (fun k hk => (HO2.out.2.lt k hk).1)
                              have HN : Hid (o + 1 = (fieldsU (R.take (j + 1))).length ∧ w5.ownsRow wa.heap.size 35 2 v5 (o + 1) (cellsF (fieldsU (R.take (j + 1))))) := Lib.hid ⟨by rw [HE.out, List.length_append, List.length_singleton, ← HO2.out.1], by rw [HE.out, cellsF_snoc]; exact hown'⟩
                              clear hown' hgrow hnil HO2 hB2 hBs2
                              go_wp2_with fail
                              go_roundw
                              case rel => exact ⟨j + 1, o + 1, by go_num, by omega, by omega, HN, hB5⟩
                              case measure => simp [intOf]; omega
              · have hqx : ((x : Int) != 58) = true := by
                  rw [bne_iff_ne]
                  intro e
                  exact h58 (UInt8.toNat_inj.1 (by rw [hx]; show x = 58; omega))
                have HN2 : Hid (∀ q, q < p + 1 → u[q]? ≠ some 58) := Lib.hid fun q hq => by
                  by_cases h' : q < p
                  · exact HN.out q h'
                  · obtain rfl : q = p := by omega
                    rw [List.getElem?_eq_getElem hpl]
                    exact fun e => h58 (Option.some.inj e)
                clear HN h58 hx HFT
                go_wp2_with fail
                go_roundw
                case rel => exact ⟨p + 1, by go_num, by omega, HN2, by first | rfl | trivial⟩
                case measure => simp [intOf]; omega
            · obtain rfl : p = u.length := by omega
              have hpi : ¬ (u.length : Int) < (u.length : Int) := by omega
              have HF : Hid (fieldsU (R.take (j + 1)) = fieldsU (R.take j)) := Lib.hid (by rw [HFT.out, fieldOf_none HN.out (.inr rfl)]; simp)
              clear HN HFT
              by_cases hp0 : u.length = 0
              · have hq1 : ((u.length : Int) == 0) = true := by rw [hp0]; rfl
                clear hp0
                go_wp2_with fail
                go_roundw
                case rel => exact ⟨j + 1, o, by go_num, by omega, by omega, Lib.hid (by rw [HF.out]; exact HO2.out), hB2⟩
                case measure => simp [intOf]; omega
              · have hq1 : ((u.length : Int) == 0) = false := beq_eq_false_iff_ne.2 (by omega)
                clear hp0
                go_wp2_with fail
                go_roundw
                case rel => exact ⟨j + 1, o, by go_num, by omega, by omega, Lib.hid (by rw [HF.out]; exact HO2.out), hB2⟩
                case measure => simp [intOf]; omega
        · obtain rfl : j = n := by omega
          have hjn2 : ¬ (j : Int) < (j : Int) := by omega
          have HE : Hid (fieldsU (R.take j) = FM) := Lib.hid (by rw [List.take_of_length_le (by have := HNR.out; omega)]; exact HFD.out.symm)
          go_wp2_with fail
          go_ret
          refine ⟨⟨_, rfl, ?_⟩, hB.trans (hB2.mono hBs)⟩
          have h9 := HO2.out.2
          rw [HO2.out.1, HE.out] at h9
          exact ownsRow_lower h9 hBs
end Go.Proofs.YtecemfebbonkpaaDoor.pt
