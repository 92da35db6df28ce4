/-
  What the reference's Parse answers. Written by gen_refq.py.
-/
import Derived.Test.YtiaggnpkmigbhaaDoorFlagRefP
namespace Go.Proofs.YtiaggnpkmigbhaaDoor.fl
open Go.RowKit

theorem parse_short {l : List UInt8} (h : l.length < 2) : parse l = ([], 0, 4) := by
  match l, h with
  | [], _ => rfl
  | [c], _ => exact parse_bad (by simp)
theorem parse_other {l : List UInt8} (h : 0 < l.length) (hc : l[0] ≠ 40) : parse l = ([], 0, 4) := by
  match l, h, hc with
  | c :: r, _, hc => exact parse_bad fun e => hc e.1
theorem parse_at1 {l : List UInt8} (h : 0 < l.length) (hc : l[0] = 40) : parse l = rest (l.drop 1) 1 [] := by
  match l, h, hc with
  | c :: r, _, hc =>
    obtain rfl : c = 40 := hc
    exact parse_rest r
theorem fin_ok {N m : List (List UInt8)} {n : Nat} (h : make N = (m, 0)) : fin N n = (m, n, 0) := by unfold fin; rw [h]; rfl
theorem fin_no {N m : List (List UInt8)} {n e : Nat} (h : make N = (m, e)) (he : e ≠ 0) : fin N n = ([], 0, e) := by unfold fin; rw [h]; exact if_neg he

/-- The reference's answer. -/
def Ans (l : List UInt8) (e : Ending) (w' : World) : Prop := ∃ a2 c2, e = .returned (.tuple #[.slice a2 (parse l).1.length c2, .int .i64 ((parse l).2.1 : Nat), .int .i64 ((parse l).2.2 : Nat)]) ∧ RowS w' a2 (parse l).1
theorem ans_of {l : List UInt8} {m : List (List UInt8)} {n k : Nat} {w' : World} (h : parse l = (m, n, k)) (a2 : Option Addr) (c2 : Nat) (hr : RowS w' a2 m) : Ans l (.returned (.tuple #[.slice a2 m.length c2, .int .i64 (n : Nat), .int .i64 (k : Nat)])) w' :=
  ⟨a2, c2, by rw [h], by rw [h]; exact hr⟩
theorem ans_bad {l : List UInt8} {w' : World} (h : parse l = ([], 0, 4)) : Ans l (.returned (.tuple #[.slice none 0 0, .int .i64 0, .int .i64 4])) w' := ans_of h none 0 (.inl rfl)

set_option maxHeartbeats 8000000 in
set_option maxRecDepth 100000 in
theorem refparse_any (l : List UInt8) (hl : l.length ≤ 8796093022000) (w : World) :
    Calls Tryd.prog 23 #[.string (S l)] w fun e w' => Ans l e w' ∧ Below w.heap.size w w' := by
  obtain ⟨i0, hi, hz0, hz1, hz2⟩ := info_parts infoS
  have hz := S_size l
  have HM := Lib.hid refmake_any
  go_enter Tryd.func23, Tryd.ntmps23
  by_cases h2 : l.length < 2
  · have HP := Lib.hid (parse_short h2)
    have h2i : (l.length : Int) < 2 := by omega
    go_wp2_with fail
    refine bodyPost_ret (results_tmp3 rfl _ _ _) rfl ?_
    exact ⟨ans_bad HP.out, Below.refl _ _⟩
  have h2i : ¬ (l.length : Int) < 2 := by omega
  have h0 : 0 < l.length := by omega
  have h0' : 0 < (S l).size := by rw [hz]; exact h0
  obtain ⟨x0, hx0⟩ : ∃ x : Nat, (l[0]'h0).toNat = x := ⟨_, rfl⟩
  have hg0 : ((S l)[0]'h0').toNat = x0 := by rw [S_get l 0 h0 h0']; exact hx0
  by_cases hc0 : l[0]'h0 = 40
  rotate_left
  · have HP := Lib.hid (parse_other h0 hc0)
    have hq : ((x0 : Int) != 40) = true := by
      rw [bne_iff_ne]
      intro e
      exact hc0 (UInt8.toNat_inj.1 (by rw [hx0]; show x0 = 40; omega))
    clear hx0 hc0
    go_wp2_with fail
    refine bodyPost_ret (results_tmp3 rfl _ _ _) rfl ?_
    exact ⟨ans_bad HP.out, Below.refl _ _⟩
  have HP1 := Lib.hid (parse_at1 h0 hc0)
  obtain rfl : x0 = 40 := by rw [← hx0, hc0]; rfl
  clear hx0 hc0
  go_wp2
  go_loopw [5, 6] (fun v i wr => ∃ (k : Nat) (N : List (List UInt8)), i = .int .i64 k ∧ 1 ≤ k ∧ k < l.length ∧ N.length ≤ k ∧ Hid (Short N) ∧ Hid (parse l = rest (l.drop k) k N) ∧ Hid (wr.ownsRow w.heap.size 9 1 v N.length (cellsS N)) ∧ Below w.heap.size w wr)
    (fun _ i _ => l.length - (intOf i).toNat)
  case atStart => exact ⟨1, [], rfl, Nat.le_refl _, by omega, by simp, Lib.hid (fun x hx => (by cases hx)), HP1, Lib.hid (World.ownsRow_nil _ _ _ _), Below.refl _ _⟩
  case round =>
    obtain ⟨k, N, rfl, hk1, hk, hNl, HSh, HR, HO, hB⟩ := hrel
    have hs2 := hB.size
    clear HP1 hg0 h0' h0 h2i h2
    have hk' : k < (S l).size := by rw [hz]; exact hk
    have hki : (k : Int) < (l.length : Int) := by omega
    obtain ⟨x, hx⟩ : ∃ x : Nat, (l[k]'hk).toNat = x := ⟨_, rfl⟩
    have hg : ((S l)[k]'hk').toNat = x := by rw [S_get l k hk hk']; exact hx
    by_cases hd : l[k]'hk = 41
    · obtain rfl : x = 41 := by rw [← hx, hd]; rfl
      have HF : Hid (parse l = fin N (k + 1)) := by
        refine Lib.hid ?_
        rw [HR.out, List.drop_eq_getElem_cons hk, hd, rest_end]
      obtain ⟨a2, c2, rfl, hrow, _⟩ := sl_own HO.out
      have hm := HM.out a2 c2 N (by omega) HSh.out wr hrow
      clear hx hd HR HO HSh
      cases hmk : make N with
      | mk m e =>
        rw [hmk] at hm
        go_wp2_with fail
        refine hm.mono ?_
        rintro e2 w2 ⟨⟨a3, c3, rfl, hrow3⟩, b2⟩
        have B2 := hB.trans (b2.mono hs2)
        clear hm b2 hB hs2 hrow
        by_cases he : e = 0
        · subst he
          have HP : Hid (parse l = (m, k + 1, 0)) := Lib.hid (HF.out.trans (fin_ok hmk))
          have HRW := Lib.hid hrow3
          clear hmk hrow3 HF
          go_wp2_with fail
          refine bodyPost_ret (results_tmp3 rfl _ _ _) rfl ?_
          exact ⟨ans_of HP.out a3 c3 HRW.out, B2⟩
        · have HP : Hid (parse l = ([], 0, e)) := Lib.hid (HF.out.trans (fin_no hmk he))
          have hei : (e : Int) ≠ 0 := by omega
          clear hmk hrow3 HF
          go_wp2_with fail
          refine bodyPost_ret (results_tmp3 rfl _ _ _) rfl ?_
          exact ⟨ans_of HP.out none 0 (.inl rfl), B2⟩
    have hq : ((x : Int) != 41) = true := by
      rw [bne_iff_ne]
      intro e
      exact hd (UInt8.toNat_inj.1 (by rw [hx]; show x = 41; omega))
    have HD := Lib.hid hd
    clear hx hd
    go_wp2
    go_loopw [6] (fun i wr' => ∃ m : Nat, i = .int .i64 m ∧ k ≤ m ∧ m ≤ l.length ∧ Hid ((32 : UInt8) ∉ (l.drop k).take (m - k) ∧ (41 : UInt8) ∉ (l.drop k).take (m - k)) ∧ wr' = wr)
      (fun i _ => l.length - (intOf i).toNat)
    case atStart => exact ⟨k, rfl, Nat.le_refl _, by omega, Lib.hid (by rw [Nat.sub_self]; simp), rfl⟩
    case round =>
      obtain ⟨m, rfl, hkm, hm, HF, rfl⟩ := hrel
      clear hq hg hk' hki
      have hsl := fun W => run_slice_string (P := Tryd.prog) W 9 (S l) .i64 .i64 (k : Int) (m : Int) Tryd.underlying9 (by omega) (by omega) (by rw [hz]; omega)
      have t1 : (k : Int).toNat = k := by omega
      have t2 : (m : Int).toNat = m := by omega
      simp only [t1, t2, S_mid] at hsl
      have hsp := mid_split l hkm
      have hpl := mid_length l hkm hm
      by_cases hlt : m < l.length
      · have hlt' : m < (S l).size := by rw [hz]; exact hlt
        have hmi : (m : Int) < (l.length : Int) := by omega
        have hdm := List.drop_eq_getElem_cons hlt
        have hsnoc := mid_snoc l k m hkm hlt
        obtain ⟨y, hy⟩ : ∃ y : Nat, (l[m]'hlt).toNat = y := ⟨_, rfl⟩
        have hgm : ((S l)[m]'hlt').toNat = y := by rw [S_get l m hlt hlt']; exact hy
        by_cases h32 : l[m]'hlt = 32
        · obtain rfl : y = 32 := by rw [← hy, h32]; rfl
          rw [h32] at hdm
          by_cases hend : m + 1 < l.length
          · have hend' : m + 1 < (S l).size := by rw [hz]; exact hend
            have hei : (m : Int) + 1 < (l.length : Int) := by omega
            have hde := List.drop_eq_getElem_cons hend
            obtain ⟨z, hzz⟩ : ∃ z : Nat, (l[m + 1]'hend).toNat = z := ⟨_, rfl⟩
            have hgz : ((S l)[m + 1]'hend').toNat = z := by rw [S_get l (m + 1) hend hend']; exact hzz
            by_cases h41 : l[m + 1]'hend = 41
            · obtain rfl : z = 41 := by rw [← hzz, h41]; rfl
              rw [h41] at hde
              have HP : Hid (parse l = ([], 0, 4)) := by
                refine Lib.hid ?_
                rw [HR.out, hsp, hdm, hde]
                exact rest_sp_close HF.out.1 HF.out.2
              obtain ⟨p, hp⟩ : ∃ p, p = (l.drop k).take (m - k) := ⟨_, rfl⟩
              rw [← hp] at hsl
              clear t1 t2 hsp hpl hdm hde hsnoc hy h32 hzz h41 HF HR hp HD
              go_wp2_with (at_builtin; refine wpList_append_own _ rfl _ _ 22 rfl w.heap.size 9 i0 (.string ⟨#[]⟩) 1 16 Tryd.underlying22 hi hz0 hz1 hz2 rfl (by decide) _ _ _ rfl (HO.out.alloc _) ⟨wr.heap.size, 0, none⟩ 1 1 [.string (S p)] rfl rfl ?c1a ?c2a ?c3a ?c4a ?c5a ?_)
              try case c1a =>
                intro j u hj
                match j, hj with
                | 0, hj => simp at hj; subst hj; simp [Addr.add]
              case c2a => first | rfl | (intro u hu; simp at hu; subst hu; rfl)
              case c3a => unfold maxLen; omega
              case c4a => omega
              case c5a => first | omega | (simp; omega)
              intro v3 w3 hown' hgrow hnil
              have hB3 : Below w.heap.size w w3 := (hB.alloc hs2 _).grown hgrow (by simp; omega) (fun k hk => (HO.out.lt k hk).1)
              have HO3 : Hid (w3.ownsRow w.heap.size 9 1 v3 (N ++ [p]).length (cellsS (N ++ [p]))) := by
                refine Lib.hid ?_
                rw [cellsS_snoc, List.length_append, List.length_singleton]
                exact hown'
              clear hown' hgrow hnil HO hB hs2 hsl
              go_wp2_with fail
              refine bodyPost_ret (results_tmp3 rfl _ _ _) rfl ?_
              exact ⟨ans_bad HP.out, hB3⟩
            · have hqz : ((z : Int) == 41) = false := by
                rw [beq_eq_false_iff_ne]
                intro e
                exact h41 (UInt8.toNat_inj.1 (by rw [hzz]; show z = 41; omega))
              obtain ⟨p, hp⟩ : ∃ p, p = (l.drop k).take (m - k) := ⟨_, rfl⟩
              have HN : Hid (parse l = rest (l.drop (m + 1)) (m + 1) (N ++ [p])) := by
                refine Lib.hid ?_
                rw [HR.out, hsp, hdm, hde, rest_sp h41 HF.out.1 HF.out.2, hpl, ← hp, show k + (m - k) + 1 = m + 1 by omega]
              have HSN : Hid (Short (N ++ [p])) := Lib.hid fun y hy => by
                rcases List.mem_append.1 hy with h | h
                · exact HSh.out y h
                · rw [List.mem_singleton] at h; rw [h, hp, hpl]; omega
              rw [← hp] at hsl
              clear t1 t2 hsp hpl hdm hde hsnoc hy h32 hzz h41 HF HR hp HD HSh
              go_wp2_with (at_builtin; refine wpList_append_own _ rfl _ _ 22 rfl w.heap.size 9 i0 (.string ⟨#[]⟩) 1 16 Tryd.underlying22 hi hz0 hz1 hz2 rfl (by decide) _ _ _ rfl (HO.out.alloc _) ⟨wr.heap.size, 0, none⟩ 1 1 [.string (S p)] rfl rfl ?c1b ?c2b ?c3b ?c4b ?c5b ?_)
              try case c1b =>
                intro j u hj
                match j, hj with
                | 0, hj => simp at hj; subst hj; simp [Addr.add]
              case c2b => first | rfl | (intro u hu; simp at hu; subst hu; rfl)
              case c3b => unfold maxLen; omega
              case c4b => omega
              case c5b => first | omega | (simp; omega)
              intro v3 w3 hown' hgrow hnil
              have hB3 : Below w.heap.size w w3 := (hB.alloc hs2 _).grown hgrow (by simp; omega) (fun k hk => (HO.out.lt k hk).1)
              have HO3 : Hid (w3.ownsRow w.heap.size 9 1 v3 (N ++ [p]).length (cellsS (N ++ [p]))) := by
                refine Lib.hid ?_
                rw [cellsS_snoc, List.length_append, List.length_singleton]
                exact hown'
              clear hown' hgrow hnil HO hB hs2 hsl
              go_wp2_with fail
              go_roundw
              case rel => exact ⟨m + 1, N ++ [p], by go_num, by omega, by omega, by rw [List.length_append, List.length_singleton]; omega, HSN, HN, HO3, hB3⟩
              case measure => simp [intOf]; omega
          · have hei : ¬ (m : Int) + 1 < (l.length : Int) := by omega
            have hei2 : (m : Int) + 1 ≥ (l.length : Int) := by omega
            have HP : Hid (parse l = ([], 0, 4)) := by
              refine Lib.hid ?_
              rw [HR.out, hsp, hdm, show l.drop (m + 1) = [] from List.drop_eq_nil_of_le (by omega)]
              exact rest_sp_end HF.out.2
            obtain ⟨p, hp⟩ : ∃ p, p = (l.drop k).take (m - k) := ⟨_, rfl⟩
            rw [← hp] at hsl
            clear t1 t2 hsp hpl hdm hsnoc hy h32 HF HR hp HD
            go_wp2_with (at_builtin; refine wpList_append_own _ rfl _ _ 22 rfl w.heap.size 9 i0 (.string ⟨#[]⟩) 1 16 Tryd.underlying22 hi hz0 hz1 hz2 rfl (by decide) _ _ _ rfl (HO.out.alloc _) ⟨wr.heap.size, 0, none⟩ 1 1 [.string (S p)] rfl rfl ?c1c ?c2c ?c3c ?c4c ?c5c ?_)
            try case c1c =>
              intro j u hj
              match j, hj with
              | 0, hj => simp at hj; subst hj; simp [Addr.add]
            case c2c => first | rfl | (intro u hu; simp at hu; subst hu; rfl)
            case c3c => unfold maxLen; omega
            case c4c => omega
            case c5c => first | omega | (simp; omega)
            intro v3 w3 hown' hgrow hnil
            have hB3 : Below w.heap.size w w3 := (hB.alloc hs2 _).grown hgrow (by simp; omega) (fun k hk => (HO.out.lt k hk).1)
            have HO3 : Hid (w3.ownsRow w.heap.size 9 1 v3 (N ++ [p]).length (cellsS (N ++ [p]))) := by
              refine Lib.hid ?_
              rw [cellsS_snoc, List.length_append, List.length_singleton]
              exact hown'
            clear hown' hgrow hnil HO hB hs2 hsl
            go_wp2_with fail
            refine bodyPost_ret (results_tmp3 rfl _ _ _) rfl ?_
            exact ⟨ans_bad HP.out, hB3⟩
        · have hq32 : ((y : Int) != 32) = true := by
            rw [bne_iff_ne]
            intro e
            exact h32 (UInt8.toNat_inj.1 (by rw [hy]; show y = 32; omega))
          by_cases h41 : l[m]'hlt = 41
          · obtain rfl : y = 41 := by rw [← hy, h41]; rfl
            rw [h41] at hdm
            have hne : (l.drop k).take (m - k) ≠ [] := fun e => by
              rw [e, List.length_nil] at hpl
              obtain rfl : k = m := by omega
              exact HD.out h41
            obtain ⟨p, hp⟩ : ∃ p, p = (l.drop k).take (m - k) := ⟨_, rfl⟩
            have HN : Hid (parse l = rest (l.drop m) m (N ++ [p])) := by
              refine Lib.hid ?_
              rw [HR.out, hsp, hdm, rest_close hne HF.out.1 HF.out.2, hpl, ← hp, show k + (m - k) = m by omega]
            have HSN : Hid (Short (N ++ [p])) := Lib.hid fun y hy => by
              rcases List.mem_append.1 hy with h | h
              · exact HSh.out y h
              · rw [List.mem_singleton] at h; rw [h, hp, hpl]; omega
            have hlk : k < m := by
              rcases Nat.lt_or_ge k m with h | h
              · exact h
              · exfalso; apply hne; rw [show m - k = 0 by omega]; rfl
            rw [← hp] at hsl
            clear t1 t2 hsp hpl hdm hsnoc hy h32 h41 HF HR hp HD HSh hne
            go_wp2_with (at_builtin; refine wpList_append_own _ rfl _ _ 22 rfl w.heap.size 9 i0 (.string ⟨#[]⟩) 1 16 Tryd.underlying22 hi hz0 hz1 hz2 rfl (by decide) _ _ _ rfl (HO.out.alloc _) ⟨wr.heap.size, 0, none⟩ 1 1 [.string (S p)] rfl rfl ?c1d ?c2d ?c3d ?c4d ?c5d ?_)
            try case c1d =>
              intro j u hj
              match j, hj with
              | 0, hj => simp at hj; subst hj; simp [Addr.add]
            case c2d => first | rfl | (intro u hu; simp at hu; subst hu; rfl)
            case c3d => unfold maxLen; omega
            case c4d => omega
            case c5d => first | omega | (simp; omega)
            intro v3 w3 hown' hgrow hnil
            have hB3 : Below w.heap.size w w3 := (hB.alloc hs2 _).grown hgrow (by simp; omega) (fun k hk => (HO.out.lt k hk).1)
            have HO3 : Hid (w3.ownsRow w.heap.size 9 1 v3 (N ++ [p]).length (cellsS (N ++ [p]))) := by
              refine Lib.hid ?_
              rw [cellsS_snoc, List.length_append, List.length_singleton]
              exact hown'
            clear hown' hgrow hnil HO hB hs2 hsl
            go_wp2_with fail
            go_roundw
            case rel => exact ⟨m, N ++ [p], by go_num, by omega, by omega, by rw [List.length_append, List.length_singleton]; omega, HSN, HN, HO3, hB3⟩
            case measure => simp [intOf]; omega
          · have hq41 : ((y : Int) != 41) = true := by
              rw [bne_iff_ne]
              intro e
              exact h41 (UInt8.toNat_inj.1 (by rw [hy]; show y = 41; omega))
            have HFN : Hid ((32 : UInt8) ∉ (l.drop k).take (m + 1 - k) ∧ (41 : UInt8) ∉ (l.drop k).take (m + 1 - k)) := by
              refine Lib.hid ?_
              rw [hsnoc]
              simp only [List.mem_append, List.mem_singleton, not_or]
              exact ⟨⟨HF.out.1, fun e => h32 e.symm⟩, ⟨HF.out.2, fun e => h41 e.symm⟩⟩
            clear t1 t2 hsp hpl hdm hsnoc hy h32 h41 HF hsl
            go_wp2_with fail
            go_roundw
            case rel => exact ⟨m + 1, by go_num, by omega, by omega, HFN, trivial⟩
            case measure => simp [intOf]; omega
      · obtain rfl : m = l.length := by omega
        have hmi : ¬ (l.length : Int) < (l.length : Int) := by omega
        have HP : Hid (parse l = ([], 0, 4)) := by
          refine Lib.hid ?_
          rw [HR.out, hsp, List.drop_length, List.append_nil]
          exact rest_no HF.out.2
        obtain ⟨p, hp⟩ : ∃ p, p = (l.drop k).take (l.length - k) := ⟨_, rfl⟩
        rw [← hp] at hsl
        clear t1 t2 hsp hpl HF HR hp HD
        go_wp2_with (at_builtin; refine wpList_append_own _ rfl _ _ 22 rfl w.heap.size 9 i0 (.string ⟨#[]⟩) 1 16 Tryd.underlying22 hi hz0 hz1 hz2 rfl (by decide) _ _ _ rfl (HO.out.alloc _) ⟨wr.heap.size, 0, none⟩ 1 1 [.string (S p)] rfl rfl ?c1e ?c2e ?c3e ?c4e ?c5e ?_)
        try case c1e =>
          intro j u hj
          match j, hj with
          | 0, hj => simp at hj; subst hj; simp [Addr.add]
        case c2e => first | rfl | (intro u hu; simp at hu; subst hu; rfl)
        case c3e => unfold maxLen; omega
        case c4e => omega
        case c5e => first | omega | (simp; omega)
        intro v3 w3 hown' hgrow hnil
        have hB3 : Below w.heap.size w w3 := (hB.alloc hs2 _).grown hgrow (by simp; omega) (fun k hk => (HO.out.lt k hk).1)
        have HO3 : Hid (w3.ownsRow w.heap.size 9 1 v3 (N ++ [p]).length (cellsS (N ++ [p]))) := by
          refine Lib.hid ?_
          rw [cellsS_snoc, List.length_append, List.length_singleton]
          exact hown'
        clear hown' hgrow hnil HO hB hs2 hsl
        go_wp2_with fail
        refine bodyPost_ret (results_tmp3 rfl _ _ _) rfl ?_
        exact ⟨ans_bad HP.out, hB3⟩
end Go.Proofs.YtiaggnpkmigbhaaDoor.fl
