/-
  The laws FlagChanges and FlagOnce, walked.
-/
import Derived.Test.YtiaggnpkmigbhaaDoorFlagLaws1
import Derived.Test.YtiaggnpkmigbhaaDoorFlagRef5
namespace Go.Proofs.YtiaggnpkmigbhaaDoor.fl
open Go.RowKit Go.Shelf

set_option maxHeartbeats 2000000 in
set_option maxRecDepth 100000 in
theorem changes_law (a a' : Option Addr) (cap cap' : Nat) (l bs : List (List UInt8)) (how : Int) (hl : l.length ≤ 8796093021952) (hl' : bs.length ≤ 8796093021952) (hx : Short l) (hy : Short bs) (w : World) (hu : Sl w (.slice a l.length cap) l) (hu' : Sl w (.slice a' bs.length cap') bs) (hS : Sys w) :
    Calls Tryd.prog 5 #[.slice a l.length cap, .int .i64 how, .slice a' bs.length cap'] w fun e w' => e = .returned (.bool true) ∧ Below w.heap.size w w' := by
  obtain ⟨v1, w1, hrun1, hsl1, B1⟩ := copyS w _ l hl hu
  obtain ⟨v2, w2, hrun2, hsl2, b2⟩ := copyS w1 _ bs hl' (hu'.later B1)
  have B2 := B1.trans (b2.mono B1.size)
  obtain ⟨a1, c1, rfl, hr1, hcc1⟩ := hsl1.later b2
  obtain ⟨a2, c2, rfl, hr2, hcc2⟩ := hsl2
  have h2 := change_any a1 a2 c1 c2 l bs how (by omega) (by omega) hx hy w2 ⟨a1, c1, rfl, hr1, hcc1⟩ ⟨a2, c2, rfl, hr2, hcc2⟩ (hS.next B2)
  have H3 := Lib.hid (fun W h h' => refchange_any a a' cap cap' l bs how (by omega) (by omega) hx hy W h h')
  have H4 := Lib.hid alive_any
  have HR := Lib.hid (And.intro (sl_row hu) (And.intro (sl_row hu') (And.intro hr1 (And.intro hr2 hS))))
  have H5 := Lib.hid same_true
  have HL := Lib.hid (change_short l bs how)
  clear hu hu' hS hx hy hr1 hr2 hcc1 hcc2 hsl1 b2 B1
  cases hmk : change l how bs with
  | mk m k =>
    rw [hmk] at h2 H3 HL
    clear hmk
    go_enter Tryd.func5, Tryd.ntmps5
    go_wp2_with (at_builtin; first | (refine Lib.wpList_append_run _ rfl _ _ _ _ rfl _ _ rfl rfl _ _ (hrun1 _) ?_; clear hrun1) | (refine Lib.wpList_append_run _ rfl _ _ _ _ rfl _ _ rfl rfl _ _ (hrun2 _) ?_; clear hrun2))
    refine h2.mono ?_
    rintro e w3 ⟨⟨v3, rfl, a3, c3, rfl, hr3, _⟩, b3⟩
    have B3 := B2.trans (b3.mono B2.size)
    have h3 := H3.out w3 (HR.out.1.later B3) (HR.out.2.1.later B3)
    have HR3 := Lib.hid (And.intro hr3 (And.intro (HR.out.2.2.1.later b3) (HR.out.2.2.2.1.later b3)))
    clear h2 hr3 b3 B2
    go_wp2_with fail
    refine h3.mono ?_
    rintro e w4 ⟨⟨a4, c4, rfl, hr4⟩, b4⟩
    have B4 := B3.trans (b4.mono B3.size)
    have h4 := H4.out w4 (HR.out.2.2.2.2.next B4)
    have HR4 := Lib.hid (And.intro hr4 (And.intro (HR3.out.1.later b4) (And.intro (HR3.out.2.1.later b4) (HR3.out.2.2.later b4))))
    clear h3 hr4 b4 B3 HR3
    go_wp2_with fail
    refine h4.mono ?_
    rintro e w5 ⟨rfl, b5⟩
    have B5 := B4.trans (b5.mono B4.size)
    have h5 := H5.out a3 a4 c3 c4 m HL.out w5 (HR4.out.2.1.later b5) (HR4.out.1.later b5)
    have HR5 := Lib.hid (And.intro (HR4.out.2.2.1.later b5) (HR4.out.2.2.2.later b5))
    clear h4 b5 B4 HR4
    go_wp2_with fail
    refine h5.mono ?_
    rintro e w6 ⟨rfl, b6⟩
    have B6 := B5.trans (b6.mono B5.size)
    have h6 := H5.out a1 a c1 cap l (by omega) w6 (HR5.out.1.later b6) (HR.out.1.later B6)
    have HR6 := Lib.hid (HR5.out.2.later b6)
    clear h5 b6 B5 HR5
    go_wp2_with fail
    refine h6.mono ?_
    rintro e w7 ⟨rfl, b7⟩
    have B7 := B6.trans (b7.mono B6.size)
    have h7 := H5.out a2 a' c2 cap' bs (by omega) w7 (HR6.out.later b7) (HR.out.2.1.later B7)
    clear h6 b7 B6 HR6
    go_wp2_with fail
    refine h7.mono ?_
    rintro e w8 ⟨rfl, b8⟩
    go_wp2_with fail
    go_ret
    exact ⟨rfl, B7.trans (b8.mono B7.size)⟩

/-- The last ones, turned round, in great letters. -/
def greats (m : List (List UInt8)) (j : Nat) : List (List UInt8) := (m.drop j).reverse.map upper
theorem greats_step {m : List (List UInt8)} {j : Nat} (h : j < m.length) : greats m j = greats m (j + 1) ++ [upper m[j]] := by
  unfold greats
  rw [List.drop_eq_getElem_cons h, List.reverse_cons, List.map_append]
  rfl
theorem greats_le (m : List (List UInt8)) (j : Nat) : (greats m j).length ≤ m.length := by simp [greats]
theorem make_few {l m : List (List UInt8)} {e : Nat} (h : make l = (m, e)) (he : e ≠ 0) : m = [] ∧ e ≤ 7 := by
  unfold make at h
  split at h
  · rcases full_some h with ⟨h0, _⟩ | ⟨rfl, rfl, _⟩
    · exact absurd h0 he
    · exact ⟨rfl, by omega⟩
  · cases h; exact ⟨rfl, by omega⟩

set_option maxHeartbeats 2000000 in
set_option maxRecDepth 100000 in
theorem once_any (a : Option Addr) (cap : Nat) (l : List (List UInt8)) (hl : l.length ≤ 8796093021952) (hx : Short l) (w : World) (hu : Sl w (.slice a l.length cap) l) (hS : Sys w) :
    Calls Tryd.prog 7 #[.slice a l.length cap] w fun e w' => e = .returned (.bool true) ∧ Below w.heap.size w w' := by
  obtain ⟨i0, hi, hz0, hz1, hz2⟩ := info_parts infoS
  have h1 := alive_any w hS
  have H2 := Lib.hid (fun W h h' => make_any a cap l (by omega) hx W h h')
  have HR := Lib.hid (And.intro (sl_row hu) hS)
  have HG := Lib.hid great_any
  have HM := Lib.hid make_any
  have HI := Lib.hid right_any
  have HE := Lib.hid same_true
  clear hu hS hx
  go_enter Tryd.func7, Tryd.ntmps7
  go_wp2_with fail
  refine h1.mono ?_
  rintro e w1 ⟨rfl, b1⟩
  have h2 := H2.out w1 (HR.out.1.later b1) (HR.out.2.next b1)
  clear h1
  cases hmk : make l with
  | mk m k =>
    rw [hmk] at h2
    go_wp2_with fail
    refine h2.mono ?_
    rintro e w2 ⟨⟨v2, rfl, a2, c2, rfl, hr2, hcc⟩, b2⟩
    have B2 := b1.trans (b2.mono b1.size)
    have HS2 := Lib.hid (HR.out.2.next B2)
    clear h2 b2 b1 H2 HR
    by_cases hk : k = 0
    · subst hk
      have hR := make_right hmk
      have HGr := Lib.hid (make_great hR)
      have HIs := Lib.hid (show right m = true from decide_eq_true hR)
      have HSh := Lib.hid (short_right hR)
      have hn := hR.n
      have HR2 := Lib.hid hr2
      clear hmk hcc hR hr2
      go_wp2
      go_loopw [5, 6] (fun v i wr => ∃ (j : Nat), i = .int .i64 ((j : Int) - 1) ∧ j ≤ m.length ∧ Hid (wr.ownsRow w2.heap.size 9 1 v (greats m j).length (cellsS (greats m j))) ∧ Below w2.heap.size w2 wr)
        (fun _ i _ => (intOf i + 1).toNat)
      case atStart =>
        refine ⟨m.length, by go_num, Nat.le_refl _, Lib.hid ?_, Below.refl _ _⟩
        rw [show greats m m.length = [] by simp [greats]]
        exact World.ownsRow_nil _ _ _ _
      case round =>
        obtain ⟨j, rfl, hj, HO, hB⟩ := hrel
        have hBs := hB.size
        cases j with
        | succ j =>
          have hji : ((j + 1 : Nat) : Int) - 1 = (j : Int) := by omega
          rw [hji]
          have hlt : j < m.length := by omega
          have hli : (j : Int) < (m.length : Int) := by omega
          have hj0 : (j : Int) ≥ 0 := by omega
          have hgl := greats_le m (j + 1)
          rcases HR2.out.later hB with h0 | ⟨b, off, rfl, hb, hc⟩
          · rw [h0] at hlt; simp at hlt
          have hcell := hc j hlt
          have hg := HG.out (m[j]'hlt) (HSh.out _ (List.getElem_mem hlt)) wr
          have HN := Lib.hid (greats_step hlt)
          generalize m[j]'hlt = x at *
          clear hc hji
          go_wp2_with fail
          refine hg.mono ?_
          rintro e w3 ⟨rfl, b3⟩
          have HO3 := Lib.hid (ownsRow_below HO.out b3)
          have hB3 := hB.trans (b3.mono hBs)
          have hBs3 := hB3.size
          clear hg
          go_wp2_with (at_builtin; refine wpList_append_own _ rfl _ _ 22 rfl w2.heap.size 9 i0 (.string ⟨#[]⟩) 1 16 Tryd.underlying22 hi hz0 hz1 hz2 rfl (by decide) _ _ _ rfl (HO3.out.alloc _) ⟨w3.heap.size, 0, none⟩ 1 1 [.string (S (upper x))] rfl rfl ?c1 ?c2 ?c3 ?c4 ?c5 ?_)
          case c1 =>
            intro j u hj
            match j, hj with
            | 0, hj => simp at hj; subst hj; simp [Addr.add]
          case c2 => intro u hu; simp at hu; subst hu; rfl
          case c3 => unfold maxLen; omega
          case c4 => omega
          case c5 => simp; omega
          intro v5 w5 hown' hgrow hnil
          have hB5 : Below w2.heap.size w2 w5 := (hB3.alloc hBs3 _).grown hgrow (by simp; omega) (fun k hk => (HO3.out.lt k hk).1)
          have HO5 : Hid (w5.ownsRow w2.heap.size 9 1 v5 (greats m j).length (cellsS (greats m j))) := by
            refine Lib.hid ?_
            rw [HN.out, cellsS_snoc, List.length_append, List.length_singleton]
            exact hown'
          clear hown' hgrow hnil HO HO3 hB hBs hB3 hBs3 HN b3
          go_wp2_with fail
          go_roundw
          case rel => exact ⟨j, by go_num, by omega, HO5, hB5⟩
          case measure => simp [intOf]
        | zero =>
          have hji : ((0 : Nat) : Int) - 1 = -1 := rfl
          rw [hji]
          have hgl := greats_le m 0
          have he0 : greats m 0 = m.reverse.map upper := by simp [greats]
          have hsh : Short (greats m 0) := fun x hx => by
            rw [he0] at hx
            obtain ⟨y, hy, rfl⟩ := List.mem_map.1 hx
            rw [upper_length]
            exact HSh.out y (List.mem_reverse.1 hy)
          have hsl := sl_own HO.out
          obtain ⟨a3, c3, rfl, hr3, _⟩ := hsl
          have h3 := HM.out a3 c3 (greats m 0) (by omega) hsh wr hr3 (HS2.out.next hB)
          rw [he0, HGr.out] at h3
          rw [he0]
          have hlen : (m.reverse.map upper).length = m.length := by simp
          rw [hlen] at h3 ⊢
          clear he0 hsh HO hji
          go_wp2_with fail
          refine h3.mono ?_
          rintro e w4 ⟨⟨v4, rfl, a4, c4, rfl, hr4, _⟩, b4⟩
          have B4 := hB.trans (b4.mono hBs)
          have h4 := HI.out a2 c2 m (by omega) HSh.out w4 (HR2.out.later B4) (HS2.out.next B4)
          rw [HIs.out] at h4
          have HR4 := Lib.hid hr4
          clear h3 b4 hB hBs hr4
          go_wp2_with fail
          refine h4.mono ?_
          rintro e w5 ⟨rfl, b5⟩
          have B5 := B4.trans (b5.mono B4.size)
          have h5 := HE.out a4 a2 c4 c2 m (by omega) w5 (HR4.out.later b5) (HR2.out.later B5)
          clear h4 b5 B4
          go_wp2_with fail
          refine h5.mono ?_
          rintro e w6 ⟨rfl, b6⟩
          go_wp2_with fail
          go_ret
          exact ⟨rfl, B2.trans ((B5.trans (b6.mono B5.size)).mono B2.size)⟩
    · obtain ⟨rfl, hk7⟩ := make_few hmk hk
      have hki : (k : Int) ≠ 0 := by omega
      clear hmk hcc hr2
      go_wp2_with fail
      go_ret
      exact ⟨rfl, B2⟩
end Go.Proofs.YtiaggnpkmigbhaaDoor.fl
