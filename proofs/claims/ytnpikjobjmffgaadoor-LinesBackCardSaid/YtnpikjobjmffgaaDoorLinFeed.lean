/-
  What the program's Feed answers.
-/
import Derived.Test.YtnpikjobjmffgaaDoorLinEnd
import Derived.Deep.RegionLaw
import Derived.Deep.RegionHeld3
import Derived.Maps.AppendAt
import Derived.WalkMore
import Derived.Lib.SlBytesConst
namespace Go.Proofs.YtnpikjobjmffgaaDoor.li
open Go.RowKit

theorem fd_text {wr X W7 : World} {q : Nat} {v v7 : Value} {st : St} {c : UInt8} (hF : Fd wr q v st) (hd : st.deaf = false) (hX : Below wr.heap.size wr X) (hg : X.grownBy W7 v.ownBlock)
    (hown : W7.ownsRow 3 5 1 v7 (st.text.length + 1) (Lib.byteCells st.text ++ [.int .u8 (c.toNat : Nat)])) :
    Fd (W7.setCell ⟨q, 0, none⟩ v7) q v7 ⟨st.text ++ [c], st.part, false⟩ ∧ Apart q v.ownBlock wr (W7.setCell ⟨q, 0, none⟩ v7) := by
  have hFX := hF.later hX
  have hq : W7.heap[q]? = X.heap[q]? := hg.block q hFX.a.lt (fun e => hFX.self hFX e.symm)
  have a7 := hFX.a.of hq
  have a8 := a7.set 0 v7
  have e8 : (#[v, .int .i64 (st.part : Nat), .bool st.deaf] : Array Value).setIfInBounds 0 v7 = #[v7, .int .i64 (st.part : Nat), .bool false] := by rw [hd]; simp
  rw [e8] at a8
  refine ⟨⟨hF.b, a8, ?_⟩, ?_⟩
  · have e : (st.text ++ [c]).length = st.text.length + 1 := by simp
    have e2 : Lib.byteCells (st.text ++ [c]) = Lib.byteCells st.text ++ [.int .u8 (c.toNat : Nat)] := by simp [Lib.byteCells]
    show (W7.setCell ⟨q, 0, none⟩ v7).ownsRow 3 5 1 v7 (st.text ++ [c]).length (Lib.byteCells (st.text ++ [c]))
    rw [e, e2]
    exact own_other hown a7 (by decide) 0 v7
  · exact (((Apart.of_below hX).grown hg (fun k hk => .inl hk)).setCell 0 v7)

theorem fd_cell0 {wr X W7 : World} {q : Nat} {v : Value} {st : St} (hF : Fd wr q v st) (hX : Below wr.heap.size wr X) (hg : X.grownBy W7 v.ownBlock) : W7.cell? ⟨q, 0, none⟩ = some v ∧ W7.frozen? ⟨q, 0, none⟩ = false := by
  have hFX := hF.later hX
  have hq : W7.heap[q]? = X.heap[q]? := hg.block q hFX.a.lt (fun e => hFX.self hFX e.symm)
  have a7 := hFX.a.of hq
  exact ⟨a7.cell (j := 0) rfl, a7.frozen 0⟩
theorem feed_own {wr : World} {y : Int} {v : Value} {g7 : Nat} (h : v.ownBlock = some g7 ∨ g7 = ((wr.alloc (Obj.cells #[Value.int IntKind.u8 y] 5)).drew).heap.size) : v.ownBlock = some g7 ∨ wr.heap.size ≤ g7 := by
  rcases h with h | h
  · exact .inl h
  · right
    have e : ((wr.alloc (Obj.cells #[Value.int IntKind.u8 y] 5)).drew).heap.size = wr.heap.size + 1 := by
      show (wr.alloc _).heap.size = _
      simp
    omega
theorem lie_of {w : World} {B : Nat} {l : List UInt8} {g n c m : Nat} (h : w.ownsRow B 5 1 (.slice (some ⟨g, 0, none⟩) n c) m (Lib.byteCells l)) (hl : 0 < l.length) : n ≤ c ∧ Lie w g 0 l := by
  have hm : m = l.length := by have := h.1; rw [Lib.byteCells_length] at this; omega
  subst hm
  obtain ⟨g', c', e, h1, h2⟩ := lie_own h hl
  cases e
  exact ⟨h1, h2⟩
theorem byte_one (X : World) (z : Nat) : ∀ j u, ([.int .u8 (z : Nat)] : List Value)[j]? = some u → (X.alloc (.cells #[.int .u8 (z : Nat)] 5)).cell? ((⟨X.heap.size, 0, none⟩ : Addr).add j) = some u := by
  intro j u hj
  match j, hj with
  | 0, hj => simp at hj; subst hj; simp [Addr.add]
theorem one_byte (z : Nat) : ∀ u ∈ ([.int .u8 (z : Nat)] : List Value), u.oneCell' = true := by intro u hu; simp at hu; subst hu; rfl

/-- How Feed stands behind some bytes. -/
structure Fed (w : World) (q : Nat) (v0 : Value) (st : St) (l : List UInt8) (B : Nat) (lv v : Value) (wr : World) : Prop where
  f : Fd wr q v (run st l).2
  o : HOwn wr B lv (run st l).1
  a : Apart q v0.ownBlock w wr
  n : ∀ k, v.ownBlock = some k → v0.ownBlock = some k ∨ w.heap.size ≤ k

theorem fed_next {w wr : World} {q : Nat} {v0 v lv : Value} {st st' : St} {l : List UInt8} {H : List Hd} (hr : run st l = (H, st')) (hf : Fd wr q v st') (ho : HOwn wr w.heap.size lv H) (ha : Apart q v0.ownBlock w wr)
    (hn : ∀ k, v.ownBlock = some k → v0.ownBlock = some k ∨ w.heap.size ≤ k) : Fed w q v0 st l w.heap.size lv v wr := ⟨by rw [hr]; exact hf, by rw [hr]; exact ho, ha, hn⟩
theorem lie_crlf (W : World) : Lie (W.alloc (.cells #[.int .u8 13, .int .u8 10] 5 (2, 3))) W.heap.size 0 [13, 10] := by
  intro i hi
  match i, hi with
  | 0, _ => rw [World.cell?_alloc_mark]; rfl
  | 1, _ => rw [World.cell?_alloc_mark]; rfl
theorem conv_crlf (W : World) : (convert 48 48 (.slice (some ⟨W.heap.size, 0, none⟩) 2 2)).run Tryd.prog (W.alloc (.cells #[.int .u8 13, .int .u8 10] 5)) = .ok (.slice (some ⟨W.heap.size, 0, none⟩) 2 2) (W.alloc (.cells #[.int .u8 13, .int .u8 10] 5 (2, 3))) :=
  Lib.run_convert_bytes_const W 48 5 #[.int .u8 13, .int .u8 10] 2 2 Tryd.underlying48 Tryd.underlying5
theorem news_heard (X : World) (x y : Value) : ∀ j u, ([x, y] : List Value)[j]? = some u → (X.alloc (.cells #[x, y] 45)).cell? ((⟨X.heap.size, 0, none⟩ : Addr).add j) = some u := by
  intro j u hj
  match j, hj with
  | 0, hj => simp at hj; subst hj; simp [Addr.add]
  | 1, hj => simp at hj; subst hj; simp [Addr.add]
theorem ones_heard (x : Int) (t : ByteArray) : ∀ u ∈ ([.int .i64 x, .string t] : List Value), u.oneCell' = true := by intro u hu; simp at hu; rcases hu with rfl | rfl <;> rfl
theorem fd_append {W W' : World} {B q : Nat} {v lv x y : Value} {H : List Hd} {st : St} (hF : Fd W q v st) (hO : HOwn W B lv H) (hg : (W.alloc (.cells #[x, y] 45)).grownBy W' lv.ownBlock) : Fd W' q v st := by
  have hb : Below W.heap.size W (W.alloc (.cells #[x, y] 45)) := (Below.refl _ _).alloc (Nat.le_refl _) _
  exact (hF.later hb).heard (hO.later hb) hg
theorem end_own {w : World} {g7 m c7 : Nat} {v0 v10 : Value} (h : ∀ j, (Value.slice (some ⟨g7, 0, none⟩) m c7).ownBlock = some j → v0.ownBlock = some j ∨ w.heap.size ≤ j) (hv : v10 = .slice (some ⟨g7, 0, none⟩) m c7 ∨ v10.ownBlock = none) :
    ∀ j, v10.ownBlock = some j → v0.ownBlock = some j ∨ w.heap.size ≤ j := by
  intro j hj
  rcases hv with rfl | h2
  · exact h j hj
  · rw [h2] at hj; cases hj
theorem run_stop {st : St} {l : List UInt8} {k : Nat} {H : List Hd} (h : run st (l.take k) = (H, stD)) : run st l = (H, stD) := by
  rw [← List.take_append_drop k l, run_append, h, run_deaf (st := stD) rfl]
  simp
theorem own_next {w wr : World} {q n c7 g7 : Nat} {v0 v : Value} (ha : Apart q v0.ownBlock w wr) (hn : ∀ k, v.ownBlock = some k → v0.ownBlock = some k ∨ w.heap.size ≤ k) (hg : v.ownBlock = some g7 ∨ wr.heap.size ≤ g7) :
    ∀ j, (Value.slice (some ⟨g7, 0, none⟩) n c7).ownBlock = some j → v0.ownBlock = some j ∨ w.heap.size ≤ j := by
  intro j hj
  cases hj
  rcases hg with h | h
  · exact hn _ h
  · exact .inr (Nat.le_trans ha.size h)
set_option maxHeartbeats 8000000 in
set_option maxRecDepth 100000 in
theorem feed_any (q : Nat) (v0 : Value) (st : St) (hst : st.ok) (hd : st.deaf = false) (s : List UInt8) (hs : s.length ≤ 1000000000) (w : World) (hF : Fd w q v0 st) (hE : Errs w) :
    Calls Tryd.prog 10 #[.pointer (some ⟨q, 0, none⟩), .string (S s)] w fun e w' => ∃ lv v, e = .returned lv ∧ Fed w q v0 st s w.heap.size lv v w' := by
  obtain ⟨i0, hi, hz0, hz1, hz2⟩ := info_parts infoU8
  obtain ⟨j0, hj, hy0, hy1, hy2⟩ := info_parts infoH
  have hz := S_size s
  have hc2 := hF.a.cell (j := 2) (v := .bool false) (by show some (Value.bool st.deaf) = _; rw [hd])
  have hstart : Hid (Fed w q v0 st (s.take 0) w.heap.size (.slice none 0 0) v0 w) := ⟨by rw [List.take_zero]; exact hF, by rw [List.take_zero]; exact World.ownsRow_nil _ _ _ _, Apart.refl _ _ _, fun k hk => .inl hk⟩
  have hdeaf0 : Hid ((run st (s.take 0)).2.deaf = false) := Lib.hid (by rw [List.take_zero]; exact hd)
  have hF0 := Lib.hid hF
  have hE0 := Lib.hid hE
  clear hF hE
  go_enter Tryd.func10, Tryd.ntmps10
  go_wp2_with fail
  go_step3
  go_wp2_with fail
  go_step3
  go_wp2_with fail
  go_loopw [5, 18] (fun lv iv wr => ∃ (k : Nat) (v : Value), iv = .int .i64 k ∧ k ≤ s.length ∧ Hid (Fed w q v0 st (s.take k) w.heap.size lv v wr) ∧ Hid ((run st (s.take k)).2.deaf = false))
    (fun _ iv _ => s.length - (intOf iv).toNat)
  case atStart => exact ⟨0, v0, rfl, Nat.zero_le _, hstart, hdeaf0⟩
  case round =>
    clear hstart hdeaf0 hc2
    obtain ⟨k, v, rfl, hk, HF, HD⟩ := hrel
    by_cases hlt : k < s.length
    · have hlt' : k < (S s).size := by rw [S_size]; exact hlt
      obtain ⟨c, hc⟩ : ∃ c, s[k]'hlt = c := ⟨_, rfl⟩
      have hx : ((S s)[k]'hlt').toNat = c.toNat := by rw [S_get s k hlt hlt', hc]
      have hki : (k : Int) < (s.length : Int) := by omega
      have hrt := run_take st s k hlt
      rw [hc] at hrt
      have HRT := Lib.hid hrt
      have hok := run_ok hst (s.take k)
      have hfew := run_few st (s.take k)
      rw [List.length_take] at hfew
      have hFd := HF.out.f
      have hEr := hE0.out.apart hF0.out HF.out.a
      obtain ⟨y, hy⟩ : ∃ y, y = c.toNat := ⟨_, rfl⟩
      rw [← hy] at hx
      have HY := Lib.hid hy
      clear hrt hc hy
      have hOr := hFd.r
      have htl := hok.t
      have HOK := Lib.hid hok
      have HFF := Lib.hid hFd
      have HER := Lib.hid hEr
      have x0 := hFd.a.cell (j := 0) rfl
      have fz0 := hFd.a.frozen 0
      have hql := hFd.a.lt
      obtain ⟨n, hn⟩ : ∃ n, n = (run st (s.take k)).2.text.length := ⟨_, rfl⟩
      rw [← hn] at hOr htl
      have HN := Lib.hid hn
      have HOr := Lib.hid hOr
      have hsz3 := hEr.lt
      clear hn hOr hok hFd hEr
      go_upto_region 7 with (fail)
      go_cut [] from 21 to 32 (fun wx => ∃ g7 c7 : Nat, Hid (Fd wx q (.slice (some ⟨g7, 0, none⟩) (n + 1) c7) ⟨(run st (s.take k)).2.text ++ [c], (run st (s.take k)).2.part, false⟩) ∧ Hid (Apart q v.ownBlock wr wx) ∧ Hid (v.ownBlock = some g7 ∨ wr.heap.size ≤ g7))
      case first =>
        go_region_law (refine step_append_lies _ rfl (.tmp 25) (.tmp 29) 48 rfl 3 5 i0 (.int .u8 0) 1 1 Tryd.underlying48 hi hz0 hz1 hz2 rfl (by decide) v n _ (by simp [Act.eval]) (HOr.out.alloc _) ⟨wr.drew.heap.size, 0, none⟩ 1 1 [.int .u8 (y : Nat)] (by simp [Act.eval]) rfl (byte_one _ y) (one_byte y) (by decide) (by unfold maxLen; omega) (by omega) (by simp; omega) _ rfl ?_; intro g7 c7 w7 hown' hgrow hg7 hgl; obtain ⟨y0, z0⟩ := fd_cell0 HFF.out ((Below.refl wr.heap.size wr).drew.alloc (Nat.le_refl _) _) hgrow)
        all_goals rw [HN.out, HY.out] at hown'
        all_goals have hft := fd_text (c := c) HFF.out HD.out ((Below.refl wr.heap.size wr).drew.alloc (Nat.le_refl _) _) hgrow hown'
        all_goals rw [← HN.out] at hft
        all_goals go_wp2_with fail
        all_goals go_meet
        all_goals exact ⟨g7, c7, hft.1, hft.2, feed_own hg7⟩
      case rest =>
        obtain ⟨g7, c7, HF7, HA7, HG7⟩ := hcut
        clear x0 fz0 hx htl hsz3 hql
        rename World => wx
        obtain ⟨hc7, hL7⟩ := lie_of (l := (run st (s.take k)).2.text ++ [c]) HF7.out.r (by simp)
        have hst1 := kind_cases ((run st (s.take k)).2.text ++ [c]) (run st (s.take k)).2.part
        have hs0 := step_zero (c := c) HD.out
        have hs1 := step_end (c := c) HD.out
        have hs2 := step_long (c := c) HD.out
        have hok := HOK.out
        have hp8 := hok.p
        have ht8 := hok.t
        have hnl : ((run st (s.take k)).2.text ++ [c]).length = n + 1 := by rw [snoc_len, HN.out]
        have HO : Hid (HOwn wx w.heap.size u5 (run st (s.take k)).1) := Lib.hid (HF.out.o.apart HFF.out HA7.out)
        have HA : Hid (Apart q v0.ownBlock w wx) := Lib.hid (HF.out.a.trans HA7.out HF.out.n)
        have HNN : Hid (∀ j, (Value.slice (some ⟨g7, 0, none⟩) (n + 1) c7).ownBlock = some j → v0.ownBlock = some j ∨ w.heap.size ≤ j) := Lib.hid (own_next HF.out.a HF.out.n HG7.out)
        have HE := Lib.hid (HER.out.apart HFF.out HA7.out)
        have hr0 : kindOf ((run st (s.take k)).2.text ++ [c]) (run st (s.take k)).2.part = 0 → run st (s.take (k + 1)) = ((run st (s.take k)).1, ⟨(run st (s.take k)).2.text ++ [c], (run st (s.take k)).2.part, false⟩) := fun h => HRT.out.trans (by rw [hs0 h, List.append_nil])
        have hr1 : kindOf ((run st (s.take k)).2.text ++ [c]) (run st (s.take k)).2.part = 1 → run st (s.take (k + 1)) = ((run st (s.take k)).1 ++ [endH ((run st (s.take k)).2.text ++ [c]) (run st (s.take k)).2.part], endS ((run st (s.take k)).2.text ++ [c]) (run st (s.take k)).2.part) := fun h => HRT.out.trans (by rw [hs1 h])
        have hr2 : kindOf ((run st (s.take k)).2.text ++ [c]) (run st (s.take k)).2.part = 2 → run st (s.take (k + 1)) = ((run st (s.take k)).1 ++ [⟨4, []⟩], stD) := fun h => HRT.out.trans (by rw [hs2 h])
        rw [← HN.out] at ht8
        clear HOK HFF HOr HN HF HRT hok hs0 hs1 hs2 HA7 HG7 HER HD HY
        obtain ⟨m, hm⟩ : ∃ m, m = n + 1 := ⟨_, rfl⟩
        rw [← hm] at hnl HF7 hc7 HNN
        have hm8 : m ≤ 8193 := by omega
        clear hm ht8
        generalize (run st (s.take k)).1 = H at *
        generalize (run st (s.take k)).2.text ++ [c] = t at *
        generalize (run st (s.take k)).2.part = part at *
        have hmin := fun W (h : m ≤ part) => cut_from W g7 0 m c7 m (Nat.le_refl _)
        have c0 := HF7.out.c0
        have c1 := HF7.out.c1
        rcases hst1 with ⟨e0, hk0⟩ | ⟨e0, he, hk1⟩ | ⟨e0, he, e1, hk2⟩ | ⟨e0, he, e1, e2, hk0⟩
        · rw [List.length_drop, hnl] at e0
          have HR := Lib.hid (hr0 hk0)
          have hmn : min (part : Int) (m : Int) = (m : Int) := by omega
          have hcut := fun W => cut_from W g7 0 m c7 m (Nat.le_refl _)
          rw [Nat.sub_self] at hcut
          clear hr0 hr1 hr2 hk0 hmin e0
          go_upto_region 8 with (fail)
          go_quiet (fail)
          go_wp2_with fail
          go_roundw
          case rel => exact ⟨k + 1, _, by go_num, by omega, Lib.hid (fed_next HR.out (HF7.out.drewN _) HO.out (HA.out.drewN _) HNN.out), Lib.hid (by rw [HR.out])⟩
          case measure => simp [intOf]; omega
        · have hpl := List.length_drop (i := part) (l := t)
          rw [hnl] at hpl
          rw [hpl] at e0
          have HR := Lib.hid (hr1 hk1)
          have hmn : min (part : Int) (m : Int) = (part : Int) := by omega
          have hcut := fun W => cut_from W g7 0 m c7 part (by omega)
          have hne : ¬ c7 = part := by omega
          simp only [if_neg hne, Nat.zero_add] at hcut
          have hsuf := fun W (hW : Lie W g7 0 t) => bsuffix_any g7 part (c7 - part) (t.drop part) (by omega) (by omega) W.heap.size (W.alloc (.cells #[.int .u8 13, .int .u8 10] 5 (2, 3))) (by
            have := (hW.of (Below.heap_alloc W (.cells #[.int .u8 13, .int .u8 10] 5 (2, 3)) g7 (hW.lt (by omega)))).drop part
            rwa [Nat.zero_add] at this) (lie_crlf W)
          have h2l := ends_two he
          rw [hpl] at h2l
          rw [hpl, he] at hsuf
          have hdm : m - part ≤ m := by omega
          have HMP := Lib.hid (show part + (m - part) = m by omega)
          clear hr0 hr1 hr2 hmin hne hpl he
          generalize m - part = d at *
          have hd0 : ((d : Int) == 0) = false := by rw [beq_eq_false_iff_ne]; omega
          go_upto_region 8 with (fail)
          go_quiet (fail)
          have HF8 := Lib.hid (HF7.out.drewN nq)
          have HO8 : Hid (HOwn (wx.drewN nq) w.heap.size u5 H) := HO
          have HA8 := Lib.hid (HA.out.drewN nq)
          have HE8 : Hid (Errs (wx.drewN nq)) := Lib.hid (HE.out.below ⟨rfl, rfl, rfl, Nat.le_refl _, fun _ _ => rfl⟩)
          have hL8 : Lie (wx.drewN nq) g7 0 t := hL7
          have hs8 := hsuf _ hL8
          have hcc8 := conv_crlf (wx.drewN nq)
          clear HF7 HO HA HE hL7 hsuf c0 c1 hcut hmn
          generalize wx.drewN nq = w8 at *
          have hb9 : Below w8.heap.size w8 (w8.alloc (.cells #[.int .u8 13, .int .u8 10] 5 (2, 3))) := (Below.refl _ _).alloc (Nat.le_refl _) _
          have HF9 := Lib.hid (HF8.out.later hb9)
          have HO9 := Lib.hid (HO8.out.later hb9)
          have HA9 := Lib.hid (HA8.out.then_below hb9)
          have HE9 := Lib.hid (HE8.out.later hb9)
          have hs10 := Nat.le_trans HA8.out.size hb9.size
          clear HF8 HO8 HA8 HE8 hL8 hb9
          go_wp2_with fail
          refine hs8.mono ?_
          rintro e w9 ⟨rfl, rfl⟩
          clear hs8 hcc8
          generalize w8.alloc (.cells #[.int .u8 13, .int .u8 10] 5 (2, 3)) = w9 at *
          have hend := end_any q (.slice (some ⟨g7, 0, none⟩) m c7) t part (by omega) (by have := HMP.out; omega) w9 HF9.out HE9.out
          have HRn := Lib.hid (endS_hears t part)
          unfold EndOut hv at hend
          generalize endH t part = h1 at *
          generalize endS t part = st1 at *
          obtain ⟨kk, tt⟩ := h1
          go_wp2_with fail
          refine hend.mono ?_
          rintro e w10 ⟨rfl, v10, hF10, hA10, hv10⟩
          have HF10 := Lib.hid hF10
          have HO10 := Lib.hid (HO9.out.apart HF9.out hA10.of_none)
          have HA10 := Lib.hid (HA9.out.trans (hA10.of_none (r := none)) (fun _ h => by cases h))
          have HN10 := Lib.hid (fun j hj => end_own HNN.out hv10 j hj)
          have hs11 := Nat.le_trans hs10 hA10.size
          have HBL := Lib.hid (HO10.out.lt)
          clear hend HF9 HO9 HA9 HE9 hF10 hA10 hv10
          go_wp2_with (at_builtin; refine wpList_append_own _ rfl _ _ 26 rfl w.heap.size 45 j0 (.agg #[.int .i64 0, .string ⟨#[]⟩]) 2 24 Tryd.underlying26 hj hy0 hy1 hy2 rfl (by decide) _ _ _ rfl (HO10.out.alloc _) ⟨w10.heap.size, 0, none⟩ 1 1 [.int .i64 (kk : Nat), .string (S tt)] rfl rfl (news_heard _ _ _) (ones_heard _ _) ?c1 ?c2 ?c3 ?_)
          case c1 => unfold maxLen; omega
          case c2 => omega
          case c3 => simp; omega
          intro v5 w5 hown' hgrow hnil
          have HF11 := Lib.hid (fd_append HF10.out HO10.out hgrow)
          have HA11 := Lib.hid ((HA10.out.alloc _).grown hgrow (fun j h => .inr (HBL.out j h).1))
          have HO11 : Hid (HOwn w5 w.heap.size v5 (H ++ [⟨kk, tt⟩])) := Lib.hid (by
            unfold HOwn
            rw [cellsH_snoc, List.length_append, List.length_singleton]
            exact hown')
          clear hown' hgrow hnil HF10 HO10 HA10 HBL
          go_wp2_with fail
          go_roundw
          case rel => exact ⟨k + 1, _, by go_num, by omega, Lib.hid (fed_next HR.out HF11.out HO11.out HA11.out HN10.out), Lib.hid (by rw [HR.out]; exact HRn.out)⟩
          case measure => simp [intOf]; omega
        · have hpl := List.length_drop (i := part) (l := t)
          rw [hnl] at hpl
          rw [hpl] at e0
          have HR := Lib.hid (hr2 hk2)
          have hmn : min (part : Int) (m : Int) = (part : Int) := by omega
          have hcut := fun W => cut_from W g7 0 m c7 part (by omega)
          have hne : ¬ c7 = part := by omega
          simp only [if_neg hne, Nat.zero_add] at hcut
          have hsuf := fun W (hW : Lie W g7 0 t) => bsuffix_any g7 part (c7 - part) (t.drop part) (by omega) (by omega) W.heap.size (W.alloc (.cells #[.int .u8 13, .int .u8 10] 5 (2, 3))) (by
            have := (hW.of (Below.heap_alloc W (.cells #[.int .u8 13, .int .u8 10] 5 (2, 3)) g7 (hW.lt (by omega)))).drop part
            rwa [Nat.zero_add] at this) (lie_crlf W)
          rw [hpl, he] at hsuf
          have hdm : m - part ≤ m := by omega
          have HE1 : Hid (1000 ≤ m - part ∨ 8192 ≤ m) := Lib.hid (by rw [hpl, hnl] at e1; exact e1)
          clear e1
          have HMP := Lib.hid (show part + (m - part) = m by omega)
          clear hr0 hr1 hr2 hmin hne hpl he
          generalize m - part = d at *
          have hd0 : ((d : Int) == 0) = false := by rw [beq_eq_false_iff_ne]; omega
          go_upto_region 8 with (fail)
          go_quiet (fail)
          have HF8 := Lib.hid (HF7.out.drewN nq)
          have HO8 : Hid (HOwn (wx.drewN nq) w.heap.size u5 H) := HO
          have HA8 := Lib.hid (HA.out.drewN nq)
          have HE8 : Hid (Errs (wx.drewN nq)) := Lib.hid (HE.out.below ⟨rfl, rfl, rfl, Nat.le_refl _, fun _ _ => rfl⟩)
          have hL8 : Lie (wx.drewN nq) g7 0 t := hL7
          have hs8 := hsuf _ hL8
          have hcc8 := conv_crlf (wx.drewN nq)
          clear HF7 HO HA HE hL7 hsuf c0 c1 hcut hmn
          generalize wx.drewN nq = w8 at *
          have hb9 : Below w8.heap.size w8 (w8.alloc (.cells #[.int .u8 13, .int .u8 10] 5 (2, 3))) := (Below.refl _ _).alloc (Nat.le_refl _) _
          have HF9 := Lib.hid (HF8.out.later hb9)
          have HO9 := Lib.hid (HO8.out.later hb9)
          have HA9 := Lib.hid (HA8.out.then_below hb9)
          have HE9 := Lib.hid (HE8.out.later hb9)
          have hs10 := Nat.le_trans HA8.out.size hb9.size
          clear HF8 HO8 HA8 HE8 hL8 hb9
          go_wp2_with fail
          refine hs8.mono ?_
          rintro e w9 ⟨rfl, rfl⟩
          clear hs8 hcc8
          generalize w8.alloc (.cells #[.int .u8 13, .int .u8 10] 5 (2, 3)) = w9 at *
          have c0 := HF9.out.c0
          have c1 := HF9.out.c1
          have c2 := HF9.out.c2
          have f0 := HF9.out.a.frozen 0
          have f1 := HF9.out.a.frozen 1
          have f2 := HF9.out.a.frozen 2
          obtain ⟨k1, k2⟩ := fd_new HF9.out (Apart.refl q none w9) true
          have HF10 := Lib.hid k1
          have HO10 := Lib.hid (HO9.out.apart HF9.out k2.of_none)
          have HA10 := Lib.hid (HA9.out.trans (k2.of_none (r := none)) (fun _ h => by cases h))
          have HBL := Lib.hid (HO10.out.lt)
          clear k1 k2 HF9 HO9 HA9 HE9
          rcases HE1.out with e1 | e1
          · have i1 : (1000 : Int) ≤ (d : Int) := by omega
            clear HE1 e1
            go_upto_region 14 with (fail)
            clear c0 c1 c2 f0 f1 f2
            generalize World.setCell (World.setCell (World.setCell w9 _ _) _ _) _ _ = w10 at *
            have hs11 := HA10.out.size
            go_wp2_with (at_builtin; refine wpList_append_own _ rfl _ _ 26 rfl w.heap.size 45 j0 (.agg #[.int .i64 0, .string ⟨#[]⟩]) 2 24 Tryd.underlying26 hj hy0 hy1 hy2 rfl (by decide) _ _ _ rfl (HO10.out.alloc _) ⟨w10.heap.size, 0, none⟩ 1 1 [.int .i64 4, .string ⟨#[]⟩] rfl rfl (news_heard _ _ _) (ones_heard _ _) ?d1 ?d2 ?d3 ?_)
            case d1 => unfold maxLen; omega
            case d2 => omega
            case d3 => simp; omega
            intro v5 w5 hown' hgrow hnil
            have HF11 := Lib.hid (fd_append HF10.out HO10.out hgrow)
            have HA11 := Lib.hid ((HA10.out.alloc _).grown hgrow (fun j h => .inr (HBL.out j h).1))
            have HO11 : Hid (HOwn w5 w.heap.size v5 (H ++ [⟨4, []⟩])) := Lib.hid (by
              unfold HOwn
              rw [cellsH_snoc, List.length_append, List.length_singleton]
              exact hown')
            clear hown' hgrow hnil HF10 HO10 HA10 HBL
            go_wp2_with fail
            rw [Exit.noGoto_ret]
            go_ret
            exact ⟨v5, _, rfl, fed_next (run_stop HR.out) HF11.out HO11.out HA11.out (fun j h => by cases h)⟩
          · have i2 : (8192 : Int) ≤ (m : Int) := by omega
            clear HE1 e1
            by_cases e3 : 1000 ≤ d
            · have i1 : (1000 : Int) ≤ (d : Int) := by omega
              clear e3
              go_upto_region 14 with (fail)
              clear c0 c1 c2 f0 f1 f2
              generalize World.setCell (World.setCell (World.setCell w9 _ _) _ _) _ _ = w10 at *
              have hs11 := HA10.out.size
              go_wp2_with (at_builtin; refine wpList_append_own _ rfl _ _ 26 rfl w.heap.size 45 j0 (.agg #[.int .i64 0, .string ⟨#[]⟩]) 2 24 Tryd.underlying26 hj hy0 hy1 hy2 rfl (by decide) _ _ _ rfl (HO10.out.alloc _) ⟨w10.heap.size, 0, none⟩ 1 1 [.int .i64 4, .string ⟨#[]⟩] rfl rfl (news_heard _ _ _) (ones_heard _ _) ?e1 ?e2 ?e3 ?_)
              case e1 => unfold maxLen; omega
              case e2 => omega
              case e3 => simp; omega
              intro v5 w5 hown' hgrow hnil
              have HF11 := Lib.hid (fd_append HF10.out HO10.out hgrow)
              have HA11 := Lib.hid ((HA10.out.alloc _).grown hgrow (fun j h => .inr (HBL.out j h).1))
              have HO11 : Hid (HOwn w5 w.heap.size v5 (H ++ [⟨4, []⟩])) := Lib.hid (by
                unfold HOwn
                rw [cellsH_snoc, List.length_append, List.length_singleton]
                exact hown')
              clear hown' hgrow hnil HF10 HO10 HA10 HBL
              go_wp2_with fail
              rw [Exit.noGoto_ret]
              go_ret
              exact ⟨v5, _, rfl, fed_next (run_stop HR.out) HF11.out HO11.out HA11.out (fun j h => by cases h)⟩
            · have i1 : (d : Int) < (1000 : Int) := by omega
              clear e3
              go_upto_region 14 with (fail)
              clear c0 c1 c2 f0 f1 f2
              generalize World.setCell (World.setCell (World.setCell w9 _ _) _ _) _ _ = w10 at *
              have hs11 := HA10.out.size
              go_wp2_with (at_builtin; refine wpList_append_own _ rfl _ _ 26 rfl w.heap.size 45 j0 (.agg #[.int .i64 0, .string ⟨#[]⟩]) 2 24 Tryd.underlying26 hj hy0 hy1 hy2 rfl (by decide) _ _ _ rfl (HO10.out.alloc _) ⟨w10.heap.size, 0, none⟩ 1 1 [.int .i64 4, .string ⟨#[]⟩] rfl rfl (news_heard _ _ _) (ones_heard _ _) ?f1 ?f2 ?f3 ?_)
              case f1 => unfold maxLen; omega
              case f2 => omega
              case f3 => simp; omega
              intro v5 w5 hown' hgrow hnil
              have HF11 := Lib.hid (fd_append HF10.out HO10.out hgrow)
              have HA11 := Lib.hid ((HA10.out.alloc _).grown hgrow (fun j h => .inr (HBL.out j h).1))
              have HO11 : Hid (HOwn w5 w.heap.size v5 (H ++ [⟨4, []⟩])) := Lib.hid (by
                unfold HOwn
                rw [cellsH_snoc, List.length_append, List.length_singleton]
                exact hown')
              clear hown' hgrow hnil HF10 HO10 HA10 HBL
              go_wp2_with fail
              rw [Exit.noGoto_ret]
              go_ret
              exact ⟨v5, _, rfl, fed_next (run_stop HR.out) HF11.out HO11.out HA11.out (fun j h => by cases h)⟩
        · have hpl := List.length_drop (i := part) (l := t)
          rw [hnl] at hpl
          rw [hpl] at e0
          have HR := Lib.hid (hr0 hk0)
          have hmn : min (part : Int) (m : Int) = (part : Int) := by omega
          have hcut := fun W => cut_from W g7 0 m c7 part (by omega)
          have hne : ¬ c7 = part := by omega
          simp only [if_neg hne, Nat.zero_add] at hcut
          have hsuf := fun W (hW : Lie W g7 0 t) => bsuffix_any g7 part (c7 - part) (t.drop part) (by omega) (by omega) W.heap.size (W.alloc (.cells #[.int .u8 13, .int .u8 10] 5 (2, 3))) (by
            have := (hW.of (Below.heap_alloc W (.cells #[.int .u8 13, .int .u8 10] 5 (2, 3)) g7 (hW.lt (by omega)))).drop part
            rwa [Nat.zero_add] at this) (lie_crlf W)
          rw [hpl, he] at hsuf
          have hdm : m - part ≤ m := by omega
          have HE1 : Hid (m - part < 1000 ∧ m < 8192) := Lib.hid (by exact ⟨by rw [hpl] at e1; exact e1, by rw [hnl] at e2; exact e2⟩)
          clear e1 e2
          have HMP := Lib.hid (show part + (m - part) = m by omega)
          clear hr0 hr1 hr2 hmin hne hpl he
          generalize m - part = d at *
          have hd0 : ((d : Int) == 0) = false := by rw [beq_eq_false_iff_ne]; omega
          go_upto_region 8 with (fail)
          go_quiet (fail)
          have HF8 := Lib.hid (HF7.out.drewN nq)
          have HO8 : Hid (HOwn (wx.drewN nq) w.heap.size u5 H) := HO
          have HA8 := Lib.hid (HA.out.drewN nq)
          have HE8 : Hid (Errs (wx.drewN nq)) := Lib.hid (HE.out.below ⟨rfl, rfl, rfl, Nat.le_refl _, fun _ _ => rfl⟩)
          have hL8 : Lie (wx.drewN nq) g7 0 t := hL7
          have hs8 := hsuf _ hL8
          have hcc8 := conv_crlf (wx.drewN nq)
          clear HF7 HO HA HE hL7 hsuf c0 c1 hcut hmn
          generalize wx.drewN nq = w8 at *
          have hb9 : Below w8.heap.size w8 (w8.alloc (.cells #[.int .u8 13, .int .u8 10] 5 (2, 3))) := (Below.refl _ _).alloc (Nat.le_refl _) _
          have HF9 := Lib.hid (HF8.out.later hb9)
          have HO9 := Lib.hid (HO8.out.later hb9)
          have HA9 := Lib.hid (HA8.out.then_below hb9)
          have HE9 := Lib.hid (HE8.out.later hb9)
          have hs10 := Nat.le_trans HA8.out.size hb9.size
          clear HF8 HO8 HA8 HE8 hL8 hb9
          go_wp2_with fail
          refine hs8.mono ?_
          rintro e w9 ⟨rfl, rfl⟩
          clear hs8 hcc8
          generalize w8.alloc (.cells #[.int .u8 13, .int .u8 10] 5 (2, 3)) = w9 at *
          have c0 := HF9.out.c0
          have i1 : (d : Int) < (1000 : Int) := by have := HE1.out; omega
          have i2 : (m : Int) < (8192 : Int) := by have := HE1.out; omega
          go_wp2_with fail
          go_roundw
          case rel => exact ⟨k + 1, _, by go_num, by omega, Lib.hid (fed_next HR.out HF9.out HO9.out HA9.out HNN.out), Lib.hid (by rw [HR.out])⟩
          case measure => simp [intOf]; omega
    · obtain rfl : k = s.length := by omega
      rw [List.take_length] at HF
      clear HD
      go_wp2_with fail
      first | rw [Exit.noGoto_ret] | skip
      go_ret
      exact ⟨_, _, rfl, HF.out⟩
end Go.Proofs.YtnpikjobjmffgaaDoor.li
