/-
  The law LinesHears: the call answers true. (The walk.)
-/
import Derived.Test.YtnpikjobjmffgaaDoorLinBound
import Derived.Test.YtnpikjobjmffgaaDoorLinHear
namespace Go.Proofs.YtnpikjobjmffgaaDoor.li
open Go.RowKit

/-- An append whose run is known, at an operation that its guard lets by. -/
theorem wpList_append_at {P : Program} {w : World} {ops : Array Oper} {rest : List Oper} {o : Oper} {a : Act} {Q : Exit → Act → World → Prop} (s x : Operand) (t : TypeId)
    (hw : Region.wanted o (yielded ops a.tmps) = true)
    (ho : o.op = .call { callee := .builtin .append, args := #[s, x], argTypes := #[t, t] }) (vs vx v' : Value) (w' : World) (hs : a.eval s = vs) (hx : a.eval x = vx)
    (hr : (Builtin.append_ #[t, t] o.type #[vs, vx]).run P w = .ok v' w') (h : wpList P ops Q rest (a.put o.dst v') w') : wpList P ops Q (o :: rest) a w :=
  wpList_step fun K hK => by
    rw [if_pos hw]
    unfold Oper.wp execOp
    simp only [ho, resolve, invoke, builtin, Sem.run_bind, Sem.run_pure, Result.andThen_ok, List.map_toArray, List.map_cons, List.map_nil, hs, hx, hr]
    exact hK _ _ h


set_option maxHeartbeats 8000000 in
set_option maxRecDepth 100000 in
theorem hears_walk (a : Option Addr) (cap : Nat) (L : List (List UInt8)) (hl : L.length ≤ 100000000) (hf : L.flatten.length ≤ 100000000) (w : World) (hr0 : Sl w (.slice a L.length cap) L) (hE : Errs w) :
    Calls Tryd.prog 3 #[.slice a L.length cap] w fun e w' => e = .returned (.bool true) ∧ Below w.heap.size w w' := by
  have hr : RowS w a L := by
    obtain ⟨a', c', e, h, _⟩ := hr0
    cases e
    exact h
  have hal := alive_any w hE
  have HNW := Lib.hid new_law
  have HFL := Lib.hid feed_law
  have HSM := Lib.hid same_own
  have HST := Lib.hid stands_any
  have HHE := Lib.hid hear_any
  have HES := Lib.hid hE
  have HR := Lib.hid hr
  clear hE hr hr0
  go_enter Tryd.func3, Tryd.ntmps3
  go_wp2_with fail
  refine hal.mono ?_
  rintro e w1 ⟨rfl, b1⟩
  have HE1 := Lib.hid (HES.out.later b1)
  have hn := HNW.out w1 HE1.out.lt
  have HB1 := Lib.hid b1
  clear hal HNW b1
  go_wp2_with fail
  refine hn.mono ?_
  rintro e w2 ⟨rfl, f2, b2⟩
  have HB2 := Lib.hid (HB1.out.trans (b2.mono HB1.out.size))
  have HF2 := Lib.hid (f2.mono HB1.out.size)
  have HQ : Hid (w.heap.size ≤ w1.heap.size) := Lib.hid HB1.out.size
  clear hn HB1 HE1 f2 b2
  generalize w1.heap.size = q at *
  go_wp2_with fail
  go_loopw [4, 5, 6] (fun gv av iv wr => ∃ (k : Nat) (t : List UInt8) (v : Value), iv = .int .i64 k ∧ av = .string (S t) ∧ k ≤ L.length ∧ t.length ≤ 100000000 ∧ Hid (t = (L.take k).flatten) ∧ Hid (Fdb w.heap.size wr q v (run st0 t).2) ∧ Hid (HOwn wr w.heap.size gv (run st0 t).1) ∧ Hid (Below w.heap.size w wr))
    (fun _ _ iv _ => L.length - (intOf iv).toNat)
  case atStart => exact ⟨0, [], .slice none 0 0, rfl, rfl, Nat.zero_le _, by simp, Lib.hid rfl, HF2, Lib.hid (World.ownsRow_nil _ _ _ _), HB2⟩
  case round =>
    clear HF2 HB2
    obtain ⟨k, t, v, rfl, rfl, hk, htl, HT, HF, HO, HB⟩ := hrel
    rename World => wr
    have hBs := HB.out.size
    by_cases hlt : k < L.length
    · obtain ⟨b, off, rfl, hb, cx0⟩ := rowS_cell HR.out hlt
      have cx := (HB.out.cell (p := ⟨b, off + k, none⟩) hb).trans cx0
      have hki : (k : Int) < (L.length : Int) := by omega
      have HT2 := Lib.hid (flat_take hlt)
      have hpl := piece_le hlt
      have hfl2 := flat_le L (k + 1)
      obtain ⟨x, hx⟩ : ∃ x, L[k]'hlt = x := ⟨_, rfl⟩
      rw [hx] at cx hpl
      clear cx0
      have HX := Lib.hid hx
      have HT3 : Hid (t ++ x = (L.take (k + 1)).flatten) := Lib.hid (by rw [HT2.out, ← HT.out, HX.out])
      have htx : (t ++ x).length ≤ 100000000 := by rw [HT3.out]; omega
      have hzt := S_size t
      have hzx := S_size x
      have hra := Lib.hid (run_append t x st0)
      have hok := run_ok st0_ok t
      have hEr := HES.out.below (HB.out.mono HES.out.lt)
      have hfd := HFL.out w.heap.size q v (run st0 t).2 hok x (by omega) wr HF.out hEr hBs
      have hxl : x.length ≤ 100000000 := by omega
      clear hx hpl hfl2 HT HT2 HX
      go_wp2_with fail
      refine hfd.mono ?_
      rintro e w3 ⟨lv, v3, rfl, h3⟩
      have HB3 := Lib.hid (HB.out.trans h3.b)
      have HO3 := Lib.hid (HO.out.apart HF.out.f h3.a)
      have HF3 := Lib.hid h3.f
      have HG3 := Lib.hid h3.o
      have hs3 := h3.a.size
      have cx3 := (h3.b.cell (p := ⟨b, off + k, none⟩) hb).trans cx
      have hst := (run_few st0 t)
      have hst2 := (run_few (run st0 t).2 x)
      obtain ⟨v7, w7, hr7, ho7, hg7⟩ := append_heard 26 Tryd.underlying26 w.heap.size wr.heap.size u4 lv (run st0 t).1 (run (run st0 t).2 x).1 (by omega) w3 HO3.out (by omega) HG3.out
      have hF7 : Fdb w.heap.size w7 q v3 (run (run st0 t).2 x).2 := ⟨h3.f.f.heard HO3.out hg7, h3.f.q, h3.f.v⟩
      have hb7 : Below w.heap.size w w7 := HB3.out.grown hg7 (by omega) (fun j hj => (HO3.out.lt j hj).1)
      have hra1 : (run st0 t).1 ++ (run (run st0 t).2 x).1 = (run st0 (t ++ x)).1 := by rw [hra.out]
      have hra2 : (run (run st0 t).2 x).2 = (run st0 (t ++ x)).2 := by rw [hra.out]
      rw [hra1] at ho7
      rw [hra2] at hF7
      have HO7 := Lib.hid ho7
      have HF7 := Lib.hid hF7
      have HB7 := Lib.hid hb7
      have hs7 := hb7.size
      have hap := S_append t x
      have cx7 := (hb7.cell (p := ⟨b, off + k, none⟩) hb).trans ((HB3.out.cell (p := ⟨b, off + k, none⟩) hb).symm.trans cx3)
      clear hra hra1 hra2 hst hst2 hok hfd h3 HB3 HO3 HF3 HG3 ho7 hF7 hb7 HF HO HB cx hg7 hEr
      generalize t ++ x = t2 at *
      have hhe := HHE.out t2 (by omega)
      have hok2 := run_ok st0_ok t2
      have hfew := run_few st0 t2
      obtain ⟨S2, hS2⟩ : ∃ z, z = (run st0 t2).2 := ⟨_, rfl⟩
      obtain ⟨H2, hH2⟩ : ∃ z, z = (run st0 t2).1 := ⟨_, rfl⟩
      have HS2 := Lib.hid hS2
      have HH2 := Lib.hid hH2
      rw [← hS2, ← hH2] at hhe
      rw [← hS2] at hok2 HF7
      rw [← hH2] at HO7 hfew
      clear hS2 hH2
      have hstd := HST.out q v3 S2 hok2
      unfold stv at hhe
      unfold stw waits at hstd
      have HSTD := Lib.hid hstd
      clear hstd hok2
      generalize S2.part - S2.text.length = wa at *
      generalize S2.text.length = wb at *
      generalize S2.deaf = wd at *
      go_wp2_with (at_builtin; refine wpList_append_at (.tmp 18) (.tmp 24) 26 (by simp [Region.wanted]) rfl _ _ _ _ rfl rfl (hr7 _) ?_)
      go_wp2_with fail
      refine (hhe _).mono ?_
      rintro e w8 ⟨⟨ov, rfl, ho8⟩, b8⟩
      have HB8 := Lib.hid (HB7.out.trans (b8.mono hs7))
      have HF8 := Lib.hid (HF7.out.later b8)
      have HO8 := Lib.hid (HO7.out.later b8)
      have HG8 := Lib.hid ho8
      clear hhe b8 ho8 HF7 HO7 HB7 hr7 cx7 cx3
      go_upto_region 12 with (fail)
      have hb9 : Below w8.heap.size w8 (w8.alloc (.cells #[.int .i64 (wa : Nat), .int .i64 (wb : Nat), .bool wd] 29)) := (Below.refl _ _).alloc (Nat.le_refl _) _
      have hA9 := Arr.new w8 29 #[.int .i64 (wa : Nat), .int .i64 (wb : Nat), .bool wd]
      generalize w8.alloc (.cells #[.int .i64 (wa : Nat), .int .i64 (wb : Nat), .bool wd] 29) = w9 at *
      have hsm := HSM.out H2 (by omega) v7 ov _ _ w9 (HO8.out.later hb9) (HG8.out.later hb9)
      have HB9 := Lib.hid (HB8.out.trans (hb9.mono HB8.out.size))
      have HF9 := Lib.hid (HF8.out.later hb9)
      have HO9 := Lib.hid (HO8.out.later hb9)
      clear hb9 HB8 HF8 HO8 HG8
      go_wp2_with fail
      refine hsm.mono ?_
      rintro e w10 ⟨rfl, b10⟩
      have hA10 := hA9.of (b10.block _ hA9.lt)
      have d0 := hA10.cell (j := 0) rfl
      have d1 := hA10.cell (j := 1) rfl
      have d2 := hA10.cell (j := 2) rfl
      have HB10 := Lib.hid (HB9.out.trans (b10.mono HB9.out.size))
      have HF10 := Lib.hid (HF9.out.later b10)
      have HO10 := Lib.hid (HO9.out.later b10)
      have hstd := HSTD.out w10 HF10.out.f
      clear hsm b10 hA9 hA10 HB9 HF9 HO9 HSTD
      go_wp2_with fail
      refine hstd.mono ?_
      rintro e w11 ⟨rfl, b11⟩
      have HB11 := Lib.hid (HB10.out.trans (b11.mono HB10.out.size))
      have HF11 : Hid (Fdb w.heap.size w11 q v3 (run st0 t2).2) := Lib.hid (by rw [← HS2.out]; exact HF10.out.later b11)
      have HO11 : Hid (HOwn w11 w.heap.size v7 (run st0 t2).1) := Lib.hid (by rw [← HH2.out]; exact HO10.out.later b11)
      clear hstd b11 HB10 HF10 HO10 d0 d1 d2 HS2 HH2
      go_wp2_with fail
      go_roundw
      case rel => exact ⟨k + 1, t2, v3, by go_num, rfl, by omega, htx, HT3, HF11, HO11, HB11⟩
      case measure => simp [intOf]; omega
    · obtain rfl : k = L.length := by omega
      go_wp2_with fail
      go_ret
      exact ⟨rfl, HB.out⟩
end Go.Proofs.YtnpikjobjmffgaaDoor.li
