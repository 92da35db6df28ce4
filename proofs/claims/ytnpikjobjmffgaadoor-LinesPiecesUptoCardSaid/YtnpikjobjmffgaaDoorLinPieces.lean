/-
  The law LinesPieces: the call answers true. (The walk.)
-/
import Derived.Test.YtnpikjobjmffgaaDoorLinTwins
import Derived.Deep.RegionLaw
import Derived.Deep.RegionWith
namespace Go.Proofs.YtnpikjobjmffgaaDoor.li
open Go.RowKit

theorem step_append_run {P : Program} {ops : Array Oper} {o : Oper} {a : Act} {w : World} {K : Act → World → Prop} {Q : Exit → Act → World → Prop} {E : Prop}
    (hg : o.guard = none) (s x : Operand) (t : TypeId) (hop : o.op = Op.call { callee := Callee.builtin Builtin.append, args := #[s, x], argTypes := #[t, t] })
    (v u v' : Value) (w' : World) (hs : a.eval s = v) (hx : a.eval x = u) (hr : (Builtin.append_ #[t, t] o.type #[v, u]).run P w = .ok v' w') (hK : K (a.put o.dst v') w') :
    if Region.wanted o (yielded ops a.tmps) = true then Oper.wp P o a w K Q else E := by
  have hw : Region.wanted o (yielded ops a.tmps) = true := by simp [Region.wanted, hg]
  rw [if_pos hw]
  unfold Oper.wp
  simp [execOp, hop, resolve, invoke, builtin, hs, hx, hr, Result.andThen]
  exact hK
theorem HOwn.past {w w' : World} {B B' : Nat} {v u : Value} {l m : List Hd} (h : HOwn w B v l) (k : HOwn w B' u m) (hlt : ∀ j, v.ownBlock = some j → j < B') (hg : w.grownBy w' u.ownBlock) : HOwn w' B v l :=
  ownsRow_kept h (fun j hj => hg.block j (h.lt j hj).2 (fun e => by have := (k.lt j e.symm).1; have := hlt j hj; omega))
/-- A piece, and the next one. -/
structure Two (B : Nat) (w : World) (q : Nat) (v : Value) (a b : List UInt8) (l v' : Value) (w' : World) : Prop where
  f : Fdb B w' q v' (run st0 (a ++ b)).2
  o : HOwn w' w.heap.size l (run st0 (a ++ b)).1

/-- What stands behind the two pieces. -/
theorem pieces_join {B p1 p2 B1 : Nat} {w W0 w5 w6 w7 : World} {s A C : List UInt8} {v1 vA vC l1 lA lC v7 : Value} (hs : A ++ C = s) (hz : Zoo B W0 [(p2, .slice none 0 0, st0), (p1, v1, (run st0 s).2)]) (hne : p1 ≠ p2) (hb : Below B w W0) (hBW : B ≤ W0.heap.size)
    (hl : HOwn W0 B1 l1 (run st0 s).1) (fA : FedB B W0 p2 (.slice none 0 0) st0 A lA vA w5) (fC : FedB B w5 p2 vA (run st0 A).2 C lC vC w6) (hg : w6.grownBy w7 lA.ownBlock) (ho : HOwn w7 W0.heap.size v7 ((run st0 A).1 ++ (run (run st0 A).2 C).1)) :
    Zoo B w7 [(p2, vC, (run st0 s).2), (p1, v1, (run st0 s).2)] ∧ HOwn w7 B1 l1 (run st0 s).1 ∧ HOwn w7 W0.heap.size v7 (run st0 s).1 ∧ Below B w w7 := by
  have hr := run_append A C st0
  rw [hs] at hr
  have hr1 : (run st0 s).1 = (run st0 A).1 ++ (run (run st0 A).2 C).1 := by rw [hr]
  have hr2 : (run st0 s).2 = (run (run st0 A).2 C).2 := by rw [hr]
  have z5 := hz.feed (by simp; exact hne) fA
  have z6 := z5.feed (by simp; exact hne) fC
  rw [← hr2] at z6
  have oA := fA.o.apart fA.f.f fC.a
  refine ⟨⟨fun x hx => ⟨(z6.f x hx).f.heard oA hg, (z6.f x hx).q, (z6.f x hx).v⟩, z6.s⟩, ?_, by rw [hr1]; exact ho, ?_⟩
  · have o5 := hl.apart (hz.f _ List.mem_cons_self).f fA.a
    have o6 := o5.apart fA.f.f fC.a
    exact o6.past oA (fun j hj => (hl.lt j hj).2) hg
  · exact ((hb.trans fA.b).trans fC.b).grown hg (Nat.le_trans hBW (Nat.le_trans fA.a.size fC.a.size)) (fun k hk => Nat.le_trans hBW (oA.lt k hk).1)

theorem drew_below (w : World) : Below w.heap.size w w.drew := (Below.refl _ _).drew

set_option maxHeartbeats 8000000 in
set_option maxRecDepth 100000 in
theorem pieces_at (s A C : List UInt8) (hs : s.length ≤ 1000000000) (k : Nat) (x : Int) (hU : (IntKind.u64.wrap x).tmod ((s.length : Int) + 1) = (k : Int)) (hk : k ≤ s.length) (hA : Hid (s.take k = A)) (hC : Hid (s.drop k = C)) (w : World) (hE : Errs w) :
    Calls Tryd.prog 4 #[.string (S s), .int .i64 x] w fun e w' => e = .returned (.bool true) ∧ Below w.heap.size w w' := by
  have hz := S_size s
  have hal := alive_any w hE
  have HNW := Lib.hid new_law
  have HFL := Lib.hid feed_law
  have HSM := Lib.hid same_own
  have HSZ := Lib.hid size_any
  have HQT := Lib.hid waits_any
  have HDF := Lib.hid deaf_any
  have HES := Lib.hid hE
  have HAC : Hid (A ++ C = s) := by rw [← hA.out, ← hC.out]; exact List.take_append_drop k s
  have hAl : A.length ≤ 1000000000 := by rw [← hA.out, List.length_take]; omega
  have hCl : C.length ≤ 1000000000 := by rw [← hC.out, List.length_drop]; omega
  have hsl1 := fun W => run_slice_string_h (P := Tryd.prog) (w := W) (t := 9) (s := S s) Tryd.underlying9 .i64 (k : Int) (by omega) (by rw [hz]; omega)
  have hsl2 := fun W => run_slice_string_l (P := Tryd.prog) (w := W) (t := 9) (s := S s) Tryd.underlying9 .i64 (k : Int) (by omega) (by rw [hz]; omega)
  have e1 : (S s).extract 0 k = S A := by rw [S_mid, List.drop_zero, Nat.sub_zero, hA.out]
  have e2 : (S s).extract k (S s).size = S C := by rw [S_mid, S_size, List.take_of_length_le (by rw [List.length_drop]; omega), hC.out]
  simp only [Int.toNat_natCast, e1, e2] at hsl1 hsl2
  obtain ⟨B, hB0⟩ : ∃ B, B = w.heap.size := ⟨_, rfl⟩
  have h3B : 3 ≤ B := by have := hE.lt; omega
  have HOK : Hid (St.ok (run st0 s).2) := run_ok st0_ok s
  have HLA : Hid ((run st0 s).1.length ≤ 100000000000) := Lib.hid (by have := run_few st0 s; omega)
  clear hE e1 e2 hA hC
  go_enter Tryd.func4, Tryd.ntmps4
  go_wp2_with fail
  refine hal.mono ?_
  rintro e w1 ⟨rfl, b1⟩
  rw [← hB0] at b1
  have HB0 := Lib.hid hB0
  have HB1 := Lib.hid b1
  have HE1 := Lib.hid (HES.out.below (b1.mono h3B))
  have HZ1 := Lib.hid (Zoo.nil B w1)
  have hs1 : B ≤ w1.heap.size := by have := b1.size; omega
  clear hal HES b1 hB0
  have hw1 : IntKind.i64.wrap ((s.length : Int) + 1) = (s.length : Int) + 1 := IntWalk.i64_in _ (by omega)
  have hw2 : IntKind.u64.wrap ((s.length : Int) + 1) = (s.length : Int) + 1 := IntWalk.u64_in _ (by omega)
  have hw3 : IntKind.u64.wrap (k : Int) = (k : Int) := IntWalk.u64_in _ (by omega)
  have hw4 : IntKind.i64.wrap (k : Int) = (k : Int) := IntWalk.i64_in _ (by omega)
  go_upto_region 4 with (fail)
  have hc := HNW.out w1 (by omega)
  obtain ⟨p1, hp1⟩ : ∃ p, p = w1.heap.size := ⟨_, rfl⟩
  rw [← hp1] at hc
  have hBp1 : B ≤ p1 := by omega
  have Hp1 := Lib.hid hp1
  clear hp1
  go_wp2_with fail
  refine hc.mono ?_
  rintro e w2 ⟨rfl, hf, hb⟩
  have HZ2 := Lib.hid (HZ1.out.add (hf.mono hBp1) (by rw [← Hp1.out]; exact hb) (fun _ h => by cases h))
  have HB2 := Lib.hid (HB1.out.trans (hb.mono hBp1))
  have HE2 := Lib.hid (HE1.out.below (hb.mono (Nat.le_trans h3B hBp1)))
  have hs2 : p1 + 1 ≤ w2.heap.size := by have := hf.f.a.lt; omega
  clear hc hf hb HZ1 HB1 HE1 hs1 Hp1
  have hc := HNW.out w2 (by omega)
  obtain ⟨p2, hp2⟩ : ∃ p, p = w2.heap.size := ⟨_, rfl⟩
  rw [← hp2] at hc
  have hBp2 : B ≤ p2 := by omega
  have h12 : p1 < p2 := by omega
  have Hp2 := Lib.hid hp2
  clear hp2
  go_wp2_with fail
  refine hc.mono ?_
  rintro e w3 ⟨rfl, hf, hb⟩
  have HZ3 := Lib.hid (HZ2.out.add (hf.mono hBp2) (by rw [← Hp2.out]; exact hb) (fun _ h => by cases h))
  have HB3 := Lib.hid (HB2.out.trans (hb.mono hBp2))
  have HE3 := Lib.hid (HE2.out.below (hb.mono (Nat.le_trans h3B hBp2)))
  have hs3 : p2 + 1 ≤ w3.heap.size := by have := hf.f.a.lt; omega
  clear hc hf hb HZ2 HB2 HE2 hs2 Hp2
  have HZq : Hid (Zoo B w3 [(p1, (Value.slice none 0 0), st0), (p2, (Value.slice none 0 0), st0)]) := Lib.hid (HZ3.out.sub (by simp))
  clear HZ3
  have HZ3 := HZq
  clear HZq
  have hc := HFL.out B p1 (.slice none 0 0) st0 st0_ok s hs w3 (HZ3.out.f _ List.mem_cons_self) HE3.out (by omega)
  go_wp2_with fail
  refine hc.mono ?_
  rintro e w4 ⟨l1, v1, rfl, hf⟩
  have HZ4 := Lib.hid (HZ3.out.feed (by simp <;> omega) hf)
  have HB4 := Lib.hid (HB3.out.trans hf.b)
  have HE4 := Lib.hid (HE3.out.below (hf.b.mono h3B))
  have hs4 := Nat.le_trans hs3 hf.a.size
  have Hl1 := Lib.hid hf.o
  clear hc hf HZ3 HB3 HE3 hs3
  have HZq : Hid (Zoo B w4 [(p2, (Value.slice none 0 0), st0), (p1, v1, (run st0 s).2)]) := Lib.hid (HZ4.out.sub (by simp))
  clear HZ4
  have HZ4 := HZq
  clear HZq
  have hsW := hs4
  have HZd := Lib.hid (HZ4.out.later (drew_below _))
  have HEd := Lib.hid (HE4.out.later (drew_below _))
  have HBd : Hid (Below B w w4.drew) := Lib.hid (HB4.out.trans ((Below.refl _ _).drew))
  have Hld := Lib.hid (Hl1.out.later (drew_below _))
  have HC1 := Lib.hid (HFL.out B p2 (.slice none 0 0) st0 st0_ok A hAl w4.drew (HZd.out.f _ List.mem_cons_self) HEd.out (by show B ≤ w4.heap.size; omega))
  have HNE : Hid (p1 ≠ p2) := Lib.hid (by omega)
  go_upto_region 6 with (fail)
  go_region_law (first
    | (go_simp; go_at_call_of 10 (S A); refine HC1.out.mono ?_; rintro e w5 ⟨lA, vA, rfl, fA⟩)
    | (go_simp; go_at_call_of 10 (S C); refine (HFL.out B p2 vA (run st0 A).2 (run_ok st0_ok A) C hCl w5 fA.f (HEd.out.below (fA.b.mono h3B)) (Nat.le_trans (show B ≤ w4.heap.size by omega) fA.a.size)).mono ?_; rintro e w6 ⟨lC, vC, rfl, fC⟩)
    | (obtain ⟨v7, w7, hr7, ho7, hg7⟩ := append_heard 26 Tryd.underlying26 w4.drew.heap.size w5.heap.size lA lC (run st0 A).1 (run (run st0 A).2 C).1 (by have := run_few st0 A; have := run_few (run st0 A).2 C; omega) w6 (fA.o.apart fA.f.f fC.a) (Nat.le_trans fA.a.size fC.a.size) fC.o; refine step_append_run rfl (.tmp 28) (.tmp 33) 26 rfl lA lC v7 w7 (by simp [Act.eval]) (by simp [Act.eval]) (hr7 _) ?_))
  obtain ⟨z7, o1, o7, b7⟩ := pieces_join HAC.out HZd.out HNE.out HBd.out (show B ≤ w4.heap.size by omega) Hld.out fA fC hg7 ho7
  have hs7 := Nat.le_trans (Nat.le_trans (show p2 + 1 ≤ w4.drew.heap.size from hsW) (Nat.le_trans fA.a.size fC.a.size)) hg7.size
  have HZ7 := Lib.hid z7
  have Hlq := Lib.hid o1
  have Hl7 := Lib.hid o7
  have HB7 := Lib.hid b7
  clear fA fC hg7 ho7 hr7 z7 o1 o7 b7 HZd HBd Hld HC1 HEd HZ4 HB4 HE4 Hl1 hs4 hsW hsl1 hsl2
  go_wp2_with fail
  have hc := HSM.out _ HLA.out l1 v7 _ _ w7 Hlq.out Hl7.out
  go_wp2_with fail
  refine hc.mono ?_
  rintro e w8 ⟨rfl, hb⟩
  have HZ8 := Lib.hid (HZ7.out.later hb)
  have HB8 := Lib.hid (HB7.out.trans (hb.mono (by omega)))
  have hs8 := Nat.le_trans hs7 hb.size
  clear hc hb HZ7 HB7 hs7
  clear Hlq Hl7
  have hc := HQT.out p1 v1 (run st0 s).2 HOK.out w8 (HZ8.out.f (p1, v1, (run st0 s).2) (by simp)).f
  go_wp2_with fail
  refine hc.mono ?_
  rintro e w9 ⟨rfl, hb⟩
  have HZ9 := Lib.hid (HZ8.out.later hb)
  have HB9 := Lib.hid (HB8.out.trans (hb.mono (by omega)))
  have hs9 := Nat.le_trans hs8 hb.size
  clear hc hb HZ8 HB8 hs8
  have hc := HQT.out p2 vC (run st0 s).2 HOK.out w9 (HZ9.out.f (p2, vC, (run st0 s).2) (by simp)).f
  go_wp2_with fail
  refine hc.mono ?_
  rintro e w10 ⟨rfl, hb⟩
  have HZ10 := Lib.hid (HZ9.out.later hb)
  have HB10 := Lib.hid (HB9.out.trans (hb.mono (by omega)))
  have hs10 := Nat.le_trans hs9 hb.size
  clear hc hb HZ9 HB9 hs9
  have hc := HSZ.out p1 v1 (run st0 s).2 w10 (HZ10.out.f (p1, v1, (run st0 s).2) (by simp)).f
  go_wp2_with fail
  refine hc.mono ?_
  rintro e w11 ⟨rfl, hb⟩
  have HZ11 := Lib.hid (HZ10.out.later hb)
  have HB11 := Lib.hid (HB10.out.trans (hb.mono (by omega)))
  have hs11 := Nat.le_trans hs10 hb.size
  clear hc hb HZ10 HB10 hs10
  have hc := HSZ.out p2 vC (run st0 s).2 w11 (HZ11.out.f (p2, vC, (run st0 s).2) (by simp)).f
  go_wp2_with fail
  refine hc.mono ?_
  rintro e w12 ⟨rfl, hb⟩
  have HZ12 := Lib.hid (HZ11.out.later hb)
  have HB12 := Lib.hid (HB11.out.trans (hb.mono (by omega)))
  have hs12 := Nat.le_trans hs11 hb.size
  clear hc hb HZ11 HB11 hs11
  have hc := HDF.out p1 v1 (run st0 s).2 w12 (HZ12.out.f (p1, v1, (run st0 s).2) (by simp)).f
  go_wp2_with fail
  refine hc.mono ?_
  rintro e w13 ⟨rfl, hb⟩
  have HZ13 := Lib.hid (HZ12.out.later hb)
  have HB13 := Lib.hid (HB12.out.trans (hb.mono (by omega)))
  have hs13 := Nat.le_trans hs12 hb.size
  clear hc hb HZ12 HB12 hs12
  have hc := HDF.out p2 vC (run st0 s).2 w13 (HZ13.out.f (p2, vC, (run st0 s).2) (by simp)).f
  go_wp2_with fail
  refine hc.mono ?_
  rintro e w14 ⟨rfl, hb⟩
  have HZ14 := Lib.hid (HZ13.out.later hb)
  have HB14 := Lib.hid (HB13.out.trans (hb.mono (by omega)))
  have hs14 := Nat.le_trans hs13 hb.size
  clear hc hb HZ13 HB13 hs13
  go_wp2_with fail
  go_ret
  exact ⟨rfl, by rw [← HB0.out]; exact HB14.out⟩
/-- The call answers true, whatever the place. -/
theorem pieces_walk (s : List UInt8) (hs : s.length ≤ 1000000000) (x : Int) (w : World) (hE : Errs w) :
    Calls Tryd.prog 4 #[.string (S s), .int .i64 x] w fun e w' => e = .returned (.bool true) ∧ Below w.heap.size w w' := by
  have hU : 0 ≤ IntKind.u64.wrap x := by
    simp only [IntKind.wrap, IntKind.bits, IntKind.signed]
    simp
    omega
  obtain ⟨k, hk⟩ : ∃ k : Nat, IntKind.u64.wrap x % ((s.length : Int) + 1) = (k : Int) := ⟨_, (Int.toNat_of_nonneg (Int.emod_nonneg _ (by omega))).symm⟩
  have hkl : k ≤ s.length := by
    have := Int.emod_lt_of_pos (IntKind.u64.wrap x) (b := (s.length : Int) + 1) (by omega)
    omega
  exact pieces_at s _ _ hs k x (by rw [Int.tmod_eq_emod_of_nonneg hU, hk]) hkl (Lib.hid rfl) (Lib.hid rfl) w hE
end Go.Proofs.YtnpikjobjmffgaaDoor.li
