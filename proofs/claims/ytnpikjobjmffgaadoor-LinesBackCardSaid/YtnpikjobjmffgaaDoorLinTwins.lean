/-
  Several feeders; the law LinesTwins: the call answers true. (The walk.)
-/
import Derived.Test.YtnpikjobjmffgaaDoorLinLive
namespace Go.Proofs.YtnpikjobjmffgaaDoor.li
open Go.RowKit

/-- Some feeders, each apart from the others. -/
structure Zoo (B : Nat) (w : World) (L : List (Nat × Value × St)) : Prop where
  f : ∀ x ∈ L, Fdb B w x.1 x.2.1 x.2.2
  s : ∀ x ∈ L, ∀ y ∈ L, x.1 ≠ y.1 → Sep x.2.1 y.2.1
theorem Zoo.nil (B : Nat) (w : World) : Zoo B w [] := ⟨fun _ h => (by cases h), fun _ h => (by cases h)⟩
theorem Zoo.later {B : Nat} {w w' : World} {L : List (Nat × Value × St)} (h : Zoo B w L) (hb : Below w.heap.size w w') : Zoo B w' L := ⟨fun x hx => (h.f x hx).later hb, h.s⟩
theorem Zoo.sub {B : Nat} {w : World} {L M : List (Nat × Value × St)} (h : Zoo B w L) (hm : ∀ x ∈ M, x ∈ L) : Zoo B w M := ⟨fun x hx => h.f x (hm x hx), fun x hx y hy => h.s x (hm x hx) y (hm y hy)⟩
theorem Zoo.add {B : Nat} {w w' : World} {L : List (Nat × Value × St)} (h : Zoo B w L) {q : Nat} {v : Value} {st : St} (hf : Fdb B w' q v st) (hb : Below w.heap.size w w') (hv : ∀ k, v.ownBlock = some k → w.heap.size ≤ k) : Zoo B w' ((q, v, st) :: L) := by
  refine ⟨fun x hx => ?_, fun x hx y hy hne => ?_⟩
  · rcases List.mem_cons.1 hx with rfl | hx
    · exact hf
    · exact (h.f x hx).later hb
  · rcases List.mem_cons.1 hx with rfl | hx <;> rcases List.mem_cons.1 hy with rfl | hy
    · exact absurd rfl hne
    · intro k hk e
      have := hv k hk
      have := ((h.f y hy).f.r.lt k e).2
      omega
    · intro k hk e
      have := hv k e
      have := ((h.f x hx).f.r.lt k hk).2
      omega
    · exact h.s x hx y hy hne
theorem Zoo.feed {B : Nat} {w w' : World} {L : List (Nat × Value × St)} {q : Nat} {v v' lv : Value} {st : St} {s : List UInt8} (h : Zoo B w ((q, v, st) :: L)) (hq : ∀ y ∈ L, y.1 ≠ q) (hf : FedB B w q v st s lv v' w') : Zoo B w' ((q, v', (run st s).2) :: L) := by
  have h0 := h.f _ List.mem_cons_self
  refine ⟨fun x hx => ?_, fun x hx y hy hne => ?_⟩
  · rcases List.mem_cons.1 hx with rfl | hx
    · exact hf.f
    · have h1 := h.f x (List.mem_cons_of_mem _ hx)
      exact ⟨h1.f.apart h0.f (hq x hx) (h.s x (List.mem_cons_of_mem _ hx) _ List.mem_cons_self (hq x hx)) hf.a, h1.q, h1.v⟩
  · rcases List.mem_cons.1 hx with rfl | hx <;> rcases List.mem_cons.1 hy with rfl | hy
    · exact absurd rfl hne
    · have h1 := h.f y (List.mem_cons_of_mem _ hy)
      intro k hk e
      rcases hf.n k hk with h2 | h2
      · exact h.s _ List.mem_cons_self y (List.mem_cons_of_mem _ hy) (Ne.symm (hq y hy)) k h2 e
      · have := (h1.f.r.lt k e).2
        omega
    · have h1 := h.f x (List.mem_cons_of_mem _ hx)
      intro k hk e
      rcases hf.n k e with h2 | h2
      · exact h.s x (List.mem_cons_of_mem _ hx) _ List.mem_cons_self (hq x hx) k hk h2
      · have := (h1.f.r.lt k hk).2
        omega
    · exact h.s x (List.mem_cons_of_mem _ hx) y (List.mem_cons_of_mem _ hy) hne

set_option maxRecDepth 100000 in
theorem nil_feed (s : ByteArray) (w : World) :
    Calls Tryd.prog 10 #[.pointer none, .string s] w fun e w' => e = .returned (.slice none 0 0) ∧ w' = w := by
  go_enter Tryd.func10, Tryd.ntmps10
  go_wp2_with fail
  go_step3
  go_wp2_with fail
  first | rw [Exit.noGoto_ret] | skip
  go_ret
  exact ⟨rfl, rfl⟩
set_option maxRecDepth 100000 in
theorem nil_waits (w : World) : Calls Tryd.prog 14 #[.pointer none] w fun e w' => e = .returned (.int .i64 0) ∧ w' = w := by
  go_enter Tryd.func14, Tryd.ntmps14
  go_wp2
  go_ret
  exact ⟨rfl, rfl⟩
set_option maxRecDepth 100000 in
theorem nil_size (w : World) : Calls Tryd.prog 15 #[.pointer none] w fun e w' => e = .returned (.int .i64 0) ∧ w' = w := by
  go_enter Tryd.func15, Tryd.ntmps15
  go_wp2
  go_ret
  exact ⟨rfl, rfl⟩
set_option maxRecDepth 100000 in
theorem nil_deaf (w : World) : Calls Tryd.prog 16 #[.pointer none] w fun e w' => e = .returned (.bool false) ∧ w' = w := by
  go_enter Tryd.func16, Tryd.ntmps16
  go_wp2
  go_ret
  exact ⟨rfl, rfl⟩
set_option maxRecDepth 100000 in
theorem nil_twin (w : World) : Calls Tryd.prog 19 #[.pointer none] w fun e w' => e = .returned (.pointer none) ∧ w' = w := by
  go_enter Tryd.func19, Tryd.ntmps19
  go_wp2
  go_ret
  exact ⟨rfl, rfl⟩

/-- Same of two rows that hold the same. -/
theorem same_own (l : List Hd) (hl : l.length ≤ 100000000000) (v u : Value) (B B' : Nat) (w : World) (h : HOwn w B v l) (k : HOwn w B' u l) :
    Calls Tryd.prog 12 #[v, u] w fun e w' => e = .returned (.bool true) ∧ Below w.heap.size w w' := by
  obtain ⟨a, c, rfl, hr, _⟩ := h.row
  obtain ⟨a', c', rfl, hr', _⟩ := k.row
  exact same_any a a' c c' l hl w hr hr'
--W
set_option maxHeartbeats 8000000 in
set_option maxRecDepth 100000 in
theorem twins_walk (s a b : List UInt8) (hs : s.length ≤ 1000000000) (ha : a.length ≤ 1000000000) (hb : b.length ≤ 1000000000) (w : World) (hE : Errs w) :
    Calls Tryd.prog 7 #[.string (S s), .string (S a), .string (S b)] w fun e w' => e = .returned (.bool true) ∧ Below w.heap.size w w' := by
  have hal := alive_any w hE
  have HNW := Lib.hid new_law
  have HFL := Lib.hid feed_law
  have HSM := Lib.hid same_own
  have HTW := Lib.hid twin_any
  have HSZ := Lib.hid size_any
  have HQT := Lib.hid waits_any
  have HN1 := Lib.hid nil_feed
  have HN2 := Lib.hid nil_waits
  have HN3 := Lib.hid nil_size
  have HN4 := Lib.hid nil_deaf
  have HN5 := Lib.hid nil_twin
  have HOK : Hid (St.ok (run st0 s).2) := run_ok st0_ok s
  have HOA : Hid (St.ok (run (run st0 s).2 a).2) := run_ok HOK.out a
  have HOB : Hid (St.ok (run (run st0 s).2 b).2) := run_ok HOK.out b
  have HLA : Hid ((run (run st0 s).2 a).1.length ≤ 100000000000) := Lib.hid (by have := run_few (run st0 s).2 a; omega)
  have HLB : Hid ((run (run st0 s).2 b).1.length ≤ 100000000000) := Lib.hid (by have := run_few (run st0 s).2 b; omega)
  have HES := Lib.hid hE
  obtain ⟨B, hB0⟩ : ∃ B, B = w.heap.size := ⟨_, rfl⟩
  have h3B : 3 ≤ B := by have := hE.lt; omega
  clear hE
  go_enter Tryd.func7, Tryd.ntmps7
  go_wp2_with fail
  refine hal.mono ?_
  rintro e w1 ⟨rfl, b1⟩
  rw [← hB0] at b1
  have HB0 := Lib.hid hB0
  have HB1 := Lib.hid b1
  have HE1 := Lib.hid (HES.out.below (b1.mono h3B))
  have HZ1 := Lib.hid (Zoo.nil B w1)
  have hs1 : B ≤ w1.heap.size := by have := b1.size; omega
  clear hal HES b1 hB0
  have hc := HNW.out w1 (by omega)
  obtain ⟨p1, hp1⟩ : ∃ p, p = w1.heap.size := ⟨_, rfl⟩
  rw [← hp1] at hc
  have hBp1 : B ≤ p1 := by omega
  have Hp1 := Lib.hid hp1
  clear hp1
  go_wp2_with fail
  refine hc.mono ?_
  rintro e w2 ⟨rfl, hf, hb⟩
  have HZ2 := Lib.hid (HZ1.out.add (hf.mono hBp1) (by rw [← Hp1.out]; exact hb) (fun _ h => by cases h))
  have HB2 := Lib.hid (HB1.out.trans (hb.mono hBp1))
  have HE2 := Lib.hid (HE1.out.below (hb.mono (Nat.le_trans h3B hBp1)))
  have hs2 : p1 + 1 ≤ w2.heap.size := by have := hf.f.a.lt; omega
  clear hc hf hb HZ1 HB1 HE1 hs1 Hp1
  have hc := HFL.out B p1 (.slice none 0 0) st0 st0_ok s hs w2 (HZ2.out.f _ List.mem_cons_self) HE2.out (by omega)
  go_wp2_with fail
  refine hc.mono ?_
  rintro e w3 ⟨l1, v1, rfl, hf⟩
  have HZ3 := Lib.hid (HZ2.out.feed (by simp <;> omega) hf)
  have HB3 := Lib.hid (HB2.out.trans hf.b)
  have HE3 := Lib.hid (HE2.out.below (hf.b.mono h3B))
  have hs3 := Nat.le_trans hs2 hf.a.size
  have Hl1 := Lib.hid hf.o
  clear hc hf HZ2 HB2 HE2 hs2
  have hc := HTW.out p1 v1 (run st0 s).2 HOK.out w3 (HZ3.out.f _ List.mem_cons_self).f
  go_wp2_with fail
  refine hc.mono ?_
  rintro e w4 ⟨⟨p2, v2, rfl, hp2, hf, hv2⟩, hb⟩
  have HZ4 := Lib.hid (HZ3.out.add (B := B) (q := p2) (v := v2) ⟨hf, by omega, fun k hk => by have := hv2 k hk; omega⟩ hb hv2)
  have HB4 := Lib.hid (HB3.out.trans (hb.mono (by omega)))
  have HE4 := Lib.hid (HE3.out.later hb)
  have h12 : p1 < p2 := by omega
  have hs4 : p2 + 1 ≤ w4.heap.size := by have := hf.a.lt; omega
  clear hc hf hb hp2 hv2 HZ3 HB3 HE3 Hl1
  have hc := HNW.out w4 (by omega)
  obtain ⟨p3, hp3⟩ : ∃ p, p = w4.heap.size := ⟨_, rfl⟩
  rw [← hp3] at hc
  have hBp3 : B ≤ p3 := by omega
  have h23 : p2 < p3 := by omega
  have Hp3 := Lib.hid hp3
  clear hp3
  go_wp2_with fail
  refine hc.mono ?_
  rintro e w5 ⟨rfl, hf, hb⟩
  have HZ5 := Lib.hid (HZ4.out.add (hf.mono hBp3) (by rw [← Hp3.out]; exact hb) (fun _ h => by cases h))
  have HB5 := Lib.hid (HB4.out.trans (hb.mono hBp3))
  have HE5 := Lib.hid (HE4.out.below (hb.mono (Nat.le_trans h3B hBp3)))
  have hs5 : p3 + 1 ≤ w5.heap.size := by have := hf.f.a.lt; omega
  clear hc hf hb HZ4 HB4 HE4 hs4 Hp3
  have hc := HNW.out w5 (by omega)
  obtain ⟨p4, hp4⟩ : ∃ p, p = w5.heap.size := ⟨_, rfl⟩
  rw [← hp4] at hc
  have hBp4 : B ≤ p4 := by omega
  have h34 : p3 < p4 := by omega
  have Hp4 := Lib.hid hp4
  clear hp4
  go_wp2_with fail
  refine hc.mono ?_
  rintro e w6 ⟨rfl, hf, hb⟩
  have HZ6 := Lib.hid (HZ5.out.add (hf.mono hBp4) (by rw [← Hp4.out]; exact hb) (fun _ h => by cases h))
  have HB6 := Lib.hid (HB5.out.trans (hb.mono hBp4))
  have HE6 := Lib.hid (HE5.out.below (hb.mono (Nat.le_trans h3B hBp4)))
  have hs6 : p4 + 1 ≤ w6.heap.size := by have := hf.f.a.lt; omega
  clear hc hf hb HZ5 HB5 HE5 hs5 Hp4
  have HZq : Hid (Zoo B w6 [(p3, (Value.slice none 0 0), st0), (p4, (Value.slice none 0 0), st0), (p2, v2, (run st0 s).2), (p1, v1, (run st0 s).2)]) := Lib.hid (HZ6.out.sub (by simp))
  clear HZ6
  have HZ6 := HZq
  clear HZq
  have hc := HFL.out B p3 (.slice none 0 0) st0 st0_ok s hs w6 (HZ6.out.f _ List.mem_cons_self) HE6.out (by omega)
  go_wp2_with fail
  refine hc.mono ?_
  rintro e w7 ⟨l3, v3, rfl, hf⟩
  have HZ7 := Lib.hid (HZ6.out.feed (by simp <;> omega) hf)
  have HB7 := Lib.hid (HB6.out.trans hf.b)
  have HE7 := Lib.hid (HE6.out.below (hf.b.mono h3B))
  have hs7 := Nat.le_trans hs6 hf.a.size
  have Hl3 := Lib.hid hf.o
  clear hc hf HZ6 HB6 HE6 hs6
  have HZq : Hid (Zoo B w7 [(p4, (Value.slice none 0 0), st0), (p3, v3, (run st0 s).2), (p2, v2, (run st0 s).2), (p1, v1, (run st0 s).2)]) := Lib.hid (HZ7.out.sub (by simp))
  clear HZ7
  have HZ7 := HZq
  clear HZq
  have hc := HFL.out B p4 (.slice none 0 0) st0 st0_ok s hs w7 (HZ7.out.f _ List.mem_cons_self) HE7.out (by omega)
  go_wp2_with fail
  refine hc.mono ?_
  rintro e w8 ⟨l4, v4, rfl, hf⟩
  have HZ8 := Lib.hid (HZ7.out.feed (by simp <;> omega) hf)
  have HB8 := Lib.hid (HB7.out.trans hf.b)
  have HE8 := Lib.hid (HE7.out.below (hf.b.mono h3B))
  have hs8 := Nat.le_trans hs7 hf.a.size
  have Hl4 := Lib.hid hf.o
  clear hc hf HZ7 HB7 HE7 hs7
  clear Hl3 Hl4
  have HZq : Hid (Zoo B w8 [(p1, v1, (run st0 s).2), (p4, v4, (run st0 s).2), (p3, v3, (run st0 s).2), (p2, v2, (run st0 s).2)]) := Lib.hid (HZ8.out.sub (by simp))
  clear HZ8
  have HZ8 := HZq
  clear HZq
  have hc := HFL.out B p1 v1 (run st0 s).2 HOK.out a ha w8 (HZ8.out.f _ List.mem_cons_self) HE8.out (by omega)
  go_wp2_with fail
  refine hc.mono ?_
  rintro e w9 ⟨l5, v5, rfl, hf⟩
  have HZ9 := Lib.hid (HZ8.out.feed (by simp <;> omega) hf)
  have HB9 := Lib.hid (HB8.out.trans hf.b)
  have HE9 := Lib.hid (HE8.out.below (hf.b.mono h3B))
  have hs9 := Nat.le_trans hs8 hf.a.size
  have Hl5 := Lib.hid hf.o
  clear hc hf HZ8 HB8 HE8 hs8
  have HZq : Hid (Zoo B w9 [(p3, v3, (run st0 s).2), (p1, v5, (run (run st0 s).2 a).2), (p4, v4, (run st0 s).2), (p2, v2, (run st0 s).2)]) := Lib.hid (HZ9.out.sub (by simp))
  clear HZ9
  have HZ9 := HZq
  clear HZq
  have hc := HFL.out B p3 v3 (run st0 s).2 HOK.out a ha w9 (HZ9.out.f _ List.mem_cons_self) HE9.out (by omega)
  go_wp2_with fail
  refine hc.mono ?_
  rintro e w10 ⟨l6, v6, rfl, hf⟩
  have HZ10 := Lib.hid (HZ9.out.feed (by simp <;> omega) hf)
  have HB10 := Lib.hid (HB9.out.trans hf.b)
  have HE10 := Lib.hid (HE9.out.below (hf.b.mono h3B))
  have hs10 := Nat.le_trans hs9 hf.a.size
  have Hl6 := Lib.hid hf.o
  have Hl5q := Lib.hid (Hl5.out.apart (HZ9.out.f _ List.mem_cons_self).f hf.a)
  clear Hl5
  have Hl5 := Hl5q
  clear Hl5q
  clear hc hf HZ9 HB9 HE9 hs9
  have hc := HSM.out _ HLA.out l5 l6 _ _ w10 Hl5.out Hl6.out
  go_wp2_with fail
  refine hc.mono ?_
  rintro e w11 ⟨rfl, hb⟩
  have HZ11 := Lib.hid (HZ10.out.later hb)
  have HB11 := Lib.hid (HB10.out.trans (hb.mono (by omega)))
  have HE11 := Lib.hid (HE10.out.later hb)
  have hs11 := Nat.le_trans hs10 hb.size
  clear hc hb HZ10 HB10 HE10 hs10
  clear Hl5 Hl6
  have HZq : Hid (Zoo B w11 [(p2, v2, (run st0 s).2), (p3, v6, (run (run st0 s).2 a).2), (p1, v5, (run (run st0 s).2 a).2), (p4, v4, (run st0 s).2)]) := Lib.hid (HZ11.out.sub (by simp))
  clear HZ11
  have HZ11 := HZq
  clear HZq
  have hc := HFL.out B p2 v2 (run st0 s).2 HOK.out b hb w11 (HZ11.out.f _ List.mem_cons_self) HE11.out (by omega)
  go_wp2_with fail
  refine hc.mono ?_
  rintro e w12 ⟨l7, v7, rfl, hf⟩
  have HZ12 := Lib.hid (HZ11.out.feed (by simp <;> omega) hf)
  have HB12 := Lib.hid (HB11.out.trans hf.b)
  have HE12 := Lib.hid (HE11.out.below (hf.b.mono h3B))
  have hs12 := Nat.le_trans hs11 hf.a.size
  have Hl7 := Lib.hid hf.o
  clear hc hf HZ11 HB11 HE11 hs11
  have HZq : Hid (Zoo B w12 [(p4, v4, (run st0 s).2), (p2, v7, (run (run st0 s).2 b).2), (p3, v6, (run (run st0 s).2 a).2), (p1, v5, (run (run st0 s).2 a).2)]) := Lib.hid (HZ12.out.sub (by simp))
  clear HZ12
  have HZ12 := HZq
  clear HZq
  have hc := HFL.out B p4 v4 (run st0 s).2 HOK.out b hb w12 (HZ12.out.f _ List.mem_cons_self) HE12.out (by omega)
  go_wp2_with fail
  refine hc.mono ?_
  rintro e w13 ⟨l8, v8, rfl, hf⟩
  have HZ13 := Lib.hid (HZ12.out.feed (by simp <;> omega) hf)
  have HB13 := Lib.hid (HB12.out.trans hf.b)
  have HE13 := Lib.hid (HE12.out.below (hf.b.mono h3B))
  have hs13 := Nat.le_trans hs12 hf.a.size
  have Hl8 := Lib.hid hf.o
  have Hl7q := Lib.hid (Hl7.out.apart (HZ12.out.f _ List.mem_cons_self).f hf.a)
  clear Hl7
  have Hl7 := Hl7q
  clear Hl7q
  clear hc hf HZ12 HB12 HE12 hs12
  have hc := HSM.out _ HLB.out l7 l8 _ _ w13 Hl7.out Hl8.out
  go_wp2_with fail
  refine hc.mono ?_
  rintro e w14 ⟨rfl, hb⟩
  have HZ14 := Lib.hid (HZ13.out.later hb)
  have HB14 := Lib.hid (HB13.out.trans (hb.mono (by omega)))
  have HE14 := Lib.hid (HE13.out.later hb)
  have hs14 := Nat.le_trans hs13 hb.size
  clear hc hb HZ13 HB13 HE13 hs13
  clear Hl7 Hl8
  have hc := HSZ.out p1 v5 (run (run st0 s).2 a).2 w14 (HZ14.out.f (p1, v5, (run (run st0 s).2 a).2) (by simp)).f
  go_wp2_with fail
  refine hc.mono ?_
  rintro e w15 ⟨rfl, hb⟩
  have HZ15 := Lib.hid (HZ14.out.later hb)
  have HB15 := Lib.hid (HB14.out.trans (hb.mono (by omega)))
  have HE15 := Lib.hid (HE14.out.later hb)
  have hs15 := Nat.le_trans hs14 hb.size
  clear hc hb HZ14 HB14 HE14 hs14
  have hc := HSZ.out p3 v6 (run (run st0 s).2 a).2 w15 (HZ15.out.f (p3, v6, (run (run st0 s).2 a).2) (by simp)).f
  go_wp2_with fail
  refine hc.mono ?_
  rintro e w16 ⟨rfl, hb⟩
  have HZ16 := Lib.hid (HZ15.out.later hb)
  have HB16 := Lib.hid (HB15.out.trans (hb.mono (by omega)))
  have HE16 := Lib.hid (HE15.out.later hb)
  have hs16 := Nat.le_trans hs15 hb.size
  clear hc hb HZ15 HB15 HE15 hs15
  have hc := HSZ.out p2 v7 (run (run st0 s).2 b).2 w16 (HZ16.out.f (p2, v7, (run (run st0 s).2 b).2) (by simp)).f
  go_wp2_with fail
  refine hc.mono ?_
  rintro e w17 ⟨rfl, hb⟩
  have HZ17 := Lib.hid (HZ16.out.later hb)
  have HB17 := Lib.hid (HB16.out.trans (hb.mono (by omega)))
  have HE17 := Lib.hid (HE16.out.later hb)
  have hs17 := Nat.le_trans hs16 hb.size
  clear hc hb HZ16 HB16 HE16 hs16
  have hc := HSZ.out p4 v8 (run (run st0 s).2 b).2 w17 (HZ17.out.f (p4, v8, (run (run st0 s).2 b).2) (by simp)).f
  go_wp2_with fail
  refine hc.mono ?_
  rintro e w18 ⟨rfl, hb⟩
  have HZ18 := Lib.hid (HZ17.out.later hb)
  have HB18 := Lib.hid (HB17.out.trans (hb.mono (by omega)))
  have HE18 := Lib.hid (HE17.out.later hb)
  have hs18 := Nat.le_trans hs17 hb.size
  clear hc hb HZ17 HB17 HE17 hs17
  have hc := HQT.out p2 v7 (run (run st0 s).2 b).2 HOB.out w18 (HZ18.out.f (p2, v7, (run (run st0 s).2 b).2) (by simp)).f
  go_wp2_with fail
  refine hc.mono ?_
  rintro e w19 ⟨rfl, hb⟩
  have HZ19 := Lib.hid (HZ18.out.later hb)
  have HB19 := Lib.hid (HB18.out.trans (hb.mono (by omega)))
  have HE19 := Lib.hid (HE18.out.later hb)
  have hs19 := Nat.le_trans hs18 hb.size
  clear hc hb HZ18 HB18 HE18 hs18
  have hc := HQT.out p4 v8 (run (run st0 s).2 b).2 HOB.out w19 (HZ19.out.f (p4, v8, (run (run st0 s).2 b).2) (by simp)).f
  go_wp2_with fail
  refine hc.mono ?_
  rintro e w20 ⟨rfl, hb⟩
  have HZ20 := Lib.hid (HZ19.out.later hb)
  have HB20 := Lib.hid (HB19.out.trans (hb.mono (by omega)))
  have HE20 := Lib.hid (HE19.out.later hb)
  have hs20 := Nat.le_trans hs19 hb.size
  clear hc hb HZ19 HB19 HE19 hs19
  have hc := HN1.out (S s) w20
  go_wp2_with fail
  refine hc.mono ?_
  rintro e w21 ⟨rfl, rfl⟩
  clear hc
  have hc := HN2.out w21
  go_wp2_with fail
  refine hc.mono ?_
  rintro e w22 ⟨rfl, rfl⟩
  clear hc
  have hc := HN3.out w22
  go_wp2_with fail
  refine hc.mono ?_
  rintro e w23 ⟨rfl, rfl⟩
  clear hc
  have hc := HN4.out w23
  go_wp2_with fail
  refine hc.mono ?_
  rintro e w24 ⟨rfl, rfl⟩
  clear hc
  have hc := HN5.out w24
  go_wp2_with fail
  refine hc.mono ?_
  rintro e w25 ⟨rfl, rfl⟩
  clear hc
  go_wp2_with fail
  go_ret
  exact ⟨rfl, by rw [← HB0.out]; exact HB20.out⟩
end Go.Proofs.YtnpikjobjmffgaaDoor.li
