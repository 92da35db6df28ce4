/-
  The laws PartSplits, PartHolds, PartWhole, walked. Written by gen_laws1.py.
-/
import Derived.Test.YtecemfebbonkpaaDoorPtAlive
import Derived.Test.YtecemfebbonkpaaDoorPtRef
namespace Go.Proofs.YtecemfebbonkpaaDoor.pt
open Go.RowKit Go.Shelf fl
attribute [local go_sem] Oper.semAt_some

theorem contains_of {a b : List UInt8} {i : Nat} (hi : i ≤ a.length) (h : Lib.occAt a b i = true) : Lib.contains a b = true := by
  unfold Lib.contains
  rcases Lib.index_spec a b with ⟨_, h2⟩ | ⟨j, h1, _⟩
  · rw [h2 i hi] at h; cases h
  · rw [h1]; exact decide_eq_true (by omega)
theorem holds_tail (a b : List UInt8) : Lib.contains (upper (a ++ b)) (upper b) = true := by
  refine contains_of (i := a.length) (by rw [upper_length]; simp) ?_
  have e : upper (a ++ b) = upper a ++ upper b := by simp [upper]
  unfold Lib.occAt
  rw [e, List.drop_left' (upper_length a)]
  exact List.isPrefixOf_iff_prefix.2 (List.prefix_refl _)
theorem holds_nil (a : List UInt8) : Lib.contains (upper a) (upper []) = true :=
  contains_of (i := 0) (Nat.zero_le _) rfl

set_option maxHeartbeats 4000000 in
set_option maxRecDepth 100000 in
theorem splits_any (m : List UInt8) (k : Int) (f c : Nat) (M : Int) (w : World) (h0 : 0 < w.heap.size) (m0 : w.cell? ⟨0, 0, none⟩ = some (.int .i64 M)) (hm : m.length ≤ 140737488355328) :
    Calls Tryd.prog 3 #[.string (S m), .int .i64 k, .int .u64 (f : Nat), .int .u64 (c : Nat)] w fun e w' => e = .returned (.bool true) ∧ Below w.heap.size w w' := by
  have hz := S_size m
  have HA := Lib.hid (fun W h0 hM => alive_any M W h0 hM)
  have B0 := Below.refl w.heap.size w
  by_cases hl : m.length ≤ 8192
  · have H1 := Lib.hid (fun W (_ : 0 < W.heap.size) hM => split_any m (by omega) M W hM)
    have H2 := Lib.hid (fun W => refsplit_any m (by omega) W)
    have H4 := Lib.hid (fun W (_ : 0 < W.heap.size) hM => sect_any m (by omega) k M W hM)
    have H5 := Lib.hid (fun W => refsect_any m (by omega) k W)
    have H6 := Lib.hid (fun W => cut_any m (by omega) f c W)
    have H7 := Lib.hid (fun W => refcut_any m (by omega) f c W)
    have hli : (m.length : Int) ≤ 8192 := by omega
    generalize head m = a at *
    generalize text m = b at *
    generalize sect m k = s at *
    generalize cutL m f c = t at *
    clear hm hl
    go_enter Tryd.func3, Tryd.ntmps3
    have c1 := H1.out w h0 m0
    go_wp2_with fail
    refine c1.mono ?_
    rintro e w1 ⟨rfl, b1⟩
    have h1 : 0 < w1.heap.size := Nat.lt_of_lt_of_le h0 b1.size
    have m1 := (b1.cell (p := ⟨0, 0, none⟩) h0).trans m0
    have B1 := Below.andThen B0 b1
    clear c1 b1 B0 m0
    have c2 := H2.out w1
    go_wp2_with fail
    refine c2.mono ?_
    rintro e w2 ⟨rfl, b2⟩
    have h2 : 0 < w2.heap.size := Nat.lt_of_lt_of_le h1 b2.size
    have m2 := (b2.cell (p := ⟨0, 0, none⟩) h1).trans m1
    have B2 := Below.andThen B1 b2
    clear c2 b2 B1 m1
    have c3 := HA.out w2 h2 m2
    go_wp2_with fail
    refine c3.mono ?_
    rintro e w3 ⟨rfl, b3⟩
    have h3 : 0 < w3.heap.size := Nat.lt_of_lt_of_le h2 b3.size
    have m3 := (b3.cell (p := ⟨0, 0, none⟩) h2).trans m2
    have B3 := Below.andThen B2 b3
    clear c3 b3 B2 m2
    have c4 := H4.out w3 h3 m3
    go_wp2_with fail
    refine c4.mono ?_
    rintro e w4 ⟨rfl, b4⟩
    have h4 : 0 < w4.heap.size := Nat.lt_of_lt_of_le h3 b4.size
    have m4 := (b4.cell (p := ⟨0, 0, none⟩) h3).trans m3
    have B4 := Below.andThen B3 b4
    clear c4 b4 B3 m3
    have c5 := H5.out w4
    go_wp2_with fail
    refine c5.mono ?_
    rintro e w5 ⟨rfl, b5⟩
    have h5 : 0 < w5.heap.size := Nat.lt_of_lt_of_le h4 b5.size
    have m5 := (b5.cell (p := ⟨0, 0, none⟩) h4).trans m4
    have B5 := Below.andThen B4 b5
    clear c5 b5 B4 m4
    have c6 := H6.out w5
    go_wp2_with fail
    refine c6.mono ?_
    rintro e w6 ⟨rfl, b6⟩
    have h6 : 0 < w6.heap.size := Nat.lt_of_lt_of_le h5 b6.size
    have m6 := (b6.cell (p := ⟨0, 0, none⟩) h5).trans m5
    have B6 := Below.andThen B5 b6
    clear c6 b6 B5 m5
    have c7 := H7.out w6
    go_wp2_with fail
    refine c7.mono ?_
    rintro e w7 ⟨rfl, b7⟩
    have h7 : 0 < w7.heap.size := Nat.lt_of_lt_of_le h6 b7.size
    have m7 := (b7.cell (p := ⟨0, 0, none⟩) h6).trans m6
    have B7 := Below.andThen B6 b7
    clear c7 b7 B6 m6
    clear H1 H2 HA H4 H5 H6 H7
    go_wp2_with fail
    go_ret
    exact ⟨rfl, B7⟩
  · have hli : ¬ (m.length : Int) ≤ 8192 := by omega
    go_enter Tryd.func3, Tryd.ntmps3
    have c1 := HA.out w h0 m0
    go_wp2_with fail
    refine c1.mono ?_
    rintro e w1 ⟨rfl, b1⟩
    have h1 : 0 < w1.heap.size := Nat.lt_of_lt_of_le h0 b1.size
    have m1 := (b1.cell (p := ⟨0, 0, none⟩) h0).trans m0
    have B1 := Below.andThen B0 b1
    clear c1 b1 B0 m0
    go_wp2_with fail
    go_ret
    exact ⟨rfl, B1⟩

set_option maxHeartbeats 4000000 in
set_option maxRecDepth 100000 in
theorem holdslaw_any (s p : List UInt8) (M : Int) (w : World) (h0 : 0 < w.heap.size) (m0 : w.cell? ⟨0, 0, none⟩ = some (.int .i64 M)) (hs : s.length ≤ 140737488355328) (hp : p.length ≤ 140737488355328) :
    Calls Tryd.prog 5 #[.string (S s), .string (S p)] w fun e w' => e = .returned (.bool true) ∧ Below w.heap.size w w' := by
  have hz := S_size s
  have hy := S_size p
  have HA := Lib.hid (fun W h0 hM => alive_any M W h0 hM)
  have B0 := Below.refl w.heap.size w
  by_cases hl1 : s.length ≤ 4096
  · have hli1 : (s.length : Int) ≤ 4096 := by omega
    by_cases hl2 : p.length ≤ 4096
    · have hli2 : (p.length : Int) ≤ 4096 := by omega
      have H1 := Lib.hid (fun W h0 hM => holds_any s p (by omega) (by omega) M W h0 hM)
      have H2 := Lib.hid (fun W => refholds_any s p (by omega) (by omega) W)
      have H3 := Lib.hid (fun W h0 hM => holds_any (s ++ p) p (by rw [List.length_append]; omega) (by omega) M W h0 hM)
      have H4 := Lib.hid (fun W h0 hM => holds_any (p ++ s) [] (by rw [List.length_append]; omega) (by decide) M W h0 hM)
      rw [holds_tail] at H3
      rw [holds_nil, S_nil] at H4
      have e1 := S_append s p
      have e2 := S_append p s
      generalize Lib.contains (upper s) (upper p) = r at *
      clear hl1 hl2 hs hp
      go_enter Tryd.func5, Tryd.ntmps5
      have c1 := HA.out w h0 m0
      go_wp2_with fail
      refine c1.mono ?_
      rintro e w1 ⟨rfl, b1⟩
      have h1 : 0 < w1.heap.size := Nat.lt_of_lt_of_le h0 b1.size
      have m1 := (b1.cell (p := ⟨0, 0, none⟩) h0).trans m0
      have B1 := Below.andThen B0 b1
      clear c1 b1 B0 m0
      have c2 := H1.out w1 h1 m1
      go_wp2_with fail
      refine c2.mono ?_
      rintro e w2 ⟨rfl, b2⟩
      have h2 : 0 < w2.heap.size := Nat.lt_of_lt_of_le h1 b2.size
      have m2 := (b2.cell (p := ⟨0, 0, none⟩) h1).trans m1
      have B2 := Below.andThen B1 b2
      clear c2 b2 B1 m1
      have c3 := H2.out w2
      go_wp2_with fail
      refine c3.mono ?_
      rintro e w3 ⟨rfl, b3⟩
      have h3 : 0 < w3.heap.size := Nat.lt_of_lt_of_le h2 b3.size
      have m3 := (b3.cell (p := ⟨0, 0, none⟩) h2).trans m2
      have B3 := Below.andThen B2 b3
      clear c3 b3 B2 m2
      have c4 := H3.out w3 h3 m3
      go_wp2_with fail
      refine c4.mono ?_
      rintro e w4 ⟨rfl, b4⟩
      have h4 : 0 < w4.heap.size := Nat.lt_of_lt_of_le h3 b4.size
      have m4 := (b4.cell (p := ⟨0, 0, none⟩) h3).trans m3
      have B4 := Below.andThen B3 b4
      clear c4 b4 B3 m3
      have c5 := H4.out w4 h4 m4
      go_wp2_with fail
      refine c5.mono ?_
      rintro e w5 ⟨rfl, b5⟩
      have h5 : 0 < w5.heap.size := Nat.lt_of_lt_of_le h4 b5.size
      have m5 := (b5.cell (p := ⟨0, 0, none⟩) h4).trans m4
      have B5 := Below.andThen B4 b5
      clear c5 b5 B4 m4
      clear H1 H2 HA H3 H4
      go_wp2_with fail
      go_ret
      exact ⟨rfl, B5⟩
    · have hli2 : ¬ (p.length : Int) ≤ 4096 := by omega
      go_enter Tryd.func5, Tryd.ntmps5
      have c1 := HA.out w h0 m0
      go_wp2_with fail
      refine c1.mono ?_
      rintro e w1 ⟨rfl, b1⟩
      have h1 : 0 < w1.heap.size := Nat.lt_of_lt_of_le h0 b1.size
      have m1 := (b1.cell (p := ⟨0, 0, none⟩) h0).trans m0
      have B1 := Below.andThen B0 b1
      clear c1 b1 B0 m0
      go_wp2_with fail
      go_ret
      exact ⟨rfl, B1⟩
  · have hli1 : ¬ (s.length : Int) ≤ 4096 := by omega
    go_enter Tryd.func5, Tryd.ntmps5
    have c1 := HA.out w h0 m0
    go_wp2_with fail
    refine c1.mono ?_
    rintro e w1 ⟨rfl, b1⟩
    have h1 : 0 < w1.heap.size := Nat.lt_of_lt_of_le h0 b1.size
    have m1 := (b1.cell (p := ⟨0, 0, none⟩) h0).trans m0
    have B1 := Below.andThen B0 b1
    clear c1 b1 B0 m0
    go_wp2_with fail
    go_ret
    exact ⟨rfl, B1⟩

theorem sect10 (m : List UInt8) : sect m 10 = m := rfl
theorem sect11 (m : List UInt8) : sect m 11 = head m := rfl
theorem sect12 (m : List UInt8) : sect m 12 = text m := rfl

set_option maxHeartbeats 4000000 in
set_option maxRecDepth 100000 in
theorem whole_any (m : List UInt8) (c : Nat) (hc : c < 18446744073709551616) (M : Int) (w : World) (h0 : 0 < w.heap.size) (m0 : w.cell? ⟨0, 0, none⟩ = some (.int .i64 M)) (hm : m.length < 4294967281) :
    Calls Tryd.prog 6 #[.string (S m), .int .u64 (c : Nat)] w fun e w' => e = .returned (.bool true) ∧ Below w.heap.size w w' := by
  have hz := S_size m
  have HA := Lib.hid (fun W h0 hM => alive_any M W h0 hM)
  have B0 := Below.refl w.heap.size w
  have H1 := Lib.hid (fun W (_ : 0 < W.heap.size) hM => split_any m hm M W hM)
  have H2 := Lib.hid (fun W (_ : 0 < W.heap.size) hM => sect_any m hm 11 M W hM)
  have H3 := Lib.hid (fun W (_ : 0 < W.heap.size) hM => sect_any m hm 12 M W hM)
  have H4 := Lib.hid (fun W (_ : 0 < W.heap.size) hM => sect_any m hm 10 M W hM)
  rw [sect11] at H2
  rw [sect12] at H3
  rw [sect10] at H4
  have HC := Lib.hid (fun f n W => cut_any m (by omega) f n W)
  have e1 := S_append (head m) (text m)
  rw [head_text] at e1
  have hz1 := S_size (head m)
  have hz2 := S_size (text m)
  have hl1 : (head m).length + (text m).length = m.length := by rw [← List.length_append, head_text]
  generalize head m = a at *
  generalize text m = b at *
  have hla : a.length < 4294967281 := by omega
  have hlb : b.length < 4294967281 := by omega
  clear hl1
  obtain ⟨n, hn⟩ : ∃ n, c % 64 = n := ⟨_, rfl⟩
  have hn64 : n < 64 := by omega
  have q1 : Int.tmod (c : Int) 64 = (n : Int) := by rw [Int.tmod_eq_emod_of_nonneg (by omega)]; omega
  have q1' : (c : Int) % 64 = (n : Int) := by omega
  obtain ⟨n1, hn1⟩ : ∃ n1, 1 + n = n1 := ⟨_, rfl⟩
  have q2 : IntKind.u64.wrap (1 + (n : Int)) = (n1 : Int) := by rw [IntWalk.u64_in _ (by omega)]; omega
  have hn1' : 1 ≤ n1 ∧ n1 ≤ 64 := by omega
  clear hn hn1 hn64
  by_cases hl : m.length ≤ 4096
  rotate_left
  · have hli : ¬ (m.length : Int) ≤ 4096 := by omega
    go_enter Tryd.func6, Tryd.ntmps6
    have c1 := HA.out w h0 m0
    go_wp2_with fail
    refine c1.mono ?_
    rintro e w1 ⟨rfl, b1⟩
    have h1 : 0 < w1.heap.size := Nat.lt_of_lt_of_le h0 b1.size
    have m1 := (b1.cell (p := ⟨0, 0, none⟩) h0).trans m0
    have B1 := Below.andThen B0 b1
    clear c1 b1 B0 m0
    have c2 := H1.out w1 h1 m1
    go_wp2_with fail
    refine c2.mono ?_
    rintro e w2 ⟨rfl, b2⟩
    have h2 : 0 < w2.heap.size := Nat.lt_of_lt_of_le h1 b2.size
    have m2 := (b2.cell (p := ⟨0, 0, none⟩) h1).trans m1
    have B2 := Below.andThen B1 b2
    clear c2 b2 B1 m1
    have c3 := H2.out w2 h2 m2
    go_wp2_with fail
    refine c3.mono ?_
    rintro e w3 ⟨rfl, b3⟩
    have h3 : 0 < w3.heap.size := Nat.lt_of_lt_of_le h2 b3.size
    have m3 := (b3.cell (p := ⟨0, 0, none⟩) h2).trans m2
    have B3 := Below.andThen B2 b3
    clear c3 b3 B2 m2
    have c4 := H3.out w3 h3 m3
    go_wp2_with fail
    refine c4.mono ?_
    rintro e w4 ⟨rfl, b4⟩
    have h4 : 0 < w4.heap.size := Nat.lt_of_lt_of_le h3 b4.size
    have m4 := (b4.cell (p := ⟨0, 0, none⟩) h3).trans m3
    have B4 := Below.andThen B3 b4
    clear c4 b4 B3 m3
    have c5 := H4.out w4 h4 m4
    go_wp2_with fail
    refine c5.mono ?_
    rintro e w5 ⟨rfl, b5⟩
    have h5 : 0 < w5.heap.size := Nat.lt_of_lt_of_le h4 b5.size
    have m5 := (b5.cell (p := ⟨0, 0, none⟩) h4).trans m4
    have B5 := Below.andThen B4 b5
    clear c5 b5 B4 m4
    clear HA H1 H2 H3 H4 HC
    go_wp2_with fail
    go_ret
    exact ⟨rfl, B5⟩
  · have hli : (m.length : Int) ≤ 4096 := by omega
    go_enter Tryd.func6, Tryd.ntmps6
    have c1 := HA.out w h0 m0
    go_wp2_with fail
    refine c1.mono ?_
    rintro e w1 ⟨rfl, b1⟩
    have h1 : 0 < w1.heap.size := Nat.lt_of_lt_of_le h0 b1.size
    have m1 := (b1.cell (p := ⟨0, 0, none⟩) h0).trans m0
    have B1 := Below.andThen B0 b1
    clear c1 b1 B0 m0
    have c2 := H1.out w1 h1 m1
    go_wp2_with fail
    refine c2.mono ?_
    rintro e w2 ⟨rfl, b2⟩
    have h2 : 0 < w2.heap.size := Nat.lt_of_lt_of_le h1 b2.size
    have m2 := (b2.cell (p := ⟨0, 0, none⟩) h1).trans m1
    have B2 := Below.andThen B1 b2
    clear c2 b2 B1 m1
    have c3 := H2.out w2 h2 m2
    go_wp2_with fail
    refine c3.mono ?_
    rintro e w3 ⟨rfl, b3⟩
    have h3 : 0 < w3.heap.size := Nat.lt_of_lt_of_le h2 b3.size
    have m3 := (b3.cell (p := ⟨0, 0, none⟩) h2).trans m2
    have B3 := Below.andThen B2 b3
    clear c3 b3 B2 m2
    have c4 := H3.out w3 h3 m3
    go_wp2_with fail
    refine c4.mono ?_
    rintro e w4 ⟨rfl, b4⟩
    have h4 : 0 < w4.heap.size := Nat.lt_of_lt_of_le h3 b4.size
    have m4 := (b4.cell (p := ⟨0, 0, none⟩) h3).trans m3
    have B4 := Below.andThen B3 b4
    clear c4 b4 B3 m3
    have c5 := H4.out w4 h4 m4
    go_wp2_with fail
    refine c5.mono ?_
    rintro e w5 ⟨rfl, b5⟩
    have h5 : 0 < w5.heap.size := Nat.lt_of_lt_of_le h4 b5.size
    have m5 := (b5.cell (p := ⟨0, 0, none⟩) h4).trans m4
    have B5 := Below.andThen B4 b5
    clear c5 b5 B4 m4
    clear HA H1 H2 H3 H4 hla hlb hz1 hz2 e1
    go_wp2_with fail
    go_loopw [7, 8] (fun s f wr => ∃ g : Nat, f = .int .u64 g ∧ g ≤ 4160 ∧ s = .string (S (m.take g)) ∧ Below w.heap.size w wr)
      (fun _ f _ => m.length + 64 - (intOf f).toNat)
    case atStart => exact ⟨0, rfl, by omega, rfl, B5⟩
    case round =>
      obtain ⟨g, rfl, hg, rfl, hB⟩ := hrel
      have w0 : IntKind.u64.wrap (m.length : Int) = (m.length : Int) := IntWalk.u64_in _ (by omega)
      by_cases hlt : g < m.length
      · have hgi : (g : Int) < (m.length : Int) := by omega
        have hc1 := HC.out g n1 wr
        have htk : m.take g ++ cutL m g n1 = m.take (g + n1) := by unfold cutL; rw [← List.take_add]
        have hcl : (cutL m g n1).length = min n1 (m.length - g) := by unfold cutL; rw [List.length_take, List.length_drop]
        obtain ⟨l, hcl2⟩ : ∃ l, min n1 (m.length - g) = l := ⟨_, rfl⟩
        rw [hcl2] at hcl
        have e2 := S_append (m.take g) (cutL m g n1)
        rw [htk] at e2
        have hz3 := S_size (cutL m g n1)
        have hz4 := S_size (m.take g)
        have htl : (m.take g).length = g := by rw [List.length_take]; omega
        rw [hcl] at hz3
        rw [htl] at hz4
        obtain ⟨g1, hg1⟩ : ∃ g1, g + n1 = g1 := ⟨_, rfl⟩
        rw [hg1] at e2
        have q3 : IntKind.u64.wrap ((g : Int) + (n1 : Int)) = (g1 : Int) := by rw [IntWalk.u64_in _ (by omega)]; omega
        have hl0 : ((l : Int) == 0) = false := beq_eq_false_iff_ne.2 (by omega)
        have hl2 : (l : Int) ≤ (n1 : Int) := by omega
        have q4 : IntKind.u64.wrap (l : Int) = (l : Int) := IntWalk.u64_in _ (by omega)
        have HG : Hid (g < g1 ∧ g1 ≤ 4160) := Lib.hid ⟨by omega, by omega⟩
        have hl3 : l ≤ 64 := by omega
        clear htk hcl hcl2 htl hg1
        generalize cutL m g n1 = t at *
        generalize m.take g = s at *
        obtain ⟨s1, hs1⟩ : ∃ s1, m.take g1 = s1 := ⟨_, rfl⟩
        have HS1 := Lib.hid hs1
        rw [hs1] at e2
        clear hs1
        go_wp2_with fail
        refine hc1.mono ?_
        rintro e w9 ⟨rfl, b9⟩
        have B9 := Below.after hB b9 (Nat.le_refl _)
        clear hc1 b9
        go_wp2_with fail
        go_roundw
        case rel => exact ⟨g1, rfl, HG.out.2, by rw [HS1.out], B9⟩
        case measure =>
          have := HG.out
          simp [intOf]; omega
      · have hgi : ¬ (g : Int) < (m.length : Int) := by omega
        have htk : m.take g = m := List.take_of_length_le (by omega)
        rw [htk]
        clear htk
        go_wp2_with fail
        go_ret
        exact ⟨rfl, hB⟩
end Go.Proofs.YtecemfebbonkpaaDoor.pt
