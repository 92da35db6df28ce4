/-
  The law PartFirst, walked. Written by gen_first.py.
-/
import Derived.Test.YtecemfebbonkpaaDoorPtFirst
namespace Go.Proofs.YtecemfebbonkpaaDoor.pt
open Go.RowKit Go.Shelf fl
attribute [local go_sem] Oper.semAt_some

/-- The message as the law makes it: a y ahead of one that begins with a blank. -/
def safe (m : List UInt8) : List UInt8 := if goesOn m = true then 121 :: m else m
theorem safe_no (m : List UInt8) : goesOn (safe m) = false := by
  unfold safe
  by_cases h : goesOn m = true
  · rw [if_pos h]; rfl
  · rw [if_neg h]; simpa using h
def nameL (n : List UInt8) : List UInt8 := if plainL n = [] then [120] else plainL n
theorem name_all (n : List UInt8) : ∀ c ∈ nameL n, word1 c = true := by
  unfold nameL
  split
  · intro c hc; rw [List.mem_singleton] at hc; subst hc; decide
  · exact plain_all n
theorem name_ne (n : List UInt8) : nameL n ≠ [] := by
  unfold nameL
  split
  · simp
  · assumption
theorem plain_le (l : List UInt8) : (plainL l).length ≤ l.length := List.length_filter_le _ _

set_option maxHeartbeats 8000000 in
set_option maxRecDepth 100000 in
theorem first_any (m name value : List UInt8) (hm : m.length ≤ 1048576) (hn : name.length ≤ 1048576) (hv : value.length ≤ 1048576) (M : Int) (w : World) (h0 : 0 < w.heap.size) (m0 : w.cell? ⟨0, 0, none⟩ = some (.int .i64 M)) :
    Calls Tryd.prog 7 #[.string (S m), .string (S name), .string (S value)] w fun e w' => e = .returned (.bool true) ∧ Below w.heap.size w w' := by
  have hz := S_size m
  have HA := Lib.hid (fun W h0 hM => alive_any M W h0 hM)
  have B0 := Below.refl w.heap.size w
  have HP1 := Lib.hid (fun W => plain_any name (by omega) W)
  have HP2 := Lib.hid (fun W => plain_any value (by omega) W)
  have hln := plain_le name
  have hlv := plain_le value
  have hfs := first_field (name_all name) (plain_all value) (name_ne name) (safe_no m)
  have hsl : (safe m).length ≤ m.length + 1 := by unfold safe; split <;> simp
  have hnl : (nameL name).length ≤ name.length + 1 := by
    unfold nameL
    split
    · simp
    · omega
  have HF := Lib.hid (fun W h0 hM => field_any (nameL name ++ (58 :: (plainL value ++ (13 :: 10 :: safe m)))) (nameL name) (by simp only [List.length_append, List.length_cons]; omega) (by omega) M W h0 hM)
  rw [hfs] at HF
  have e1 : S (nameL name) ++ ⟨#[58]⟩ = S (nameL name ++ [58]) := S_append _ [58]
  have e2 := S_append (nameL name ++ [58]) (plainL value)
  have e3 : S (nameL name ++ [58] ++ plainL value) ++ ⟨#[13, 10]⟩ = S (nameL name ++ [58] ++ plainL value ++ [13, 10]) := S_append _ [13, 10]
  have e4 := S_append (nameL name ++ [58] ++ plainL value ++ [13, 10]) (safe m)
  rw [show nameL name ++ [58] ++ plainL value ++ [13, 10] ++ safe m = nameL name ++ (58 :: (plainL value ++ (13 :: 10 :: safe m))) by simp] at e4
  have z1 := S_size (nameL name)
  have z2 := S_size (nameL name ++ [58])
  have z3 := S_size (nameL name ++ [58] ++ plainL value)
  have z4 := S_size (nameL name ++ [58] ++ plainL value ++ [13, 10])
  have z5 := S_size (plainL value)
  have z6 := S_size (safe m)
  have y2 : (nameL name ++ [58]).length ≤ 1048580 := by simp; omega
  have y3 : (nameL name ++ [58] ++ plainL value).length ≤ 3000000 := by simp; omega
  have y4 : (nameL name ++ [58] ++ plainL value ++ [13, 10]).length ≤ 3000010 := by simp; omega
  have y1 : (nameL name).length ≤ 1048577 := by omega
  have y6 : (safe m).length ≤ 1048577 := by omega
  clear hfs
  have HNL : Hid ((plainL name = [] → nameL name = [120]) ∧ (plainL name ≠ [] → nameL name = plainL name)) := Lib.hid ⟨fun h => by unfold nameL; rw [if_pos h], fun h => by unfold nameL; rw [if_neg h]⟩
  have HSM : Hid ((goesOn m = true → safe m = 121 :: m) ∧ (goesOn m = false → safe m = m)) := Lib.hid ⟨fun h => by unfold safe; rw [if_pos h], fun h => by unfold safe; rw [if_neg (by rw [h]; decide)]⟩
  generalize nameL name ++ (58 :: (plainL value ++ (13 :: 10 :: safe m))) = msg at *
  generalize nameL name ++ [58] ++ plainL value ++ [13, 10] = x4 at *
  generalize nameL name ++ [58] ++ plainL value = x3 at *
  generalize nameL name ++ [58] = x2 at *
  obtain ⟨pv, hpv⟩ : ∃ pv, plainL value = pv := ⟨_, rfl⟩
  rw [hpv] at HP2 e2 z5 hlv HF
  clear hpv
  have hself : (found [(nameL name, pv)] (nameL name)) = some (nameL name, pv) := by unfold found; rw [List.find?_cons_of_pos (by simp)]
  clear hself hsl hnl
  by_cases hpe : plainL name = []
  · have hnm := HNL.out.1 hpe
    rw [hpe] at HP1
    rw [hnm] at HF e1
    have e1' : (⟨#[120]⟩ : ByteArray) ++ ⟨#[58]⟩ = S x2 := e1
    have HF' : Hid (∀ (W : World), 0 < W.heap.size → W.cell? ⟨0, 0, none⟩ = some (.int .i64 M) → Calls Tryd.prog 17 #[.string (S msg), .string ⟨#[120]⟩] W fun e w' => e = .returned (.tuple #[.string (S pv), .bool true]) ∧ Below W.heap.size W w') := HF
    clear HF e1
    have HF := HF'
    clear HF'
    have z1' : ((⟨#[120]⟩ : ByteArray) ++ ⟨#[58]⟩).size = 2 := rfl
    clear hnm hpe HNL hln z1 y1 z1'
    rw [S_nil] at HP1
    cases m with
    | nil =>
      have hsm := HSM.out.2 rfl
      rw [hsm, S_nil] at e4
      clear hsm HSM z6 y6 hz hm
      rw [S_nil]
      go_enter Tryd.func7, Tryd.ntmps7
      have c1 := HA.out w h0 m0
      go_wp2_with fail
      refine c1.mono ?_
      rintro e w1 ⟨rfl, b1⟩
      have h1 : 0 < w1.heap.size := Nat.lt_of_lt_of_le h0 b1.size
      have m1 := (b1.cell (p := ⟨0, 0, none⟩) h0).trans m0
      have B1 := Below.andThen B0 b1
      clear c1 b1 B0 m0
      have c2 := HP1.out w1
      go_wp2_with fail
      refine c2.mono ?_
      rintro e w2 ⟨rfl, b2⟩
      have h2 : 0 < w2.heap.size := Nat.lt_of_lt_of_le h1 b2.size
      have m2 := (b2.cell (p := ⟨0, 0, none⟩) h1).trans m1
      have B2 := Below.andThen B1 b2
      clear c2 b2 B1 m1
      have c3 := HP2.out w2
      go_wp2_with fail
      refine c3.mono ?_
      rintro e w3 ⟨rfl, b3⟩
      have h3 : 0 < w3.heap.size := Nat.lt_of_lt_of_le h2 b3.size
      have m3 := (b3.cell (p := ⟨0, 0, none⟩) h2).trans m2
      have B3 := Below.andThen B2 b3
      clear c3 b3 B2 m2
      have c4 := HF.out w3 h3 m3
      go_wp2_with fail
      refine c4.mono ?_
      rintro e w4 ⟨rfl, b4⟩
      have h4 : 0 < w4.heap.size := Nat.lt_of_lt_of_le h3 b4.size
      have m4 := (b4.cell (p := ⟨0, 0, none⟩) h3).trans m3
      have B4 := Below.andThen B3 b4
      clear c4 b4 B3 m3
      clear HA HP1 HP2 HF
      go_wp2_with fail
      go_ret
      exact ⟨rfl, B4⟩
    | cons c r =>
      have hlt0 : 0 < (S (c :: r)).size := by rw [S_size]; simp
      have hli0 : (0 : Int) < ((c :: r).length : Int) := by rw [List.length_cons]; omega
      obtain ⟨x, hx⟩ : ∃ x : Nat, c.toNat = x := ⟨_, rfl⟩
      have hg0 : ((S (c :: r))[0]'hlt0).toNat = x := hx
      have hq1 : ((x : Int) == 32) = (c == 32) := by rw [Bool.eq_iff_iff, beq_iff_eq, beq_iff_eq, ← UInt8.toNat_inj, hx]; show _ ↔ x = 32; omega
      have hq2 : ((x : Int) == 9) = (c == 9) := by rw [Bool.eq_iff_iff, beq_iff_eq, beq_iff_eq, ← UInt8.toNat_inj, hx]; show _ ↔ x = 9; omega
      have hgo : goesOn (c :: r) = (c == 32 || c == 9) := rfl
      clear hx
      cases hb1 : c == 32 with
      | true =>
        rw [hb1] at hq1 hgo
        have hsm := HSM.out.1 hgo
        rw [hsm] at e4 z6 y6
        have e0 : (⟨#[121]⟩ : ByteArray) ++ S (c :: r) = S (121 :: c :: r) := S_append [121] _
        clear hsm HSM hgo hb1 hq2
        generalize 121 :: c :: r = sm at *
        generalize c :: r = mm at *
        go_enter Tryd.func7, Tryd.ntmps7
        have c1 := HA.out w h0 m0
        go_wp2_with fail
        refine c1.mono ?_
        rintro e w1 ⟨rfl, b1⟩
        have h1 : 0 < w1.heap.size := Nat.lt_of_lt_of_le h0 b1.size
        have m1 := (b1.cell (p := ⟨0, 0, none⟩) h0).trans m0
        have B1 := Below.andThen B0 b1
        clear c1 b1 B0 m0
        have c2 := HP1.out w1
        go_wp2_with fail
        refine c2.mono ?_
        rintro e w2 ⟨rfl, b2⟩
        have h2 : 0 < w2.heap.size := Nat.lt_of_lt_of_le h1 b2.size
        have m2 := (b2.cell (p := ⟨0, 0, none⟩) h1).trans m1
        have B2 := Below.andThen B1 b2
        clear c2 b2 B1 m1
        have c3 := HP2.out w2
        go_wp2_with fail
        refine c3.mono ?_
        rintro e w3 ⟨rfl, b3⟩
        have h3 : 0 < w3.heap.size := Nat.lt_of_lt_of_le h2 b3.size
        have m3 := (b3.cell (p := ⟨0, 0, none⟩) h2).trans m2
        have B3 := Below.andThen B2 b3
        clear c3 b3 B2 m2
        have c4 := HF.out w3 h3 m3
        go_wp2_with fail
        refine c4.mono ?_
        rintro e w4 ⟨rfl, b4⟩
        have h4 : 0 < w4.heap.size := Nat.lt_of_lt_of_le h3 b4.size
        have m4 := (b4.cell (p := ⟨0, 0, none⟩) h3).trans m3
        have B4 := Below.andThen B3 b4
        clear c4 b4 B3 m3
        clear HA HP1 HP2 HF
        go_wp2_with fail
        go_ret
        exact ⟨rfl, B4⟩
      | false =>
        rw [hb1] at hq1 hgo
        cases hb2 : c == 9 with
        | true =>
          rw [hb2] at hq2 hgo
          have hsm := HSM.out.1 hgo
          rw [hsm] at e4 z6 y6
          have e0 : (⟨#[121]⟩ : ByteArray) ++ S (c :: r) = S (121 :: c :: r) := S_append [121] _
          clear hsm HSM hgo hb1 hb2
          generalize 121 :: c :: r = sm at *
          generalize c :: r = mm at *
          go_enter Tryd.func7, Tryd.ntmps7
          have c1 := HA.out w h0 m0
          go_wp2_with fail
          refine c1.mono ?_
          rintro e w1 ⟨rfl, b1⟩
          have h1 : 0 < w1.heap.size := Nat.lt_of_lt_of_le h0 b1.size
          have m1 := (b1.cell (p := ⟨0, 0, none⟩) h0).trans m0
          have B1 := Below.andThen B0 b1
          clear c1 b1 B0 m0
          have c2 := HP1.out w1
          go_wp2_with fail
          refine c2.mono ?_
          rintro e w2 ⟨rfl, b2⟩
          have h2 : 0 < w2.heap.size := Nat.lt_of_lt_of_le h1 b2.size
          have m2 := (b2.cell (p := ⟨0, 0, none⟩) h1).trans m1
          have B2 := Below.andThen B1 b2
          clear c2 b2 B1 m1
          have c3 := HP2.out w2
          go_wp2_with fail
          refine c3.mono ?_
          rintro e w3 ⟨rfl, b3⟩
          have h3 : 0 < w3.heap.size := Nat.lt_of_lt_of_le h2 b3.size
          have m3 := (b3.cell (p := ⟨0, 0, none⟩) h2).trans m2
          have B3 := Below.andThen B2 b3
          clear c3 b3 B2 m2
          have c4 := HF.out w3 h3 m3
          go_wp2_with fail
          refine c4.mono ?_
          rintro e w4 ⟨rfl, b4⟩
          have h4 : 0 < w4.heap.size := Nat.lt_of_lt_of_le h3 b4.size
          have m4 := (b4.cell (p := ⟨0, 0, none⟩) h3).trans m3
          have B4 := Below.andThen B3 b4
          clear c4 b4 B3 m3
          clear HA HP1 HP2 HF
          go_wp2_with fail
          go_ret
          exact ⟨rfl, B4⟩
        | false =>
          rw [hb2] at hq2 hgo
          have hsm := HSM.out.2 hgo
          rw [hsm] at e4 z6 y6
          clear hsm HSM hgo hb1 hb2
          generalize c :: r = mm at *
          go_enter Tryd.func7, Tryd.ntmps7
          have c1 := HA.out w h0 m0
          go_wp2_with fail
          refine c1.mono ?_
          rintro e w1 ⟨rfl, b1⟩
          have h1 : 0 < w1.heap.size := Nat.lt_of_lt_of_le h0 b1.size
          have m1 := (b1.cell (p := ⟨0, 0, none⟩) h0).trans m0
          have B1 := Below.andThen B0 b1
          clear c1 b1 B0 m0
          have c2 := HP1.out w1
          go_wp2_with fail
          refine c2.mono ?_
          rintro e w2 ⟨rfl, b2⟩
          have h2 : 0 < w2.heap.size := Nat.lt_of_lt_of_le h1 b2.size
          have m2 := (b2.cell (p := ⟨0, 0, none⟩) h1).trans m1
          have B2 := Below.andThen B1 b2
          clear c2 b2 B1 m1
          have c3 := HP2.out w2
          go_wp2_with fail
          refine c3.mono ?_
          rintro e w3 ⟨rfl, b3⟩
          have h3 : 0 < w3.heap.size := Nat.lt_of_lt_of_le h2 b3.size
          have m3 := (b3.cell (p := ⟨0, 0, none⟩) h2).trans m2
          have B3 := Below.andThen B2 b3
          clear c3 b3 B2 m2
          have c4 := HF.out w3 h3 m3
          go_wp2_with fail
          refine c4.mono ?_
          rintro e w4 ⟨rfl, b4⟩
          have h4 : 0 < w4.heap.size := Nat.lt_of_lt_of_le h3 b4.size
          have m4 := (b4.cell (p := ⟨0, 0, none⟩) h3).trans m3
          have B4 := Below.andThen B3 b4
          clear c4 b4 B3 m3
          clear HA HP1 HP2 HF
          go_wp2_with fail
          go_ret
          exact ⟨rfl, B4⟩
  · have hnm := HNL.out.2 hpe
    have hne : (S (plainL name)).toList.isEmpty = false := S_empty_no (List.length_pos_iff.2 hpe)
    rw [hnm] at HF e1 z1 y1
    have HF' : Hid (∀ (W : World), 0 < W.heap.size → W.cell? ⟨0, 0, none⟩ = some (.int .i64 M) → Calls Tryd.prog 17 #[.string (S msg), .string (S (plainL name))] W fun e w' => e = .returned (.tuple #[.string (S pv), .bool true]) ∧ Below W.heap.size W w') := HF
    clear HF
    have HF := HF'
    clear HF' hnm hpe HNL
    generalize plainL name = pn at *
    cases m with
    | nil =>
      have hsm := HSM.out.2 rfl
      rw [hsm, S_nil] at e4
      clear hsm HSM z6 y6 hz hm
      rw [S_nil]
      go_enter Tryd.func7, Tryd.ntmps7
      have c1 := HA.out w h0 m0
      go_wp2_with fail
      refine c1.mono ?_
      rintro e w1 ⟨rfl, b1⟩
      have h1 : 0 < w1.heap.size := Nat.lt_of_lt_of_le h0 b1.size
      have m1 := (b1.cell (p := ⟨0, 0, none⟩) h0).trans m0
      have B1 := Below.andThen B0 b1
      clear c1 b1 B0 m0
      have c2 := HP1.out w1
      go_wp2_with fail
      refine c2.mono ?_
      rintro e w2 ⟨rfl, b2⟩
      have h2 : 0 < w2.heap.size := Nat.lt_of_lt_of_le h1 b2.size
      have m2 := (b2.cell (p := ⟨0, 0, none⟩) h1).trans m1
      have B2 := Below.andThen B1 b2
      clear c2 b2 B1 m1
      have c3 := HP2.out w2
      go_wp2_with fail
      refine c3.mono ?_
      rintro e w3 ⟨rfl, b3⟩
      have h3 : 0 < w3.heap.size := Nat.lt_of_lt_of_le h2 b3.size
      have m3 := (b3.cell (p := ⟨0, 0, none⟩) h2).trans m2
      have B3 := Below.andThen B2 b3
      clear c3 b3 B2 m2
      have c4 := HF.out w3 h3 m3
      go_wp2_with fail
      refine c4.mono ?_
      rintro e w4 ⟨rfl, b4⟩
      have h4 : 0 < w4.heap.size := Nat.lt_of_lt_of_le h3 b4.size
      have m4 := (b4.cell (p := ⟨0, 0, none⟩) h3).trans m3
      have B4 := Below.andThen B3 b4
      clear c4 b4 B3 m3
      clear HA HP1 HP2 HF
      go_wp2_with fail
      go_ret
      exact ⟨rfl, B4⟩
    | cons c r =>
      have hlt0 : 0 < (S (c :: r)).size := by rw [S_size]; simp
      have hli0 : (0 : Int) < ((c :: r).length : Int) := by rw [List.length_cons]; omega
      obtain ⟨x, hx⟩ : ∃ x : Nat, c.toNat = x := ⟨_, rfl⟩
      have hg0 : ((S (c :: r))[0]'hlt0).toNat = x := hx
      have hq1 : ((x : Int) == 32) = (c == 32) := by rw [Bool.eq_iff_iff, beq_iff_eq, beq_iff_eq, ← UInt8.toNat_inj, hx]; show _ ↔ x = 32; omega
      have hq2 : ((x : Int) == 9) = (c == 9) := by rw [Bool.eq_iff_iff, beq_iff_eq, beq_iff_eq, ← UInt8.toNat_inj, hx]; show _ ↔ x = 9; omega
      have hgo : goesOn (c :: r) = (c == 32 || c == 9) := rfl
      clear hx
      cases hb1 : c == 32 with
      | true =>
        rw [hb1] at hq1 hgo
        have hsm := HSM.out.1 hgo
        rw [hsm] at e4 z6 y6
        have e0 : (⟨#[121]⟩ : ByteArray) ++ S (c :: r) = S (121 :: c :: r) := S_append [121] _
        clear hsm HSM hgo hb1 hq2
        generalize 121 :: c :: r = sm at *
        generalize c :: r = mm at *
        go_enter Tryd.func7, Tryd.ntmps7
        have c1 := HA.out w h0 m0
        go_wp2_with fail
        refine c1.mono ?_
        rintro e w1 ⟨rfl, b1⟩
        have h1 : 0 < w1.heap.size := Nat.lt_of_lt_of_le h0 b1.size
        have m1 := (b1.cell (p := ⟨0, 0, none⟩) h0).trans m0
        have B1 := Below.andThen B0 b1
        clear c1 b1 B0 m0
        have c2 := HP1.out w1
        go_wp2_with fail
        refine c2.mono ?_
        rintro e w2 ⟨rfl, b2⟩
        have h2 : 0 < w2.heap.size := Nat.lt_of_lt_of_le h1 b2.size
        have m2 := (b2.cell (p := ⟨0, 0, none⟩) h1).trans m1
        have B2 := Below.andThen B1 b2
        clear c2 b2 B1 m1
        have c3 := HP2.out w2
        go_wp2_with fail
        refine c3.mono ?_
        rintro e w3 ⟨rfl, b3⟩
        have h3 : 0 < w3.heap.size := Nat.lt_of_lt_of_le h2 b3.size
        have m3 := (b3.cell (p := ⟨0, 0, none⟩) h2).trans m2
        have B3 := Below.andThen B2 b3
        clear c3 b3 B2 m2
        have c4 := HF.out w3 h3 m3
        go_wp2_with fail
        refine c4.mono ?_
        rintro e w4 ⟨rfl, b4⟩
        have h4 : 0 < w4.heap.size := Nat.lt_of_lt_of_le h3 b4.size
        have m4 := (b4.cell (p := ⟨0, 0, none⟩) h3).trans m3
        have B4 := Below.andThen B3 b4
        clear c4 b4 B3 m3
        clear HA HP1 HP2 HF
        go_wp2_with fail
        go_ret
        exact ⟨rfl, B4⟩
      | false =>
        rw [hb1] at hq1 hgo
        cases hb2 : c == 9 with
        | true =>
          rw [hb2] at hq2 hgo
          have hsm := HSM.out.1 hgo
          rw [hsm] at e4 z6 y6
          have e0 : (⟨#[121]⟩ : ByteArray) ++ S (c :: r) = S (121 :: c :: r) := S_append [121] _
          clear hsm HSM hgo hb1 hb2
          generalize 121 :: c :: r = sm at *
          generalize c :: r = mm at *
          go_enter Tryd.func7, Tryd.ntmps7
          have c1 := HA.out w h0 m0
          go_wp2_with fail
          refine c1.mono ?_
          rintro e w1 ⟨rfl, b1⟩
          have h1 : 0 < w1.heap.size := Nat.lt_of_lt_of_le h0 b1.size
          have m1 := (b1.cell (p := ⟨0, 0, none⟩) h0).trans m0
          have B1 := Below.andThen B0 b1
          clear c1 b1 B0 m0
          have c2 := HP1.out w1
          go_wp2_with fail
          refine c2.mono ?_
          rintro e w2 ⟨rfl, b2⟩
          have h2 : 0 < w2.heap.size := Nat.lt_of_lt_of_le h1 b2.size
          have m2 := (b2.cell (p := ⟨0, 0, none⟩) h1).trans m1
          have B2 := Below.andThen B1 b2
          clear c2 b2 B1 m1
          have c3 := HP2.out w2
          go_wp2_with fail
          refine c3.mono ?_
          rintro e w3 ⟨rfl, b3⟩
          have h3 : 0 < w3.heap.size := Nat.lt_of_lt_of_le h2 b3.size
          have m3 := (b3.cell (p := ⟨0, 0, none⟩) h2).trans m2
          have B3 := Below.andThen B2 b3
          clear c3 b3 B2 m2
          have c4 := HF.out w3 h3 m3
          go_wp2_with fail
          refine c4.mono ?_
          rintro e w4 ⟨rfl, b4⟩
          have h4 : 0 < w4.heap.size := Nat.lt_of_lt_of_le h3 b4.size
          have m4 := (b4.cell (p := ⟨0, 0, none⟩) h3).trans m3
          have B4 := Below.andThen B3 b4
          clear c4 b4 B3 m3
          clear HA HP1 HP2 HF
          go_wp2_with fail
          go_ret
          exact ⟨rfl, B4⟩
        | false =>
          rw [hb2] at hq2 hgo
          have hsm := HSM.out.2 hgo
          rw [hsm] at e4 z6 y6
          clear hsm HSM hgo hb1 hb2
          generalize c :: r = mm at *
          go_enter Tryd.func7, Tryd.ntmps7
          have c1 := HA.out w h0 m0
          go_wp2_with fail
          refine c1.mono ?_
          rintro e w1 ⟨rfl, b1⟩
          have h1 : 0 < w1.heap.size := Nat.lt_of_lt_of_le h0 b1.size
          have m1 := (b1.cell (p := ⟨0, 0, none⟩) h0).trans m0
          have B1 := Below.andThen B0 b1
          clear c1 b1 B0 m0
          have c2 := HP1.out w1
          go_wp2_with fail
          refine c2.mono ?_
          rintro e w2 ⟨rfl, b2⟩
          have h2 : 0 < w2.heap.size := Nat.lt_of_lt_of_le h1 b2.size
          have m2 := (b2.cell (p := ⟨0, 0, none⟩) h1).trans m1
          have B2 := Below.andThen B1 b2
          clear c2 b2 B1 m1
          have c3 := HP2.out w2
          go_wp2_with fail
          refine c3.mono ?_
          rintro e w3 ⟨rfl, b3⟩
          have h3 : 0 < w3.heap.size := Nat.lt_of_lt_of_le h2 b3.size
          have m3 := (b3.cell (p := ⟨0, 0, none⟩) h2).trans m2
          have B3 := Below.andThen B2 b3
          clear c3 b3 B2 m2
          have c4 := HF.out w3 h3 m3
          go_wp2_with fail
          refine c4.mono ?_
          rintro e w4 ⟨rfl, b4⟩
          have h4 : 0 < w4.heap.size := Nat.lt_of_lt_of_le h3 b4.size
          have m4 := (b4.cell (p := ⟨0, 0, none⟩) h3).trans m3
          have B4 := Below.andThen B3 b4
          clear c4 b4 B3 m3
          clear HA HP1 HP2 HF
          go_wp2_with fail
          go_ret
          exact ⟨rfl, B4⟩
end Go.Proofs.YtecemfebbonkpaaDoor.pt
