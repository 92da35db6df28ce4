/-
  Members as text: the program's Read.
-/
import Derived.Test.YtmgmhnohocamfaaGreatQmR8
import Derived.Test.YtmgmhnohocamfaaGreatTlGen
namespace Go.Proofs.YtmgmhnohocamfaaGreat.qm
set_option linter.unusedVariables false
open Go.RowKit
open rw (Arr But Own bnext below_box below_drew below_drewN)
open pk (RD At dec S S_size S_data)

theorem own_touch {α : Type} {s : rw.Sh α} {q B : Nat} {w w' : World} {v : Value} {l : List α} (h : Own s w B v l) (k : pk.Touch q w w') (hB : q < B) : Own s w' B v l :=
  own_keep h fun i hi e => k.block i hi (by have := (h.lt i e).1; omega)
theorem cnt5_le (st : Option Bs) : (cnt5 st).1 ≤ 5 := by
  cases st with
  | none => simp [cnt5]
  | some q =>
    cases q with
    | nil => simp [cnt5]
    | cons c r =>
      by_cases h : c.toNat ≤ 5 <;> simp [cnt5, h]
/-- Where the loop stands: k are read. -/
structure Rk (w wr : World) (rb : Nat) (s : Bs) (o : Value) (k : Nat) (st : Option Bs) : Prop where
  rs : Rs wr rb s (many k st).2
  own : Own noSh wr (rb + 1) o (many k st).1
  b : Below w.heap.size w wr
set_option maxHeartbeats 4000000 in
set_option maxRecDepth 100000 in
theorem read_any (s : Bs) (hs : s.length ≤ 281474976710656) (w : World) :
    Calls Tryz.prog 81 #[.string (S s)] w fun e w' => RdOut w w' (readS s) e := by
  have hO := pk.open_any (S s) w
  have k0 := below_box w (.cells #[.string (S s), .int .i64 0, .int .i64 0] 173)
  have hRs : Rs (w.alloc (.cells #[.string (S s), .int .i64 0, .int .i64 0] 173)) w.heap.size s (some s) := by
    refine ⟨?_, [], by simp⟩
    have := heap_alloc_new w (.cells #[.string (S s), .int .i64 0, .int .i64 0] 173)
    rw [Nat.sub_self]
    exact this
  rw [← read_eq]
  obtain ⟨rb, hrb⟩ : ∃ rb, w.heap.size = rb := ⟨_, rfl⟩
  have HQ : Hid (w.heap.size = rb) := hrb
  rw [hrb] at hO hRs
  have hC := count5_any rb s (by omega) (some s) _ hRs
  have HK := Lib.hid k0
  obtain ⟨n, hn⟩ : ∃ n, (cnt5 (some s)).1 = n := ⟨_, rfl⟩
  obtain ⟨st, hst⟩ : ∃ st, (cnt5 (some s)).2 = st := ⟨_, rfl⟩
  have hn5 := cnt5_le (some s)
  rw [hn] at hn5 hC
  rw [hst] at hC
  have HR : Hid (readP s = if (many n st).2 = some [] ∧ right (many n st).1 = true then ((many n st).1, 0) else ([], 4)) := by
    show _ = _
    simp only [readP, hn, hst]
  obtain ⟨R, hR⟩ : ∃ R, readP s = R := ⟨_, rfl⟩
  rw [hR] at HR ⊢
  clear hn hst hR k0 hRs hrb
  go_enter Tryz.func81, Tryz.ntmps81
  go_wp2_with fail
  with_reducible refine hO.mono ?_
  clear hO
  rintro e w1 ⟨rfl, rfl⟩
  go_wp2_with fail
  generalize w.alloc (.cells #[.string (S s), .int .i64 0, .int .i64 0] 173) = w1 at *
  with_reducible refine hC.mono ?_
  clear hC
  rintro e w2 ⟨rfl, h2, t2⟩
  have H2 : Hid (Rk w w2 rb s (.slice none 0 0) 0 st) := ⟨h2, Own.nil _ _ _, by
    have := t2.below (B := w.heap.size) (by rw [HQ.out]; exact Nat.le_refl _) HK.out.size
    exact HK.out.trans this⟩
  clear h2 t2 HK
  go_wp2_with fail
  go_loopw [5, 10] (fun o i wr => ∃ (k : Nat), i = .int .i64 k ∧ k ≤ n ∧ Hid (Rk w wr rb s o k st))
    (fun _ i _ => n - (intOf i).toNat)
  case atStart => exact ⟨0, rfl, Nat.zero_le _, H2⟩
  case round =>
    obtain ⟨k, rfl, hk, HI⟩ := hrel
    by_cases hlt : k < n
    · have hki : (k : Int) < (n : Int) := by omega
      have hC := count5_any rb s (by omega) _ wr HI.out.rs
      have hsn := many_snoc k st
      have hml := many_len k st
      obtain ⟨x, hx⟩ : ∃ x, (cnt5 (many k st).2).1 = x := ⟨_, rfl⟩
      rw [hx] at hC hsn
      have HSN := Lib.hid hsn
      have HML := Lib.hid hml
      clear hx hsn hml
      go_wp2_with fail
      with_reducible refine hC.mono ?_
      clear hC
      rintro e w3 ⟨rfl, h3, t3⟩
      have hrbl := Rs.lt h3
      have o3 := own_touch HI.out.own t3 (by omega)
      have b3 : Below w.heap.size w w3 := HI.out.b.trans (t3.below (by rw [HQ.out]; exact Nat.le_refl _) HI.out.b.size)
      obtain ⟨o', w', g1, g2, g3⟩ := rw.append_one noSh (rb + 1) _ _ (x : Int) (by rw [HML.out]; omega) w3 o3 hrbl
      have HR1 := Lib.hid g1
      have HO : Hid (Rk w w' rb s o' (k + 1) st) := by
        refine ⟨?_, ?_, b3.trans (g3.mono (by rw [HQ.out]; omega))⟩
        · rw [HSN.out]; exact h3.below g3 (by omega)
        · rw [HSN.out]; exact g2
      clear h3 t3 hrbl o3 b3 g1 g2 g3 HI
      go_wp2_with (at_builtin; refine rw.wpList_append_at _ _ _ rfl rfl _ _ _ _ rfl rfl HR1.out ?_)
      exact ⟨⟨k + 1, by rw [Int.natCast_add]; rfl, by omega, HO.out⟩, by simp only [intOf]; omega⟩
    · obtain rfl : k = n := by omega
      have hki : ¬ (k : Int) < (k : Int) := by omega
      have hE := endr_any rb s (by omega) _ wr HI.out.rs
      have HL := Lib.hid (many_len k st)
      have HIo := HI.out.own
      have HIr := HI.out.rs
      have HIb := HI.out.b
      clear HI
      generalize many k st = m at *
      obtain ⟨m1, m2⟩ := m
      simp only at HR HL hE HIo HIr
      have HIo := Lib.hid HIo
      have HIb := Lib.hid HIb
      have HIl := Lib.hid (Rs.lt HIr)
      clear HIr
      by_cases hm2 : m2 = some []
      · rw [decide_eq_true hm2] at hE
        have HM2 := Lib.hid hm2
        clear hm2
        go_wp2_with fail
        with_reducible refine hE.mono ?_
        clear hE
        rintro e w3 ⟨⟨f, rfl, hf⟩, t3⟩
        have o3 : Hid (Own noSh w3 (rb + 1) u5 m1) := own_touch HIo.out t3 (by omega)
        have b3 : Hid (Below w.heap.size w w3) := HIb.out.trans (t3.below (by rw [HQ.out]; exact Nat.le_refl _) HIb.out.size)
        have hRt := right_any u5 m1 (by rw [HL.out]; omega) w3 o3.out.sl
        have hf0 : (f == 0) = true := by simpa [bne] using hf
        have hf1 : (f != 0) = false := hf
        clear t3 HIo HIb HIl hf
        obtain ⟨q, hq⟩ : ∃ q, right m1 = q := ⟨_, rfl⟩
        rw [hq] at hRt
        cases q with
        | true =>
          have HX : Hid (R = (m1, 0)) := HR.out.trans (if_pos ⟨HM2.out, hq⟩)
          clear hq
          go_wp2_with fail
          with_reducible refine hRt.mono ?_
          clear hRt
          rintro e w4 ⟨rfl, rfl⟩
          go_wp2_with fail
          go_ret2
          exact rd_yes HX.out ⟨own_mono o3.out (by rw [HQ.out]; omega), b3.out⟩
        | false =>
          have HX : Hid (R = ([], 4)) := HR.out.trans (if_neg (fun h => by rw [hq] at h; cases h.2))
          clear hq
          go_wp2_with fail
          with_reducible refine hRt.mono ?_
          clear hRt
          rintro e w4 ⟨rfl, rfl⟩
          go_wp2_with fail
          go_ret2
          exact rd_no HX.out b3.out
      · rw [decide_eq_false hm2] at hE
        have HX : Hid (R = ([], 4)) := HR.out.trans (if_neg (fun h => hm2 h.1))
        clear hm2
        go_wp2_with fail
        with_reducible refine hE.mono ?_
        clear hE
        rintro e w3 ⟨⟨f, rfl, hf⟩, t3⟩
        have b3 : Hid (Below w.heap.size w w3) := HIb.out.trans (t3.below (by rw [HQ.out]; exact Nat.le_refl _) HIb.out.size)
        have hf0 : (f == 0) = false := by simpa [bne] using hf
        have hf1 : (f != 0) = true := hf
        clear t3 HIo HIb HIl hf
        go_wp2_with fail
        go_ret2
        exact rd_no HX.out b3.out
end Go.Proofs.YtmgmhnohocamfaaGreat.qm
