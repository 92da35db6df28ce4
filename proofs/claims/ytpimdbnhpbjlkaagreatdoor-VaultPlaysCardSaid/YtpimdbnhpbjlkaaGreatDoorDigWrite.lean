/-
  What the program's Write answers.
-/
import Derived.Test.YtpimdbnhpbjlkaaGreatDoorDigHash
import Derived.Deep.RegionWith
namespace Go.Proofs.YtpimdbnhpbjlkaaGreatDoor.dg
open Go.RowKit

theorem hcells_state (s s' : St) (r : List UInt8) (n : Nat) : (((((((((hcells s r n).setIfInBounds 0 (.int .u32 (s'.a : Nat))).setIfInBounds 1 (.int .u32 (s'.b : Nat))).setIfInBounds 2 (.int .u32 (s'.c : Nat))).setIfInBounds 3 (.int .u32 (s'.d : Nat))).setIfInBounds 4 (.int .u32 (s'.e : Nat))).setIfInBounds 5 (.int .u32 (s'.f : Nat))).setIfInBounds 6 (.int .u32 (s'.g : Nat))).setIfInBounds 7 (.int .u32 (s'.h : Nat))) = hcells s' r n := by simp [hcells]
theorem hcells_rest (s : St) (r r' : List UInt8) (n : Nat) : (hcells s r n).setIfInBounds 8 (.string (S r')) = hcells s r' n := by simp [hcells]
theorem hcells_size (s : St) (r : List UInt8) (n n' : Nat) : (hcells s r n).setIfInBounds 9 (.int .i64 (n' : Nat)) = hcells s r n' := by simp [hcells]
theorem Arr.state {w : World} {b : Nat} {s : St} {r : List UInt8} {n : Nat} (h : Arr w b 111 (hcells s r n)) (s' : St) :
    Arr ((((((((w.setCell ⟨b, 0, none⟩ (.int .u32 (s'.a : Nat))).setCell ⟨b, 1, none⟩ (.int .u32 (s'.b : Nat))).setCell ⟨b, 2, none⟩ (.int .u32 (s'.c : Nat))).setCell ⟨b, 3, none⟩ (.int .u32 (s'.d : Nat))).setCell ⟨b, 4, none⟩ (.int .u32 (s'.e : Nat))).setCell ⟨b, 5, none⟩ (.int .u32 (s'.f : Nat))).setCell ⟨b, 6, none⟩ (.int .u32 (s'.g : Nat))).setCell ⟨b, 7, none⟩ (.int .u32 (s'.h : Nat))) b 111 (hcells s' r n) := by
  have := (((((((h.set 0 (.int .u32 (s'.a : Nat))).set 1 (.int .u32 (s'.b : Nat))).set 2 (.int .u32 (s'.c : Nat))).set 3 (.int .u32 (s'.d : Nat))).set 4 (.int .u32 (s'.e : Nat))).set 5 (.int .u32 (s'.f : Nat))).set 6 (.int .u32 (s'.g : Nat))).set 7 (.int .u32 (s'.h : Nat))
  rw [hcells_state] at this
  exact this
theorem Touch.state {b : Nat} {a w : World} (h : Touch b a w) (s' : St) : Touch b a ((((((((w.setCell ⟨b, 0, none⟩ (.int .u32 (s'.a : Nat))).setCell ⟨b, 1, none⟩ (.int .u32 (s'.b : Nat))).setCell ⟨b, 2, none⟩ (.int .u32 (s'.c : Nat))).setCell ⟨b, 3, none⟩ (.int .u32 (s'.d : Nat))).setCell ⟨b, 4, none⟩ (.int .u32 (s'.e : Nat))).setCell ⟨b, 5, none⟩ (.int .u32 (s'.f : Nat))).setCell ⟨b, 6, none⟩ (.int .u32 (s'.g : Nat))).setCell ⟨b, 7, none⟩ (.int .u32 (s'.h : Nat))) :=
  (((((((h.setCell 0 _).setCell 1 _).setCell 2 _).setCell 3 _).setCell 4 _).setCell 5 _).setCell 6 _).setCell 7 _
theorem Keys.touch {b : Nat} {w w' : World} (h : Keys w) (t : Touch b w w') (hb : 0 < b) : Keys w' := fun i hi => (t.cell (p := ⟨0, i, none⟩) h.pos (by simp; omega)).trans (h i hi)
theorem S_blk (l : List UInt8) (i : Nat) : (S l).extract (64 * i) (64 * i + 64) = S (blk l i) := by
  apply ByteArray.ext
  apply Array.toList_inj.1
  rw [Lib.extract_data, S_data, S_data]
  unfold blk
  congr 1
  omega

set_option maxHeartbeats 4000000 in
set_option maxRecDepth 100000 in
theorem write_any (b : Nat) (st : St) (hst : st.ok) (r : List UInt8) (n : Nat) (l : List UInt8) (w : World) (hK : Keys w) (hb0 : 0 < b) (aH : Arr w b 111 (hcells st r n)) (hn : n + l.length ≤ 281474976710656) (hl : r.length + l.length ≤ 281474976710656) :
    Calls Tryz.prog 50 #[.pointer (some ⟨b, 0, none⟩), .string (S l)] w fun e w' => e = .returned (.tuple #[]) ∧ Arr w' b 111 (hcells (feed st (r ++ l) ((r ++ l).length / 64)) ((r ++ l).drop (64 * ((r ++ l).length / 64))) (n + l.length)) ∧ Touch b w w' := by
  have hzr := S_size r
  have hzl := S_size l
  have hcat := S_append r l
  have hlt := aH.lt
  have hlen : (r ++ l).length = r.length + l.length := List.length_append
  have x8 := aH.cell (j := 8) (v := .string (S r)) rfl
  go_enter Tryz.func50, Tryz.ntmps50
  go_upto_region 2 with (fail)
  have hz := S_size (r ++ l)
  rw [hlen] at hz
  obtain ⟨t, ht⟩ : ∃ t, t = r ++ l := ⟨_, rfl⟩
  rw [← ht] at hz hlen ⊢
  clear hcat x8 hzr
  obtain ⟨q, hq⟩ : ∃ q, q = t.length / 64 := ⟨_, rfl⟩
  rw [← hlen] at hz
  have hq1 : ((t.length : Nat) : Int) / 64 = (q : Nat) := by omega
  have hq2 : 64 * q ≤ t.length := by omega
  have htl : t.length ≤ 281474976710656 := by omega
  have HQ := Lib.hid hq
  have HT := Lib.hid ht
  have HL := Lib.hid hlen
  clear hq ht hlen
  go_wp2_with fail
  go_loopw [19] (fun iv wr => ∃ i : Nat, iv = .int .i64 i ∧ i ≤ q ∧ Hid (Arr wr b 111 (hcells (feed st t i) r n)) ∧ Touch b w wr)
    (fun iv _ => q - (intOf iv).toNat)
  case atStart => exact ⟨0, rfl, Nat.zero_le _, aH, Touch.refl _ _⟩
  case round =>
    clear aH
    obtain ⟨i, rfl, hi, HA, hT⟩ := hrel
    by_cases hlt2 : i < q
    · have hi64 : 64 * i + 64 ≤ t.length := by omega
      have hok := feed_ok hst t i
      have hbl := blk_length hi64
      have hmix := fun W (hW : Keys W) => mix_any (feed st t i) hok (blk t i) hbl W hW
      obtain ⟨s', hs'⟩ : ∃ s', s' = feed st t (i + 1) := ⟨_, rfl⟩
      have hs2 : press (feed st t i) (blk t i) = s' := hs'.symm
      rw [hs2] at hmix
      have hsl := fun W => run_slice_string (P := Tryz.prog) W 9 (S t) .i64 .i64 ((i : Int) * 64) (((i : Int) + 1) * 64) Tryz.underlying9 (by omega) (by omega) (by rw [hz]; omega)
      have e1 : ((i : Int) * 64).toNat = 64 * i := by omega
      have e2 : (((i : Int) + 1) * 64).toNat = 64 * i + 64 := by omega
      simp only [e1, e2, S_blk] at hsl
      have aH := HA.out
      have hlt' := aH.lt
      have hKr : Keys wr.drew := (hK.touch hT hb0).drew
      have HS' := Lib.hid hs'
      clear hs' hs2 e1 e2 HA
      generalize feed st t i = s at *
      generalize blk t i = m at *
      have c0 : wr.drew.cell? _ = _ := aH.cell (j := 0) (v := (.int .u32 (s.a : Nat))) rfl
      have f0 := aH.frozen 0
      have c1 : wr.drew.cell? _ = _ := aH.cell (j := 1) (v := (.int .u32 (s.b : Nat))) rfl
      have f1 := aH.frozen 1
      have c2 : wr.drew.cell? _ = _ := aH.cell (j := 2) (v := (.int .u32 (s.c : Nat))) rfl
      have f2 := aH.frozen 2
      have c3 : wr.drew.cell? _ = _ := aH.cell (j := 3) (v := (.int .u32 (s.d : Nat))) rfl
      have f3 := aH.frozen 3
      have c4 : wr.drew.cell? _ = _ := aH.cell (j := 4) (v := (.int .u32 (s.e : Nat))) rfl
      have f4 := aH.frozen 4
      have c5 : wr.drew.cell? _ = _ := aH.cell (j := 5) (v := (.int .u32 (s.f : Nat))) rfl
      have f5 := aH.frozen 5
      have c6 : wr.drew.cell? _ = _ := aH.cell (j := 6) (v := (.int .u32 (s.g : Nat))) rfl
      have f6 := aH.frozen 6
      have c7 : wr.drew.cell? _ = _ := aH.cell (j := 7) (v := (.int .u32 (s.h : Nat))) rfl
      have f7 := aH.frozen 7
      have hii : (i : Int) < (q : Int) := by omega
      have hlt := hlt'
      have w1 : IntKind.i64.wrap ((i : Int) * 64) = (i : Int) * 64 := IntWalk.i64_in _ (by omega)
      have w2 : IntKind.i64.wrap ((i : Int) + 1) = (i : Int) + 1 := IntWalk.i64_in _ (by omega)
      have w3 : IntKind.i64.wrap (((i : Int) + 1) * 64) = ((i : Int) + 1) * 64 := IntWalk.i64_in _ (by omega)
      unfold stCells at hmix
      go_upto_region 6 with (fail)
      go_region_with ((go_at_call 76; refine (hmix _ hKr).mono ?_; rintro e w4 ⟨rfl, hb4⟩; have d0 : w4.cell? ⟨b, 0, none⟩ = some (.int .u32 (s.a : Nat)) := (by rw [hb4.cell (by simpa using hlt)]; simpa using c0); have d1 : w4.cell? ⟨b, 1, none⟩ = some (.int .u32 (s.b : Nat)) := (by rw [hb4.cell (by simpa using hlt)]; simpa using c1); have d2 : w4.cell? ⟨b, 2, none⟩ = some (.int .u32 (s.c : Nat)) := (by rw [hb4.cell (by simpa using hlt)]; simpa using c2); have d3 : w4.cell? ⟨b, 3, none⟩ = some (.int .u32 (s.d : Nat)) := (by rw [hb4.cell (by simpa using hlt)]; simpa using c3); have d4 : w4.cell? ⟨b, 4, none⟩ = some (.int .u32 (s.e : Nat)) := (by rw [hb4.cell (by simpa using hlt)]; simpa using c4); have d5 : w4.cell? ⟨b, 5, none⟩ = some (.int .u32 (s.f : Nat)) := (by rw [hb4.cell (by simpa using hlt)]; simpa using c5); have d6 : w4.cell? ⟨b, 6, none⟩ = some (.int .u32 (s.g : Nat)) := (by rw [hb4.cell (by simpa using hlt)]; simpa using c6); have d7 : w4.cell? ⟨b, 7, none⟩ = some (.int .u32 (s.h : Nat)) := (by rw [hb4.cell (by simpa using hlt)]; simpa using c7); have e0 : w4.frozen? ⟨b, 0, none⟩ = false := (by rw [hb4.frozen (by simpa using hlt)]; simpa using f0); have e1 : w4.frozen? ⟨b, 1, none⟩ = false := (by rw [hb4.frozen (by simpa using hlt)]; simpa using f1); have e2 : w4.frozen? ⟨b, 2, none⟩ = false := (by rw [hb4.frozen (by simpa using hlt)]; simpa using f2); have e3 : w4.frozen? ⟨b, 3, none⟩ = false := (by rw [hb4.frozen (by simpa using hlt)]; simpa using f3); have e4 : w4.frozen? ⟨b, 4, none⟩ = false := (by rw [hb4.frozen (by simpa using hlt)]; simpa using f4); have e5 : w4.frozen? ⟨b, 5, none⟩ = false := (by rw [hb4.frozen (by simpa using hlt)]; simpa using f5); have e6 : w4.frozen? ⟨b, 6, none⟩ = false := (by rw [hb4.frozen (by simpa using hlt)]; simpa using f6); have e7 : w4.frozen? ⟨b, 7, none⟩ = false := (by rw [hb4.frozen (by simpa using hlt)]; simpa using f7)))
      all_goals go_wp2_with fail
      all_goals have aH4 : Arr w4 b 111 (hcells s r n) := (hb4.block b (by simpa using hlt)).trans aH
      all_goals have hT4 : Touch b w w4 := hT.drew.trans (Touch.of_below hb4)
      all_goals have HA5 := Lib.hid (Arr.state aH4 s')
      all_goals have hT5 := Touch.state hT4 s'
      all_goals rw [HS'.out] at HA5
      all_goals go_roundw
      case rel => exact ⟨i + 1, by go_num, by omega, by rw [HS'.out]; exact HA5, hT5⟩
      case measure => simp [intOf]; omega
    · obtain rfl : i = q := by omega
      have aH := HA.out
      have hsl := fun W => run_slice_string_l (P := Tryz.prog) (w := W) (t := 9) (s := S t) Tryz.underlying9 .i64 ((i : Int) * 64) (by omega) (by rw [hz]; omega)
      have e1 : ((i : Int) * 64).toNat = 64 * i := by omega
      simp only [e1, S_drop] at hsl
      have f8 := aH.frozen 8
      have hlt' := aH.lt
      clear HA e1
      have hdl : (S (t.drop (64 * i))).size ≤ 281474976710656 := by rw [S_size, List.length_drop]; omega
      go_upto_region 8 with (fail)
      go_wp2_with (fail)
      refine (clone_any _ wr hdl).mono ?_
      rintro e w4 ⟨rfl, hb4⟩
      have aH4 : Arr w4 b 111 (hcells (feed st t i) r n) := (hb4.block b hlt').trans aH
      have hT4 : Touch b w w4 := hT.trans (Touch.of_below hb4)
      have c8 := aH4.cell (j := 8) (v := .string (S r)) rfl
      have f8' := aH4.frozen 8
      have c9 := aH4.cell (j := 9) (v := .int .i64 (n : Nat)) rfl
      have f9 := aH4.frozen 9
      have aH5 := aH4.set 8 (.string (S (t.drop (64 * i))))
      rw [hcells_rest] at aH5
      have aH6 := aH5.set 9 (.int .i64 ((n + l.length : Nat) : Int))
      rw [hcells_size] at aH6
      have hT6 := (hT4.setCell 8 (.string (S (t.drop (64 * i))))).setCell 9 (.int .i64 ((n + l.length : Nat) : Int))
      have HA6 := Lib.hid (And.intro aH6 hT6)
      clear hT aH f8 hb4 hT4 aH4 aH5 aH6 hT6
      go_wp2_with fail
      refine bodyPost_end (results_none rfl _ _ _) rfl ⟨rfl, ?_⟩
      have hfin := HA6.out
      rw [← HT.out, ← HQ.out, ← Int.natCast_add]
      exact hfin
end Go.Proofs.YtpimdbnhpbjlkaaGreatDoor.dg
