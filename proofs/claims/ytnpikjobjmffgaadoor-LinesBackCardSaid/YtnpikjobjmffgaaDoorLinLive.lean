/-
  Feed as a law meets it; what alive answers.
-/
import Derived.Test.YtnpikjobjmffgaaDoorLinAlive
namespace Go.Proofs.YtnpikjobjmffgaaDoor.li
open Go.RowKit

/-- A feeder of the law's own. -/
structure Fdb (B : Nat) (w : World) (q : Nat) (v : Value) (st : St) : Prop where
  f : Fd w q v st
  q : B ≤ q
  v : ∀ k, v.ownBlock = some k → B ≤ k
theorem Fdb.later {B : Nat} {w w' : World} {q : Nat} {v : Value} {st : St} (h : Fdb B w q v st) (hb : Below w.heap.size w w') : Fdb B w' q v st := ⟨h.f.later hb, h.q, h.v⟩
theorem Fdb.mono {B B' : Nat} {w : World} {q : Nat} {v : Value} {st : St} (h : Fdb B w q v st) (hb : B' ≤ B) : Fdb B' w q v st := ⟨h.f, Nat.le_trans hb h.q, fun k hk => Nat.le_trans hb (h.v k hk)⟩
/-- How Feed leaves a law's feeder. -/
structure FedB (B : Nat) (w : World) (q : Nat) (v : Value) (st : St) (s : List UInt8) (lv v' : Value) (w' : World) : Prop where
  f : Fdb B w' q v' (run st s).2
  o : HOwn w' w.heap.size lv (run st s).1
  a : Apart q v.ownBlock w w'
  b : Below B w w'
  n : ∀ k, v'.ownBlock = some k → v.ownBlock = some k ∨ w.heap.size ≤ k
theorem feed_law (B q : Nat) (v : Value) (st : St) (hst : st.ok) (s : List UInt8) (hs : s.length ≤ 1000000000) (w : World) (hF : Fdb B w q v st) (hE : Errs w) (hB : B ≤ w.heap.size) :
    Calls Tryd.prog 10 #[.pointer (some ⟨q, 0, none⟩), .string (S s)] w fun e w' => ∃ lv v', e = .returned lv ∧ FedB B w q v st s lv v' w' := by
  refine (feed_all q v st hst s hs w hF.f hE).mono ?_
  rintro e w' ⟨lv, v', rfl, h⟩
  exact ⟨lv, v', rfl, ⟨h.f, hF.q, fun k hk => by
    rcases h.n k hk with h2 | h2
    · exact hF.v k h2
    · omega⟩, h.o, h.a, h.a.below hB hF.q hF.v, h.n⟩
theorem new_law (w : World) (h3 : 3 ≤ w.heap.size) :
    Calls Tryd.prog 9 #[] w fun e w' => e = .returned (.pointer (some ⟨w.heap.size, 0, none⟩)) ∧ Fdb w.heap.size w' w.heap.size (.slice none 0 0) st0 ∧ Below w.heap.size w w' :=
  (new_any w h3).mono fun _ _ ⟨h1, h2, h4⟩ => ⟨h1, ⟨h2, Nat.le_refl _, fun k hk => by cases hk⟩, h4⟩
theorem hown_one {w : World} {B : Nat} {v : Value} {h : Hd} (ho : HOwn w B v [h]) : ∃ g c, v = .slice (some ⟨g, 0, none⟩) 1 c ∧ w.cell? ⟨g, 0, none⟩ = some (.int .i64 (h.kind : Nat)) ∧ w.cell? ⟨g, 1, none⟩ = some (.string (S h.text)) := by
  rcases ho.2 with ⟨_, h0⟩ | ⟨g, cap, cur, rfl, hg, hh, hn, hcap, hsz, htake⟩
  · cases h0
  · have h' : w.ownsRow B 45 2 (.slice (some ⟨g, 0, none⟩) 1 cap) 1 (cellsH [h]) := ho
    refine ⟨g, cap, rfl, ?_, ?_⟩
    · rw [h'.cellAt 0 (by decide)]; rfl
    · rw [h'.cellAt 1 (by decide)]; rfl

def line1 : List UInt8 := [97, 32, 88, 32, 123, 51, 125, 13, 10]
def line2 : List UInt8 := [13, 10, 98, 33, 13, 10]
theorem run1 : run st0 line1 = ([⟨2, []⟩], ⟨line1, 12, false⟩) := by kernel_rfl
theorem run2 : run ⟨line1, 12, false⟩ line2 = ([⟨1, [97, 32, 88, 32, 123, 51, 125, 13, 10, 13, 10, 98, 33]⟩], st0) := by kernel_rfl
theorem ok1 : St.ok ⟨line1, 12, false⟩ := by have := run_ok st0_ok line1; rw [run1] at this; exact this

set_option maxHeartbeats 4000000 in
set_option maxRecDepth 100000 in
theorem alive_any (w : World) (hE : Errs w) :
    Calls Tryd.prog 8 #[] w fun e w' => e = .returned (.bool true) ∧ Below w.heap.size w w' := by
  have hn := new_law w hE.lt
  have HE := Lib.hid hE
  have HFL := Lib.hid feed_law
  clear hE
  go_enter Tryd.func8, Tryd.ntmps8
  go_wp2_with fail
  refine hn.mono ?_
  rintro e w1 ⟨rfl, hF1, hb1⟩
  have HE1 := Lib.hid (HE.out.later hb1)
  have hf1 := HFL.out w.heap.size w.heap.size (.slice none 0 0) st0 st0_ok line1 (by decide) w1 hF1 HE1.out hb1.size
  have HF1 := Lib.hid hF1
  have HB1 := Lib.hid hb1
  rw [show S line1 = { data := #[97, 32, 88, 32, 123, 51, 125, 13, 10] } from rfl] at hf1
  clear hn hF1 hb1
  go_wp2_with fail
  refine hf1.mono ?_
  rintro e w2 ⟨lv, v2, rfl, h2⟩
  have hF2 := h2.f
  have hO2 := h2.o
  rw [run1] at hF2 hO2
  have HF2 := Lib.hid hF2
  have HO2 := Lib.hid hO2
  have HE2 := Lib.hid (HE1.out.apart HF1.out.f h2.a)
  have HB2 := Lib.hid (HB1.out.trans h2.b)
  have hwt := waits_any w.heap.size v2 _ ok1 w2 HF2.out.f
  rw [show ((waits ⟨line1, 12, false⟩ : Nat) : Int) = 3 from rfl] at hwt
  clear hf1 h2 hF2 hO2 HF1 HE1 HB1
  go_wp2_with fail
  refine hwt.mono ?_
  rintro e w3 ⟨rfl, b3⟩
  have HF3 := Lib.hid (HF2.out.later b3)
  have HO3 := Lib.hid (HO2.out.later b3)
  have HE3 := Lib.hid (HE2.out.later b3)
  have HB3 := Lib.hid (HB2.out.trans (b3.mono HB2.out.size))
  have hf3 := HFL.out w.heap.size w.heap.size v2 _ ok1 line2 (by decide) w3 HF3.out HE3.out HB3.out.size
  rw [show S line2 = { data := #[13, 10, 98, 33, 13, 10] } from rfl] at hf3
  clear hwt b3 HF2 HO2 HE2 HB2
  go_wp2_with fail
  refine hf3.mono ?_
  rintro e w4 ⟨lv4, v4, rfl, h4⟩
  have hO4 := h4.o
  rw [run2] at hO4
  obtain ⟨g, c, rfl, c0, _⟩ := hown_one (HO3.out.apart HF3.out.f h4.a)
  obtain ⟨g4, c4, rfl, d0, d1⟩ := hown_one hO4
  have d1' : w4.cell? ⟨g4, 1, none⟩ = some (.string { data := #[97, 32, 88, 32, 123, 51, 125, 13, 10, 13, 10, 98, 33] }) := d1
  have c0' : w4.cell? ⟨g, 0, none⟩ = some (.int .i64 2) := c0
  have d0' : w4.cell? ⟨g4, 0, none⟩ = some (.int .i64 1) := d0
  have HB4 := Lib.hid (HB3.out.trans h4.b)
  clear hf3 h4 hO4 c0 d0 d1 HF3 HE3 HO3 HB3 HFL HE
  go_wp2_with fail
  go_ret
  exact ⟨rfl, HB4.out⟩
end Go.Proofs.YtnpikjobjmffgaaDoor.li
