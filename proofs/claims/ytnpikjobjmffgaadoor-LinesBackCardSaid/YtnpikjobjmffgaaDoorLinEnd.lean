/-
  What the program's end answers.
-/
import Derived.Test.YtnpikjobjmffgaaDoorLinSuf
import Derived.Deep.QuietTactic
import Derived.BigQuiet
import Derived.Deep.RegionWith
namespace Go.Proofs.YtnpikjobjmffgaaDoor.li
open Go.RowKit

def hv (h : Hd) : Value := .agg #[.int .i64 (h.kind : Nat), .string (S h.text)]
/-- How end ends. -/
def EndOut (q : Nat) (v : Value) (t : List UInt8) (part : Nat) (w : World) (e : Ending) (w' : World) : Prop :=
  e = .returned (hv (endH t part)) ∧ ∃ v', Fd w' q v' (endS t part) ∧ Apart q none w w' ∧ (v' = v ∨ v'.ownBlock = none)
theorem feeder_part (v u : Value) (p p' : Value) (d : Value) : (#[v, p, d] : Array Value).setIfInBounds 1 p' = #[v, p', d] ∧ (#[v, p, d] : Array Value).setIfInBounds 0 u = #[u, p, d] := by simp

theorem Fd.c0 {w : World} {q : Nat} {v : Value} {t : List UInt8} {p : Nat} {d : Bool} (h : Fd w q v ⟨t, p, d⟩) : w.cell? ⟨q, 0, none⟩ = some v := h.a.cell (j := 0) rfl
theorem Fd.c1 {w : World} {q : Nat} {v : Value} {t : List UInt8} {p : Nat} {d : Bool} (h : Fd w q v ⟨t, p, d⟩) : w.cell? ⟨q, 1, none⟩ = some (.int .i64 (p : Nat)) := h.a.cell (j := 1) rfl
theorem Fd.c2 {w : World} {q : Nat} {v : Value} {t : List UInt8} {p : Nat} {d : Bool} (h : Fd w q v ⟨t, p, d⟩) : w.cell? ⟨q, 2, none⟩ = some (.bool d) := h.a.cell (j := 2) rfl
theorem Fd.drewN {w : World} {q : Nat} {v : Value} {st : St} (h : Fd w q v st) (n : Nat) : Fd (w.drewN n) q v st := ⟨h.b, h.a, h.r⟩
theorem Arr.other {w : World} {b : Nat} {t : TypeId} {cs : Array Value} (h : Arr w b t cs) {q : Nat} (hq : b ≠ q) (j : Nat) (u : Value) : Arr (w.setCell ⟨q, j, none⟩ u) b t cs := (Below.heap_setCell w _ u b hq).trans h
theorem Apart.setNew {q : Nat} {r : Option Nat} {a w : World} (h : Apart q r a w) {b : Nat} (hb : a.heap.size ≤ b) (j : Nat) (u : Value) : Apart q r a (w.setCell ⟨b, j, none⟩ u) :=
  ⟨h.os, h.tape, h.output, by have := h.size; simpa [World.setCell] using this, fun k hk hq hn => (Below.heap_setCell w _ u k (by show k ≠ b; omega)).trans (h.block k hk hq hn)⟩
theorem own_other {w : World} {B : Nat} {e : TypeId} {size : Nat} {v : Value} {n : Nat} {xs : List Value} (h : w.ownsRow B e size v n xs) {b : Nat} {t : TypeId} {cs : Array Value} (hb : Arr w b t cs) (ht : e ≠ t) (j : Nat) (u : Value) : (w.setCell ⟨b, j, none⟩ u).ownsRow B e size v n xs :=
  ownsRow_kept h (fun k hk => Below.heap_setCell w _ u k (fun e2 => by
    obtain ⟨cur, hc⟩ := ownsRow_type h hk
    have e3 : k = b := e2
    subst e3
    exact ht (types_apart hc hb)))
/-- The part's place is written, and what is heard. -/
theorem fd_go {w w3 : World} {q r : Nat} {v : Value} {t : List UInt8} {part : Nat} {d : Bool} {x0 y0 : Value} (hF : Fd w3 q v ⟨t, part, d⟩) (hA : Arr w3 r 45 #[x0, y0]) (hb : Apart q none w w3) (hr : w.heap.size ≤ r) (n : Nat) (x y : Value) :
    Fd (((w3.setCell ⟨q, 1, none⟩ (.int .i64 (n : Nat))).setCell ⟨r, 0, none⟩ x).setCell ⟨r, 1, none⟩ y) q v ⟨t, n, d⟩ ∧
    Arr (((w3.setCell ⟨q, 1, none⟩ (.int .i64 (n : Nat))).setCell ⟨r, 0, none⟩ x).setCell ⟨r, 1, none⟩ y) r 45 #[x, y] ∧
    Apart q none w (((w3.setCell ⟨q, 1, none⟩ (.int .i64 (n : Nat))).setCell ⟨r, 0, none⟩ x).setCell ⟨r, 1, none⟩ y) := by
  have hne : r ≠ q := fun e => by subst e; exact absurd (types_apart hA hF.a) (by decide)
  have a1 := hF.a.set 1 (.int .i64 (n : Nat))
  have e1 : (#[v, .int .i64 (part : Nat), .bool d] : Array Value).setIfInBounds 1 (.int .i64 (n : Nat)) = #[v, .int .i64 (n : Nat), .bool d] := by simp
  have e1' : (#[v, .int .i64 (St.mk t part d).part, .bool (St.mk t part d).deaf] : Array Value).setIfInBounds 1 (.int .i64 (n : Nat)) = #[v, .int .i64 (n : Nat), .bool d] := e1
  rw [e1'] at a1
  have b1 := hA.other hne 1 (.int .i64 (n : Nat))
  have r1 := own_other hF.r hF.a (by decide) 1 (.int .i64 (n : Nat))
  have b2 := b1.set 0 x
  have e2 : (#[x0, y0] : Array Value).setIfInBounds 0 x = #[x, y0] := by simp
  rw [e2] at b2
  have b3 := b2.set 1 y
  have e3 : (#[x, y0] : Array Value).setIfInBounds 1 y = #[x, y] := by simp
  rw [e3] at b3
  exact ⟨⟨hF.b, (a1.other (Ne.symm hne) 0 x).other (Ne.symm hne) 1 y, own_other (own_other r1 b1 (by decide) 0 x) b2 (by decide) 1 y⟩, b3, ((hb.setCell 1 _).setNew hr 0 x).setNew hr 1 y⟩
/-- The feeder begins anew (or goes deaf). -/
theorem fd_new {w w3 : World} {q : Nat} {v : Value} {st : St} (hF : Fd w3 q v st) (hb : Apart q none w w3) (d : Bool) :
    Fd (((w3.setCell ⟨q, 0, none⟩ (.slice none 0 0)).setCell ⟨q, 1, none⟩ (.int .i64 0)).setCell ⟨q, 2, none⟩ (.bool d)) q (.slice none 0 0) ⟨[], 0, d⟩ ∧
    Apart q none w (((w3.setCell ⟨q, 0, none⟩ (.slice none 0 0)).setCell ⟨q, 1, none⟩ (.int .i64 0)).setCell ⟨q, 2, none⟩ (.bool d)) := by
  have a1 := ((hF.a.set 0 (.slice none 0 0)).set 1 (.int .i64 0)).set 2 (.bool d)
  have e1 : (((#[v, .int .i64 (st.part : Nat), .bool st.deaf] : Array Value).setIfInBounds 0 (.slice none 0 0)).setIfInBounds 1 (.int .i64 0)).setIfInBounds 2 (.bool d) = #[.slice none 0 0, .int .i64 0, .bool d] := by simp
  rw [e1] at a1
  exact ⟨⟨hF.b, a1, World.ownsRow_nil _ _ _ _⟩, ((hb.setCell 0 _).setCell 1 _).setCell 2 _⟩
theorem fd_heard {w w3 : World} {q r : Nat} {v : Value} {st : St} {x0 y0 : Value} (hF : Fd w3 q v st) (hA : Arr w3 r 45 #[x0, y0]) (hb : Apart q none w w3) (hr : w.heap.size ≤ r) (x y : Value) :
    Fd ((w3.setCell ⟨r, 0, none⟩ x).setCell ⟨r, 1, none⟩ y) q v st ∧ Arr ((w3.setCell ⟨r, 0, none⟩ x).setCell ⟨r, 1, none⟩ y) r 45 #[x, y] ∧ Apart q none w ((w3.setCell ⟨r, 0, none⟩ x).setCell ⟨r, 1, none⟩ y) := by
  have hne : r ≠ q := fun e => by subst e; exact absurd (types_apart hA hF.a) (by decide)
  have b2 := hA.set 0 x
  have e2 : (#[x0, y0] : Array Value).setIfInBounds 0 x = #[x, y0] := by simp
  rw [e2] at b2
  have b3 := b2.set 1 y
  have e3 : (#[x, y0] : Array Value).setIfInBounds 1 y = #[x, y] := by simp
  rw [e3] at b3
  exact ⟨⟨hF.b, (hF.a.other (Ne.symm hne) 0 x).other (Ne.symm hne) 1 y, own_other (own_other hF.r hA (by decide) 0 x) b2 (by decide) 1 y⟩, b3, (hb.setNew hr 0 x).setNew hr 1 y⟩
theorem ret_heard {fn : Func} {p : Tmp} (hf : fn.results = #[.cell p 45]) (tmps : Array Value) (W : World) (b : Nat) (x y : Value) (hp : tmps.getD p undef = .pointer (some ⟨b, 0, none⟩)) (h : Arr W b 45 #[x, y]) :
    (results fn tmps).run Tryd.prog W = .ok (.agg #[x, y]) W :=
  results_cell_row hf tmps W b 45 #[x, y] (0, 0) _ hp h Tryd.underlying45 rfl (by kernel_rfl)

set_option maxHeartbeats 4000000 in
set_option maxRecDepth 100000 in
theorem end_any (q : Nat) (v : Value) (t : List UInt8) (part : Nat) (htl : t.length ≤ 8194) (hp : part + 2 ≤ t.length) (w : World) (hF : Fd w q v ⟨t, part, false⟩) (hE : Errs w) :
    Calls Tryd.prog 21 #[.pointer (some ⟨q, 0, none⟩)] w (EndOut q v t part w) := by
  have hcases := Lib.hid (end_cases t part)
  have hnl := litN_le ((t.take (t.length - 2)).drop part)
  have hn := fun W hW => lit_any ((t.take (t.length - 2)).drop part) (by rw [List.length_drop, List.length_take]; omega) W hW
  obtain ⟨g, c, rfl, hc, hlie⟩ := lie_own (l := t) hF.r (show 0 < t.length by omega)
  have hct := fun W => cut_to W g 0 t.length c (t.length - 2) (by omega) hc
  have hcf := fun W => cut_from W g 0 (t.length - 2) c part (by omega)
  have hne : ¬ c = part := by omega
  simp only [if_neg hne, Nat.zero_add] at hcf
  have hcv := fun W (hL : Lie W g 0 t) => conv_lie W g (0 + part) (c - part) ((t.take (t.length - 2)).drop part) ((hL.take _).drop _)
  have hpl : ((t.take (t.length - 2)).drop part).length = t.length - 2 - part := by rw [List.length_drop, List.length_take]; omega
  simp only [hpl, Nat.zero_add] at hcv
  have hcx := fun W (hL : Lie W g 0 t) => conv_lie W g 0 c (t.take (t.length - 2)) (hL.take _)
  have hxl : (t.take (t.length - 2)).length = t.length - 2 := by rw [List.length_take]; omega
  simp only [hxl] at hcx
  have hw1 : IntKind.i64.wrap ((t.length : Int) - 2) = ((t.length - 2 : Nat) : Int) := by rw [show (t.length : Int) - 2 = ((t.length - 2 : Nat) : Int) by omega]; exact IntWalk.i64_in _ (by omega)
  have hlt := hF.a.lt
  have glt := hlie.lt (show 0 < t.length by omega)
  have hb1 : Below w.heap.size w (w.alloc (.cells #[.int .i64 0, .string ⟨#[]⟩] 45)) := (Below.refl _ _).alloc (Nat.le_refl _) _
  have hF1 := hF.later hb1
  have hE1 := hE.later hb1
  have hL1 := hlie.of (hb1.block g glt)
  have hR1 := Arr.new w 45 #[.int .i64 0, .string ⟨#[]⟩]
  have hlt1 : q < (w.alloc (.cells #[.int .i64 0, .string ⟨#[]⟩] 45)).heap.size := by simp; omega
  clear hpl hxl hne hF hE hlie
  obtain ⟨p, hpp⟩ : ∃ p, p = (t.take (t.length - 2)).drop part := ⟨_, rfl⟩
  obtain ⟨x, hx⟩ : ∃ x, x = t.take (t.length - 2) := ⟨_, rfl⟩
  rw [← hpp] at hn hnl hcv hcases
  rw [← hx] at hcx hcases
  clear hpp hx
  obtain ⟨n, hnn⟩ : ∃ n, n = litN p := ⟨_, rfl⟩
  obtain ⟨b, hbb⟩ : ∃ b, b = litB p := ⟨_, rfl⟩
  rw [← hnn, ← hbb] at hcases
  rw [← hnn] at hn hnl
  rw [← hbb] at hn
  clear hnn hbb
  obtain ⟨k, hk⟩ : ∃ k, k = t.length - 2 := ⟨_, rfl⟩
  rw [← hk] at hct hcf hcv hcx hw1
  have HK := Lib.hid hk
  clear hk
  go_enter Tryd.func21, Tryd.ntmps21
  go_upto_region 1 with (fail)
  generalize w.alloc (.cells #[.int .i64 0, .string ⟨#[]⟩] 45) = w1 at *
  have c0 := hF1.c0
  go_quiet (fail)
  have hF2 := hF1.drewN nq
  have hE2 : Errs (w1.drewN nq) := hE1.below ⟨rfl, rfl, rfl, Nat.le_refl _, fun _ _ => rfl⟩
  have hL2 : Lie (w1.drewN nq) g 0 t := hL1
  have hR2 : Arr (w1.drewN nq) w.heap.size 45 #[.int .i64 0, .string ⟨#[]⟩] := hR1
  have hb2 : Below w.heap.size w (w1.drewN nq) := hb1.trans ⟨rfl, rfl, rfl, Nat.le_refl _, fun _ _ => rfl⟩
  clear hF1 hE1 hL1 hR1 hb1 c0 hct hlt1
  generalize w1.drewN nq = w2 at *
  have c1 := hF2.c1
  have hcv2 := hcv w2 hL2
  have hn2 := hn w2 hE2
  clear hn hcv
  go_wp2_with fail
  refine hn2.mono ?_
  rintro e w3 ⟨rfl, b3⟩
  have hF3 := hF2.later b3
  have hL3 := hL2.of (b3.block g (hL2.lt (by omega)))
  have hR3 : Arr w3 w.heap.size 45 #[.int .i64 0, .string ⟨#[]⟩] := hR2.of (b3.block _ hR2.lt)
  have hA3 : Apart q none w w3 := Apart.of_below (hb2.trans (b3.mono hb2.size))
  clear hF2 hE2 hL2 hR2 hb2 c1 hcv2 hn2 b3
  have c0 := hF3.c0
  have d0 := hF3.c1
  have d1 := hF3.c2
  have f0 := hF3.a.frozen 0
  have f1 := hF3.a.frozen 1
  have f2 := hF3.a.frozen 2
  have r0 : w3.cell? ⟨w.heap.size, 0, none⟩ = some (.int .i64 0) := hR3.cell (j := 0) rfl
  have r1 : w3.cell? ⟨w.heap.size, 1, none⟩ = some (.string ⟨#[]⟩) := hR3.cell (j := 1) rfl
  have g0 := hR3.frozen 0
  have g1 := hR3.frozen 1
  have hne : ¬ w.heap.size = q := by omega
  have hne2 : ¬ q = w.heap.size := by omega
  have hgq : g ≠ q := fun e => hF3.self hF3 (by rw [e]; rfl)
  have hcx3 := hcx (((w3.setCell ⟨q, 0, none⟩ (.slice none 0 0)).setCell ⟨q, 1, none⟩ (.int .i64 0)).setCell ⟨q, 2, none⟩ (.bool false)) (hL3.of (by
    rw [Below.heap_setCell _ _ _ g hgq, Below.heap_setCell _ _ _ g hgq, Below.heap_setCell _ _ _ g hgq]))
  clear hcx
  rcases hcases.out with ⟨rfl, h4, h8, eH, eS⟩ | ⟨rfl, h48, eH, eS⟩ | ⟨rfl, eH, eS⟩
  · have HE := Lib.hid (And.intro eH eS)
    have i4 : (n : Int) ≤ 4096 := by omega
    have i8 : (t.length : Int) + (n : Int) ≤ 8192 := by omega
    have w1 : IntKind.i64.wrap (n : Int) = (n : Int) := IntWalk.i64_in _ (by omega)
    have w2 : IntKind.i64.wrap ((t.length : Int) + (n : Int)) = (t.length : Int) + (n : Int) := IntWalk.i64_in _ (by omega)
    have HF := Lib.hid (fd_go hF3 hR3 hA3 (Nat.le_refl _) (t.length + n) (.int .i64 2) (.string ⟨#[]⟩))
    clear eH eS hcases hF3 hR3 hL3 hA3 h4 h8 hcx3
    go_wp2_with fail
    rw [← Int.natCast_add]
    obtain ⟨k1, k2, k3⟩ := HF.out
    refine bodyPost_ret (ret_heard rfl _ _ _ _ _ rfl k2) rfl ⟨?_, _, ?_, k3, .inl rfl⟩
    · rw [HE.out.1]; rfl
    · rw [HE.out.2]; exact k1
  · have HE := Lib.hid (And.intro eH eS)
    obtain ⟨k1, k2⟩ := fd_new hF3 hA3 false
    have HF := Lib.hid (fd_heard k1 (((hR3.other hne 0 (.slice none 0 0)).other hne 1 (.int .i64 0)).other hne 2 (.bool false)) k2 (Nat.le_refl _) (.int .i64 3) (.string (S x)))
    clear eH eS hcases hF3 hR3 hL3 hA3 k1 k2
    by_cases h4 : n ≤ 4096
    · have i4 : (n : Int) ≤ 4096 := by omega
      have i8 : (8192 : Int) < (t.length : Int) + (n : Int) := by omega
      have w1 : IntKind.i64.wrap (n : Int) = (n : Int) := IntWalk.i64_in _ (by omega)
      have w2 : IntKind.i64.wrap ((t.length : Int) + (n : Int)) = (t.length : Int) + (n : Int) := IntWalk.i64_in _ (by omega)
      clear h48 h4
      go_wp2_with fail
      obtain ⟨k1, k2, k3⟩ := HF.out
      refine bodyPost_ret (ret_heard rfl _ _ _ _ _ rfl k2) rfl ⟨?_, .slice none 0 0, ?_, k3, .inr rfl⟩
      · rw [HE.out.1]; rfl
      · rw [HE.out.2]; exact k1
    · have i4 : (4096 : Int) < (n : Int) := by omega
      clear h48 h4
      go_wp2_with fail
      obtain ⟨k1, k2, k3⟩ := HF.out
      refine bodyPost_ret (ret_heard rfl _ _ _ _ _ rfl k2) rfl ⟨?_, .slice none 0 0, ?_, k3, .inr rfl⟩
      · rw [HE.out.1]; rfl
      · rw [HE.out.2]; exact k1
  · have HE := Lib.hid (And.intro eH eS)
    obtain ⟨k1, k2⟩ := fd_new hF3 hA3 false
    have HF := Lib.hid (fd_heard k1 (((hR3.other hne 0 (.slice none 0 0)).other hne 1 (.int .i64 0)).other hne 2 (.bool false)) k2 (Nat.le_refl _) (.int .i64 1) (.string (S x)))
    clear eH eS hcases hF3 hR3 hL3 hA3 k1 k2
    go_wp2_with fail
    obtain ⟨k1, k2, k3⟩ := HF.out
    refine bodyPost_ret (ret_heard rfl _ _ _ _ _ rfl k2) rfl ⟨?_, .slice none 0 0, ?_, k3, .inr rfl⟩
    · rw [HE.out.1]; rfl
    · rw [HE.out.2]; exact k1
end Go.Proofs.YtnpikjobjmffgaaDoor.li
