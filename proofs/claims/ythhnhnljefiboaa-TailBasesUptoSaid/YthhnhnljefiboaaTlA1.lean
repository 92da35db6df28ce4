/-
  The document's example; which logs the laws ask about.
-/
import Derived.Test.YthhnhnljefiboaaTlP8
import Derived.Test.YthhnhnljefiboaaTlR3
import Derived.Test.YthhnhnljefiboaaTlSl
namespace Go.Proofs.Ythhnhnljefiboaa.tl
set_option linter.unusedVariables false
open Go.RowKit
open pk (S S_size S_data)
open qm (Bs noSh)
open rw (Arr But below_box bnext below_drew below_drewN)

def lgX : Lg := ⟨2, 1, [1, 2], [⟨1, 3, [97]⟩, ⟨2, 2, [2, 1, 3]⟩]⟩
theorem fitX : Fit lgX := ⟨by decide, by decide, by decide, by decide, by intro x hx; simp [lgX] at hx; rcases hx with rfl | rfl <;> exact ⟨by decide, by decide⟩⟩
set_option maxHeartbeats 2000000 in
set_option maxRecDepth 100000 in
theorem log_any (w : World) :
    Calls Try.prog 36 #[] w fun e w' => ∃ cv ev, e = .returned (.agg #[.int .u64 2, .int .u64 1, cv, ev]) ∧ LV w' cv ev lgX ∧ Below w.heap.size w w' := by
  go_enter Try.func36, Try.ntmps36
  go_wp2_with fail
  have k1 := below_box w (.cells #[.int .u64 2, .int .u64 1, .slice (some ⟨w.heap.size + 1, 0, none⟩) 2 2, .slice (some ⟨w.heap.size + 1 + 1, 0, none⟩) 2 2] 26)
  have a1 := Arr.new w 26 (lgC 2 1 (.slice (some ⟨w.heap.size + 1, 0, none⟩) 2 2) (.slice (some ⟨w.heap.size + 1 + 1, 0, none⟩) 2 2))
  have s1 : (w.alloc (.cells #[.int .u64 2, .int .u64 1, .slice (some ⟨w.heap.size + 1, 0, none⟩) 2 2, .slice (some ⟨w.heap.size + 1 + 1, 0, none⟩) 2 2] 26)).heap.size = w.heap.size + 1 := by simp
  have a1 : Arr (w.alloc (.cells #[.int .u64 2, .int .u64 1, .slice (some ⟨w.heap.size + 1, 0, none⟩) 2 2, .slice (some ⟨w.heap.size + 1 + 1, 0, none⟩) 2 2] 26)) w.heap.size 26 (lgC 2 1 (.slice (some ⟨w.heap.size + 1, 0, none⟩) 2 2) (.slice (some ⟨w.heap.size + 1 + 1, 0, none⟩) 2 2)) := a1
  generalize w.alloc (.cells #[.int .u64 2, .int .u64 1, .slice (some ⟨w.heap.size + 1, 0, none⟩) 2 2, .slice (some ⟨w.heap.size + 1 + 1, 0, none⟩) 2 2] 26) = W1 at *
  have k2 := below_box W1 (.cells #[.int .i64 1, .int .i64 2] 3)
  have l1 := (rw.Own.lit noSh W1 [1, 2] (by decide) (by decide)).sl
  have l1 : rw.Sl noSh (W1.alloc (.cells #[.int .i64 1, .int .i64 2] 3)) (.slice (some ⟨w.heap.size + 1, 0, none⟩) 2 2) [1, 2] := by rw [s1] at l1; exact l1
  have s2 : (W1.alloc (.cells #[.int .i64 1, .int .i64 2] 3)).heap.size = w.heap.size + 1 + 1 := by simp [s1]
  have a2 := a1.below k2
  have b2 := k1.trans (k2.mono k1.size)
  generalize W1.alloc (.cells #[.int .i64 1, .int .i64 2] 3) = W2 at *
  have k3 := below_box W2 (.cells #[.int .u64 1, .int .i64 3, .string ⟨#[97]⟩, .int .u64 2, .int .i64 2, .string ⟨#[2, 1, 3]⟩] 54)
  have e1 := (rw.Own.lit enSh W2 lgX.es (by decide) (by simp [lgX])).sl
  have e1 : rw.Sl enSh (W2.alloc (.cells #[.int .u64 1, .int .i64 3, .string ⟨#[97]⟩, .int .u64 2, .int .i64 2, .string ⟨#[2, 1, 3]⟩] 54)) (.slice (some ⟨w.heap.size + 1 + 1, 0, none⟩) 2 2) lgX.es := by rw [s2] at e1; exact e1
  exact bodyPost_ret (results_lg2 rfl rfl (a2.below k3)) rfl ⟨_, _, rfl, ⟨l1.later _ k3, e1⟩, b2.trans (k3.mono b2.size)⟩
/-- Which logs the laws ask about. -/
def Lg.asked (g : Lg) : Bool := g.right && decide (g.es.length ≤ 60)
theorem Lg.asked_iff {g : Lg} : g.asked = true ↔ g.right = true ∧ g.es.length ≤ 60 := by simp [Lg.asked]
/-- What came in, as large as it may be. -/
structure Came (g : Lg) : Prop where
  base : g.base < 18446744073709551616
  bt : g.bt < 18446744073709551616
  conf : g.conf.length ≤ 140737488355328
  es : g.es.length ≤ 140737488355328
  e : ∀ x ∈ g.es, x.term < 18446744073709551616 ∧ x.data.length ≤ 281474976710656
theorem Came.fit {g : Lg} (h : Came g) (ha : g.asked = true) : Fit g := by
  obtain ⟨h1, h2⟩ := Lg.asked_iff.1 ha
  obtain ⟨b, l, c, r⟩ := g.right_iff.1 h1
  exact ⟨by omega, h.bt, by have := Lg.right_conf h1; omega, by omega, h.e⟩
set_option maxHeartbeats 2000000 in
set_option maxRecDepth 100000 in
theorem asked_any (g : Lg) (cv ev : Value) (hg : Came g) (w : World) (h : LV w cv ev g) :
    Calls Try.prog 12 #[g.v cv ev] w fun e w' => e = .returned (.bool g.asked) ∧ Below w.heap.size w w' := by
  obtain ⟨a2, k2, rfl⟩ := sl_form h.l
  have H0 := Lib.hid h.box
  have HR := Lib.hid fun W b => rright_any g cv (.slice a2 g.es.length k2) hg.base hg.bt hg.conf hg.es (fun x hx => (hg.e x hx).1) W (h.later b)
  obtain ⟨N, hN⟩ : ∃ N, g.es.length = N := ⟨_, rfl⟩
  have hA : g.asked = (g.right && decide (N ≤ 60)) := by rw [Lg.asked, hN]
  rw [hA]
  obtain ⟨r, hr⟩ : ∃ r, g.right = r := ⟨_, rfl⟩
  rw [hr] at HR ⊢
  rw [hN] at H0 HR ⊢
  clear h hg hN hA hr
  go_enter Try.func12, Try.ntmps12
  go_upto_region 1 with (fail)
  generalize w.alloc (.cells #[.int .u64 (g.base : Nat), .int .u64 (g.bt : Nat), cv, .slice a2 N k2] 26) = W at *
  obtain ⟨x0, x1, x2, x3⟩ := H0.out.cells
  have hR := HR.out W H0.out.b
  cases r with
  | false =>
    go_wp2_with fail
    with_reducible refine hR.mono ?_
    clear hR x0 x1 x2 x3
    rintro e w2 ⟨rfl, b2⟩
    have B2 := Lib.hid (H0.out.b.trans (b2.mono H0.out.b.size))
    clear b2
    go_wp2_with fail
    go_ret
    exact ⟨rfl, B2.out⟩
  | true =>
    go_wp2_with fail
    with_reducible refine hR.mono ?_
    clear hR x0 x1 x2 x3
    rintro e w2 ⟨rfl, b2⟩
    have H2 := Lib.hid (H0.out.below b2)
    clear b2
    obtain ⟨x0, x1, x2, x3⟩ := H2.out.cells
    go_wp2_with fail
    go_ret
    refine ⟨?_, H2.out.b⟩
    first | rfl | (simp; omega)
end Go.Proofs.Ythhnhnljefiboaa.tl
