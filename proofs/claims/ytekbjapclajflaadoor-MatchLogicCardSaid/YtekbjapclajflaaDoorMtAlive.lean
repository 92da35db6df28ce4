/-
  What every right program answers: 'alive' answers true.
-/
import Derived.Test.YtekbjapclajflaaDoorMtShort
namespace Go.Proofs.YtekbjapclajflaaDoor.mt
set_option linter.unusedVariables false
open Go.RowKit Go.Shelf
open fl (S S_size S_append S_inj)
attribute [local go_sem] Oper.semAt_some

def seen : List UInt8 := [92, 83, 101, 101, 110]
def nilS : Value := .slice none 0 0
def kA : Key := ⟨1, 2, [], [], 0, [], nilS⟩
def kN : Key := ⟨2, 0, [], [], 0, [], nilS⟩
def kF : Key := ⟨7, 0, seen, [], 0, [], nilS⟩
def kH : Key := ⟨13, 0, [115, 117, 98, 106, 101, 99, 116], [104, 73], 0, [], nilS⟩
def aKeys : List Key := [kA, kN, kF, kH]
def aText : List UInt8 := [83, 117, 98, 106, 101, 99, 116, 58, 32, 72, 105, 13, 10, 13, 10, 121, 111, 117]
def aMail (m : List UInt8) (fv : Value) : Mail := ⟨7, 9, 30, 2, 5, 8, [seen], ⟨#[]⟩, m, fv⟩
theorem a_whole : whole aKeys = true := by decide +kernel
theorem a_want : aKeys.any want = true := by decide +kernel
theorem a_says0 : says (alone (aMail aText nilS)) aKeys = true := by decide +kernel
theorem a_says (fv : Value) : says (alone (aMail aText fv)) aKeys = true := a_says0
theorem a_not0 : says (alone (aMail [] nilS)) [kF] = false := by decide +kernel
theorem a_not (fv : Value) : says (alone (aMail [] fv)) [kF] = false := a_not0
theorem a_light : ∀ k ∈ aKeys, Light k := by
  intro k hk
  simp only [aKeys, List.mem_cons, List.not_mem_nil, or_false] at hk
  rcases hk with rfl | rfl | rfl | rfl <;> exact ⟨by decide, by decide⟩

/-- Keys of a literal: a new block's row. -/
theorem rowK_new (w : World) (l : List Key) : RowK (w.alloc (.cells (cellsK l).toArray 36)) (some ⟨w.heap.size, 0, none⟩) l := by
  refine .inr ⟨_, 0, rfl, by simp, fun j hj i hi => ?_⟩
  rw [(Arr.new w 36 (cellsK l).toArray |> fun h => cell_of_row (w.alloc _) _ _ _ _ (0, 0) h), List.getElem?_toArray]
  have key : ∀ (l : List Key) (j : Nat) (hj : j < l.length), (cellsK l)[0 + j * 6 + i]? = (keyCells l[j])[i]? := by
    intro l
    induction l with
    | nil => intro j hj; simp at hj
    | cons k l ih =>
      intro j hj
      unfold cellsK
      rw [List.flatMap_cons]
      cases j with
      | zero =>
        rw [List.getElem?_append_left (by simp [keyCells]; omega)]
        simp
      | succ j =>
        rw [List.getElem?_append_right (by simp [keyCells]; omega)]
        have := ih j (by simpa using hj)
        rw [show 0 + (j + 1) * 6 + i - (keyCells k).length = 0 + j * 6 + i by simp [keyCells]; omega]
        unfold cellsK at this
        simpa using this
  exact key l j hj
theorem Sl.new (w : World) (l : List Key) (hs : ∀ k ∈ l, SetIn w k) (n : Nat) (hn : n = l.length) : Sl (w.alloc (.cells (cellsK l).toArray 36)) (.slice (some ⟨w.heap.size, 0, none⟩) n n) l := by
  subst hn
  exact ⟨⟨_, _, rfl, Nat.le_refl _, rowK_new w l, fun e => by cases e⟩, fun k hk => (hs k hk).later (below_box w _)⟩
theorem setIn_nil (w : World) {kind kids : Int} {field text : List UInt8} {n : Nat} (h : kids ≤ 9223372036854775807) : SetIn w ⟨kind, kids, field, text, n, [], nilS⟩ := ⟨none, 0, rfl, .inl rfl, by simp, h⟩

theorem bnext {w w1 w2 : World} (h : Below w.heap.size w w1) (k : Below w1.heap.size w1 w2) : Below w.heap.size w w2 := h.trans (k.mono h.size)
def fvA (w : World) : Value := .slice (some ⟨w.heap.size, 0, none⟩) 1 1
def aWorld (w : World) : World :=
  ((((w.alloc (.cells #[.string ⟨#[92, 83, 101, 101, 110]⟩] 9)).alloc (.cells #[.int .u64 7, .slice (some ⟨w.heap.size, 0, none⟩) 1 1, .int .u64 9, .string ⟨#[]⟩, .int .u64 30] 26)).alloc
    (.cells #[.int .u64 2, .int .u64 5, .int .u64 8] 28)).alloc (.cells #[.int .i64 7, .int .i64 0, .string ⟨#[92, 83, 101, 101, 110]⟩, .string ⟨#[]⟩, .int .u64 0, .slice none 0 0] 36)).alloc
    (.cells (cellsK aKeys).toArray 36)
/-- What the calls take. -/
structure AL (w W : World) (M : Int) : Prop where
  k : Sl W (.slice (some ⟨w.heap.size + 1 + 1 + 1 + 1, 0, none⟩) 4 4) aKeys
  k2 : Sl W (.slice (some ⟨w.heap.size + 1 + 1 + 1 + 1, 12, none⟩) 1 2) [kF]
  f : FlagsIn W (aMail aText (fvA w))
  m : W.cell? ⟨0, 0, none⟩ = some (.int .i64 M)
  x : Arr W (w.heap.size + 1) 26 #[.int .u64 7, .slice (some ⟨w.heap.size, 0, none⟩) 1 1, .int .u64 9, .string ⟨#[]⟩, .int .u64 30]
  a : Arr W (w.heap.size + 1 + 1) 28 #[.int .u64 2, .int .u64 5, .int .u64 8]
theorem AL.later {w W W' : World} {M : Int} (h : AL w W M) (b : Below W.heap.size W W') : AL w W' M :=
  ⟨h.k.later b, h.k2.later b, h.f.later b, (b.cell (p := ⟨0, 0, none⟩) (World.block_lt_of_cell? W _ h.m)).trans h.m, h.x.below b, h.a.below b⟩
theorem AL.cells {w W : World} {M : Int} (h : AL w W M) : W.cell? ⟨w.heap.size + 1, 0, none⟩ = some (.int .u64 7) ∧ W.cell? ⟨w.heap.size + 1, 1, none⟩ = some (.slice (some ⟨w.heap.size, 0, none⟩) 1 1) ∧ W.cell? ⟨w.heap.size + 1, 2, none⟩ = some (.int .u64 9) ∧ W.cell? ⟨w.heap.size + 1, 3, none⟩ = some (.string ⟨#[]⟩) ∧ W.cell? ⟨w.heap.size + 1, 4, none⟩ = some (.int .u64 30) ∧ W.cell? ⟨w.heap.size + 1 + 1, 0, none⟩ = some (.int .u64 2) ∧ W.cell? ⟨w.heap.size + 1 + 1, 1, none⟩ = some (.int .u64 5) ∧ W.cell? ⟨w.heap.size + 1 + 1, 2, none⟩ = some (.int .u64 8) := ⟨h.x.cell rfl, h.x.cell rfl, h.x.cell rfl, h.x.cell rfl, h.x.cell rfl, h.a.cell rfl, h.a.cell rfl, h.a.cell rfl⟩
theorem size_1 (w : World) (o : Obj) : (w.alloc o).heap.size = w.heap.size + 1 := by simp
theorem al_new (w : World) (M : Int) (hM : w.cell? ⟨0, 0, none⟩ = some (.int .i64 M)) : AL w (aWorld w) M ∧ Below w.heap.size w (aWorld w) := by
  have b1 := below_box w (.cells #[.string ⟨#[92, 83, 101, 101, 110]⟩] 9)
  have s1 := size_1 w (.cells #[.string ⟨#[92, 83, 101, 101, 110]⟩] 9)
  have a1 := Arr.new w 9 #[.string ⟨#[92, 83, 101, 101, 110]⟩]
  unfold aWorld
  generalize w.alloc (.cells #[.string ⟨#[92, 83, 101, 101, 110]⟩] 9) = w1 at *
  have b2 := below_box w1 (.cells #[.int .u64 7, .slice (some ⟨w.heap.size, 0, none⟩) 1 1, .int .u64 9, .string ⟨#[]⟩, .int .u64 30] 26)
  have s2 := size_1 w1 (.cells #[.int .u64 7, .slice (some ⟨w.heap.size, 0, none⟩) 1 1, .int .u64 9, .string ⟨#[]⟩, .int .u64 30] 26)
  have a2 := Arr.new w1 26 #[.int .u64 7, .slice (some ⟨w.heap.size, 0, none⟩) 1 1, .int .u64 9, .string ⟨#[]⟩, .int .u64 30]
  generalize w1.alloc (.cells #[.int .u64 7, .slice (some ⟨w.heap.size, 0, none⟩) 1 1, .int .u64 9, .string ⟨#[]⟩, .int .u64 30] 26) = w2 at *
  have b3 := below_box w2 (.cells #[.int .u64 2, .int .u64 5, .int .u64 8] 28)
  have s3 := size_1 w2 (.cells #[.int .u64 2, .int .u64 5, .int .u64 8] 28)
  have a3 := Arr.new w2 28 #[.int .u64 2, .int .u64 5, .int .u64 8]
  generalize w2.alloc (.cells #[.int .u64 2, .int .u64 5, .int .u64 8] 28) = w3 at *
  have b4 := below_box w3 (.cells #[.int .i64 7, .int .i64 0, .string ⟨#[92, 83, 101, 101, 110]⟩, .string ⟨#[]⟩, .int .u64 0, .slice none 0 0] 36)
  have s4 := size_1 w3 (.cells #[.int .i64 7, .int .i64 0, .string ⟨#[92, 83, 101, 101, 110]⟩, .string ⟨#[]⟩, .int .u64 0, .slice none 0 0] 36)
  generalize w3.alloc (.cells #[.int .i64 7, .int .i64 0, .string ⟨#[92, 83, 101, 101, 110]⟩, .string ⟨#[]⟩, .int .u64 0, .slice none 0 0] 36) = w4 at *
  have b5 := below_box w4 (.cells (cellsK aKeys).toArray 36)
  have hk : ∀ k ∈ aKeys, SetIn w4 k := by
    intro k hk
    simp only [aKeys, List.mem_cons, List.not_mem_nil, or_false] at hk
    rcases hk with rfl | rfl | rfl | rfl <;> exact setIn_nil w4 (by decide)
  have k5 := Sl.new w4 aKeys hk 4 rfl
  have hsz : w4.heap.size = w.heap.size + 1 + 1 + 1 + 1 := by rw [s4, s3, s2, s1]
  rw [hsz] at k5
  have a1' := (((a1.below b2).below b3).below b4).below b5
  have a2' := ((a2.below b3).below b4).below b5
  have a3' := (a3.below b4).below b5
  rw [s1] at a2'
  rw [s2, s1] at a3'
  have B : Below w.heap.size w (w4.alloc (.cells (cellsK aKeys).toArray 36)) :=
    ((((b1.trans (b2.mono (by omega))).trans (b3.mono (by omega))).trans (b4.mono (by omega))).trans (b5.mono (by omega)))
  refine ⟨⟨k5, ?_, ⟨_, _, rfl, .inr ⟨_, 0, rfl, a1'.lt, fun j hj => ?_⟩, show [seen].length ≤ 140737488355328 by decide⟩, (B.cell (p := ⟨0, 0, none⟩) (World.block_lt_of_cell? w _ hM)).trans hM, a2', a3'⟩, B⟩
  · obtain ⟨⟨a, c, e, h2, h3, h4⟩, h5⟩ := k5
    cases e
    refine ⟨⟨_, 2, rfl, by decide, ?_, fun e => by cases e⟩, fun k hk => h5 k (by rw [List.mem_singleton.1 hk]; simp [aKeys])⟩
    rcases h3 with h | ⟨b, off, e, hb, hc⟩
    · cases h
    · cases e
      refine .inr ⟨_, 12, rfl, hb, fun j hj i hi => ?_⟩
      have hj0 : j = 0 := by simpa using hj
      subst hj0
      have := hc 2 (by decide) i hi
      exact (by simpa using this : _ = (keyCells aKeys[2])[i]?)
  · have hj0 : j = 0 := by simpa [aMail] using hj
    subst hj0
    exact a1'.cell rfl

set_option maxHeartbeats 4000000 in
set_option maxRecDepth 100000 in
theorem alive_any (M : Int) (w : World) (hM : w.cell? ⟨0, 0, none⟩ = some (.int .i64 M)) :
    Calls Tryd.prog 6 #[] w fun e w' => e = .returned (.bool true) ∧ Below w.heap.size w w' := by
  obtain ⟨hal, hB⟩ := al_new w M hM
  have HC1 : ∀ W, AL w W M → Calls Tryd.prog 8 #[.slice (some ⟨w.heap.size + 1 + 1 + 1 + 1, 0, none⟩) 4 4] W fun e w' => e = .returned (.bool true) ∧ Below W.heap.size W w' := fun W h => by
    have := whole_any _ aKeys (by decide) W h.k
    rwa [a_whole] at this
  have HC2 : ∀ W, AL w W M → Calls Tryd.prog 11 #[.slice (some ⟨w.heap.size + 1 + 1 + 1 + 1, 0, none⟩) 4 4, .agg #[.int .u64 7, .slice (some ⟨w.heap.size, 0, none⟩) 1 1, .int .u64 9, .string ⟨#[]⟩, .int .u64 30], .agg #[.int .u64 2, .int .u64 5, .int .u64 8], .string ⟨#[83, 117, 98, 106, 101, 99, 116, 58, 32, 72, 105, 13, 10, 13, 10, 121, 111, 117]⟩] W fun e w' => e = .returned (.bool true) ∧ Below W.heap.size W w' := fun W h => by
    have := match_any _ aKeys (by decide) (fun _ => a_light) (aMail aText (fvA w)) (show aText.length < 4294967281 by decide) M W h.m h.k h.f
    rw [a_says] at this
    exact this
  have HC3 : ∀ W, AL w W M → Calls Tryd.prog 11 #[.slice (some ⟨w.heap.size + 1 + 1 + 1 + 1, 12, none⟩) 1 2, .agg #[.int .u64 7, .slice (some ⟨w.heap.size, 0, none⟩) 1 1, .int .u64 9, .string ⟨#[]⟩, .int .u64 30], .agg #[.int .u64 2, .int .u64 5, .int .u64 8], .string ⟨#[]⟩] W fun e w' => e = .returned (.bool false) ∧ Below W.heap.size W w' := fun W h => by
    have := match_any _ [kF] (by decide) (fun _ k hk => a_light k (by rw [List.mem_singleton.1 hk]; simp [aKeys])) (aMail [] (fvA w)) (show ([] : List UInt8).length < 4294967281 by decide) M W h.m h.k2 h.f
    rw [a_not] at this
    exact this
  have HC4 : ∀ W, AL w W M → Calls Tryd.prog 10 #[.slice (some ⟨w.heap.size + 1 + 1 + 1 + 1, 0, none⟩) 4 4] W fun e w' => e = .returned (.bool true) ∧ Below W.heap.size W w' := fun W h => by
    have := wants_any _ aKeys (by decide) W h.k
    rwa [a_want] at this
  replace HC1 := Lib.hid HC1
  replace HC2 := Lib.hid HC2
  replace HC3 := Lib.hid HC3
  replace HC4 := Lib.hid HC4
  replace hal := Lib.hid hal
  replace hB := Lib.hid hB
  clear hM
  go_enter Tryd.func6, Tryd.ntmps6
  go_upto_region 5 with (fail)
  change Code.wp _ _ _ _ (aWorld w)
  generalize aWorld w = W at *
  have h0 : AL w W.drew M := hal.out.later (below_drew (Below.refl _ _))
  have hB0 : Below w.heap.size w W.drew := below_drew hB.out
  have hC := h0.cells
  clear hal hB
  go_region_held3 (fun W => W.cell? ⟨w.heap.size + 1, 0, none⟩ = some (.int .u64 7) ∧ W.cell? ⟨w.heap.size + 1, 1, none⟩ = some (.slice (some ⟨w.heap.size, 0, none⟩) 1 1) ∧ W.cell? ⟨w.heap.size + 1, 2, none⟩ = some (.int .u64 9) ∧ W.cell? ⟨w.heap.size + 1, 3, none⟩ = some (.string ⟨#[]⟩) ∧ W.cell? ⟨w.heap.size + 1, 4, none⟩ = some (.int .u64 30) ∧ W.cell? ⟨w.heap.size + 1 + 1, 0, none⟩ = some (.int .u64 2) ∧ W.cell? ⟨w.heap.size + 1 + 1, 1, none⟩ = some (.int .u64 5) ∧ W.cell? ⟨w.heap.size + 1 + 1, 2, none⟩ = some (.int .u64 8)) (first | (with_reducible exact hC) | (with_reducible exact hC4) | (with_reducible exact hC3) | (with_reducible exact hC2) | (with_reducible exact hC1) | go_keep)
    ((first
      | (go_at_call 8; with_reducible refine (HC1.out _ h0).mono ?_; rintro e w1 ⟨rfl, b1⟩; have h1 := h0.later b1; have hC1 := h1.cells)
      | (go_at_call 11; with_reducible refine (HC2.out _ h1).mono ?_; rintro e w2 ⟨rfl, b2⟩; have h2 := h1.later b2; have hC2 := h2.cells)
      | (go_at_call 11; with_reducible refine (HC3.out _ h2).mono ?_; rintro e w3 ⟨rfl, b3⟩; have h3 := h2.later b3; have hC3 := h3.cells)
      | (go_at_call 10; with_reducible refine (HC4.out _ h3).mono ?_; rintro e w4 ⟨rfl, b4⟩; have h4 := h3.later b4; have hC4 := h4.cells)))
  go_wp2_with fail
  go_ret
  exact ⟨rfl, bnext (bnext (bnext (bnext hB0 b1) b2) b3) b4⟩
end Go.Proofs.YtekbjapclajflaaDoor.mt
