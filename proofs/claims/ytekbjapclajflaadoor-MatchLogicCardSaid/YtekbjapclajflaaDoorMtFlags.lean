/-
  The law MatchFlags, walked.
-/
import Derived.Test.YtekbjapclajflaaDoorMtAlive
namespace Go.Proofs.YtekbjapclajflaaDoor.mt
set_option linter.unusedVariables false
open Go.RowKit Go.Shelf
open fl (S S_size S_append S_inj)
attribute [local go_sem] Oper.semAt_some

theorem E_leaf {f : Key → Bool} {k : Key} (h4 : 4 ≤ k.kind) (h13 : k.kind ≤ 13) (d : Nat) : E f (d + 1) [k] = some (f k, []) := by
  have h1 : k.kind ≠ 1 := by omega
  have h2 : k.kind ≠ 2 := by omega
  have h3 : k.kind ≠ 3 := by omega
  have hn : kidsN k = 0 := by unfold kidsN; rw [if_neg h1, if_neg h2, if_neg h3]
  have hk : kidsOk k = true := by unfold kidsOk; rw [if_neg h1, if_neg h2, if_neg h3, decide_eq_true h4, decide_eq_true h13]; rfl
  rw [E_cons, step_eq, if_pos hk, hn, show (0 : Int).toNat = 0 from rfl, times, out_some]
  unfold comb
  rw [if_neg h1, if_neg h2, if_neg h3]
theorem says_leaf {f : Key → Bool} {k : Key} (h4 : 4 ≤ k.kind) (h13 : k.kind ≤ 13) : says f [k] = f k := says_of (by simp) (E_leaf h4 h13 8)
theorem says_nil (f : Key → Bool) : says f [] = false := rfl
def kFl (s : List UInt8) (n : Nat) : Key := ⟨7, 0, s, [], n, [], nilS⟩
def kAll : Key := ⟨4, 0, [], [], 0, [], nilS⟩
theorem alone_flag (y : Mail) (s : List UInt8) (n : Nat) : alone y (kFl s n) = (decide (s ∈ y.flags) == decide (n = 1)) := by
  unfold alone kFl
  rfl
theorem alone_all (y : Mail) : alone y kAll = true := rfl

/-- Keys of a literal are asked. -/
theorem leaf_any (k : Key) (h4 : 4 ≤ k.kind) (h13 : k.kind ≤ 13) (hk : Light k) (hs : k.set = [] ∧ k.sv = nilS ∧ k.kids = 0) (y : Mail) (hm : y.m.length < 4294967281) (M : Int) (W : World) (hM : W.cell? ⟨0, 0, none⟩ = some (.int .i64 M)) (hf : FlagsIn W y) :
    Calls Tryd.prog 11 #[.slice (some ⟨W.heap.size, 0, none⟩) 1 1, letterV y, placeV y, .string (S y.m)] (W.alloc (.cells (keyCells k).toArray 36)) fun e w' => e = .returned (.bool (alone y k)) ∧ Below W.heap.size W w' := by
  have b := below_box W (.cells (keyCells k).toArray 36)
  have hsl : Sl (W.alloc (.cells (keyCells k).toArray 36)) (.slice (some ⟨W.heap.size, 0, none⟩) 1 1) [k] := by
    have := Sl.new W [k] (fun x hx => by rw [List.mem_singleton.1 hx]; exact ⟨none, 0, by rw [hs.2.1, hs.1]; rfl, .inl hs.1, by rw [hs.1]; simp, by omega⟩) 1 rfl
    rwa [show cellsK [k] = keyCells k by simp [cellsK]] at this
  have h := match_any _ [k] (by simp) (fun _ x hx => by rw [List.mem_singleton.1 hx]; exact hk) y hm M _ ((b.cell (p := ⟨0, 0, none⟩) (World.block_lt_of_cell? W _ hM)).trans hM) hsl (hf.later b)
  rw [says_leaf h4 h13] at h
  exact h.mono fun e w' ⟨h1, h2⟩ => ⟨h1, b.trans (h2.mono b.size)⟩

theorem mail_cells {y : Mail} {b : Nat} {W : World} (h : Arr W b 30 #[.int .u64 (y.uid : Nat), y.fv, .int .u64 (y.mod : Nat), .string y.hash, .int .u64 (y.size : Nat), .int .u64 (y.seq : Nat), .int .u64 (y.mostSeq : Nat), .int .u64 (y.mostUid : Nat), .string (S y.m)]) :
    W.cell? ⟨b, 0, none⟩ = some (.int .u64 (y.uid : Nat)) ∧ W.cell? ⟨b, 1, none⟩ = some (y.fv) ∧ W.cell? ⟨b, 2, none⟩ = some (.int .u64 (y.mod : Nat)) ∧ W.cell? ⟨b, 3, none⟩ = some (.string y.hash) ∧ W.cell? ⟨b, 4, none⟩ = some (.int .u64 (y.size : Nat)) ∧ W.cell? ⟨b, 5, none⟩ = some (.int .u64 (y.seq : Nat)) ∧ W.cell? ⟨b, 6, none⟩ = some (.int .u64 (y.mostSeq : Nat)) ∧ W.cell? ⟨b, 7, none⟩ = some (.int .u64 (y.mostUid : Nat)) ∧ W.cell? ⟨b, 8, none⟩ = some (.string (S y.m)) :=
  ⟨h.cell rfl, h.cell rfl, h.cell rfl, h.cell rfl, h.cell rfl, h.cell rfl, h.cell rfl, h.cell rfl, h.cell rfl⟩

set_option maxHeartbeats 4000000 in
set_option maxRecDepth 100000 in
theorem flags_walk (s : List UInt8) (hs : s.length ≤ 140737488355328) (y : Mail) (hy : y.m.length ≤ 140737488355328) (M : Int) (w : World) (hM : w.cell? ⟨0, 0, none⟩ = some (.int .i64 M)) (hf : FlagsIn w y) :
    Calls Tryd.prog 5 #[.string (S s), mailV y] w fun e w' => e = .returned (.bool true) ∧ Below w.heap.size w w' := by
  have b0 := below_box w (.cells #[.int .u64 (y.uid : Nat), y.fv, .int .u64 (y.mod : Nat), .string y.hash, .int .u64 (y.size : Nat), .int .u64 (y.seq : Nat), .int .u64 (y.mostSeq : Nat), .int .u64 (y.mostUid : Nat), .string (S y.m)] 30)
  have A0 := Arr.new w 30 #[.int .u64 (y.uid : Nat), y.fv, .int .u64 (y.mod : Nat), .string y.hash, .int .u64 (y.size : Nat), .int .u64 (y.seq : Nat), .int .u64 (y.mostSeq : Nat), .int .u64 (y.mostUid : Nat), .string (S y.m)]
  have c1 := short_any (.slice none 0 0) [] (by simp) (S y.m) (by rw [S_size]; omega) _ (Sl.nil (w.alloc (.cells #[.int .u64 (y.uid : Nat), y.fv, .int .u64 (y.mod : Nat), .string y.hash, .int .u64 (y.size : Nat), .int .u64 (y.seq : Nat), .int .u64 (y.mostSeq : Nat), .int .u64 (y.mostUid : Nat), .string (S y.m)] 30)))
  rw [S_size] at c1
  have HH : Hid (Arr (w.alloc (.cells #[.int .u64 (y.uid : Nat), y.fv, .int .u64 (y.mod : Nat), .string y.hash, .int .u64 (y.size : Nat), .int .u64 (y.seq : Nat), .int .u64 (y.mostSeq : Nat), .int .u64 (y.mostUid : Nat), .string (S y.m)] 30)) w.heap.size 30 #[.int .u64 (y.uid : Nat), y.fv, .int .u64 (y.mod : Nat), .string y.hash, .int .u64 (y.size : Nat), .int .u64 (y.seq : Nat), .int .u64 (y.mostSeq : Nat), .int .u64 (y.mostUid : Nat), .string (S y.m)] ∧ Below w.heap.size w (w.alloc (.cells #[.int .u64 (y.uid : Nat), y.fv, .int .u64 (y.mod : Nat), .string y.hash, .int .u64 (y.size : Nat), .int .u64 (y.seq : Nat), .int .u64 (y.mostSeq : Nat), .int .u64 (y.mostUid : Nat), .string (S y.m)] 30)) ∧ w.cell? ⟨0, 0, none⟩ = some (.int .i64 M) ∧ FlagsIn w y) := ⟨A0, b0, hM, hf⟩
  clear A0 b0 hM hf
  unfold mailV
  cases hsh : shortL [] y.m.length with
  | false =>
    rw [hsh] at c1
    clear hsh hy
    go_enter Tryd.func5, Tryd.ntmps5
    go_wp2_with fail
    refine c1.mono ?_
    rintro e w1 ⟨rfl, b1⟩
    have HB : Hid (Below w.heap.size w w1 ∧ w1.cell? ⟨0, 0, none⟩ = some (.int .i64 M)) := by
      have := bnext HH.out.2.1 b1
      exact ⟨this, (this.cell (p := ⟨0, 0, none⟩) (World.block_lt_of_cell? w _ HH.out.2.2.1)).trans HH.out.2.2.1⟩
    clear c1 HH b1
    have c2 := alive_any M w1 HB.out.2
    go_wp2_with fail
    refine c2.mono ?_
    rintro e w2 ⟨rfl, b2⟩
    have B2 := Lib.hid (bnext HB.out.1 b2)
    clear c2 b2 HB
    go_wp2_with fail
    go_ret
    exact ⟨rfl, B2.out⟩
  | true =>
    have hm := (short_yes hsh).2.1
    rw [hsh] at c1
    clear hsh
    -- what is asked at each world
    have HC : ∀ (k : Key), 4 ≤ k.kind → k.kind ≤ 13 → Light k → (k.set = [] ∧ k.sv = nilS ∧ k.kids = 0) → ∀ W, Below w.heap.size w W → Calls Tryd.prog 11 #[.slice (some ⟨W.heap.size, 0, none⟩) 1 1, letterV y, placeV y, .string (S y.m)] (W.alloc (.cells (keyCells k).toArray 36)) fun e w' => e = .returned (.bool (alone y k)) ∧ Below W.heap.size W w' := fun k h4 h13 hk hs W hW =>
      leaf_any k h4 h13 hk hs y (by omega) M W ((hW.cell (p := ⟨0, 0, none⟩) (World.block_lt_of_cell? w _ HH.out.2.2.1)).trans HH.out.2.2.1) (HH.out.2.2.2.later hW)
    have HN : ∀ W, Below w.heap.size w W → Calls Tryd.prog 11 #[.slice none 0 0, letterV y, placeV y, .string (S y.m)] W fun e w' => e = .returned (.bool false) ∧ Below W.heap.size W w' := fun W hW =>
      match_any _ [] (by simp) (fun _ x hx => by cases hx) y (by omega) M W ((hW.cell (p := ⟨0, 0, none⟩) (World.block_lt_of_cell? w _ HH.out.2.2.1)).trans HH.out.2.2.1) (Sl.nil W) (HH.out.2.2.2.later hW)
    have H1 := Lib.hid (HC (kFl s 1) (show (4 : Int) ≤ 7 by decide) (show (7 : Int) ≤ 13 by decide) ⟨by simp [kFl], hs⟩ ⟨rfl, rfl, rfl⟩)
    have H2 := Lib.hid (HC (kFl s 0) (show (4 : Int) ≤ 7 by decide) (show (7 : Int) ≤ 13 by decide) ⟨by simp [kFl], hs⟩ ⟨rfl, rfl, rfl⟩)
    have H3 := Lib.hid (HC kAll (by decide) (by decide) ⟨by simp [kAll], by simp [kAll]⟩ ⟨rfl, rfl, rfl⟩)
    replace HN := Lib.hid HN
    have HA := Lib.hid (fun W (h : Below w.heap.size w W) => alive_any M W ((h.cell (p := ⟨0, 0, none⟩) (World.block_lt_of_cell? w _ HH.out.2.2.1)).trans HH.out.2.2.1))
    rw [alone_flag] at H1 H2
    rw [alone_all] at H3
    rw [show decide (1 = 1) = true from rfl] at H1
    rw [show decide (0 = 1) = false from rfl] at H2
    generalize decide (s ∈ y.flags) = q at *
    have H1' : Hid (∀ W, Below w.heap.size w W → Calls Tryd.prog 11 #[.slice (some ⟨W.heap.size, 0, none⟩) 1 1, .agg #[.int .u64 (y.uid : Nat), y.fv, .int .u64 (y.mod : Nat), .string y.hash, .int .u64 (y.size : Nat)], .agg #[.int .u64 (y.seq : Nat), .int .u64 (y.mostSeq : Nat), .int .u64 (y.mostUid : Nat)], .string (S y.m)] (W.alloc (.cells #[.int .i64 7, .int .i64 0, .string (S s), .string ⟨#[]⟩, .int .u64 1, .slice none 0 0] 36)) fun e w' => e = .returned (.bool (q == true)) ∧ Below W.heap.size W w') := H1
    have H2' : Hid (∀ W, Below w.heap.size w W → Calls Tryd.prog 11 #[.slice (some ⟨W.heap.size, 0, none⟩) 1 1, .agg #[.int .u64 (y.uid : Nat), y.fv, .int .u64 (y.mod : Nat), .string y.hash, .int .u64 (y.size : Nat)], .agg #[.int .u64 (y.seq : Nat), .int .u64 (y.mostSeq : Nat), .int .u64 (y.mostUid : Nat)], .string (S y.m)] (W.alloc (.cells #[.int .i64 7, .int .i64 0, .string (S s), .string ⟨#[]⟩, .int .u64 0, .slice none 0 0] 36)) fun e w' => e = .returned (.bool (q == false)) ∧ Below W.heap.size W w') := H2
    have H3' : Hid (∀ W, Below w.heap.size w W → Calls Tryd.prog 11 #[.slice (some ⟨W.heap.size, 0, none⟩) 1 1, .agg #[.int .u64 (y.uid : Nat), y.fv, .int .u64 (y.mod : Nat), .string y.hash, .int .u64 (y.size : Nat)], .agg #[.int .u64 (y.seq : Nat), .int .u64 (y.mostSeq : Nat), .int .u64 (y.mostUid : Nat)], .string (S y.m)] (W.alloc (.cells #[.int .i64 4, .int .i64 0, .string ⟨#[]⟩, .string ⟨#[]⟩, .int .u64 0, .slice none 0 0] 36)) fun e w' => e = .returned (.bool true) ∧ Below W.heap.size W w') := H3
    clear H1 H2 H3
    unfold letterV placeV at HN
    have HB : Hid (∀ W, Below w.heap.size w W → w.heap.size < W.heap.size → Arr W w.heap.size 30 #[.int .u64 (y.uid : Nat), y.fv, .int .u64 (y.mod : Nat), .string y.hash, .int .u64 (y.size : Nat), .int .u64 (y.seq : Nat), .int .u64 (y.mostSeq : Nat), .int .u64 (y.mostUid : Nat), .string (S y.m)] → True) := fun _ _ _ _ => trivial
    clear HC hm hs hy HB
    go_enter Tryd.func5, Tryd.ntmps5
    go_wp2_with fail
    refine c1.mono ?_
    rintro e w1 ⟨rfl, b1⟩
    have A1 := HH.out.1.below b1
    have B1 := bnext HH.out.2.1 b1
    have C1 := H1'.out w1 B1
    obtain ⟨m0, m1, m2, m3, m4, m5, m6, m7, m8⟩ := mail_cells (A1.below (below_box w1 (.cells #[.int .i64 7, .int .i64 0, .string (S s), .string ⟨#[]⟩, .int .u64 1, .slice none 0 0] 36)))
    clear c1 b1
    replace A1 := Lib.hid A1
    replace B1 := Lib.hid B1
    go_wp2_with fail
    refine C1.mono ?_
    rintro e w2 ⟨rfl, b2⟩
    have A2 := A1.out.below b2
    have B2 := bnext B1.out b2
    have C2 := H2'.out w2 B2
    clear m0 m1 m2 m3 m4 m5 m6 m7 m8 C1 b2 A1 B1
    obtain ⟨m0, m1, m2, m3, m4, m5, m6, m7, m8⟩ := mail_cells (A2.below (below_box w2 (.cells #[.int .i64 7, .int .i64 0, .string (S s), .string ⟨#[]⟩, .int .u64 0, .slice none 0 0] 36)))
    replace A2 := Lib.hid A2
    replace B2 := Lib.hid B2
    go_wp2_with fail
    refine C2.mono ?_
    rintro e w3 ⟨rfl, b3⟩
    have A3 := A2.out.below b3
    have B3 := bnext B2.out b3
    have C3 := HA.out w3 B3
    clear m0 m1 m2 m3 m4 m5 m6 m7 m8 C2 b3 A2 B2
    replace A3 := Lib.hid A3
    replace B3 := Lib.hid B3
    go_wp2_with fail
    refine C3.mono ?_
    rintro e w4 ⟨rfl, b4⟩
    have A4 := A3.out.below b4
    have B4 := bnext B3.out b4
    have C4 := H3'.out w4 B4
    obtain ⟨m0, m1, m2, m3, m4, m5, m6, m7, m8⟩ := mail_cells (A4.below (below_box w4 (.cells #[.int .i64 4, .int .i64 0, .string ⟨#[]⟩, .string ⟨#[]⟩, .int .u64 0, .slice none 0 0] 36)))
    clear C3 b4 A3 B3
    replace A4 := Lib.hid A4
    replace B4 := Lib.hid B4
    cases q with
    | true =>
      go_wp2_with fail
      refine C4.mono ?_
      rintro e w5 ⟨rfl, b5⟩
      have A5 := A4.out.below b5
      have B5 := bnext B4.out b5
      have C5 := HN.out w5 B5
      clear m0 m1 m2 m3 m4 m5 m6 m7 m8 C4 b5 A4 B4
      obtain ⟨m0, m1, m2, m3, m4, m5, m6, m7, m8⟩ := mail_cells A5
      replace B5 := Lib.hid B5
      clear A5
      go_wp2_with fail
      refine C5.mono ?_
      rintro e w6 ⟨rfl, b6⟩
      have B6 := Lib.hid (bnext B5.out b6)
      clear m0 m1 m2 m3 m4 m5 m6 m7 m8 C5 b6 B5
      go_wp2_with fail
      go_ret
      exact ⟨rfl, B6.out⟩
    | false =>
      go_wp2_with fail
      refine C4.mono ?_
      rintro e w5 ⟨rfl, b5⟩
      have A5 := A4.out.below b5
      have B5 := bnext B4.out b5
      have C5 := HN.out w5 B5
      clear m0 m1 m2 m3 m4 m5 m6 m7 m8 C4 b5 A4 B4
      obtain ⟨m0, m1, m2, m3, m4, m5, m6, m7, m8⟩ := mail_cells A5
      replace B5 := Lib.hid B5
      clear A5
      go_wp2_with fail
      refine C5.mono ?_
      rintro e w6 ⟨rfl, b6⟩
      have B6 := Lib.hid (bnext B5.out b6)
      clear m0 m1 m2 m3 m4 m5 m6 m7 m8 C5 b6 B5
      go_wp2_with fail
      go_ret
      exact ⟨rfl, B6.out⟩
end Go.Proofs.YtekbjapclajflaaDoor.mt
