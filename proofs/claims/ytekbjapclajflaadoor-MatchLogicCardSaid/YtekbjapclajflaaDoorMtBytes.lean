/-
  The law MatchBytes, walked. Written by gen_bytes.py.
-/
import Derived.Test.YtekbjapclajflaaDoorMtFlags
namespace Go.Proofs.YtekbjapclajflaaDoor.mt
set_option linter.unusedVariables false
open Go.RowKit Go.Shelf
open fl (S S_size S_append S_inj)
attribute [local go_sem] Oper.semAt_some

/-- A key that doesn't want the bytes says the same of any. -/
theorem alone_bytes {y : Mail} {m : List UInt8} {k : Key} (h : want k = false) : alone y k = alone { y with m := m } k := by
  unfold want at h
  simp only [Bool.or_eq_false_iff, decide_eq_false_iff_not] at h
  unfold alone
  rw [if_neg h.1, if_neg h.2.1, if_neg h.2.2, if_neg h.1, if_neg h.2.1, if_neg h.2.2]
theorem says_bytes {y : Mail} {m : List UInt8} {l : List Key} (h : l.any want = false) : says (alone y) l = says (alone { y with m := m }) l := by
  refine says_same fun k hk => alone_bytes ?_
  have := List.any_eq_false.1 h k hk
  simpa using this

/-- What the calls take, whatever has been made since. -/
structure In (w W : World) (v : Value) (l : List Key) (y : Mail) (M : Int) : Prop where
  b : Below w.heap.size w W
  a : Arr W w.heap.size 30 #[.int .u64 (y.uid : Nat), y.fv, .int .u64 (y.mod : Nat), .string y.hash, .int .u64 (y.size : Nat), .int .u64 (y.seq : Nat), .int .u64 (y.mostSeq : Nat), .int .u64 (y.mostUid : Nat), .string (S y.m)]
  s : Sl W v l
  f : FlagsIn W y
  m : W.cell? ⟨0, 0, none⟩ = some (.int .i64 M)
theorem In.later {w W W' : World} {v : Value} {l : List Key} {y : Mail} {M : Int} (h : In w W v l y M) (b : Below W.heap.size W W') : In w W' v l y M :=
  ⟨bnext h.b b, h.a.below b, h.s.later b, h.f.later b, (b.cell (p := ⟨0, 0, none⟩) (World.block_lt_of_cell? W _ h.m)).trans h.m⟩
theorem In.cells {w W : World} {v : Value} {l : List Key} {y : Mail} {M : Int} (h : In w W v l y M) : W.cell? ⟨w.heap.size, 0, none⟩ = some (.int .u64 (y.uid : Nat)) ∧ W.cell? ⟨w.heap.size, 1, none⟩ = some (y.fv) ∧ W.cell? ⟨w.heap.size, 2, none⟩ = some (.int .u64 (y.mod : Nat)) ∧ W.cell? ⟨w.heap.size, 3, none⟩ = some (.string y.hash) ∧ W.cell? ⟨w.heap.size, 4, none⟩ = some (.int .u64 (y.size : Nat)) ∧ W.cell? ⟨w.heap.size, 5, none⟩ = some (.int .u64 (y.seq : Nat)) ∧ W.cell? ⟨w.heap.size, 6, none⟩ = some (.int .u64 (y.mostSeq : Nat)) ∧ W.cell? ⟨w.heap.size, 7, none⟩ = some (.int .u64 (y.mostUid : Nat)) ∧ W.cell? ⟨w.heap.size, 8, none⟩ = some (.string (S y.m)) := mail_cells h.a

set_option maxHeartbeats 4000000 in
set_option maxRecDepth 100000 in
theorem bytes_walk (v : Value) (l : List Key) (hl : l.length ≤ 140737488355328) (y : Mail) (hy : y.m.length ≤ 140737488355328) (m : List UInt8) (hm : m.length ≤ 140737488355328) (M : Int) (w : World) (hM : w.cell? ⟨0, 0, none⟩ = some (.int .i64 M)) (hs : Sl w v l) (hf : FlagsIn w y) :
    Calls Tryd.prog 4 #[v, mailV y, .string (S m)] w fun e w' => e = .returned (.bool true) ∧ Below w.heap.size w w' := by
  have hin : In w (w.alloc (.cells #[.int .u64 (y.uid : Nat), y.fv, .int .u64 (y.mod : Nat), .string y.hash, .int .u64 (y.size : Nat), .int .u64 (y.seq : Nat), .int .u64 (y.mostSeq : Nat), .int .u64 (y.mostUid : Nat), .string (S y.m)] 30)) v l y M := by
    have b0 := below_box w (.cells #[.int .u64 (y.uid : Nat), y.fv, .int .u64 (y.mod : Nat), .string y.hash, .int .u64 (y.size : Nat), .int .u64 (y.seq : Nat), .int .u64 (y.mostSeq : Nat), .int .u64 (y.mostUid : Nat), .string (S y.m)] 30)
    exact ⟨b0, Arr.new w _ _, hs.later b0, hf.later b0, (b0.cell (p := ⟨0, 0, none⟩) (World.block_lt_of_cell? w _ hM)).trans hM⟩
  have c1 := short_any v l hl (S (y.m ++ m)) (by rw [S_size, List.length_append]; omega) _ hin.s
  rw [S_size] at c1
  have hadd := fun (W : World) => run_string_add_sum (P := Tryd.prog) W (S y.m) (S m) (by rw [S_size, S_size]; omega)
  rw [S_append] at hadd
  have HI := Lib.hid hin
  have HA := Lib.hid (fun W (h : In w W v l y M) => alive_any M W h.m)
  have HW := Lib.hid (fun W (h : In w W v l y M) => wants_any v l hl W h.s)
  clear hM hf hs hin
  unfold mailV
  cases hsh : shortL l (y.m ++ m).length with
  | false =>
    rw [hsh] at c1
    clear hsh hy hm
    go_enter Tryd.func4, Tryd.ntmps4
    go_wp2_with fail
    refine c1.mono ?_
    rintro e w1 ⟨rfl, b1⟩
    have h1 := HI.out.later b1
    have c2 := HA.out w1 h1
    replace h1 := Lib.hid h1
    clear c1 HI b1 HA HW hadd
    go_wp2_with fail
    refine c2.mono ?_
    rintro e w2 ⟨rfl, b2⟩
    have B2 := Lib.hid (bnext h1.out.b b2)
    clear c2 b2 h1
    go_wp2_with fail
    go_ret
    exact ⟨rfl, B2.out⟩
  | true =>
    have hlen := (short_yes hsh).2.1
    rw [List.length_append] at hlen
    have hlt := short_light hsh
    have H1 : Hid (∀ W, In w W v l y M → Calls Tryd.prog 11 #[v, .agg #[.int .u64 (y.uid : Nat), y.fv, .int .u64 (y.mod : Nat), .string y.hash, .int .u64 (y.size : Nat)], .agg #[.int .u64 (y.seq : Nat), .int .u64 (y.mostSeq : Nat), .int .u64 (y.mostUid : Nat)], .string (S y.m)] W fun e w' => e = .returned (.bool (says (alone y) l)) ∧ Below W.heap.size W w') := fun W h =>
      match_any v l hl (fun _ => hlt) y (by omega) M W h.m h.s h.f
    have H2 : Hid (∀ W, In w W v l y M → Calls Tryd.prog 11 #[v, .agg #[.int .u64 (y.uid : Nat), y.fv, .int .u64 (y.mod : Nat), .string y.hash, .int .u64 (y.size : Nat)], .agg #[.int .u64 (y.seq : Nat), .int .u64 (y.mostSeq : Nat), .int .u64 (y.mostUid : Nat)], .string (S m)] W fun e w' => e = .returned (.bool (says (alone { y with m := m }) l)) ∧ Below W.heap.size W w') := fun W h =>
      match_any v l hl (fun _ => hlt) { y with m := m } (by show m.length < _; omega) M W h.m h.s h.f
    rw [hsh] at c1
    clear hsh hy hm hlen hlt
    cases hw : l.any want with
    | true =>
      rw [hw] at HW
      clear H1 H2 hw
      go_enter Tryd.func4, Tryd.ntmps4
      go_wp2_with fail
      refine c1.mono ?_
      rintro e w1 ⟨rfl, b1⟩
      have h1 := HI.out.later b1
      clear c1 HI b1 hadd
      go_upto_region 3 with (fail)
      have h0 : In w w1.drew v l y M := h1.later (below_drew (Below.refl _ _))
      clear h1
      refine wp_region_held (S := fun W => In w W v l y M) (by kernel_rfl) ?_
      change wpAnyH _ _ _ _ _ _ _ _ (World.drew _)
      refine wpAnyH_all (rs := [0]) (by kernel_rfl) (by simp) ?_
      refine AllReadyH.cons rfl (fun K hK => ?_) AllReadyH.nil
      go_simp
      with_reducible refine (HA.out _ h0).mono ?_
      rintro e w2 ⟨rfl, b2⟩
      have h2 := h0.later b2
      refine hK.out _ _ h2 (fun hx => ?_)
      clear hx hK K
      refine wpAnyH_take (i := 1) (v := .bool true) rfl (by kernel_rfl) (by kernel_rfl) (by kernel_rfl) (fun _ _ _ h => h) (Or.inl ⟨by kernel_rfl, fun W _ => by kernel_rfl⟩) h2 ?_
      refine wpAnyH_take (i := 2) (v := v) rfl (by kernel_rfl) (by kernel_rfl) (by kernel_rfl) (fun _ _ _ h => h) (Or.inl ⟨by kernel_rfl, fun W _ => by kernel_rfl⟩) h2 ?_
      refine wpAnyH_all (rs := [3]) (by kernel_rfl) (by simp) ?_
      refine AllReadyH.cons rfl (fun K hK => ?_) AllReadyH.nil
      go_simp
      with_reducible refine (HW.out _ h2).mono ?_
      rintro e w3 ⟨rfl, b3⟩
      have h3 := h2.later b3
      refine hK.out _ _ h3 (fun hx => ?_)
      clear hx hK K
      refine wpAnyH_take (i := 4) (v := .bool true) rfl (by kernel_rfl) (by kernel_rfl) (by kernel_rfl) (fun _ _ _ h => h) (Or.inl ⟨by kernel_rfl, fun W _ => by kernel_rfl⟩) h3 ?_
      refine wpAnyH_take (i := 5) (v := undef) rfl (by kernel_rfl) (by kernel_rfl) (by kernel_rfl) (fun _ _ _ h => h) (Or.inr ⟨by kernel_rfl, rfl⟩) h3 ?_
      refine wpAnyH_take (i := 6) (v := undef) rfl (by kernel_rfl) (by kernel_rfl) (by kernel_rfl) (fun _ _ _ h => h) (Or.inr ⟨by kernel_rfl, rfl⟩) h3 ?_
      refine wpAnyH_take (i := 7) (v := undef) rfl (by kernel_rfl) (by kernel_rfl) (by kernel_rfl) (fun _ _ _ h => h) (Or.inr ⟨by kernel_rfl, rfl⟩) h3 ?_
      refine wpAnyH_take (i := 8) (v := undef) rfl (by kernel_rfl) (by kernel_rfl) (by kernel_rfl) (fun _ _ _ h => h) (Or.inr ⟨by kernel_rfl, rfl⟩) h3 ?_
      refine wpAnyH_take (i := 9) (v := undef) rfl (by kernel_rfl) (by kernel_rfl) (by kernel_rfl) (fun _ _ _ h => h) (Or.inr ⟨by kernel_rfl, rfl⟩) h3 ?_
      refine wpAnyH_take (i := 10) (v := undef) rfl (by kernel_rfl) (by kernel_rfl) (by kernel_rfl) (fun _ _ _ h => h) (Or.inr ⟨by kernel_rfl, rfl⟩) h3 ?_
      refine wpAnyH_take (i := 11) (v := undef) rfl (by kernel_rfl) (by kernel_rfl) (by kernel_rfl) (fun _ _ _ h => h) (Or.inr ⟨by kernel_rfl, rfl⟩) h3 ?_
      refine wpAnyH_take (i := 12) (v := undef) rfl (by kernel_rfl) (by kernel_rfl) (by kernel_rfl) (fun _ _ _ h => h) (Or.inr ⟨by kernel_rfl, rfl⟩) h3 ?_
      refine wpAnyH_take (i := 13) (v := undef) rfl (by kernel_rfl) (by kernel_rfl) (by kernel_rfl) (fun _ _ _ h => h) (Or.inr ⟨by kernel_rfl, rfl⟩) h3 ?_
      refine wpAnyH_take (i := 14) (v := undef) rfl (by kernel_rfl) (by kernel_rfl) (by kernel_rfl) (fun _ _ _ h => h) (Or.inr ⟨by kernel_rfl, rfl⟩) h3 ?_
      refine wpAnyH_take (i := 15) (v := undef) rfl (by kernel_rfl) (by kernel_rfl) (by kernel_rfl) (fun _ _ _ h => h) (Or.inr ⟨by kernel_rfl, rfl⟩) h3 ?_
      refine wpAnyH_take (i := 16) (v := undef) rfl (by kernel_rfl) (by kernel_rfl) (by kernel_rfl) (fun _ _ _ h => h) (Or.inr ⟨by kernel_rfl, rfl⟩) h3 ?_
      refine wpAnyH_take (i := 17) (v := undef) rfl (by kernel_rfl) (by kernel_rfl) (by kernel_rfl) (fun _ _ _ h => h) (Or.inr ⟨by kernel_rfl, rfl⟩) h3 ?_
      refine wpAnyH_take (i := 18) (v := undef) rfl (by kernel_rfl) (by kernel_rfl) (by kernel_rfl) (fun _ _ _ h => h) (Or.inr ⟨by kernel_rfl, rfl⟩) h3 ?_
      refine wpAnyH_take (i := 19) (v := undef) rfl (by kernel_rfl) (by kernel_rfl) (by kernel_rfl) (fun _ _ _ h => h) (Or.inr ⟨by kernel_rfl, rfl⟩) h3 ?_
      refine wpAnyH_take (i := 20) (v := undef) rfl (by kernel_rfl) (by kernel_rfl) (by kernel_rfl) (fun _ _ _ h => h) (Or.inr ⟨by kernel_rfl, rfl⟩) h3 ?_
      refine wpAnyH_take (i := 21) (v := .bool true) rfl (by kernel_rfl) (by kernel_rfl) (by kernel_rfl) (fun _ _ _ h => h) (Or.inl ⟨by kernel_rfl, fun W _ => by kernel_rfl⟩) h3 ?_
      refine wpAnyH_take (i := 22) (v := .bool true) rfl (by kernel_rfl) (by kernel_rfl) (by kernel_rfl) (fun _ _ _ h => h) (Or.inl ⟨by kernel_rfl, fun W _ => by kernel_rfl⟩) h3 ?_
      refine wpAnyH_take (i := 23) (v := .bool true) rfl (by kernel_rfl) (by kernel_rfl) (by kernel_rfl) (fun _ _ _ h => h) (Or.inl ⟨by kernel_rfl, fun W _ => by kernel_rfl⟩) h3 ?_
      refine wpAnyH_done (by kernel_rfl) ?_ _
      go_wp2_with fail
      go_ret
      exact ⟨by kernel_rfl, h3.b⟩
    | false =>
      rw [hw] at HW
      have hsame := says_bytes (y := y) (m := m) hw
      rw [← hsame] at H2
      clear hsame hw
      generalize says (alone y) l = q at *
      go_enter Tryd.func4, Tryd.ntmps4
      go_wp2_with fail
      refine c1.mono ?_
      rintro e w1 ⟨rfl, b1⟩
      have h1 := HI.out.later b1
      clear c1 HI b1 hadd
      go_upto_region 3 with (fail)
      have h0 : In w w1.drew v l y M := h1.later (below_drew (Below.refl _ _))
      clear h1
      refine wp_region_held (S := fun W => In w W v l y M) (by kernel_rfl) ?_
      change wpAnyH _ _ _ _ _ _ _ _ (World.drew _)
      refine wpAnyH_all (rs := [0]) (by kernel_rfl) (by simp) ?_
      refine AllReadyH.cons rfl (fun K hK => ?_) AllReadyH.nil
      go_simp
      with_reducible refine (HA.out _ h0).mono ?_
      rintro e w2 ⟨rfl, b2⟩
      have h2 := h0.later b2
      refine hK.out _ _ h2 (fun hx => ?_)
      clear hx hK K
      refine wpAnyH_take (i := 1) (v := .bool true) rfl (by kernel_rfl) (by kernel_rfl) (by kernel_rfl) (fun _ _ _ h => h) (Or.inl ⟨by kernel_rfl, fun W _ => by kernel_rfl⟩) h2 ?_
      refine wpAnyH_take (i := 2) (v := v) rfl (by kernel_rfl) (by kernel_rfl) (by kernel_rfl) (fun _ _ _ h => h) (Or.inl ⟨by kernel_rfl, fun W _ => by kernel_rfl⟩) h2 ?_
      refine wpAnyH_all (rs := [3]) (by kernel_rfl) (by simp) ?_
      refine AllReadyH.cons rfl (fun K hK => ?_) AllReadyH.nil
      go_simp
      with_reducible refine (HW.out _ h2).mono ?_
      rintro e w3 ⟨rfl, b3⟩
      have h3 := h2.later b3
      refine hK.out _ _ h3 (fun hx => ?_)
      clear hx hK K
      refine wpAnyH_take (i := 4) (v := .bool false) rfl (by kernel_rfl) (by kernel_rfl) (by kernel_rfl) (fun _ _ _ h => h) (Or.inl ⟨by kernel_rfl, fun W _ => by kernel_rfl⟩) h3 ?_
      refine wpAnyH_take (i := 5) (v := v) rfl (by kernel_rfl) (by kernel_rfl) (by kernel_rfl) (fun _ _ _ h => h) (Or.inl ⟨by kernel_rfl, fun W _ => by kernel_rfl⟩) h3 ?_
      refine wpAnyH_take (i := 6) (v := .pointer (some ⟨w.heap.size, 0, none⟩)) rfl (by kernel_rfl) (by kernel_rfl) (by kernel_rfl) (fun _ _ _ h => h) (Or.inl ⟨by kernel_rfl, fun W _ => by kernel_rfl⟩) h3 ?_
      refine wpAnyH_take (i := 7) (v := .agg #[.int .u64 (y.uid : Nat), y.fv, .int .u64 (y.mod : Nat), .string y.hash, .int .u64 (y.size : Nat)]) rfl (by kernel_rfl) (by kernel_rfl) (by kernel_rfl) (fun _ _ _ h => h) (Or.inl ⟨by kernel_rfl, fun W hh => by obtain ⟨m0, m1, m2, m3, m4, m5, m6, m7, m8⟩ := hh.cells; go_simp⟩) h3 ?_
      refine wpAnyH_take (i := 8) (v := .pointer (some ⟨w.heap.size, 5, none⟩)) rfl (by kernel_rfl) (by kernel_rfl) (by kernel_rfl) (fun _ _ _ h => h) (Or.inl ⟨by kernel_rfl, fun W _ => by kernel_rfl⟩) h3 ?_
      refine wpAnyH_take (i := 9) (v := .agg #[.int .u64 (y.seq : Nat), .int .u64 (y.mostSeq : Nat), .int .u64 (y.mostUid : Nat)]) rfl (by kernel_rfl) (by kernel_rfl) (by kernel_rfl) (fun _ _ _ h => h) (Or.inl ⟨by kernel_rfl, fun W hh => by obtain ⟨m0, m1, m2, m3, m4, m5, m6, m7, m8⟩ := hh.cells; go_simp⟩) h3 ?_
      refine wpAnyH_take (i := 10) (v := .pointer (some ⟨w.heap.size, 8, none⟩)) rfl (by kernel_rfl) (by kernel_rfl) (by kernel_rfl) (fun _ _ _ h => h) (Or.inl ⟨by kernel_rfl, fun W _ => by kernel_rfl⟩) h3 ?_
      refine wpAnyH_take (i := 11) (v := .string (S y.m)) rfl (by kernel_rfl) (by kernel_rfl) (by kernel_rfl) (fun _ _ _ h => h) (Or.inl ⟨by kernel_rfl, fun W hh => by obtain ⟨m0, m1, m2, m3, m4, m5, m6, m7, m8⟩ := hh.cells; go_simp⟩) h3 ?_
      refine wpAnyH_take (i := 13) (v := v) rfl (by kernel_rfl) (by kernel_rfl) (by kernel_rfl) (fun _ _ _ h => h) (Or.inl ⟨by kernel_rfl, fun W _ => by kernel_rfl⟩) h3 ?_
      refine wpAnyH_take (i := 14) (v := .pointer (some ⟨w.heap.size, 0, none⟩)) rfl (by kernel_rfl) (by kernel_rfl) (by kernel_rfl) (fun _ _ _ h => h) (Or.inl ⟨by kernel_rfl, fun W _ => by kernel_rfl⟩) h3 ?_
      refine wpAnyH_take (i := 15) (v := .agg #[.int .u64 (y.uid : Nat), y.fv, .int .u64 (y.mod : Nat), .string y.hash, .int .u64 (y.size : Nat)]) rfl (by kernel_rfl) (by kernel_rfl) (by kernel_rfl) (fun _ _ _ h => h) (Or.inl ⟨by kernel_rfl, fun W hh => by obtain ⟨m0, m1, m2, m3, m4, m5, m6, m7, m8⟩ := hh.cells; go_simp⟩) h3 ?_
      refine wpAnyH_take (i := 16) (v := .pointer (some ⟨w.heap.size, 5, none⟩)) rfl (by kernel_rfl) (by kernel_rfl) (by kernel_rfl) (fun _ _ _ h => h) (Or.inl ⟨by kernel_rfl, fun W _ => by kernel_rfl⟩) h3 ?_
      refine wpAnyH_take (i := 17) (v := .agg #[.int .u64 (y.seq : Nat), .int .u64 (y.mostSeq : Nat), .int .u64 (y.mostUid : Nat)]) rfl (by kernel_rfl) (by kernel_rfl) (by kernel_rfl) (fun _ _ _ h => h) (Or.inl ⟨by kernel_rfl, fun W hh => by obtain ⟨m0, m1, m2, m3, m4, m5, m6, m7, m8⟩ := hh.cells; go_simp⟩) h3 ?_
      refine wpAnyH_take (i := 18) (v := .string (S m)) rfl (by kernel_rfl) (by kernel_rfl) (by kernel_rfl) (fun _ _ _ h => h) (Or.inl ⟨by kernel_rfl, fun W _ => by kernel_rfl⟩) h3 ?_
      refine wpAnyH_all (rs := [12]) (by kernel_rfl) (by simp) ?_
      refine AllReadyH.cons rfl (fun K hK => ?_) AllReadyH.nil
      go_simp
      with_reducible refine (H1.out _ h3).mono ?_
      rintro e w4 ⟨rfl, b4⟩
      have h4 := h3.later b4
      refine hK.out _ _ h4 (fun hx => ?_)
      clear hx hK K
      refine wpAnyH_all (rs := [19]) (by kernel_rfl) (by simp) ?_
      refine AllReadyH.cons rfl (fun K hK => ?_) AllReadyH.nil
      go_simp
      with_reducible refine (H2.out _ h4).mono ?_
      rintro e w5 ⟨rfl, b5⟩
      have h5 := h4.later b5
      refine hK.out _ _ h5 (fun hx => ?_)
      clear hx hK K
      refine wpAnyH_take (i := 20) (v := .bool (q == q)) rfl (by kernel_rfl) (by kernel_rfl) (by kernel_rfl) (fun _ _ _ h => h) (Or.inl ⟨by kernel_rfl, fun W _ => by kernel_rfl⟩) h5 ?_
      refine wpAnyH_take (i := 21) (v := .bool (q == q)) rfl (by kernel_rfl) (by kernel_rfl) (by kernel_rfl) (fun _ _ _ h => h) (Or.inl ⟨by kernel_rfl, fun W _ => by kernel_rfl⟩) h5 ?_
      refine wpAnyH_take (i := 22) (v := .bool (q == q)) rfl (by kernel_rfl) (by kernel_rfl) (by kernel_rfl) (fun _ _ _ h => h) (Or.inl ⟨by kernel_rfl, fun W _ => by kernel_rfl⟩) h5 ?_
      refine wpAnyH_take (i := 23) (v := .bool (q == q)) rfl (by kernel_rfl) (by kernel_rfl) (by kernel_rfl) (fun _ _ _ h => h) (Or.inl ⟨by kernel_rfl, fun W _ => by kernel_rfl⟩) h5 ?_
      refine wpAnyH_done (by kernel_rfl) ?_ _
      go_wp2_with fail
      go_ret
      exact ⟨by cases q <;> kernel_rfl, h5.b⟩
end Go.Proofs.YtekbjapclajflaaDoor.mt
