/-
  What the program's Field answers.
-/
import Derived.Test.YtekbjapclajflaaDoorPtIt3
namespace Go.Proofs.YtekbjapclajflaaDoor.pt
open Go.RowKit Go.Shelf fl
attribute [local go_sem] Oper.semAt_some

/-- The first field of a name. -/
def found (fs : List Fd2) (name : List UInt8) : Option Fd2 := fs.find? fun p => decide (lower p.1 = lower name)
def value (o : Option Fd2) : List UInt8 := match o with
  | some p => p.2
  | none => []
theorem found_no {pre : List Fd2} {x : Fd2} {name : List UInt8} (h : found pre name = none) (hx : lower x.1 ≠ lower name) : found (pre ++ [x]) name = none := by
  unfold found at h ⊢
  rw [List.find?_append, h]
  simp [hx]
theorem found_yes {pre : List Fd2} {x : Fd2} {name : List UInt8} (h : found pre name = none) (hx : lower x.1 = lower name) : found (pre ++ [x]) name = some x := by
  unfold found at h ⊢
  rw [List.find?_append, h]
  simp [hx]
theorem found_prefix {pre xs : List Fd2} {x : Fd2} {name : List UInt8} (hp : pre <+: xs) (h : found pre name = some x) : found xs name = some x := by
  obtain ⟨r, rfl⟩ := hp
  unfold found at h ⊢
  rw [List.find?_append, h]
  rfl

theorem field_results {tmps : Array Value} {w : World} {r0 r1 : Nat} {v1 v2 : Value} (h2 : tmps.getD 4 undef = .pointer (some ⟨r0, 0, none⟩)) (h3 : tmps.getD 5 undef = .pointer (some ⟨r1, 0, none⟩))
    (b1 : Boxed w r0 9 v1) (b2 : Boxed w r1 4 v2) : (results Tryd.f24 tmps).run Tryd.prog w = .ok (.tuple #[v1, v2]) w := by
  have hres : Tryd.f24.results = #[.cell 4 9, .cell 5 4] := rfl
  have c1 := b1.cell
  have c2 := b2.cell
  have e2 : tmps[4]?.getD undef = .pointer (some ⟨r0, 0, none⟩) := by simpa using h2
  have e3 : tmps[5]?.getD undef = .pointer (some ⟨r1, 0, none⟩) := by simpa using h3
  simp only [results, hres]
  simp [Sem.run_bind, Result.andThen, e2, e3, go_sem, c1, c2]

def EI (r q b : Nat) (lw : List UInt8) (name : List UInt8) (pre : List Fd2) (O : Nat → Prop) (W : World) : Prop :=
  found pre name = none ∧ Boxed W r 9 (.string ⟨#[]⟩) ∧ Boxed W q 4 (.bool false) ∧ Boxed W b 9 (.string (S lw)) ∧ ∀ k, O k ↔ k = r ∨ k = q ∨ k = b
def EX (r q b : Nat) (name : List UInt8) (c : Code) (pre : List Fd2) (O : Nat → Prop) (W : World) : Prop :=
  c = .ret ∧ ∃ x, found pre name = some x ∧ Boxed W r 9 (.string (S x.2)) ∧ Boxed W q 4 (.bool true) ∧ ∀ k, O k ↔ k = r ∨ k = q ∨ k = b
theorem EI.dep (r q b : Nat) (lw name : List UInt8) : Dep (EI r q b lw name) := by
  rintro s O X Y ⟨h1, h2, h3, h4, h5⟩ hf
  exact ⟨h1, hf.boxed h2 ((h5 _).2 (.inl rfl)), hf.boxed h3 ((h5 _).2 (.inr (.inl rfl))), hf.boxed h4 ((h5 _).2 (.inr (.inr rfl))), h5⟩
theorem EX.dep (r q b : Nat) (name : List UInt8) (c : Code) : Dep (EX r q b name c) := by
  rintro s O X Y ⟨hc, x, h1, h2, h3, h5⟩ hf
  exact ⟨hc, x, h1, hf.boxed h2 ((h5 _).2 (.inl rfl)), hf.boxed h3 ((h5 _).2 (.inr (.inl rfl))), h5⟩

theorem size_of_field {m : List UInt8} {pre post : List Fd2} {x : Fd2} (h : fields m = pre ++ x :: post) : x.1.length ≤ m.length ∧ x.2.length ≤ m.length := by
  have hx : x ∈ fields m := by rw [h]; simp
  unfold fields fieldsU at hx
  obtain ⟨u, hu, hf⟩ := List.mem_filterMap.1 hx
  have h1 := mem_size hu
  rw [unf_size] at h1
  have h2 := lines_size (head m)
  have h3 : (head m).length ≤ m.length := by unfold head; rw [List.length_take]; omega
  unfold fieldOf at hf
  split at hf
  · cases hf
  · cases hf
    refine ⟨by rw [List.length_take]; omega, ?_⟩
    have htl : (Lib.trimS (u.drop ((Lib.indexByte u 58).toNat + 1)) [32, 9]).length ≤ u.length := by
      unfold Lib.trimS Lib.trimLeftS Lib.trimRightS
      refine Nat.le_trans (List.IsSuffix.length_le (List.dropWhile_suffix _)) ?_
      rw [List.length_reverse]
      refine Nat.le_trans (List.IsSuffix.length_le (List.dropWhile_suffix _)) ?_
      rw [List.length_reverse, List.length_drop]
      omega
    exact Nat.le_trans htl (by omega)

set_option maxRecDepth 100000 in
set_option maxHeartbeats 4000000 in
theorem field_any (m name : List UInt8) (hm : m.length < 4294967281) (hn : name.length ≤ 140737488355328) (M : Int) (w : World) (h0 : 0 < w.heap.size) (hM : w.cell? ⟨0, 0, none⟩ = some (.int .i64 M)) :
    Calls Tryd.prog 24 #[.string (S m), .string (S name)] w fun e w' => e = .returned (.tuple #[.string (S (value (found (fields m) name))), .bool (found (fields m) name).isSome]) ∧ Below w.heap.size w w' := by
  have mixed : Tryd.prog.follows .mixedOrders = true := by kernel_rfl
  have hlow := fun W => lower_any name hn W
  refine (callsIn_wide (n := 12)).1 ?_
  refine callsIn_of_wp_marks Tryd.func24 rfl trivial ?_ rfl
  simp only [Tryd.ntmps24, List.size_toArray, List.length_cons, List.length_nil, Nat.reduceAdd, Nat.reduceSub, Array.replicate_succ, Array.replicate_zero, List.push_toArray, List.append_toArray, List.nil_append, List.cons_append]
  have hn1 : 1 ≤ 12 := by omega
  gi_wp2_with fail
  refine ⟨trivial, ?_⟩
  refine (callsIn_wide.2 (hlow _)).mono ?_
  rintro e w1 ⟨rfl, b1⟩
  obtain ⟨r, hr⟩ : ∃ r, w.heap.size = r := ⟨_, rfl⟩
  have s1 := b1.size
  simp only [World.size_alloc] at s1
  have br := Boxed.new w 9 (.string ⟨#[]⟩)
  have bq := Boxed.new (w.alloc (.cells #[.string ⟨#[]⟩] 9)) 4 (.bool false)
  rw [World.size_alloc, hr] at bq
  have ba : Below r w w1 := (((hr ▸ Below.refl _ w : Below r w w).alloc (by omega) _).alloc (by simp; omega) _).trans (b1.mono (by simp; omega))
  have br1 : Boxed w1 r 9 (.string ⟨#[]⟩) := (b1.block r (by simp; omega)).trans (by have := br.alloc (.cells #[.bool false] 4); rw [hr] at this; exact this)
  have bq1 : Boxed w1 (r + 1) 4 (.bool false) := (b1.block (r + 1) (by simp; omega)).trans bq
  have HR := Lib.hid hr
  rw [hr]
  rw [hr] at s1
  clear b1 br bq hr
  gi_wp2_with (refine ⟨trivial, ?_⟩; gi_at_call 31; refine (callsIn_wide.2 (fields_any (S m) _)).mono ?_; rintro e w2 ⟨rfl, rfl⟩)
  obtain ⟨W0, hW0⟩ : ∃ W0, (w1.alloc (.cells #[.string (S (lower name))] 9)).alloc (.cells #[.string (S m)] 9) = W0 := ⟨_, rfl⟩
  obtain ⟨b, hb⟩ : ∃ b, w1.heap.size = b := ⟨_, rfl⟩
  have s0 : W0.heap.size = b + 2 := by rw [← hW0, ← hb]; simp
  have B0 : Below r w W0 := by rw [← hW0]; exact (ba.alloc (by omega) _).alloc (by simp; omega) _
  have r0 : Boxed W0 r 9 (.string ⟨#[]⟩) := by rw [← hW0]; exact (br1.alloc _).alloc _
  have q0 : Boxed W0 (r + 1) 4 (.bool false) := by rw [← hW0]; exact (bq1.alloc _).alloc _
  have l0 : Boxed W0 b 9 (.string (S (lower name))) := by rw [← hW0, ← hb]; exact (Boxed.new w1 _ _).alloc _
  have m0 : Boxed W0 (b + 1) 9 (.string (S m)) := by
    rw [← hW0, ← hb]
    have h := Boxed.new (w1.alloc (.cells #[.string (S (lower name))] 9)) 9 (.string (S m))
    rw [World.size_alloc] at h
    exact h
  have hM0 := (B0.cell (p := ⟨0, 0, none⟩) (by show 0 < r; rw [← HR.out]; exact h0)).trans hM
  have hrp : 0 < r := by rw [← HR.out]; exact h0
  rw [hW0, hb]
  rw [hb] at s1
  clear hW0 hb ba br1 bq1 hlow h0 hM
  have HP := fields_push 11 (by omega) (b + 1) (by omega) M m hm W0 m0 hM0
  have HL : Hid (∀ pre x post, fields m = pre ++ x :: post → x.1.length ≤ m.length ∧ x.2.length ≤ m.length) := Lib.hid (fun pre x post h => size_of_field h)
  refine wpIn_push (n := 12) hn1 (gf := 37) (lb := #[.pointer (some ⟨b + 1, 0, none⟩)]) rfl (enters_of Tryd.func37 (by kernel_rfl) rfl)
    HP (Frm.refl _ _) (by omega) (fun _ h => h.elim) (fun _ => rfl)
    (EI r (r + 1) b (lower name) name) (EX r (r + 1) b name) (EI.dep _ _ _ _ _) (EX.dep _ _ _ _) (fun k => k = r ∨ k = r + 1 ∨ k = b)
    (by omega)
    ⟨rfl, r0, q0, l0, fun _ => Iff.rfl⟩
    (fun x => { tmps := #[.string (S m), .string (S name), undef, undef, .pointer (some ⟨r, 0, none⟩), .pointer (some ⟨r + 1, 0, none⟩), .pointer (some ⟨b, 0, none⟩), .string (S x.1), .string (S x.2), .string (S name), .string (S (lower name)), .string (S m), .func (.func 37) #[] #[.pointer (some ⟨b + 1, 0, none⟩)], .string (S x.1), .string (S x.2), undef, undef, undef, undef, undef], defers := [] }) ?assign ?body ?done ?stop
  case assign =>
    intro l2 x W K hK
    simp only [encF]
    gi_wp2
    exact hK
  case body =>
    rintro l2 pre ⟨xn, xv⟩ post Oi Wi hx ⟨hno, hr1, hq1, hl1, hOi⟩ hOb
    have hxl := HL.out _ _ _ hx
    have hlx := fun W => lower_any xn (by have := hxl.1; dsimp only at this; omega) W
    have hc2 := hl1.cell
    obtain ⟨ans, hans⟩ : ∃ ans, decide (lower xn = lower name) = ans := ⟨_, rfl⟩
    have hcmp : ((S (lower xn)).toList == (S (lower name)).toList) = ans := by
      rw [← hans]
      by_cases h : lower xn = lower name
      · rw [str_eq (by rw [h]), decide_eq_true h]
      · rw [str_ne (fun e => h (S_inj e)), decide_eq_false h]
    have HA := Lib.hid hans
    clear hans hxl
    generalize hlx' : lower xn = lx at hlx hcmp
    have HX := Lib.hid hlx'
    generalize hln' : lower name = ln at hcmp hl1 hc2 ⊢
    have HN := Lib.hid hln'
    clear hlx' hln'
    gi_wp2_with fail
    generalize hQ2 : Exit.then _ _ = Q2
    have H2 : ∀ w5, Below Wi.heap.size Wi w5 → Q2 .normal { tmps := #[.string (S m), .string (S name), undef, undef, .pointer (some ⟨r, 0, none⟩), .pointer (some ⟨r + 1, 0, none⟩), .pointer (some ⟨b, 0, none⟩), .string (S xn), .string (S xv), .string (S name), .string (S ln), .string (S m), .func (.func 37) #[] #[.pointer (some ⟨b + 1, 0, none⟩)], .string (S xn), .string (S xv), .string (S xn), .string (S lx), .string (S ln), .bool ans, undef], defers := [] } w5 := by
      intro w5 b5
      rw [← hQ2]
      clear hQ2
      have hr5 : Boxed w5 r 9 (.string ⟨#[]⟩) := (b5.block _ hr1.lt).trans hr1
      have hq5 : Boxed w5 (r + 1) 4 (.bool false) := (b5.block _ hq1.lt).trans hq1
      have hl5 : Boxed w5 b 9 (.string (S ln)) := (b5.block _ hl1.lt).trans hl1
      clear hr1 hq1 hl1 hc2
      cases ans with
      | true =>
        have he : lower xn = lower name := of_decide_eq_true HA.out
        have hc5 := hr5.cell
        have hf5 := hr5.frozen
        have hq6 := hq5.other (B' := r) (by omega) (.string (S xv))
        have hc6 := hq6.cell
        have hf6 := hq6.frozen
        have hr7 := (hr5.set (.string (S xv))).other (B' := r + 1) (by omega) (.bool true)
        have hq7 := hq6.set (.bool true)
        have HH := Lib.hid (And.intro hr7 hq7)
        clear hr7 hq7 hq6
        gi_wp2_with fail
        refine ⟨fun k => k = r ∨ k = r + 1 ∨ k = b, ⟨rfl, (xn, xv), found_yes hno he, HH.out.1, HH.out.2, fun _ => Iff.rfl⟩, ⟨b5.os, b5.tape, b5.output, by simp; exact b5.size, fun k hk hn => ?_, fun k hk => .inl ((hOi k).2 hk)⟩⟩
        have n1 : k ≠ r := fun e => hn ((hOi k).2 (.inl e))
        have n2 : k ≠ r + 1 := fun e => hn ((hOi k).2 (.inr (.inl e)))
        exact (Below.heap_setCell _ ⟨r + 1, 0, none⟩ _ k n2).trans ((Below.heap_setCell _ ⟨r, 0, none⟩ _ k n1).trans (b5.block k hk))
      | false =>
        have he : lower xn ≠ lower name := of_decide_eq_false HA.out
        gi_wp2_with fail
        exact ⟨Oi, ⟨found_no hno he, hr5, hq5, hl5, hOi⟩, moved_of_below _ _ b5⟩
    have hpan : ∀ c a w, Q2 (.panic c) a w → False := by rw [← hQ2]; exact fun _ _ _ h => h
    clear hQ2
    have hn3 : 1 ≤ 12 - 1 - 1 := by omega
    refine region_round mixed (no_defer (by kernel_rfl)) ?_
    refine wpAnyIn_take (i := 0) (v := .string (S xn)) rfl rfl (by kernel_rfl) (by kernel_rfl) (by kernel_rfl) (fun c _ w h => (hpan c _ w h).elim) ⟨Or.inl ⟨by rfl, fun w => by go_simp⟩, fun _ => rfl⟩ ?_
    refine wpAnyIn_ready (rs := [1, 2]) (by kernel_rfl) (by simp) ?_
    refine AllReadyIn.cons rfl (fun K hK => ?_) ?_
    · go_simp
      gi_wp2_with (refine ⟨trivial, ?_⟩; gi_at_call 28; refine (callsIn_wide.2 (hlx _)).mono ?_; rintro e w3 ⟨rfl, b3⟩; have hc3 := ((show Boxed w3 b 9 (.string (S ln)) from (b3.block _ (show b < Wi.drew.heap.size from hl1.lt)).trans hl1)).cell)
      try (refine hK _ _ ?_; clear hK K)
      refine wpAnyIn_ready (rs := [2]) (by kernel_rfl) (by simp) ?_
      refine AllReadyIn.cons rfl (fun K hK => ?_) AllReadyIn.nil
      go_simp
      refine hK _ _ ?_
      clear hK K
      refine wpAnyIn_ready (rs := [3]) (by kernel_rfl) (by simp) ?_
      refine AllReadyIn.cons rfl (fun K hK => ?_) AllReadyIn.nil
      go_simp
      refine hK _ _ ?_
      clear hK K
      refine wpAnyIn_done (by kernel_rfl) ?_ _
      exact H2 _ ((Below.refl _ Wi).drew.trans b3)
    refine AllReadyIn.cons rfl (fun K hK => ?_) AllReadyIn.nil
    go_simp
    refine hK _ _ ?_
    clear hK K
    refine wpAnyIn_ready (rs := [1]) (by kernel_rfl) (by simp) ?_
    refine AllReadyIn.cons rfl (fun K hK => ?_) AllReadyIn.nil
    go_simp
    gi_wp2_with (refine ⟨trivial, ?_⟩; gi_at_call 28; refine (callsIn_wide.2 (hlx _)).mono ?_; rintro e w3 ⟨rfl, b3⟩)
    try (refine hK _ _ ?_; clear hK K)
    refine wpAnyIn_ready (rs := [3]) (by kernel_rfl) (by simp) ?_
    refine AllReadyIn.cons rfl (fun K hK => ?_) AllReadyIn.nil
    go_simp
    refine hK _ _ ?_
    clear hK K
    refine wpAnyIn_done (by kernel_rfl) ?_ _
    exact H2 _ ((Below.refl _ Wi).drew.trans b3)
  case done =>
    rintro D O' Wd hD ⟨hno, hr1, hq1, hl1, hOi⟩ hMv nD hDd
    have bd : Below r w Wd := B0.trans (hMv.below (by omega) (fun k hk => by rcases hk with (hk | hk | hk) | hk; omega; omega; omega; exact hk.elim))
    have hc5 := hr1.cell
    have hf5 := hr1.frozen
    have hq6 := hq1.other (B' := r) (by omega) (.string ⟨#[]⟩)
    have hc6 := hq6.cell
    have hf6 := hq6.frozen
    have hr7 := (hr1.set (.string ⟨#[]⟩)).other (B' := r + 1) (by omega) (.bool false)
    have hq7 := hq6.set (.bool false)
    have hK2 : ((Wd.setCell ⟨r, 0, none⟩ (.string ⟨#[]⟩)).setCell ⟨r + 1, 0, none⟩ (.bool false)).heap[D]? = some (.deferred (some [])) := (Below.heap_setCell _ ⟨r + 1, 0, none⟩ _ D (by show D ≠ r + 1; omega)).trans ((Below.heap_setCell _ ⟨r, 0, none⟩ _ D (by show D ≠ r; omega)).trans hDd)
    have bd7 : Below r w ((Wd.setCell ⟨r, 0, none⟩ (.string ⟨#[]⟩)).setCell ⟨r + 1, 0, none⟩ (.bool false)) := (bd.setCell (p := ⟨r, 0, none⟩) (Nat.le_refl _) _).setCell (p := ⟨r + 1, 0, none⟩) (by show r ≤ r + 1; omega) _
    have HH := Lib.hid (And.intro hr7 (And.intro hq7 (And.intro hK2 bd7)))
    clear hr7 hq7 hq6 hK2 bd7 hr1 hq1 hl1
    gi_wp2
    refine ⟨by simp, .inl ⟨_, _, rfl, run_takeDeferred HH.out.2.2.1, ?_⟩⟩
    refine ⟨_, field_results rfl rfl (HH.out.1.kept (grownBy_putObj' _ D _) (fun e => by cases e; omega)) (HH.out.2.1.kept (grownBy_putObj' _ D _) (fun e => by cases e; omega)), ⟨by rw [hno]; rfl, ?_⟩⟩
    rw [HR.out]
    exact HH.out.2.2.2.grown (grownBy_putObj' _ D _) (by have := HH.out.2.2.2.size; have := HR.out; omega) (fun k e => by cases e; omega)
  case stop =>
    rintro D c pre O' Wd hD hpre ⟨rfl, x, hf, hr1, hq1, hOi⟩ hMv nD hDd
    have bd : Below r w Wd := B0.trans (hMv.below (by omega) (fun k hk => by rcases hk with (hk | hk | hk) | hk; omega; omega; omega; exact hk.elim))
    have hff := found_prefix hpre hf
    gi_wp2
    refine ⟨by simp, .inl ⟨_, _, rfl, run_takeDeferred hDd, ?_⟩⟩
    refine ⟨_, field_results rfl rfl (hr1.kept (grownBy_putObj' _ D _) (fun e => by cases e; omega)) (hq1.kept (grownBy_putObj' _ D _) (fun e => by cases e; omega)), ⟨by rw [hff]; rfl, ?_⟩⟩
    rw [HR.out]
    exact bd.grown (grownBy_putObj' _ D _) (by have := bd.size; have := HR.out; omega) (fun k e => by cases e; omega)
end Go.Proofs.YtekbjapclajflaaDoor.pt
