/-
  What the closure of Whole answers, by induction on how deep keys may still stand in one another; what Whole answers.
-/
import Derived.Test.YtekbjapclajflaaDoorMtMem
import Derived.BigGuard
import Derived.Laws.EntriesVeiled
namespace Go.Proofs.YtekbjapclajflaaDoor.mt
open Go.RowKit Go.Shelf
open fl (S S_size S_append S_inj)

/-- A slice that holds a key and more, opened. -/
theorem Sl.cut0 {w : World} {v : Value} {k : Key} {r : List Key} (h : Sl w v (k :: r)) (hl : r.length < 140737488355328) : ∃ b off n cap v', v = .slice (some ⟨b, off, none⟩) n cap ∧ n = r.length + 1 ∧ b < w.heap.size ∧
    w.cell? ⟨b, off, none⟩ = some (.int .i64 k.kind) ∧ w.cell? ⟨b, off + 1, none⟩ = some (.int .i64 k.kids) ∧ w.cell? ⟨b, off + 2, none⟩ = some (.string (S k.field)) ∧ w.cell? ⟨b, off + 3, none⟩ = some (.string (S k.text)) ∧ w.cell? ⟨b, off + 4, none⟩ = some (.int .u64 (k.n : Nat)) ∧ w.cell? ⟨b, off + 5, none⟩ = some k.sv ∧
    (∀ W, (Instr.slice 22 (.slice (some ⟨b, off, none⟩) n cap) (some (.int .i64 1)) none none).run Tryd.prog W = .ok v' W) ∧ Sl w v' r ∧ v'.ownBlock = v.ownBlock := by
  obtain ⟨⟨a, cap, rfl, hc, hr, hn⟩, hs⟩ := h
  obtain ⟨b, off, rfl, hb, c0, c1, c2, c3, c4, c5⟩ := rowK_at hr (j := 0) (by simp)
  simp only [Nat.zero_mul, Nat.add_zero, List.getElem_cons_zero] at c0 c1 c2 c3 c4 c5
  have e6 : ∀ W, (sizeOf (Tryd.prog.elem 22)).run Tryd.prog W = .ok 6 W := fun W => by kernel_rfl
  refine ⟨b, off, _, cap, sliced (some ⟨b, off, none⟩) 1 (k :: r).length cap 6, rfl, rfl, hb, c0, c1, c2, c3, c4, c5, fun W => ?_, ⟨?_, fun x hx => hs x (List.mem_cons_of_mem _ hx)⟩, ?_⟩
  · rw [run_slice_l W 22 _ _ _ (show Tryd.prog.underlying 22 = some (.slice (Tryd.prog.elem 22)) by kernel_rfl) .i64 1 (by omega) (by simp only [List.length_cons]; omega), e6]
    rfl
  · unfold sliced
    rw [List.length_cons] at hc ⊢
    rw [show r.length + 1 - 1 = r.length by omega]
    by_cases h1 : cap = 1
    · rw [if_pos h1]
      have : r = [] := List.length_eq_zero_iff.1 (by omega)
      subst this
      exact ⟨_, _, rfl, by simp, .inl rfl, fun e => by cases e⟩
    · rw [if_neg h1]
      refine ⟨_, _, rfl, by omega, ?_, fun e => by cases e⟩
      rw [Option.map_some, addr_add]
      exact rowK_tail hr
  · unfold sliced
    split <;> simp [Value.ownBlock, addr_add]

theorem Sl.cut {w : World} {v : Value} {k : Key} {r : List Key} (h : Sl w v (k :: r)) (hl : r.length < 140737488355328) : ∃ b off n cap a' n' c', v = .slice (some ⟨b, off, none⟩) n cap ∧ n = r.length + 1 ∧ b < w.heap.size ∧
    w.cell? ⟨b, off, none⟩ = some (.int .i64 k.kind) ∧ w.cell? ⟨b, off + 1, none⟩ = some (.int .i64 k.kids) ∧ w.cell? ⟨b, off + 2, none⟩ = some (.string (S k.field)) ∧ w.cell? ⟨b, off + 3, none⟩ = some (.string (S k.text)) ∧ w.cell? ⟨b, off + 4, none⟩ = some (.int .u64 (k.n : Nat)) ∧ w.cell? ⟨b, off + 5, none⟩ = some k.sv ∧
    (∀ W, (Instr.slice 22 (.slice (some ⟨b, off, none⟩) n cap) (some (.int .i64 1)) none none).run Tryd.prog W = .ok (.slice a' n' c') W) ∧ Sl w (.slice a' n' c') r ∧ (Value.slice a' n' c').ownBlock = v.ownBlock := by
  obtain ⟨b, off, n, cap, v', h1, h2, h3, c0, c1, c2, c3, c4, c5, h5, h6, h7⟩ := h.cut0 hl
  obtain ⟨⟨a', c', rfl, g⟩, g2⟩ := h6
  exact ⟨b, off, n, cap, a', _, c', h1, h2, h3, c0, c1, c2, c3, c4, c5, h5, ⟨⟨a', c', rfl, g⟩, g2⟩, h7⟩

/-- What the closures share: what is left of the list in one block, themselves in another. -/
structure St (Lb Tb : Nat) (tT : TypeId) (cl : Value) (w : World) (l : List Key) : Prop where
  ne : Lb ≠ Tb
  row : ∃ v, Arr w Lb 22 #[v] ∧ Sl w v l ∧ OffK Lb v l
  fn : Arr w Tb tT #[cl]
theorem St.below {Lb Tb : Nat} {tT : TypeId} {cl : Value} {w w' : World} {l : List Key} (h : St Lb Tb tT cl w l) (k : Below w.heap.size w w') : St Lb Tb tT cl w' l := by
  obtain ⟨h1, ⟨v, h2, h3, h4⟩, h5⟩ := h
  exact ⟨h1, ⟨v, h2.below k, h3.later k, h4⟩, h5.below k⟩
theorem St.put {Lb Tb : Nat} {tT : TypeId} {cl : Value} {w : World} {l r : List Key} (h : St Lb Tb tT cl w l) {v' : Value} (hs : Sl w v' r) (ho : OffK Lb v' r) : St Lb Tb tT cl (w.setCell ⟨Lb, 0, none⟩ v') r := by
  obtain ⟨h1, ⟨v, h2, h3, h4⟩, h5⟩ := h
  refine ⟨h1, ⟨v', h2.set 0 v', ?_, ho⟩, ((But.refl Lb w).set 0 v').arr h5 (fun e => h1 e.symm)⟩
  exact hs.but ((But.refl Lb w).set 0 v') ho
def PostT (Lb Tb : Nat) (tT : TypeId) (cl : Value) (w : World) (o : Option (Bool × List Key)) (e : Ending) (w' : World) : Prop :=
  But Lb w w' ∧ match o with
  | some (_, r) => e = .returned (.bool true) ∧ St Lb Tb tT cl w' r
  | none => e = .returned (.bool false)
abbrev clT (Lb Tb : Nat) : Value := .func (.func 13) #[] #[.pointer (some ⟨Lb, 0, none⟩), .pointer (some ⟨Tb, 0, none⟩)]
abbrev StT (Lb Tb : Nat) (w : World) (l : List Key) : Prop := St Lb Tb 43 (clT Lb Tb) w l
/-- The closure, that d may still stand in one another. -/
def Takes (Lb Tb : Nat) (d : Nat) : Prop := ∀ (w : World) (l : List Key), l.length ≤ 1000 → StT Lb Tb w l →
  Calls Tryd.prog 13 #[.int .i64 (d : Nat), .pointer (some ⟨Lb, 0, none⟩), .pointer (some ⟨Tb, 0, none⟩)] w (PostT Lb Tb 43 (clT Lb Tb) w (E no (d + 1) l))

structure InTakes (Lb Tb : Nat) (g : List Key → Option (Bool × List Key)) (r : List Key) (k : Nat) (w wr : World) : Prop where
  t : ∃ bs m, times g k r = some (bs, m) ∧ StT Lb Tb wr m ∧ m.length ≤ 1000
  b : But Lb w wr

theorem E_less {f : Key → Bool} {d : Nat} {l : List Key} {v : Bool} {r : List Key} (h : E f d l = some (v, r)) : r.length ≤ l.length := by
  obtain ⟨p, e⟩ := E_end h
  rw [e, List.length_append]; omega

set_option maxHeartbeats 4000000 in
set_option maxRecDepth 100000 in
theorem takes_step (Lb Tb : Nat) (d : Nat) (hd : d ≤ 8) (IH : 0 < d → Takes Lb Tb (d - 1)) : Takes Lb Tb d := by
  intro w l hl hst
  cases l with
  | nil =>
    obtain ⟨hne, ⟨v, ha, ⟨⟨a, c, rfl, hc, hr, hn⟩, hs⟩, ho⟩, hf⟩ := hst
    have c0 : w.cell? ⟨Lb, 0, none⟩ = some (.slice a 0 c) := ha.cell rfl
    rw [E_nil]
    clear IH ha hf ho hs hr hn hc
    go_enter Tryd.func13, Tryd.ntmps13
    go_wp2
    go_ret
    exact ⟨But.refl _ _, rfl⟩
  | cons k r =>
    rw [List.length_cons] at hl
    obtain ⟨hne, ⟨v, ha, hsl, ho⟩, hf⟩ := hst
    obtain ⟨b, off, n, cap, a', n', c', rfl, hn, hb, c0, c1, c2, c3, c4, c5, hcut, hsl', hob⟩ := hsl.cut (by omega)
    have HST : Hid (StT Lb Tb w (k :: r) ∧ Sl w (.slice a' n' c') r ∧ OffK Lb (.slice a' n' c') r) := ⟨⟨hne, ⟨_, ha, hsl, ho⟩, hf⟩, hsl', ho.tail hob⟩
    have l0 : w.cell? ⟨Lb, 0, none⟩ = some (.slice (some ⟨b, off, none⟩) n cap) := ha.cell rfl
    have lf := ha.frozen 0
    have f0 : w.cell? ⟨Tb, 0, none⟩ = some (clT Lb Tb) := hf.cell rfl
    have hla := ha.lt
    have hlf := hf.lt
    have hz : ((n : Int) == 0) = false := by rw [beq_eq_false_iff_ne]; omega
    have hn1 : Hid (n = r.length + 1) := hn
    have hni : (0 : Int) < (n : Int) := by omega
    have HK := kids_any k w
    have hkn : kidsN k ≤ 9223372036854775807 := by
      obtain ⟨_, _, _, _, _, h⟩ := hsl.sets k List.mem_cons_self
      unfold kidsN
      split
      · exact h
      · split
        · omega
        · split <;> omega
    unfold keyV at HK
    rw [E_cons]
    have hstep : Hid (step no (E no d) k r = if kidsOk k = true then out no k (times (E no d) (kidsN k).toNat r) else none) := step_eq _ _ _ _
    generalize step no (E no d) k r = o at *
    generalize kidsN k = kn at *
    generalize kidsOk k = ok at *
    clear hn ho hob hsl hsl' ha hf
    go_enter Tryd.func13, Tryd.ntmps13
    go_wp2_with fail
    refine HK.mono ?_
    rintro e w1 ⟨rfl, b1⟩
    have l1 := (b1.cell (p := ⟨Lb, 0, none⟩) hla).trans l0
    have lf1 := (b1.frozen (p := ⟨Lb, 0, none⟩) hla).trans lf
    have HS1 : Hid (StT Lb Tb (w1.setCell ⟨Lb, 0, none⟩ (.slice a' n' c')) r ∧ But Lb w (w1.setCell ⟨Lb, 0, none⟩ (.slice a' n' c'))) :=
      ⟨(HST.out.1.below b1).put (HST.out.2.1.later b1) HST.out.2.2, (But.of_below b1).set 0 _⟩
    clear HK HST b1 l0 lf f0 c0 c1 c2 c3 c4 c5 hla hlf
    by_cases hok : ok = true
    · subst hok
      have HO : Hid (o = out no k (times (E no d) kn.toNat r)) := hstep.out.trans (if_pos rfl)
      clear hstep
      by_cases h0 : 0 < kn
      · by_cases hd0 : d = 0
        · have hdz : ((d : Int) == 0) = true := by rw [hd0]; rfl
          have HN : Hid (o = none) := by
            show o = none
            obtain ⟨j, hj⟩ : ∃ j, kn.toNat = j + 1 := ⟨kn.toNat - 1, by omega⟩
            rw [HO.out, hj, hd0, times_none (E no 0) r 1 rfl (j + 1) (by omega), out_none]
          clear HO hd0 IH
          go_wp2_with fail
          go_ret
          rw [HN.out]
          exact ⟨HS1.out.2, rfl⟩
        · have hdz : ((d : Int) == 0) = false := by rw [beq_eq_false_iff_ne]; omega
          obtain ⟨e, rfl⟩ : ∃ e, d = e + 1 := ⟨d - 1, by omega⟩
          have ih := Lib.hid (IH (by omega))
          rw [show e + 1 - 1 = e from rfl] at ih
          have hsub : IntKind.i64.wrap ((((e + 1 : Nat)) : Int) - 1) = (e : Int) := by
            rw [IntWalk.i64_in _ (by omega)]; omega
          have hsi : ((e + 1 : Nat) : Int) = (e : Int) + 1 := by omega
          generalize ((e + 1 : Nat) : Int) = di at *
          clear IH hd0 hsi
          have hH : Hid (StT Lb Tb (w1.setCell ⟨Lb, 0, none⟩ (.slice a' n' c')) r ∧ r.length ≤ 1000) := ⟨HS1.out.1, by omega⟩
          go_wp2_with fail
          go_loopw [30] (fun i wr => ∃ j : Nat, i = .int .i64 j ∧ (j : Int) ≤ kn ∧ Hid (InTakes Lb Tb (E no (e + 1)) r j w wr))
            (fun i _ => (kn - intOf i).toNat)
          case atStart => exact ⟨0, rfl, by omega, ⟨⟨[], r, rfl, hH.out⟩, HS1.out.2⟩⟩
          case round =>
            obtain ⟨j, rfl, hj, HI⟩ := hrel
            obtain ⟨⟨bs, m, ht, hst, hml⟩, hbt⟩ := HI.out
            by_cases hlt : (j : Int) < kn
            · have hc := ih.out wr m hml hst
              have f0 : wr.cell? ⟨Tb, 0, none⟩ = some (clT Lb Tb) := hst.fn.cell rfl
              have HT := Lib.hid ht
              have HB := Lib.hid hbt
              have HM := Lib.hid hml
              clear hst hbt hml ht
              cases he : E no (e + 1) m with
              | none =>
                have HN : Hid (o = none) := by
                  show o = none
                  rw [HO.out, times_none _ r (j + 1) (times_next_none HT.out he) kn.toNat (by omega), out_none]
                rw [he] at hc
                go_wp2_with fail
                refine hc.mono ?_
                rintro e2 w3 ⟨b3, rfl⟩
                have B3 := Lib.hid (HB.out.trans b3)
                clear hc b3 he
                go_wp2_with fail
                go_ret
                rw [HN.out]
                exact ⟨B3.out, rfl⟩
              | some p =>
                obtain ⟨b0, m'⟩ := p
                have HS : Hid (times (E no (e + 1)) (j + 1) r = some (bs ++ [b0], m')) := times_next_some HT.out he
                have HM' : Hid (m'.length ≤ 1000) := Nat.le_trans (E_less he) HM.out
                rw [he] at hc
                go_wp2_with fail
                refine hc.mono ?_
                rintro e2 w3 ⟨b3, rfl, s3⟩
                have HI3 : Hid (InTakes Lb Tb (E no (e + 1)) r (j + 1) w w3) := ⟨⟨_, m', HS.out, s3, HM'.out⟩, HB.out.trans b3⟩
                clear hc b3 he s3
                go_wp2_with fail
                go_roundw
                case rel => exact ⟨j + 1, by go_num, by omega, HI3⟩
                case measure => simp [intOf]; omega
            · have HF : Hid (o = some (comb no k bs, m)) := by
                show o = _
                rw [HO.out, show kn.toNat = j by omega, ht, out_some]
              have HB := Lib.hid hbt
              have HSt := Lib.hid hst
              clear hst hbt hml ht HI
              go_wp2_with fail
              go_ret
              rw [HF.out]
              exact ⟨HB.out, rfl, HSt.out⟩
      · have HF : Hid (o = some (comb no k [], r)) := by
          show o = _
          rw [HO.out, show kn.toNat = 0 by omega, times, out_some]
        clear HO IH
        go_wp2_with fail
        go_loopw [30] (fun i wr => i = .int .i64 0 ∧ Hid (But Lb w wr ∧ StT Lb Tb wr r)) (fun _ _ => 0)
        case atStart => exact ⟨rfl, Lib.hid ⟨HS1.out.2, HS1.out.1⟩⟩
        case round =>
          obtain ⟨rfl, HI⟩ := hrel
          clear HS1
          go_wp2_with fail
          go_ret
          rw [HF.out]
          exact ⟨HI.out.1, rfl, HI.out.2⟩
    · have hok' : ok = false := by simpa using hok
      subst hok'
      have HN : Hid (o = none) := by
        rw [hstep.out]; rfl
      clear hstep hok
      go_wp2_with fail
      go_ret
      rw [HN.out]
      exact ⟨HS1.out.2, rfl⟩

theorem takes_any (Lb Tb : Nat) : ∀ d, d ≤ 8 → Takes Lb Tb d
  | 0, _ => takes_step Lb Tb 0 (by omega) (fun h => absurd h (by omega))
  | d + 1, h => takes_step Lb Tb (d + 1) h (fun _ => takes_any Lb Tb d (by omega))

/-- Two new blocks: what is left of a list, a closure that knows both. -/
theorem st_new {w : World} {v : Value} {l : List Key} (h : Sl w v l) (tT : TypeId) (cl : Value) :
    ((w.alloc (.cells #[v] 22)).alloc (.cells #[cl] tT)).cell? ⟨w.heap.size, 0, none⟩ = some v ∧ St w.heap.size (w.heap.size + 1) tT cl ((w.alloc (.cells #[v] 22)).alloc (.cells #[cl] tT)) l ∧ Below w.heap.size w ((w.alloc (.cells #[v] 22)).alloc (.cells #[cl] tT)) := by
  have h1 : (w.alloc (.cells #[v] 22)).heap.size = w.heap.size + 1 := by simp
  have a1 := Arr.new (w.alloc (.cells #[v] 22)) tT #[cl]
  rw [h1] at a1
  have a0 : Arr ((w.alloc (.cells #[v] 22)).alloc (.cells #[cl] tT)) w.heap.size 22 #[v] := (Arr.new w _ _).below (below_box _ _)
  have bW : Below w.heap.size w ((w.alloc (.cells #[v] 22)).alloc (.cells #[cl] tT)) := (below_box w _).alloc (by simp) _
  exact ⟨a0.cell rfl, ⟨by omega, ⟨v, a0, h.later bW, OffK.new h (Nat.le_refl _)⟩, a1⟩, bW⟩

set_option maxHeartbeats 1000000 in
set_option maxRecDepth 100000 in
theorem whole_any (v : Value) (l : List Key) (hl : l.length ≤ 140737488355328) (w : World) (h : Sl w v l) :
    Calls Tryd.prog 8 #[v] w fun e w' => e = .returned (.bool (whole l)) ∧ Below w.heap.size w w' := by
  by_cases h32 : l.length ≤ 32
  · have hi : ¬ ((l.length : Nat) : Int) > 32 := by omega
    have hT := takes_any w.heap.size (w.heap.size + 1) 8 (Nat.le_refl _)
    have HW : whole l = done (E no (8 + 1) l) := by
      unfold whole
      rw [decide_eq_true h32, Bool.true_and]
    obtain ⟨z2, hst, hB⟩ := st_new h 43 (clT w.heap.size (w.heap.size + 1))
    have hc := hT _ l (by omega) hst
    rw [show ((8 : Nat) : Int) = 8 from rfl] at hc
    have HB := Lib.hid hB
    obtain ⟨⟨a, c, rfl, _⟩, _⟩ := h
    rw [HW]
    clear hT hst hB HW
    generalize hE : E no (8 + 1) l = o at *
    have HE := Lib.hid hE
    clear hE
    generalize l.length = n at *
    go_enter Tryd.func8, Tryd.ntmps8
    go_wp2_with fail
    refine hc.mono ?_
    rintro e w3 ⟨b3, hp⟩
    have B3 : Hid (Below w.heap.size w w3) := Lib.hid (HB.out.trans (b3.below HB.out.size (Nat.le_refl _)))
    clear hc b3 z2 HB
    cases o with
    | none =>
      subst hp
      go_wp2_with fail
      go_ret
      exact ⟨rfl, B3.out⟩
    | some p =>
      obtain ⟨b0, r⟩ := p
      obtain ⟨rfl, hst⟩ := hp
      obtain ⟨_, ⟨v', ha, hs', _⟩, _⟩ := hst
      obtain ⟨⟨a', c', rfl, _⟩, _⟩ := hs'
      have l0 : w3.cell? ⟨w.heap.size, 0, none⟩ = some (.slice a' r.length c') := ha.cell rfl
      clear ha
      cases r with
      | nil =>
        rw [List.length_nil] at l0
        go_wp2_with fail
        go_ret
        exact ⟨rfl, B3.out⟩
      | cons x r =>
        have hz : ((((x :: r).length : Nat) : Int) == 0) = false := by rw [beq_eq_false_iff_ne, List.length_cons]; omega
        generalize (x :: r).length = n' at *
        go_wp2_with fail
        go_ret
        exact ⟨rfl, B3.out⟩
  · have hi : ((l.length : Nat) : Int) > 32 := by omega
    have HW : whole l = false := by
      unfold whole
      rw [decide_eq_false h32, Bool.false_and]
    obtain ⟨⟨a, c, rfl, _⟩, _⟩ := h
    rw [HW]
    clear HW h32
    generalize l.length = n at *
    go_enter Tryd.func8, Tryd.ntmps8
    go_wp2_with fail
    go_ret
    exact ⟨rfl, Below.refl _ _⟩
end Go.Proofs.YtekbjapclajflaaDoor.mt
