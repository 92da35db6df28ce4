/-
  What the closure of Match answers of whole keys, by induction on how deep they stand; what Match answers.
-/
import Derived.Test.YtekbjapclajflaaDoorMtWhole
import Derived.Test.YtekbjapclajflaaDoorMtAlone
import Derived.Deep.RegionHeld3
import Derived.BigRegion
namespace Go.Proofs.YtekbjapclajflaaDoor.mt
set_option linter.unusedVariables false
open Go.RowKit Go.Shelf
open fl (S S_size S_append S_inj)
attribute [local go_sem] Oper.semAt_some

theorem times_le {g : List Key → Option (Bool × List Key)} {l : List Key} {n : Nat} {p : List Bool × List Key} (h : times g n l = some p) {j : Nat} (hj : j ≤ n) : ∃ bs r, times g j l = some (bs, r) := by
  cases ht : times g j l with
  | none => rw [times_none g l j ht n hj] at h; cases h
  | some q => exact ⟨q.1, q.2, rfl⟩
theorem times_inv {g : List Key → Option (Bool × List Key)} {l : List Key} {n : Nat} {bs : List Bool} {r : List Key} (h : times g (n + 1) l = some (bs, r)) : ∃ bs' m b, times g n l = some (bs', m) ∧ g m = some (b, r) ∧ bs = bs' ++ [b] := by
  rw [times] at h
  cases ht : times g n l with
  | none => rw [ht] at h; cases h
  | some p =>
    obtain ⟨bs', m⟩ := p
    rw [ht] at h
    simp only at h
    cases hq : g m with
    | none => rw [hq] at h; cases h
    | some q =>
      rw [hq] at h
      obtain ⟨b, r''⟩ := q
      cases h
      exact ⟨bs', m, b, rfl, hq, rfl⟩

abbrev clS (Lb Tb Xb Ab Mb : Nat) : Value := .func (.func 17) #[] #[.pointer (some ⟨Lb, 0, none⟩), .pointer (some ⟨Tb, 0, none⟩), .pointer (some ⟨Xb, 0, none⟩), .pointer (some ⟨Ab, 0, none⟩), .pointer (some ⟨Mb, 0, none⟩)]
/-- What the closure reads and writes. -/
structure SS (Lb Tb Xb Ab Mb : Nat) (y : Mail) (M : Int) (w : World) (l : List Key) : Prop where
  st : St Lb Tb 31 (clS Lb Tb Xb Ab Mb) w l
  x : Arr w Xb 26 #[.int .u64 (y.uid : Nat), y.fv, .int .u64 (y.mod : Nat), .string y.hash, .int .u64 (y.size : Nat)]
  a : Arr w Ab 28 #[.int .u64 (y.seq : Nat), .int .u64 (y.mostSeq : Nat), .int .u64 (y.mostUid : Nat)]
  m : Arr w Mb 9 #[.string (S y.m)]
  f : FlagsIn w y
  fo : y.flags ≠ [] → y.fv.ownBlock ≠ some Lb
  max : w.cell? ⟨0, 0, none⟩ = some (.int .i64 M)
  ne : Xb ≠ Lb ∧ Ab ≠ Lb ∧ Mb ≠ Lb ∧ 0 < Lb
  lt : ∀ k ∈ l, Light k
theorem SS.below {Lb Tb Xb Ab Mb : Nat} {y : Mail} {M : Int} {w w' : World} {l : List Key} (h : SS Lb Tb Xb Ab Mb y M w l) (b : Below w.heap.size w w') : SS Lb Tb Xb Ab Mb y M w' l :=
  ⟨h.st.below b, h.x.below b, h.a.below b, h.m.below b, h.f.later b, h.fo, (b.cell (p := ⟨0, 0, none⟩) (World.block_lt_of_cell? w _ h.max)).trans h.max, h.ne, h.lt⟩
theorem SS.put {Lb Tb Xb Ab Mb : Nat} {y : Mail} {M : Int} {w : World} {l r : List Key} (h : SS Lb Tb Xb Ab Mb y M w l) {v' : Value} (hs : Sl w v' r) (ho : OffK Lb v' r) (hl : ∀ k ∈ r, Light k) : SS Lb Tb Xb Ab Mb y M (w.setCell ⟨Lb, 0, none⟩ v') r := by
  have B : But Lb w (w.setCell ⟨Lb, 0, none⟩ v') := (But.refl Lb w).set 0 v'
  refine ⟨h.st.put hs ho, B.arr h.x h.ne.1, B.arr h.a h.ne.2.1, B.arr h.m h.ne.2.2.1, ?_, h.fo, ?_, h.ne, hl⟩
  · obtain ⟨a, c, h1, h2, h3⟩ := h.f
    refine ⟨a, c, h1, ?_, h3⟩
    by_cases he : y.flags = []
    · exact .inl he
    · rcases h2 with g | ⟨b, off, e, hb, hc⟩
      · exact absurd g he
      · have hne : b ≠ Lb := fun e2 => h.fo he (by rw [h1, e]; simp [Value.ownBlock, e2])
        exact .inr ⟨b, off, e, Nat.lt_of_lt_of_le hb B.size, fun j hj => (World.cell?_of_block (B.block b hb hne)).trans (hc j hj)⟩
  · exact (World.cell?_of_block (B.block 0 (World.block_lt_of_cell? w _ h.max) (by have := h.ne.2.2.2; omega))).trans h.max
def PostS (Lb Tb Xb Ab Mb : Nat) (y : Mail) (M : Int) (w : World) (b : Bool) (r : List Key) (e : Ending) (w' : World) : Prop :=
  e = .returned (.bool b) ∧ But Lb w w' ∧ SS Lb Tb Xb Ab Mb y M w' r
def Says (Lb Tb Xb Ab Mb : Nat) (y : Mail) (M : Int) (d : Nat) : Prop := ∀ (w : World) (l : List Key) (b : Bool) (r : List Key), l.length ≤ 1000 → SS Lb Tb Xb Ab Mb y M w l → E (alone y) d l = some (b, r) →
  Calls Tryd.prog 17 #[.pointer (some ⟨Lb, 0, none⟩), .pointer (some ⟨Tb, 0, none⟩), .pointer (some ⟨Xb, 0, none⟩), .pointer (some ⟨Ab, 0, none⟩), .pointer (some ⟨Mb, 0, none⟩)] w (PostS Lb Tb Xb Ab Mb y M w b r)

theorem But.fresh {q : Nat} {w w' : World} (h : But q w w') {b : Nat} (hb : b < w.heap.size) (hq : b ≠ q) (j : Nat) : w'.cell? ⟨b, j, none⟩ = w.cell? ⟨b, j, none⟩ := World.cell?_of_block (h.block b hb hq)

theorem SS.cells {Lb Tb Xb Ab Mb : Nat} {y : Mail} {M : Int} {w : World} {l : List Key} (h : SS Lb Tb Xb Ab Mb y M w l) :
    w.cell? ⟨Xb, 0, none⟩ = some (.int .u64 (y.uid : Nat)) ∧ w.cell? ⟨Xb, 1, none⟩ = some y.fv ∧ w.cell? ⟨Xb, 2, none⟩ = some (.int .u64 (y.mod : Nat)) ∧ w.cell? ⟨Xb, 3, none⟩ = some (.string y.hash) ∧ w.cell? ⟨Xb, 4, none⟩ = some (.int .u64 (y.size : Nat)) ∧
    w.cell? ⟨Ab, 0, none⟩ = some (.int .u64 (y.seq : Nat)) ∧ w.cell? ⟨Ab, 1, none⟩ = some (.int .u64 (y.mostSeq : Nat)) ∧ w.cell? ⟨Ab, 2, none⟩ = some (.int .u64 (y.mostUid : Nat)) ∧ w.cell? ⟨Mb, 0, none⟩ = some (.string (S y.m)) :=
  ⟨h.x.cell rfl, h.x.cell rfl, h.x.cell rfl, h.x.cell rfl, h.x.cell rfl, h.a.cell rfl, h.a.cell rfl, h.a.cell rfl, h.m.cell rfl⟩
theorem SS.tb {Lb Tb Xb Ab Mb : Nat} {y : Mail} {M : Int} {w : World} {l : List Key} (h : SS Lb Tb Xb Ab Mb y M w l) : w.cell? ⟨Tb, 0, none⟩ = some (clS Lb Tb Xb Ab Mb) := h.st.fn.cell rfl
theorem SS.drew {Lb Tb Xb Ab Mb : Nat} {y : Mail} {M : Int} {w : World} {l : List Key} (h : SS Lb Tb Xb Ab Mb y M w l) : SS Lb Tb Xb Ab Mb y M w.drew l := h.below (below_drew (Below.refl _ _))
theorem But.drew {q : Nat} {a w : World} (h : But q a w) : But q a w.drew := ⟨h.os, h.tape, h.output, h.size, h.block⟩

theorem setIn_but {q : Nat} {w w' : World} {k : Key} (h : SetIn w k) (b : But q w w') (ho : k.set ≠ [] → k.sv.ownBlock ≠ some q) : SetIn w' k := by
  obtain ⟨a', c', g1, g2, g3⟩ := h
  refine ⟨a', c', g1, ?_, g3⟩
  by_cases he : k.set = []
  · exact .inl he
  · rcases g2 with g | ⟨b0, off, e, hb, hc⟩
    · exact absurd g he
    · have hne : b0 ≠ q := fun e2 => ho he (by rw [g1, e]; simp [Value.ownBlock, e2])
      exact .inr ⟨b0, off, e, Nat.lt_of_lt_of_le hb b.size, fun j hj => ⟨(World.cell?_of_block (b.block b0 hb hne)).trans (hc j hj).1, (World.cell?_of_block (b.block b0 hb hne)).trans (hc j hj).2⟩⟩

set_option maxHeartbeats 4000000 in
set_option maxRecDepth 100000 in
theorem says_step (Lb Tb Xb Ab Mb : Nat) (y : Mail) (hm : y.m.length < 4294967281) (M : Int) (d : Nat) (IH : Says Lb Tb Xb Ab Mb y M d) : Says Lb Tb Xb Ab Mb y M (d + 1) := by
  intro w l v r hl hss he
  cases l with
  | nil => cases he
  | cons k l =>
    rw [List.length_cons] at hl
    rw [E_cons, step_eq] at he
    by_cases hok : kidsOk k = true
    case neg => rw [if_neg hok] at he; cases he
    rw [if_pos hok] at he
    obtain ⟨bs, hts, hv⟩ : ∃ bs, times (E (alone y) d) (kidsN k).toNat l = some (bs, r) ∧ v = comb (alone y) k bs := by
      cases ht : times (E (alone y) d) (kidsN k).toNat l with
      | none => rw [ht] at he; cases he
      | some p =>
        obtain ⟨bs, r'⟩ := p
        rw [ht, out_some] at he
        cases he
        exact ⟨bs, rfl, rfl⟩
    obtain ⟨⟨hne, ⟨sv, ha, hsl, ho⟩, hf⟩, hx, hA, hM, hfl, hfo, hmax, hnes, hlt⟩ := id hss
    obtain ⟨b, off, n, cap, a', n', c', rfl, hn, hb, c0, c1, c2, c3, c4, c5, hcut, hsl', hob⟩ := hsl.cut (by omega)
    have hkin : SetIn w k := hsl.sets k List.mem_cons_self
    have hkl : Light k := hlt k List.mem_cons_self
    have hlt' : ∀ x ∈ l, Light x := fun x hx => hlt x (List.mem_cons_of_mem _ hx)
    have l0 : w.cell? ⟨Lb, 0, none⟩ = some (.slice (some ⟨b, off, none⟩) n cap) := ha.cell rfl
    have lf := ha.frozen 0
    have hla := ha.lt
    -- the world behind the copy of the key, and what is left put back
    obtain ⟨kind, kids, field, text, kn, set, sv⟩ := k
    obtain ⟨sa, sn, sc, rfl⟩ : ∃ sa sn sc, sv = .slice sa sn sc := by
      obtain ⟨sa, sc, e, _⟩ := hkin
      exact ⟨sa, _, sc, e⟩
    simp only at c0 c1 c2 c3 c4 c5
    have b1 := below_box w (.cells #[.int .i64 kind, .int .i64 kids, .string (S field), .string (S text), .int .u64 (kn : Nat), .slice sa sn sc] 36)
    have B0 : But Lb w (w.setCell ⟨Lb, 0, none⟩ (.slice a' n' c')) := (But.refl Lb w).set 0 _
    have b2 := below_box (w.setCell ⟨Lb, 0, none⟩ (.slice a' n' c')) (.cells #[.int .i64 kind, .int .i64 kids, .string (S field), .string (S text), .int .u64 (kn : Nat), .slice sa sn sc] 36)
    have B2 : But Lb w ((w.setCell ⟨Lb, 0, none⟩ (.slice a' n' c')).alloc (.cells #[.int .i64 kind, .int .i64 kids, .string (S field), .string (S text), .int .u64 (kn : Nat), .slice sa sn sc] 36)) := B0.then_below b2
    have S2 : SS Lb Tb Xb Ab Mb y M ((w.setCell ⟨Lb, 0, none⟩ (.slice a' n' c')).alloc (.cells #[.int .i64 kind, .int .i64 kids, .string (S field), .string (S text), .int .u64 (kn : Nat), .slice sa sn sc] 36)) l := (hss.put hsl' (ho.tail hob) hlt').below b2
    have A2 : Arr ((w.setCell ⟨Lb, 0, none⟩ (.slice a' n' c')).alloc (.cells #[.int .i64 kind, .int .i64 kids, .string (S field), .string (S text), .int .u64 (kn : Nat), .slice sa sn sc] 36)) w.heap.size 36 #[.int .i64 kind, .int .i64 kids, .string (S field), .string (S text), .int .u64 (kn : Nat), .slice sa sn sc] := by
      have := Arr.new (w.setCell ⟨Lb, 0, none⟩ (.slice a' n' c')) 36 #[.int .i64 kind, .int .i64 kids, .string (S field), .string (S text), .int .u64 (kn : Nat), .slice sa sn sc]
      rwa [World.size_setCell] at this
    have l1 : (w.alloc (.cells #[.int .i64 kind, .int .i64 kids, .string (S field), .string (S text), .int .u64 (kn : Nat), .slice sa sn sc] 36)).cell? ⟨Lb, 0, none⟩ = some (.slice (some ⟨b, off, none⟩) n cap) := (b1.cell (p := ⟨Lb, 0, none⟩) hla).trans l0
    have lf1 : (w.alloc (.cells #[.int .i64 kind, .int .i64 kids, .string (S field), .string (S text), .int .u64 (kn : Nat), .slice sa sn sc] 36)).frozen? ⟨Lb, 0, none⟩ = false := (b1.frozen (p := ⟨Lb, 0, none⟩) hla).trans lf
    replace hn := Lib.hid hn
    have HSI : Hid (SetIn ((w.setCell ⟨Lb, 0, none⟩ (.slice a' n' c')).alloc (.cells #[.int .i64 kind, .int .i64 kids, .string (S field), .string (S text), .int .u64 (kn : Nat), .slice sa sn sc] 36)) ⟨kind, kids, field, text, kn, set, .slice sa sn sc⟩) := (setIn_but hkin B0 (fun h => ho.2 _ List.mem_cons_self h)).later b2
    have HS := Lib.hid S2
    have HB := Lib.hid B2
    have HA := Lib.hid A2
    have HK := Lib.hid hkin
    have k0 : ((w.setCell ⟨Lb, 0, none⟩ (.slice a' n' c')).alloc (.cells #[.int .i64 kind, .int .i64 kids, .string (S field), .string (S text), .int .u64 (kn : Nat), .slice sa sn sc] 36)).cell? ⟨w.heap.size, 0, none⟩ = some (.int .i64 kind) := A2.cell rfl
    have k1 : ((w.setCell ⟨Lb, 0, none⟩ (.slice a' n' c')).alloc (.cells #[.int .i64 kind, .int .i64 kids, .string (S field), .string (S text), .int .u64 (kn : Nat), .slice sa sn sc] 36)).cell? ⟨w.heap.size, 1, none⟩ = some (.int .i64 kids) := A2.cell rfl
    have t0 : ((w.setCell ⟨Lb, 0, none⟩ (.slice a' n' c')).alloc (.cells #[.int .i64 kind, .int .i64 kids, .string (S field), .string (S text), .int .u64 (kn : Nat), .slice sa sn sc] 36)).cell? ⟨Tb, 0, none⟩ = some (clS Lb Tb Xb Ab Mb) := S2.st.fn.cell rfl
    have hni : (0 : Int) < (n : Int) := by have := hn.out; omega
    have hn1 : (1 : Int) ≤ (n : Int) := by have := hn.out; omega
    have hki : kids ≤ 9223372036854775807 := by
      obtain ⟨_, _, _, _, _, h⟩ := hkin
      exact h
    have HI := Lib.hid IH
    have HM := Lib.hid hm
    have HL := Lib.hid hkl
    have Hl : Hid (l.length ≤ 1000) := by show l.length ≤ 1000; omega
    clear IH hss hm hkl hkin S2 B2 A2 b1 b2 B0 ho hob hsl hsl' ha hf hfl hfo hmax hx hA hM hlt hlt' lf hok hnes hl
    by_cases h1 : kind = 1
    · subst h1
      have HT : Hid (times (E (alone y) d) kids.toNat l = some (bs, r)) := hts
      have HV : Hid (v = bs.all id) := hv
      clear hts hv he
      go_enter Tryd.func17, Tryd.ntmps17
      go_wp2_with fail
      go_loopw [7, 21] (fun al i wr => ∃ (j : Nat) (q : Bool), al = .bool q ∧ i = .int .i64 j ∧ (j : Int) ≤ max kids 0 ∧ Hid (∃ bs' m, times (E (alone y) d) j l = some (bs', m) ∧ bs'.all id = q ∧ m.length ≤ 1000 ∧ SS Lb Tb Xb Ab Mb y M wr m ∧ But Lb w wr))
        (fun _ i _ => (kids - intOf i).toNat)
      case atStart => exact ⟨0, true, rfl, rfl, by omega, ⟨[], l, rfl, rfl, Hl.out, HS.out, HB.out⟩⟩
      case round =>
        obtain ⟨j, q, rfl, rfl, hj, HR⟩ := hrel
        clear k0 k1 t0 l0 l1 lf1 c0 c1 c2 c3 c4 c5
        by_cases hlt : (j : Int) < kids
        · have HN : Hid (∃ b' m', Calls Tryd.prog 17 #[.pointer (some ⟨Lb, 0, none⟩), .pointer (some ⟨Tb, 0, none⟩), .pointer (some ⟨Xb, 0, none⟩), .pointer (some ⟨Ab, 0, none⟩), .pointer (some ⟨Mb, 0, none⟩)] wr (PostS Lb Tb Xb Ab Mb y M wr b' m') ∧ ∀ W, PostS Lb Tb Xb Ab Mb y M wr b' m' (.returned (.bool b')) W → ∃ bs' m, times (E (alone y) d) (j + 1) l = some (bs', m) ∧ bs'.all id = (b' && q) ∧ m.length ≤ 1000 ∧ SS Lb Tb Xb Ab Mb y M W m ∧ But Lb w W) := by
            obtain ⟨bs', m, g1, g2, g3, g4, g5⟩ := HR.out
            obtain ⟨bs2, r2, e2⟩ := times_le HT.out (j := j + 1) (by omega)
            obtain ⟨bs3, m3, b', e3, e4, e5⟩ := times_inv e2
            rw [g1] at e3
            cases e3
            refine ⟨b', r2, HI.out wr m b' r2 g3 g4 e4, fun W hW => ⟨bs2, r2, e2, ?_, Nat.le_trans (E_less e4) g3, hW.2.2, g5.trans hW.2.1⟩⟩
            rw [e5, List.all_append, g2]
            cases b' <;> cases q <;> rfl
          have t0 : wr.cell? ⟨Tb, 0, none⟩ = some (clS Lb Tb Xb Ab Mb) := by
            obtain ⟨_, _, _, _, _, g4, _⟩ := HR.out
            exact g4.st.fn.cell rfl
          obtain ⟨b', m', hc, hN⟩ := HN.out
          have HN2 := Lib.hid hN
          clear hN HN HR
          go_wp2_with fail
          refine hc.mono ?_
          rintro e w3 ⟨rfl, hp⟩
          have HR3 := Lib.hid (HN2.out w3 ⟨rfl, hp⟩)
          clear hc hp HN2
          cases b' with
          | true =>
            go_wp2_with fail
            go_roundw
            case rel => exact ⟨j + 1, q, rfl, by go_num, by omega, HR3⟩
            case measure => simp [intOf]; omega
          | false =>
            go_wp2_with fail
            go_roundw
            case rel => exact ⟨j + 1, false, rfl, by go_num, by omega, HR3⟩
            case measure => simp [intOf]; omega
        · have HF : Hid (v = q ∧ ∃ m, m = r ∧ SS Lb Tb Xb Ab Mb y M wr m ∧ But Lb w wr) := by
            obtain ⟨bs', m, g1, g2, g3, g4, g5⟩ := HR.out
            have := HT.out
            rw [show kids.toNat = j by omega, g1] at this
            cases this
            exact ⟨HV.out.trans g2, _, rfl, g4, g5⟩
          clear HR
          go_wp2_with fail
          go_ret
          obtain ⟨rfl, m, rfl, g4, g5⟩ := HF.out
          exact ⟨rfl, g5, g4⟩
    by_cases h2 : kind = 2
    · subst h2
      obtain ⟨b', e4, rfl⟩ : ∃ b', E (alone y) d l = some (b', r) ∧ v = !b' := by
        obtain ⟨bs', m, b', e3, e4, e5⟩ := times_inv (n := 0) hts
        cases e3
        refine ⟨b', e4, ?_⟩
        rw [hv, e5]
        simp [comb]
      have hc := HI.out _ l b' r Hl.out HS.out e4
      clear hts hv he e4
      go_enter Tryd.func17, Tryd.ntmps17
      go_wp2_with fail
      refine hc.mono ?_
      rintro e w3 ⟨rfl, g5, g4⟩
      have HR : Hid (But Lb w w3 ∧ SS Lb Tb Xb Ab Mb y M w3 r) := ⟨HB.out.trans g5, g4⟩
      clear hc g4 g5 k0 k1 t0 l0 l1 lf1 c0 c1 c2 c3 c4 c5
      go_wp2_with fail
      go_ret
      exact ⟨rfl, HR.out.1, HR.out.2⟩
    by_cases h3 : kind = 3
    · subst h3
      obtain ⟨b', z', m, e4, e5, rfl⟩ : ∃ b' z' m, E (alone y) d l = some (b', m) ∧ E (alone y) d m = some (z', r) ∧ v = (b' || z') := by
        obtain ⟨x1, x2, m, g1, g2⟩ := two_E hts
        refine ⟨x1, x2, m, g1, g2, ?_⟩
        have g3 := (times_two g1 g2).symm.trans hts
        cases g3
        rw [hv]
        simp [comb]
      have HC1 : Hid (∀ W, SS Lb Tb Xb Ab Mb y M W l → Calls Tryd.prog 17 #[.pointer (some ⟨Lb, 0, none⟩), .pointer (some ⟨Tb, 0, none⟩), .pointer (some ⟨Xb, 0, none⟩), .pointer (some ⟨Ab, 0, none⟩), .pointer (some ⟨Mb, 0, none⟩)] W (PostS Lb Tb Xb Ab Mb y M W b' m)) := fun W h => HI.out W l b' m Hl.out h e4
      have HC2 : Hid (∀ W, SS Lb Tb Xb Ab Mb y M W m → Calls Tryd.prog 17 #[.pointer (some ⟨Lb, 0, none⟩), .pointer (some ⟨Tb, 0, none⟩), .pointer (some ⟨Xb, 0, none⟩), .pointer (some ⟨Ab, 0, none⟩), .pointer (some ⟨Mb, 0, none⟩)] W (PostS Lb Tb Xb Ab Mb y M W z' r)) := fun W h => HI.out W m z' r (Nat.le_trans (E_less e4) Hl.out) h e5
      clear hts hv he e4 e5
      go_enter Tryd.func17, Tryd.ntmps17
      go_upto_region 14 with (fail)
      have hs0 := HS.out
      have hb0 := HB.out
      clear HS HB
      generalize ((w.setCell ⟨Lb, 0, none⟩ (.slice a' n' c')).alloc (.cells #[.int .i64 3, .int .i64 kids, .string (S field), .string (S text), .int .u64 (kn : Nat), .slice sa sn sc] 36)) = W3 at *
      have hsd := hs0.drew
      have hbd := hb0.drew
      have htd : W3.drew.cell? ⟨Tb, 0, none⟩ = some (clS Lb Tb Xb Ab Mb) := hsd.tb
      clear hs0 hb0
      clear k0 k1 t0 l0 l1 lf1 c0 c1 c2 c3 c4 c5 HA HSI
      go_region_held3 (fun W => W.cell? ⟨Tb, 0, none⟩ = some (clS Lb Tb Xb Ab Mb)) (first | (with_reducible exact htd) | exact h4.tb | exact g4.tb | go_keep)
        ((first
          | (go_at_call 17; refine (HC1.out _ hsd).mono ?_; rintro e w3 ⟨rfl, g5, g4⟩)
          | (go_at_call 17; refine (HC2.out _ g4).mono ?_; rintro e w4 ⟨rfl, h5, h4⟩)))
      have HR : Hid (But Lb w w4 ∧ SS Lb Tb Xb Ab Mb y M w4 r) := ⟨(hbd.trans g5).trans h5, h4⟩
      clear hsd hbd htd g5 g4 h5 h4 HC1 HC2
      cases b' with
      | true =>
        go_wp2_with fail
        go_ret
        exact ⟨rfl, HR.out.1, HR.out.2⟩
      | false =>
        go_wp2_with fail
        go_ret
        exact ⟨rfl, HR.out.1, HR.out.2⟩
    have hq1 : (kind == 1) = false := by rw [beq_eq_false_iff_ne]; exact h1
    have hq2 : (kind == 2) = false := by rw [beq_eq_false_iff_ne]; exact h2
    have hq3 : (kind == 3) = false := by rw [beq_eq_false_iff_ne]; exact h3
    obtain ⟨rfl, rfl⟩ : r = l ∧ v = alone y ⟨kind, kids, field, text, kn, set, .slice sa sn sc⟩ := by
      have e0 : kidsN ⟨kind, kids, field, text, kn, set, .slice sa sn sc⟩ = 0 := by
        unfold kidsN
        simp only
        rw [if_neg h1, if_neg h2, if_neg h3]
      rw [e0] at hts
      cases hts
      refine ⟨rfl, ?_⟩
      rw [hv]
      unfold comb
      simp only
      rw [if_neg h1, if_neg h2, if_neg h3]
    have hS := HS.out
    have hz := World.block_lt_of_cell? _ _ hS.max
    have hc := alone_any ⟨kind, kids, field, text, kn, set, .slice sa sn sc⟩ y HM.out HL.out M _ hz hS.max HSI.out hS.f
    obtain ⟨x0, x1, x2, x3, x4, p0, p1, p2, m0⟩ := hS.cells
    have k2 : ((w.setCell ⟨Lb, 0, none⟩ (.slice a' n' c')).alloc (.cells #[.int .i64 kind, .int .i64 kids, .string (S field), .string (S text), .int .u64 (kn : Nat), .slice sa sn sc] 36)).cell? ⟨w.heap.size, 2, none⟩ = some (.string (S field)) := HA.out.cell rfl
    have k3 : ((w.setCell ⟨Lb, 0, none⟩ (.slice a' n' c')).alloc (.cells #[.int .i64 kind, .int .i64 kids, .string (S field), .string (S text), .int .u64 (kn : Nat), .slice sa sn sc] 36)).cell? ⟨w.heap.size, 3, none⟩ = some (.string (S text)) := HA.out.cell rfl
    have k4 : ((w.setCell ⟨Lb, 0, none⟩ (.slice a' n' c')).alloc (.cells #[.int .i64 kind, .int .i64 kids, .string (S field), .string (S text), .int .u64 (kn : Nat), .slice sa sn sc] 36)).cell? ⟨w.heap.size, 4, none⟩ = some (.int .u64 (kn : Nat)) := HA.out.cell rfl
    have k5 : ((w.setCell ⟨Lb, 0, none⟩ (.slice a' n' c')).alloc (.cells #[.int .i64 kind, .int .i64 kids, .string (S field), .string (S text), .int .u64 (kn : Nat), .slice sa sn sc] 36)).cell? ⟨w.heap.size, 5, none⟩ = some (.slice sa sn sc) := HA.out.cell rfl
    unfold keyV letterV placeV at hc
    simp only at hc
    clear hts hv he hS hz h1 h2 h3 t0 HSI HA HI
    generalize alone y ⟨kind, kids, field, text, kn, set, .slice sa sn sc⟩ = av at *
    go_enter Tryd.func17, Tryd.ntmps17
    go_wp2_with fail
    refine hc.mono ?_
    rintro e w3 ⟨rfl, b3⟩
    have HR : Hid (But Lb w w3 ∧ SS Lb Tb Xb Ab Mb y M w3 r) := ⟨HB.out.then_below b3, HS.out.below b3⟩
    clear hc b3 HS HB k0 k1 k2 k3 k4 k5 l0 l1 lf1 c0 c1 c2 c3 c4 c5 x0 x1 x2 x3 x4 p0 p1 p2 m0
    go_wp2_with fail
    go_ret
    exact ⟨rfl, HR.out.1, HR.out.2⟩

theorem says_all (Lb Tb Xb Ab Mb : Nat) (y : Mail) (hm : y.m.length < 4294967281) (M : Int) : ∀ d, Says Lb Tb Xb Ab Mb y M d
  | 0 => fun w l b r _ _ h => by cases h
  | d + 1 => says_step Lb Tb Xb Ab Mb y hm M d (says_all Lb Tb Xb Ab Mb y hm M d)

set_option maxHeartbeats 1000000 in
set_option maxRecDepth 100000 in
theorem match_any (v : Value) (l : List Key) (hl : l.length ≤ 140737488355328) (hlt : l.length ≤ 1000 → ∀ k ∈ l, Light k) (y : Mail) (hm : y.m.length < 4294967281) (M : Int) (w : World) (hM : w.cell? ⟨0, 0, none⟩ = some (.int .i64 M)) (h : Sl w v l) (hf : FlagsIn w y) :
    Calls Tryd.prog 11 #[v, letterV y, placeV y, .string (S y.m)] w fun e w' => e = .returned (.bool (says (alone y) l)) ∧ Below w.heap.size w w' := by
  have hz := World.block_lt_of_cell? _ _ hM
  -- the boxes
  have B1 := below_3 w (.cells #[.int .u64 (y.uid : Nat), y.fv, .int .u64 (y.mod : Nat), .string y.hash, .int .u64 (y.size : Nat)] 26) (.cells #[.int .u64 (y.seq : Nat), .int .u64 (y.mostSeq : Nat), .int .u64 (y.mostUid : Nat)] 28) (.cells #[.string (S y.m)] 9)
  have A0 := (Arr.new w 26 #[.int .u64 (y.uid : Nat), y.fv, .int .u64 (y.mod : Nat), .string y.hash, .int .u64 (y.size : Nat)]).below ((below_box _ (.cells #[.int .u64 (y.seq : Nat), .int .u64 (y.mostSeq : Nat), .int .u64 (y.mostUid : Nat)] 28)).alloc (by simp) (.cells #[.string (S y.m)] 9))
  have A1 := (Arr.new (w.alloc (.cells #[.int .u64 (y.uid : Nat), y.fv, .int .u64 (y.mod : Nat), .string y.hash, .int .u64 (y.size : Nat)] 26)) 28 #[.int .u64 (y.seq : Nat), .int .u64 (y.mostSeq : Nat), .int .u64 (y.mostUid : Nat)]).below (below_box _ (.cells #[.string (S y.m)] 9))
  have A2 := Arr.new ((w.alloc (.cells #[.int .u64 (y.uid : Nat), y.fv, .int .u64 (y.mod : Nat), .string y.hash, .int .u64 (y.size : Nat)] 26)).alloc (.cells #[.int .u64 (y.seq : Nat), .int .u64 (y.mostSeq : Nat), .int .u64 (y.mostUid : Nat)] 28)) 9 #[.string (S y.m)]
  simp only [World.size_alloc, Nat.add_assoc, Nat.reduceAdd] at A1 A2
  have hc := whole_any v l hl _ (h.later B1)
  have HV := Lib.hid (hf.later B1)
  have HL := Lib.hid (h.later B1)
  have HX := Lib.hid (And.intro A0 (And.intro A1 A2))
  have HB := Lib.hid B1
  have HZ := Lib.hid hz
  have HM := Lib.hid hM
  have HH := Lib.hid (And.intro hlt hm)
  clear A0 A1 A2 B1 hf hz hM hlt hm
  obtain ⟨⟨a, c, rfl, _⟩, _⟩ := h
  have HN := Lib.hid hl
  clear hl
  obtain ⟨vl, hvl⟩ : ∃ n, l.length = n := ⟨_, rfl⟩
  rw [hvl] at HL hc ⊢
  replace hvl := Lib.hid hvl
  unfold letterV placeV
  by_cases hw : whole l = true
  · obtain ⟨b, hb⟩ := whole_E hw (alone y)
    have h32 := whole_length hw
    have hsay : says (alone y) l = b := says_of h32 hb
    rw [hw] at hc
    rw [hsay]
    have HE := Lib.hid hb
    have H32 := Lib.hid h32
    clear hb h32 hsay hw
    go_enter Tryd.func11, Tryd.ntmps11
    go_wp2_with fail
    refine hc.mono ?_
    rintro e w1 ⟨rfl, b1⟩
    have B2 : Below w.heap.size w w1 := HB.out.trans (b1.mono HB.out.size)
    obtain ⟨z0, hst, hB⟩ := st_new (HL.out.later b1) 31 (clS w1.heap.size (w1.heap.size + 1) w.heap.size (w.heap.size + 1) (w.heap.size + 2))
    have hx := ((HX.out.1.below b1).below hB)
    have ha := ((HX.out.2.1.below b1).below hB)
    have hmm := ((HX.out.2.2.below b1).below hB)
    have hsz := B2.size
    have hs3 : w.heap.size + 2 < w1.heap.size := (HX.out.2.2.below b1).lt
    have hz0 := HZ.out
    have hss : SS w1.heap.size (w1.heap.size + 1) w.heap.size (w.heap.size + 1) (w.heap.size + 2) y M ((w1.alloc (.cells #[.slice a vl c] 22)).alloc (.cells #[clS w1.heap.size (w1.heap.size + 1) w.heap.size (w.heap.size + 1) (w.heap.size + 2)] 31)) l := by
      refine ⟨hst, hx, ha, hmm, (HV.out.later b1).later hB, ?_, ?_, ⟨by omega, by omega, by omega, by omega⟩, HH.out.1 (by have := H32.out; omega)⟩
      · intro hne e
        obtain ⟨fa, fc, e1, e2, _⟩ := HV.out.later b1
        rcases e2 with g | ⟨bb, off, e3, hbb, _⟩
        · exact hne g
        · rw [e1, e3] at e
          simp [Value.ownBlock] at e
          omega
      · exact ((B2.trans (hB.mono hsz)).cell (p := ⟨0, 0, none⟩) hz0).trans HM.out
    have hcl := says_all w1.heap.size (w1.heap.size + 1) w.heap.size (w.heap.size + 1) (w.heap.size + 2) y HH.out.2 M 9 _ l b [] (by have := H32.out; omega) hss HE.out
    have HB2 : Hid (Below w.heap.size w ((w1.alloc (.cells #[.slice a vl c] 22)).alloc (.cells #[clS w1.heap.size (w1.heap.size + 1) w.heap.size (w.heap.size + 1) (w.heap.size + 2)] 31))) := B2.trans (hB.mono hsz)
    have HQ : Hid (w.heap.size ≤ w1.heap.size) := hsz
    clear hss hx ha hmm hst hB hs3 hz0 b1 hc B2 HV HL HX HB HZ HM HH hsz
    go_wp2_with fail
    refine hcl.mono ?_
    rintro e w4 ⟨rfl, b4, _⟩
    have HR : Hid (Below w.heap.size w w4) := HB2.out.trans (b4.below HB2.out.size HQ.out)
    clear hcl b4 HB2 z0
    go_wp2_with fail
    go_ret
    exact ⟨rfl, HR.out⟩
  · have hw' : whole l = false := by simpa using hw
    have hsay : says (alone y) l = false := by unfold says; rw [hw', Bool.false_and]
    rw [hw'] at hc
    rw [hsay]
    clear hw hw' hsay HV HL HX HZ HM HH
    go_enter Tryd.func11, Tryd.ntmps11
    go_wp2_with fail
    refine hc.mono ?_
    rintro e w1 ⟨rfl, b1⟩
    have B2 : Hid (Below w.heap.size w w1) := HB.out.trans (b1.mono HB.out.size)
    clear b1 hc HB
    go_wp2_with fail
    go_ret
    exact ⟨rfl, B2.out⟩
end Go.Proofs.YtekbjapclajflaaDoor.mt
