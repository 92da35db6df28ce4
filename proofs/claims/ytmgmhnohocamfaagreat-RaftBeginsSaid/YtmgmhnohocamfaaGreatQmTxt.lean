/-
  Members as text: plain mathematics; the reader's count of at most five, its end.
-/
import Derived.Test.YtmgmhnohocamfaaGreatPackMore
import Derived.Test.YtmgmhnohocamfaaGreatPackAt
import Derived.Test.YtmgmhnohocamfaaGreatPackBackWalk
import Derived.Test.YtmgmhnohocamfaaGreatTlGen
namespace Go.Proofs.YtmgmhnohocamfaaGreat.qm
set_option linter.unusedVariables false
open Go.RowKit
open rw (Arr But Own bnext below_box below_drew below_drewN)
open pk (RD At dec S S_size S_data)

abbrev Bs := List UInt8
def toI (b : UInt8) : Int := (b.toNat : Int)
def ofI (x : Int) : UInt8 := UInt8.ofNat x.toNat
theorem ofI_toI (b : UInt8) : ofI (toI b) = b := by simp [ofI, toI]
theorem toI_ofI {x : Int} (h : 0 ≤ x) (h2 : x ≤ 255) : toI (ofI x) = x := by
  simp only [toI, ofI, UInt8.toNat_ofNat']
  omega
/-- Members' text. -/
def textL (l : List Int) : Bs := if right l then UInt8.ofNat l.length :: l.map ofI else []
/-- What is left of a text that is read; none: a fault. -/
def cnt5 : Option Bs → Nat × Option Bs
  | some (c :: r) => if c.toNat ≤ 5 then (c.toNat, some r) else (0, none)
  | _ => (0, none)
def many : Nat → Option Bs → List Int × Option Bs
  | 0, st => ([], st)
  | k + 1, st => ((cnt5 st).1 :: (many k (cnt5 st).2).1, (many k (cnt5 st).2).2)
theorem many_len : ∀ (k : Nat) (st : Option Bs), (many k st).1.length = k
  | 0, _ => rfl
  | k + 1, st => by simp [many, many_len k]
theorem many_none : ∀ (k : Nat), (many k none).2 = none
  | 0 => rfl
  | k + 1 => by simp [many, cnt5, many_none k]
theorem many_snoc : ∀ (k : Nat) (st : Option Bs), many (k + 1) st = ((many k st).1 ++ [((cnt5 (many k st).2).1 : Int)], (cnt5 (many k st).2).2)
  | 0, st => by simp [many]
  | k + 1, st => by
    have h := many_snoc k (cnt5 st).2
    rw [many, h]
    simp [many]
def readP (s : Bs) : List Int × Nat :=
  let c := cnt5 (some s)
  let m := many c.1 c.2
  if m.2 = some [] ∧ right m.1 = true then (m.1, 0) else ([], 4)
def readS (s : Bs) : List Int × Nat := if 2 ≤ s.length ∧ textL (s.tail.map toI) = s then (s.tail.map toI, 0) else ([], 4)
theorem readS_yes {s : Bs} (h : 2 ≤ s.length ∧ textL (s.tail.map toI) = s) : readS s = (s.tail.map toI, 0) := if_pos h
theorem readS_no {s : Bs} (h : ¬ (2 ≤ s.length ∧ textL (s.tail.map toI) = s)) : readS s = ([], 4) := if_neg h
theorem many_all : ∀ (k : Nat) (r : Bs), (many k (some r)).2 = some [] → r.length = k ∧ (∀ c ∈ r, c.toNat ≤ 5) ∧ (many k (some r)).1 = r.map toI
  | 0, r, h => by
    simp only [many, Option.some.injEq] at h
    subst h
    exact ⟨rfl, by simp, rfl⟩
  | k + 1, [], h => by simp [many, cnt5, many_none] at h
  | k + 1, c :: r, h => by
    by_cases hc : c.toNat ≤ 5
    · simp only [many, cnt5, hc, if_true] at h ⊢
      obtain ⟨h1, h2, h3⟩ := many_all k r h
      refine ⟨by simp [h1], fun x hx => ?_, by rw [h3]; rfl⟩
      rcases List.mem_cons.1 hx with rfl | hx
      · exact hc
      · exact h2 x hx
    · simp [many, cnt5, hc, many_none] at h
theorem many_back : ∀ (r : Bs), (∀ c ∈ r, c.toNat ≤ 5) → many r.length (some r) = (r.map toI, some [])
  | [], _ => rfl
  | c :: r, h => by
    have hc := h c List.mem_cons_self
    have ih := many_back r fun x hx => h x (List.mem_cons_of_mem _ hx)
    simp only [List.length_cons, many, cnt5, hc, if_true, ih]
    rfl
theorem map_back {r : Bs} : (r.map toI).map ofI = r := by
  rw [List.map_map]
  conv => rhs; rw [← List.map_id r]
  exact List.map_congr_left fun x _ => ofI_toI x
theorem read_eq (s : Bs) : readP s = readS s := by
  cases s with
  | nil => simp [readP, readS, cnt5, many]
  | cons c r =>
    by_cases hc : c.toNat ≤ 5
    · by_cases hm : (many c.toNat (some r)).2 = some [] ∧ right (many c.toNat (some r)).1 = true
      · obtain ⟨h1, h2, h3⟩ := many_all _ _ hm.1
        have hr := hm.2
        rw [h3] at hr
        have hl := right_len hr
        rw [List.length_map] at hl
        have ht : textL (r.map toI) = c :: r := by
          simp only [textL, hr, if_true, map_back, List.length_map, h1]
          simp
        have e1 : readP (c :: r) = (r.map toI, 0) := by
          simp only [readP, cnt5, hc, if_true]
          rw [if_pos hm, h3]
        have e2 : readS (c :: r) = (r.map toI, 0) := readS_yes ⟨by simp; omega, ht⟩
        rw [e1, e2]
      · have e1 : readP (c :: r) = ([], 4) := by
          simp only [readP, cnt5, hc, if_true]
          rw [if_neg hm]
        rw [e1]
        refine (readS_no ?_).symm
        rintro ⟨h1, h2⟩
        rw [List.tail_cons] at h2
        apply hm
        by_cases hr : right (r.map toI) = true
        · simp only [textL, hr, if_true, map_back, List.cons.injEq, List.length_map, and_true] at h2
          have hl := right_len hr
          rw [List.length_map] at hl
          have hcl : c.toNat = r.length := by rw [← h2]; simp; omega
          have h5 : ∀ x ∈ r, x.toNat ≤ 5 := fun x hx => by
            have := right_mem hr (List.mem_map.2 ⟨x, hx, rfl⟩)
            simp only [toI] at this
            omega
          rw [hcl, many_back r h5]
          exact ⟨rfl, hr⟩
        · rw [Bool.not_eq_true] at hr
          simp [textL, hr] at h2
    · have e1 : readP (c :: r) = ([], 4) := by
        simp only [readP, cnt5, hc, if_false, many]
        simp
      rw [e1]
      refine (readS_no ?_).symm
      rintro ⟨h1, h2⟩
      rw [List.tail_cons] at h2
      by_cases hr : right (r.map toI) = true
      · simp only [textL, hr, if_true, map_back, List.cons.injEq, List.length_map, and_true] at h2
        have hl := right_len hr
        rw [List.length_map] at hl
        apply hc
        rw [← h2]; simp; omega
      · rw [Bool.not_eq_true] at hr
        simp [textL, hr] at h2
theorem text_len (l : List Int) : (textL l).length ≤ 6 := by
  unfold textL
  cases hr : right l with
  | true => have := right_len hr; simp; omega
  | false => simp
/-- What is written is read. -/
theorem read_text {l : List Int} (hr : right l = true) : readS (textL l) = (l, 0) := by
  have hl := right_len hr
  have hmap : (l.map ofI).map toI = l := by
    rw [List.map_map]
    conv => rhs; rw [← List.map_id l]
    exact List.map_congr_left fun x hx => by
      have := right_mem hr hx
      exact toI_ofI (by omega) (by omega)
  have e : textL l = UInt8.ofNat l.length :: l.map ofI := by simp [textL, hr]
  have ht : (textL l).tail.map toI = l := by rw [e, List.tail_cons, hmap]
  unfold readS
  rw [ht, if_pos ⟨by rw [e]; simp; omega, rfl⟩]

/-! ### The reader -/
theorem dec_first (c : UInt8) (r : Bs) : (c.toNat ≤ 5 → dec 0 0 (c :: r) = (0, c.toNat, r)) ∧ (¬ c.toNat ≤ 5 → (dec 0 0 (c :: r)).1 ≠ 0 ∨ ∃ v r', dec 0 0 (c :: r) = (0, v, r') ∧ 5 < v) := by
  constructor
  · intro h
    rw [dec, if_neg (by omega), if_neg (by omega), if_pos (by omega)]
    simp
  · intro h
    obtain ⟨D, hD⟩ : ∃ D, dec 0 0 (c :: r) = D := ⟨_, rfl⟩
    rw [hD]
    obtain ⟨f, v, r'⟩ := D
    by_cases hf : f = 0
    · subst hf
      refine .inr ⟨v, r', rfl, ?_⟩
      obtain ⟨y, h1, h2, _⟩ := pk.dec_one (c :: r) 0 0 v r' (by omega) (by simp) hD
      rcases Nat.lt_or_ge 5 v with h5 | h5
      · exact h5
      · exfalso
        simp at h1
        subst h1
        rw [Lib.uvarint_small (by omega)] at h2
        simp only [List.singleton_append, List.cons.injEq] at h2
        apply h
        rw [h2.1]
        simp
        omega
    · exact .inl hf
/-- The reader rb over T: what is left, or a fault. -/
def Rs (w : World) (rb : Nat) (T : Bs) : Option Bs → Prop
  | some r => At w rb T r
  | none => ∃ a f : Int, (f == 0) = false ∧ RD w rb (S T) a f
theorem Rs.below {w w' : World} {B rb : Nat} {T : Bs} {st : Option Bs} (h : Rs w rb T st) (k : Below B w w') (hlt : rb < B) : Rs w' rb T st := by
  cases st with
  | some r => exact At.of_below h k hlt
  | none =>
    obtain ⟨a, f, h1, h2⟩ := h
    exact ⟨a, f, h1, h2.of_below k hlt⟩
theorem Rs.lt {w : World} {rb : Nat} {T : Bs} {st : Option Bs} (h : Rs w rb T st) : rb < w.heap.size := by
  cases st with
  | some r => exact At.lt h
  | none =>
    obtain ⟨a, f, h1, h2⟩ := h
    exact h2.lt
theorem fault_ne {n : Nat} (h : n ≠ 0) : (((n : Nat) : Int) == 0) = false := beq_eq_false_iff_ne.2 (by omega)
theorem count5_any (rb : Nat) (T : Bs) (hT : T.length ≤ 281474976710656) (st : Option Bs) (w : World) (h : Rs w rb T st) :
    Calls Tryz.prog 105 #[.pointer (some ⟨rb, 0, none⟩), .int .i64 5] w fun e w' => e = .returned (.int .i64 ((cnt5 st).1 : Nat)) ∧ Rs w' rb T (cnt5 st).2 ∧ pk.Touch rb w w' := by
  cases st with
  | none =>
    obtain ⟨a, f, h1, h2⟩ := h
    refine (pk.rcount_faulty rb (S T) a f h1 5 (by omega) w h2).mono ?_
    rintro e w' ⟨rfl, h3, h4⟩
    exact ⟨rfl, ⟨a, f, h1, h3⟩, h4⟩
  | some q =>
    obtain ⟨hR, pre, hpre⟩ := h
    have hlen : T.length = pre.length + q.length := by rw [hpre, List.length_append]
    have hs : (S T).size ≤ 281474976710656 := by rw [S_size]; exact hT
    have hsd := pk.suffix_data hpre
    have bad : (dec 0 0 q).1 ≠ 0 → (cnt5 (some q)).1 = 0 ∧ (cnt5 (some q)).2 = none → Calls Tryz.prog 105 #[.pointer (some ⟨rb, 0, none⟩), .int .i64 5] w fun e w' => e = .returned (.int .i64 ((cnt5 (some q)).1 : Nat)) ∧ Rs w' rb T (cnt5 (some q)).2 ∧ pk.Touch rb w w' := fun hd hc => by
      refine (pk.rcount_bad rb (S T) hs _ (by rw [S_size]; omega) 5 (by omega) w hR (dec 0 0 q) (by rw [hsd]) hd).mono ?_
      rintro e w' ⟨rfl, h3, h4⟩
      show _ ∧ _ ∧ _
      rw [hc.1, hc.2]
      exact ⟨rfl, ⟨_, _, fault_ne hd, h3⟩, h4⟩
    cases q with
    | nil => exact bad (by simp [dec]) ⟨rfl, rfl⟩
    | cons c r =>
      by_cases hc : c.toNat ≤ 5
      · have hd := (dec_first c r).1 hc
        refine (pk.rcount_ok rb (S T) hs _ (by rw [S_size]; omega) 5 (by omega) w hR c.toNat r (by rw [hsd, hd]) (by rw [S_size]; simp at hlen; omega) (by omega)).mono ?_
        rintro e w' ⟨rfl, h3, h4⟩
        simp only [cnt5, hc, if_true]
        refine ⟨by first | rfl | trivial, ⟨?_, pre ++ [c], by rw [hpre]; simp⟩, h4⟩
        rw [S_size] at h3
        exact h3
      · have hz : (cnt5 (some (c :: r))).1 = 0 ∧ (cnt5 (some (c :: r))).2 = none := by simp [cnt5, hc]
        rcases (dec_first c r).2 hc with hd | ⟨v, r', hd, hv⟩
        · exact bad hd hz
        · refine (pk.rcount_long rb (S T) hs _ (by rw [S_size]; omega) 5 (by omega) w hR v r' (by rw [hsd, hd]) (by omega)).mono ?_
          rintro e w' ⟨rfl, h3, h4⟩
          rw [hz.1, hz.2]
          exact ⟨rfl, ⟨_, _, by decide, h3⟩, h4⟩
/-- The end: 0 just if all was read. -/
theorem endr_any (rb : Nat) (T : Bs) (hT : T.length ≤ 281474976710656) (st : Option Bs) (w : World) (h : Rs w rb T st) :
    Calls Tryz.prog 106 #[.pointer (some ⟨rb, 0, none⟩)] w fun e w' => (∃ f : Int, e = .returned (.int .i64 f) ∧ (f != 0) = !decide (st = some [])) ∧ pk.Touch rb w w' := by
  cases st with
  | none =>
    obtain ⟨a, f, h1, h2⟩ := h
    refine (pk.end_bad rb (S T) a f h1 w h2).mono ?_
    rintro e w' ⟨rfl, rfl⟩
    exact ⟨⟨f, rfl, by simp [bne, h1]⟩, pk.Touch.refl _ _⟩
  | some q =>
    cases q with
    | nil =>
      refine (pk.end_at_nil rb T hT w h).mono ?_
      rintro e w' ⟨rfl, h3⟩
      exact ⟨⟨0, rfl, rfl⟩, h3⟩
    | cons c r =>
      refine (pk.end_at_rest rb T hT (c :: r) (by simp) w h).mono ?_
      rintro e w' ⟨rfl, h3⟩
      exact ⟨⟨9, rfl, rfl⟩, h3⟩
end Go.Proofs.YtmgmhnohocamfaaGreat.qm
