/-
  What a key without kids says of a message.
-/
import Derived.Test.YtekbjapclajflaaDoorMtMem
import Derived.Test.YtekbjapclajflaaDoorPtField
import Derived.BigGuard
namespace Go.Proofs.YtekbjapclajflaaDoor.mt
set_option linter.unusedVariables false
set_option linter.unusedSimpArgs false
open Go.RowKit Go.Shelf
open fl (S S_size S_append S_inj upper)
attribute [local go_sem] Oper.semAt_some

/-- A message: its letter, its place, its bytes; where its flags lie. -/
structure Mail where
  uid : Nat
  mod : Nat
  size : Nat
  seq : Nat
  mostSeq : Nat
  mostUid : Nat
  flags : List (List UInt8)
  hash : ByteArray
  m : List UInt8
  fv : Value

def letterV (y : Mail) : Value := .agg #[.int .u64 (y.uid : Nat), y.fv, .int .u64 (y.mod : Nat), .string y.hash, .int .u64 (y.size : Nat)]
def placeV (y : Mail) : Value := .agg #[.int .u64 (y.seq : Nat), .int .u64 (y.mostSeq : Nat), .int .u64 (y.mostUid : Nat)]
/-- Its flags lie there. -/
def FlagsIn (w : World) (y : Mail) : Prop := ∃ a c, y.fv = .slice a y.flags.length c ∧ fl.RowS w a y.flags ∧ y.flags.length ≤ 140737488355328
theorem FlagsIn.later {w w' : World} {y : Mail} (h : FlagsIn w y) (b : Below w.heap.size w w') : FlagsIn w' y := by
  obtain ⟨a, c, h1, h2, h3⟩ := h
  exact ⟨a, c, h1, h2.later b, h3⟩

def holdsL (s p : List UInt8) : Bool := Lib.contains (upper s) (upper p)
def inField (m name p : List UInt8) : Bool := (pt.found (pt.fields m) name).isSome && holdsL (pt.value (pt.found (pt.fields m) name)) p
def alone (y : Mail) (k : Key) : Bool :=
  if k.kind = 5 then sq.has k.set y.mostSeq y.seq
  else if k.kind = 6 then sq.has k.set y.mostUid y.uid
  else if k.kind = 7 then decide (k.field ∈ y.flags) == decide (k.n = 1)
  else if k.kind = 8 then decide (k.n < y.size)
  else if k.kind = 9 then decide (y.size < k.n)
  else if k.kind = 10 then decide (k.n ≤ y.mod)
  else if k.kind = 11 then holdsL y.m k.text
  else if k.kind = 12 then holdsL (pt.text y.m) k.text
  else if k.kind = 13 then inField y.m k.field k.text
  else decide (k.kind = 4)

/-- What a call of alone owes. -/
def PostA (w : World) (r : Bool) (e : Ending) (w' : World) : Prop := e = .returned (.bool r) ∧ Below w.heap.size w w'

theorem below_3 (w : World) (a b c : Obj) : Below w.heap.size w (((w.alloc a).alloc b).alloc c) := ((below_box w a).alloc (by simp) b).alloc (by simp; omega) c

set_option maxHeartbeats 1000000 in
set_option maxRecDepth 100000 in
theorem alone5 (kids : Int) (field text : List UInt8) (n : Nat) (set : List (Nat × Nat)) (a : Option Addr) (c : Nat) (y : Mail) (w : World) (hr : sq.RowR w a set) (hl : set.length ≤ 140737488355328) :
    Calls Tryd.prog 18 #[keyV ⟨5, kids, field, text, n, set, .slice a set.length c⟩, letterV y, placeV y, .string (S y.m)] w (PostA w (sq.has set y.mostSeq y.seq)) := by
  have HH := Lib.hid (fun W h => sq.has_any a c set y.mostSeq y.seq hl W h)
  have HR := Lib.hid (fun (W : World) (h : Below w.heap.size w W) => hr.later h)
  unfold PostA keyV letterV placeV
  simp only
  generalize sq.has set y.mostSeq y.seq = r at *
  go_enter Tryd.func18, Tryd.ntmps18
  go_wp2_with fail
  refine (HH.out _ (HR.out _ (below_3 _ _ _ _))).mono ?_
  rintro e w1 ⟨rfl, b1⟩
  have B1 := (below_3 _ _ _ _).trans (b1.mono (by simp; omega))
  clear HH HR b1 hr
  go_wp2_with fail
  go_ret
  exact ⟨rfl, B1⟩

set_option maxHeartbeats 1000000 in
set_option maxRecDepth 100000 in
theorem alone6 (kids : Int) (field text : List UInt8) (n : Nat) (set : List (Nat × Nat)) (a : Option Addr) (c : Nat) (y : Mail) (w : World) (hr : sq.RowR w a set) (hl : set.length ≤ 140737488355328) :
    Calls Tryd.prog 18 #[keyV ⟨6, kids, field, text, n, set, .slice a set.length c⟩, letterV y, placeV y, .string (S y.m)] w (PostA w (sq.has set y.mostUid y.uid)) := by
  have HH := Lib.hid (fun W h => sq.has_any a c set y.mostUid y.uid hl W h)
  have HR := Lib.hid (fun (W : World) (h : Below w.heap.size w W) => hr.later h)
  unfold PostA keyV letterV placeV
  simp only
  generalize sq.has set y.mostUid y.uid = r at *
  go_enter Tryd.func18, Tryd.ntmps18
  go_wp2_with fail
  refine (HH.out _ (HR.out _ (below_3 _ _ _ _))).mono ?_
  rintro e w1 ⟨rfl, b1⟩
  have B1 := (below_3 _ _ _ _).trans (b1.mono (by simp; omega))
  clear HH HR b1 hr
  go_wp2_with fail
  go_ret
  exact ⟨rfl, B1⟩

set_option maxHeartbeats 1000000 in
set_option maxRecDepth 100000 in
theorem alone7 (kids : Int) (field text : List UInt8) (n : Nat) (set : List (Nat × Nat)) (sv : Value) (a : Option Addr) (c : Nat) (uid mod size seq mostSeq mostUid : Nat) (flags : List (List UInt8)) (hash : ByteArray) (m : List UInt8) (w : World) (hr : fl.RowS w a flags) (hl : flags.length ≤ 140737488355328) :
    Calls Tryd.prog 18 #[keyV ⟨7, kids, field, text, n, set, sv⟩, letterV ⟨uid, mod, size, seq, mostSeq, mostUid, flags, hash, m, .slice a flags.length c⟩, placeV ⟨uid, mod, size, seq, mostSeq, mostUid, flags, hash, m, .slice a flags.length c⟩, .string (S m)] w (PostA w (decide (field ∈ flags) == decide (n = 1))) := by
  have HH := Lib.hid (fun W h => fl.has_any a c flags field hl W h)
  have HR := Lib.hid (fun (W : World) (h : Below w.heap.size w W) => hr.later h)
  unfold PostA keyV letterV placeV
  simp only
  generalize decide (field ∈ flags) = r at *
  obtain ⟨q, hq⟩ : ∃ q, decide (n = 1) = q := ⟨_, rfl⟩
  have hq1 : ((n : Int) == 1) = q := by
    rw [← hq]
    by_cases h : n = 1
    · rw [h]; rfl
    · rw [decide_eq_false h, beq_eq_false_iff_ne]; omega
  rw [hq]
  clear hq hr
  go_enter Tryd.func18, Tryd.ntmps18
  go_wp2_with fail
  go_quiet (first | (go_at_call 21; refine Calls.quiet_of_same (HH.out _ (HR.out _ (sq.below_drewN (below_3 _ _ _ _) _)))))
  go_wp2_with fail
  go_ret
  exact ⟨by cases r <;> cases q <;> rfl, sq.below_drewN (below_3 _ _ _ _) _⟩

set_option maxHeartbeats 1000000 in
set_option maxRecDepth 100000 in
theorem alone8 (kids : Int) (field text : List UInt8) (n : Nat) (set : List (Nat × Nat)) (sv : Value) (y : Mail) (w : World) :
    Calls Tryd.prog 18 #[keyV ⟨8, kids, field, text, n, set, sv⟩, letterV y, placeV y, .string (S y.m)] w (PostA w (decide (n < y.size))) := by
  unfold PostA keyV letterV placeV
  simp only
  generalize y.size = z
  obtain ⟨q, hq⟩ : ∃ q, decide (n < z) = q := ⟨_, rfl⟩
  rw [hq]
  by_cases h : n < z
  · have hi : (n : Int) < (z : Int) := by omega
    rw [decide_eq_true h] at hq
    subst hq
    clear h
    go_enter Tryd.func18, Tryd.ntmps18
    go_wp2_with fail
    go_ret
    exact ⟨by simp [hi], below_3 _ _ _ _⟩
  · have hi : ¬ (n : Int) < (z : Int) := by omega
    rw [decide_eq_false h] at hq
    subst hq
    clear h
    go_enter Tryd.func18, Tryd.ntmps18
    go_wp2_with fail
    go_ret
    exact ⟨by first | (simp; done) | (simp; omega), below_3 _ _ _ _⟩

set_option maxHeartbeats 1000000 in
set_option maxRecDepth 100000 in
theorem alone9 (kids : Int) (field text : List UInt8) (n : Nat) (set : List (Nat × Nat)) (sv : Value) (y : Mail) (w : World) :
    Calls Tryd.prog 18 #[keyV ⟨9, kids, field, text, n, set, sv⟩, letterV y, placeV y, .string (S y.m)] w (PostA w (decide (y.size < n))) := by
  unfold PostA keyV letterV placeV
  simp only
  generalize y.size = z
  obtain ⟨q, hq⟩ : ∃ q, decide (z < n) = q := ⟨_, rfl⟩
  rw [hq]
  by_cases h : z < n
  · have hi : (z : Int) < (n : Int) := by omega
    rw [decide_eq_true h] at hq
    subst hq
    clear h
    go_enter Tryd.func18, Tryd.ntmps18
    go_wp2_with fail
    go_ret
    exact ⟨by simp [hi], below_3 _ _ _ _⟩
  · have hi : ¬ (z : Int) < (n : Int) := by omega
    rw [decide_eq_false h] at hq
    subst hq
    clear h
    go_enter Tryd.func18, Tryd.ntmps18
    go_wp2_with fail
    go_ret
    exact ⟨by first | (simp; done) | (simp; omega), below_3 _ _ _ _⟩

set_option maxHeartbeats 1000000 in
set_option maxRecDepth 100000 in
theorem alone10 (kids : Int) (field text : List UInt8) (n : Nat) (set : List (Nat × Nat)) (sv : Value) (y : Mail) (w : World) :
    Calls Tryd.prog 18 #[keyV ⟨10, kids, field, text, n, set, sv⟩, letterV y, placeV y, .string (S y.m)] w (PostA w (decide (n ≤ y.mod))) := by
  unfold PostA keyV letterV placeV
  simp only
  generalize y.mod = z
  obtain ⟨q, hq⟩ : ∃ q, decide (n ≤ z) = q := ⟨_, rfl⟩
  rw [hq]
  by_cases h : n ≤ z
  · have hi : (n : Int) ≤ (z : Int) := by omega
    rw [decide_eq_true h] at hq
    subst hq
    clear h
    go_enter Tryd.func18, Tryd.ntmps18
    go_wp2_with fail
    go_ret
    exact ⟨by simp [hi], below_3 _ _ _ _⟩
  · have hi : ¬ (n : Int) ≤ (z : Int) := by omega
    rw [decide_eq_false h] at hq
    subst hq
    clear h
    go_enter Tryd.func18, Tryd.ntmps18
    go_wp2_with fail
    go_ret
    exact ⟨by first | (simp; done) | (simp; omega), below_3 _ _ _ _⟩

set_option maxHeartbeats 1000000 in
set_option maxRecDepth 100000 in
theorem alone11 (kids : Int) (field text : List UInt8) (n : Nat) (set : List (Nat × Nat)) (sv : Value) (y : Mail) (hm : y.m.length < 4294967281) (ht : text.length ≤ 140737488355328) (hf : field.length ≤ 140737488355328) (M : Int) (w : World) (h0 : 0 < w.heap.size) (hM : w.cell? ⟨0, 0, none⟩ = some (.int .i64 M)) :
    Calls Tryd.prog 18 #[keyV ⟨11, kids, field, text, n, set, sv⟩, letterV y, placeV y, .string (S y.m)] w (PostA w (holdsL y.m text)) := by
  have HH := Lib.hid (fun W h0 hM => pt.holds_any y.m text hm ht M W h0 hM)
  have HB := Lib.hid (fun (W : World) (h : Below w.heap.size w W) => (⟨Nat.lt_of_lt_of_le h0 h.size, (h.cell (p := ⟨0, 0, none⟩) h0).trans hM⟩ : 0 < W.heap.size ∧ W.cell? ⟨0, 0, none⟩ = some (.int .i64 M)))
  unfold PostA keyV letterV placeV holdsL
  simp only
  generalize Lib.contains (upper y.m) (upper text) = r at *
  generalize y.m = m at *
  clear hM
  go_enter Tryd.func18, Tryd.ntmps18
  go_wp2_with fail
  refine (HH.out _ (HB.out _ (below_3 _ _ _ _)).1 (HB.out _ (below_3 _ _ _ _)).2).mono ?_
  rintro e w1 ⟨rfl, b1⟩
  have B1 := (below_3 _ _ _ _).trans (b1.mono (by simp; omega))
  clear HH HB b1
  go_wp2_with fail
  go_ret
  exact ⟨rfl, B1⟩

set_option maxHeartbeats 1000000 in
set_option maxRecDepth 100000 in
theorem alone12 (kids : Int) (field text : List UInt8) (n : Nat) (set : List (Nat × Nat)) (sv : Value) (y : Mail) (hm : y.m.length < 4294967281) (ht : text.length ≤ 140737488355328) (hf : field.length ≤ 140737488355328) (M : Int) (w : World) (h0 : 0 < w.heap.size) (hM : w.cell? ⟨0, 0, none⟩ = some (.int .i64 M)) :
    Calls Tryd.prog 18 #[keyV ⟨12, kids, field, text, n, set, sv⟩, letterV y, placeV y, .string (S y.m)] w (PostA w (holdsL (pt.text y.m) text)) := by
  have HT := Lib.hid (fun W hM => pt.sect_any y.m hm 12 M W hM)
  rw [show pt.sect y.m 12 = pt.text y.m from rfl] at HT
  have hlt : (pt.text y.m).length < 4294967281 := by
    have : (pt.text y.m).length ≤ y.m.length := by unfold pt.text; rw [List.length_drop]; omega
    omega
  have HH := Lib.hid (fun W h0 hM => pt.holds_any (pt.text y.m) text hlt ht M W h0 hM)
  have HB := Lib.hid (fun (W : World) (h : Below w.heap.size w W) => (⟨Nat.lt_of_lt_of_le h0 h.size, (h.cell (p := ⟨0, 0, none⟩) h0).trans hM⟩ : 0 < W.heap.size ∧ W.cell? ⟨0, 0, none⟩ = some (.int .i64 M)))
  unfold PostA keyV letterV placeV holdsL
  simp only
  generalize Lib.contains (upper (pt.text y.m)) (upper text) = r at *
  generalize pt.text y.m = tx at *
  generalize y.m = m at *
  clear hM
  have B0 := below_3 w (.cells #[.int .i64 12, .int .i64 kids, .string (S field), .string (S text), .int .u64 (n : Nat), sv] 36)
    (.cells #[.int .u64 (y.uid : Nat), y.fv, .int .u64 (y.mod : Nat), .string y.hash, .int .u64 (y.size : Nat)] 26)
    (.cells #[.int .u64 (y.seq : Nat), .int .u64 (y.mostSeq : Nat), .int .u64 (y.mostUid : Nat)] 28)
  have hc3 := ((Arr.new w 36 #[.int .i64 12, .int .i64 kids, .string (S field), .string (S text), .int .u64 (n : Nat), sv]).below ((below_box _ (.cells #[.int .u64 (y.uid : Nat), y.fv, .int .u64 (y.mod : Nat), .string y.hash, .int .u64 (y.size : Nat)] 26)).alloc (by simp) (.cells #[.int .u64 (y.seq : Nat), .int .u64 (y.mostSeq : Nat), .int .u64 (y.mostUid : Nat)] 28))).cell (j := 3) rfl
  replace hc3 := Lib.hid hc3
  go_enter Tryd.func18, Tryd.ntmps18
  go_wp2_with fail
  generalize ((w.alloc (.cells #[.int .i64 12, .int .i64 kids, .string (S field), .string (S text), .int .u64 (n : Nat), sv] 36)).alloc
    (.cells #[.int .u64 (y.uid : Nat), y.fv, .int .u64 (y.mod : Nat), .string y.hash, .int .u64 (y.size : Nat)] 26)).alloc
    (.cells #[.int .u64 (y.seq : Nat), .int .u64 (y.mostSeq : Nat), .int .u64 (y.mostUid : Nat)] 28) = W0 at *
  have hk : w.heap.size < W0.heap.size := World.block_lt_of_cell? W0 _ hc3.out
  have h3 : W0.drew.cell? ⟨w.heap.size, 3, none⟩ = some (.string (S text)) := hc3.out
  have c1 := HT.out W0.drew (HB.out _ (below_drew B0)).2
  clear hc3
  go_region_held3 (fun W => W.cell? ⟨w.heap.size, 3, none⟩ = some (.string (S text))) (first | (with_reducible exact h3) | exact (b2.cell (p := ⟨w.heap.size, 3, none⟩) (Nat.lt_of_lt_of_le hk b1.size)).trans ((b1.cell (p := ⟨w.heap.size, 3, none⟩) hk).trans h3) | exact (b1.cell (p := ⟨w.heap.size, 3, none⟩) hk).trans h3 | go_keep)
    ((first
      | (go_at_call 23; refine c1.mono ?_; rintro e w1 ⟨rfl, b1⟩)
      | (go_at_call 22; refine (HH.out _ (HB.out _ ((below_drew B0).trans (b1.mono B0.size))).1 (HB.out _ ((below_drew B0).trans (b1.mono B0.size))).2).mono ?_; rintro e w2 ⟨rfl, b2⟩)))
  go_wp2_with fail
  go_ret
  exact ⟨rfl, ((below_drew B0).trans (b1.mono B0.size)).trans (b2.mono (Nat.le_trans B0.size b1.size))⟩

set_option maxHeartbeats 1000000 in
set_option maxRecDepth 100000 in
theorem alone13 (kids : Int) (field text : List UInt8) (n : Nat) (set : List (Nat × Nat)) (sv : Value) (y : Mail) (hm : y.m.length < 4294967281) (ht : text.length ≤ 140737488355328) (hf : field.length ≤ 140737488355328) (M : Int) (w : World) (h0 : 0 < w.heap.size) (hM : w.cell? ⟨0, 0, none⟩ = some (.int .i64 M)) :
    Calls Tryd.prog 18 #[keyV ⟨13, kids, field, text, n, set, sv⟩, letterV y, placeV y, .string (S y.m)] w (PostA w (inField y.m field text)) := by
  have HF := Lib.hid (fun W h0 hM => pt.field_any y.m field hm hf M W h0 hM)
  have hlv : (pt.value (pt.found (pt.fields y.m) field)).length < 4294967281 := by
    cases hx : pt.found (pt.fields y.m) field with
    | none => show 0 < _; omega
    | some p =>
      have hmem : p ∈ pt.fields y.m := by
        unfold pt.found at hx
        exact List.mem_of_find?_eq_some hx
      obtain ⟨pre, post, e⟩ := List.append_of_mem hmem
      have := (pt.size_of_field e).2
      show p.2.length < _
      omega
  have HH := Lib.hid (fun W h0 hM => pt.holds_any (pt.value (pt.found (pt.fields y.m) field)) text hlv ht M W h0 hM)
  have HB := Lib.hid (fun (W : World) (h : Below w.heap.size w W) => (⟨Nat.lt_of_lt_of_le h0 h.size, (h.cell (p := ⟨0, 0, none⟩) h0).trans hM⟩ : 0 < W.heap.size ∧ W.cell? ⟨0, 0, none⟩ = some (.int .i64 M)))
  unfold PostA keyV letterV placeV inField holdsL
  simp only
  generalize Lib.contains (upper (pt.value (pt.found (pt.fields y.m) field))) (upper text) = r at *
  generalize pt.value (pt.found (pt.fields y.m) field) = tx at *
  generalize (pt.found (pt.fields y.m) field).isSome = q at *
  generalize y.m = m at *
  clear hM hlv
  go_enter Tryd.func18, Tryd.ntmps18
  go_wp2_with fail
  refine (HF.out _ (HB.out _ (below_3 _ _ _ _)).1 (HB.out _ (below_3 _ _ _ _)).2).mono ?_
  rintro e w1 ⟨rfl, b1⟩
  have B1 := (below_3 _ _ _ _).trans (b1.mono (by simp; omega))
  have c3 := (b1.cell (p := ⟨w.heap.size, 3, none⟩) (by simp; omega)).trans (((Arr.new w _ _).below ((below_box _ _).alloc (by simp) _)).cell (j := 3) rfl)
  have hm1 := HB.out _ B1
  clear HF b1
  cases q with
  | false =>
    clear HH
    go_wp2_with fail
    go_ret
    exact ⟨rfl, B1⟩
  | true =>
    have c3' : w1.cell? ⟨w.heap.size, 3, none⟩ = some (.string (S text)) := c3
    clear c3
    go_wp2_with fail
    refine (HH.out _ hm1.1 hm1.2).mono ?_
    rintro e w2 ⟨rfl, b2⟩
    have B2 : Below w.heap.size w w2 := B1.trans (b2.mono B1.size)
    clear HH b2
    go_wp2_with fail
    go_ret
    exact ⟨rfl, B2⟩

set_option maxHeartbeats 1000000 in
set_option maxRecDepth 100000 in
theorem alone_else (kind kids : Int) (field text : List UInt8) (n : Nat) (set : List (Nat × Nat)) (sv : Value) (y : Mail) (h5 : kind ≠ 5) (h6 : kind ≠ 6) (h7 : kind ≠ 7) (h8 : kind ≠ 8) (h9 : kind ≠ 9) (h10 : kind ≠ 10) (h11 : kind ≠ 11) (h12 : kind ≠ 12) (h13 : kind ≠ 13) (w : World) :
    Calls Tryd.prog 18 #[keyV ⟨kind, kids, field, text, n, set, sv⟩, letterV y, placeV y, .string (S y.m)] w (PostA w (decide (kind = 4))) := by
  have q5 : (kind == 5) = false := by rw [beq_eq_false_iff_ne]; exact h5
  have q6 : (kind == 6) = false := by rw [beq_eq_false_iff_ne]; exact h6
  have q7 : (kind == 7) = false := by rw [beq_eq_false_iff_ne]; exact h7
  have q8 : (kind == 8) = false := by rw [beq_eq_false_iff_ne]; exact h8
  have q9 : (kind == 9) = false := by rw [beq_eq_false_iff_ne]; exact h9
  have q10 : (kind == 10) = false := by rw [beq_eq_false_iff_ne]; exact h10
  have q11 : (kind == 11) = false := by rw [beq_eq_false_iff_ne]; exact h11
  have q12 : (kind == 12) = false := by rw [beq_eq_false_iff_ne]; exact h12
  have q13 : (kind == 13) = false := by rw [beq_eq_false_iff_ne]; exact h13
  obtain ⟨q, hq⟩ : ∃ q, decide (kind = 4) = q := ⟨_, rfl⟩
  have hq1 : (kind == 4) = q := by
    rw [← hq]
    by_cases h : kind = 4
    · rw [h]; rfl
    · rw [decide_eq_false h, beq_eq_false_iff_ne]; exact h
  rw [hq]
  clear hq h5 h6 h7 h8 h9 h10 h11 h12 h13
  unfold PostA keyV letterV placeV
  simp only
  go_enter Tryd.func18, Tryd.ntmps18
  go_wp2_with fail
  go_ret
  exact ⟨rfl, below_3 _ _ _ _⟩
/-- A key's texts are no longer than what the contracts take. -/
def Light (k : Key) : Prop := k.text.length ≤ 140737488355328 ∧ k.field.length ≤ 140737488355328
theorem alone_any (k : Key) (y : Mail) (hm : y.m.length < 4294967281) (hk : Light k) (M : Int) (w : World) (h0 : 0 < w.heap.size) (hM : w.cell? ⟨0, 0, none⟩ = some (.int .i64 M)) (hs : SetIn w k) (hf : FlagsIn w y) :
    Calls Tryd.prog 18 #[keyV k, letterV y, placeV y, .string (S y.m)] w (PostA w (alone y k)) := by
  obtain ⟨kind, kids, field, text, n, set, sv⟩ := k
  obtain ⟨ht, hd⟩ := hk
  unfold alone
  simp only at ht hd ⊢
  by_cases h5 : kind = 5
  · subst h5
    obtain ⟨a, c, e, hr, hl, _⟩ := hs
    simp only at e hr hl
    subst e
    rw [if_pos rfl]
    exact alone5 kids field text n set a c y w hr hl
  by_cases h6 : kind = 6
  · subst h6
    obtain ⟨a, c, e, hr, hl, _⟩ := hs
    simp only at e hr hl
    subst e
    rw [if_neg h5, if_pos rfl]
    exact alone6 kids field text n set a c y w hr hl
  by_cases h7 : kind = 7
  · subst h7
    obtain ⟨uid, mod, size, seq, mostSeq, mostUid, flags, hash, m, fv⟩ := y
    obtain ⟨a, c, e, hr, hl⟩ := hf
    simp only at e hr hl
    subst e
    rw [if_neg h5, if_neg h6, if_pos rfl]
    exact alone7 kids field text n set sv a c uid mod size seq mostSeq mostUid flags hash m w hr hl
  rw [if_neg h5, if_neg h6, if_neg h7]
  by_cases h8 : kind = 8
  · subst h8
    rw [if_pos rfl]
    exact alone8 kids field text n set sv y w
  rw [if_neg h8]
  by_cases h9 : kind = 9
  · subst h9
    rw [if_pos rfl]
    exact alone9 kids field text n set sv y w
  rw [if_neg h9]
  by_cases h10 : kind = 10
  · subst h10
    rw [if_pos rfl]
    exact alone10 kids field text n set sv y w
  rw [if_neg h10]
  by_cases h11 : kind = 11
  · subst h11
    rw [if_pos rfl]
    exact alone11 kids field text n set sv y hm ht hd M w h0 hM
  rw [if_neg h11]
  by_cases h12 : kind = 12
  · subst h12
    rw [if_pos rfl]
    exact alone12 kids field text n set sv y hm ht hd M w h0 hM
  rw [if_neg h12]
  by_cases h13 : kind = 13
  · subst h13
    rw [if_pos rfl]
    exact alone13 kids field text n set sv y hm ht hd M w h0 hM
  rw [if_neg h13]
  exact alone_else kind kids field text n set sv y h5 h6 h7 h8 h9 h10 h11 h12 h13 w
end Go.Proofs.YtekbjapclajflaaDoor.mt
