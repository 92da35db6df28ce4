/-
  The law's act: one call on both disks.
-/
import Derived.Test.YtiljhnheacppgaaDkL3
namespace Go.Proofs.Ytiljhnheacppgaa.dk
set_option linter.unusedVariables false
open Go.RowKit
open fl (S S_size S_append S_inj str_eq str_ne)
open rw (Arr But Row Own bnext below_box below_drew below_drewN addr_add Fr RowB)
open mp (Mp Turned kget kput kwithout kmap KSorted Ranging)

/-- A slice stays where blocks of other types turn. -/
theorem sl_fr {α : Type} (s : rw.Sh α) {w w' : World} {v : Value} {l : List α} (h : rw.Sl s w v l) {F : Nat → Prop} (k : Fr F w w') (hF : ∀ i, F i → ∀ cs fr, w.heap[i]? ≠ some (.cells cs s.t fr)) : rw.Sl s w' v l := by
  obtain ⟨a, c, h1, h2, h3, h4⟩ := h
  refine ⟨a, c, h1, h2, ?_, h4⟩
  rcases h3 with h | ⟨b, off, e, hb, hc, cs, ht⟩
  · exact .inl h
  · have hn : ¬ F b := fun hk => hF b hk cs _ ht
    exact .inr ⟨b, off, e, Nat.lt_of_lt_of_le hb k.size, fun j hj i hi => (World.cell?_of_block (k.block b hb hn)).trans (hc j hj i hi), cs, (k.block b hb hn).trans ht⟩
theorem PD.types {w : World} {F : Nat → Prop} {p : Nat} {d : Dk} (h : PD w F p d) {t : TypeId} (h1 : t ≠ 60) (h2 : t ≠ 68) (h3 : t ≠ 5) : ∀ i, F i → ∀ cs fr, w.heap[i]? ≠ some (.cells cs t fr) := by
  intro i hi cs fr e
  rcases h.off hi e with h | h | h
  · exact h1 h
  · exact h2 h
  · exact h3 h
theorem RefD.fr {w w' : World} {F : Nat → Prop} {p xb : Nat} {d d2 : Dk} (h : RefD w xb d) (hp : PD w F p d2) (k : Fr F w w') : RefD w' xb d := by
  obtain ⟨sv, lv, pv, ha, h1, h2, h3, o1, o2, o3⟩ := h.a
  have hx : ¬ F xb := fun hk => PD.types hp (t := 63) (by decide) (by decide) (by decide) xb hk _ _ ha
  exact ⟨sv, lv, pv, k.arr ha hx, sl_fr fileSh h1 k (PD.types hp (by decide) (by decide) (by decide)), sl_fr fileSh h2 k (PD.types hp (by decide) (by decide) (by decide)), sl_fr callSh h3 k (PD.types hp (by decide) (by decide) (by decide)), o1, o2, o3⟩
theorem PD.but {w w' : World} {F : Nat → Prop} {p xb : Nat} {d d2 : Dk} (h : PD w F p d) (hx : RefD w xb d2) (k : But xb w w') : PD w' F p d := by
  obtain ⟨sv, lv, pv, ha, _⟩ := hx.a
  refine h.fr (Fr.but (F := fun i => i = xb) k rfl) (fun i hi e => ?_) (fun i hi s hs => ?_)
  · subst e
    exact PD.types h (t := 63) (by decide) (by decide) (by decide) i hi _ _ ha
  · subst hi
    unfold Boxed Arr at hs
    unfold Arr at ha
    rw [ha] at hs
    cases hs
/-- Both have done a call. -/
def Two (w : World) (F : Nat → Prop) (p xb : Nat) (d' : Dk) (w' : World) : Prop := ∃ F', PD w' F' p d' ∧ RefD w' xb d' ∧ Fr (fun k => F k ∨ k = xb) w w' ∧ Nu w F F'
theorem Two.of {w w2 w3 : World} {F : Nat → Prop} {p xb : Nat} {d d' : Dk} (s : Step w F p d' w2) (hx : RefD w2 xb d) (r : RefD w3 xb d') (k : But xb w2 w3) : Two w F p xb d' w3 := by
  obtain ⟨F', h1, h2, h3⟩ := s
  exact ⟨F', h1.but hx k, r, (h2.mono fun i _ hi => .inl hi).trans (Fr.but (F := fun i => i = xb) k rfl) fun i _ hi => .inr hi, h3⟩
theorem Two.from {w w0 w' : World} {F : Nat → Prop} {p xb : Nat} {d : Dk} (k : Below w.heap.size w w0) (h : Two w0 F p xb d w') : Two w F p xb d w' := by
  obtain ⟨F', h1, h2, h3, h4⟩ := h
  exact ⟨F', h1, h2, (Fr.of_below k).trans h3 fun _ _ h => h, fun i hi => by
    rcases h4 i hi with h | h
    · exact .inl h
    · exact .inr (Nat.le_trans k.size h)⟩
theorem used_after {l : List File} (h : Sorted l) (c : Call) : used (after l c) ≤ used l + c.s.length := by
  have hp : ∀ s, used (put l (c.name, s)) ≤ used l + s.length := fun s => by have := used_put h (c.name, s); simp only at this; omega
  unfold after
  split
  · exact hp c.s
  · unfold done
    split
    · omega
    · split
      · have h1 := used_put h (c.name, (get l c.name).getD [] ++ c.s.take (steps c))
        simp only [List.length_append, List.length_take] at h1
        omega
      · have := used_without_le h c.name
        omega
/-- An act: what the law plays. -/
structure Ac where
  kind : Int
  name : Bs
  s : Bs
  n : Int
def play (d : Dk) (a : Ac) : Dk :=
  if a.kind = 1 then (turn d ⟨1, a.name, a.s⟩).2 else if a.kind = 2 then (turn d ⟨2, a.name, a.s⟩).2 else if a.kind = 3 then (turn d ⟨3, a.name, []⟩).2
  else if a.kind = 4 then (sync d).2 else if a.kind = 6 then fuse d a.n else if a.kind = 7 then (crash d a.n).2 else d
def acV (a : Ac) : Value := .agg #[.int .i64 a.kind, .string (S a.name), .string (S a.s), .int .i64 a.n]
structure Fits (a : Ac) : Prop where
  n : a.name.length ≤ 140737488355328
  s : a.s.length ≤ 140737488355328
  i : -9223372036854775808 ≤ a.n ∧ a.n ≤ 9223372036854775807
theorem ref_after {w W w2 : World} {F : Nat → Prop} {p xb : Nat} {d d2 d' : Dk} (hx : RefD w xb d) (hp : PD w F p d2) (k : Below w.heap.size w W) (s : Step W F p d' w2) : RefD w2 xb d := by
  obtain ⟨F', h1, h2, h3⟩ := s
  exact (hx.below k).fr (hp.below k) h2
theorem box_after {W w2 : World} {F : Nat → Prop} {p B : Nat} {d' : Dk} {cs : Array Value} {t : TypeId} (hA : Arr W B t cs) (hB : ¬ F B) (s : Step W F p d' w2) : Arr w2 B t cs := by
  obtain ⟨F', h1, h2, h3⟩ := s
  exact h2.arr hA hB

set_option maxHeartbeats 4000000 in
set_option maxRecDepth 100000 in
theorem act_1 (F : Nat → Prop) (p xb : Nat) (d : Dk) (a : Ac) (hk : a.kind = 1) (hd : Both d) (ha : Fits a) (w : World) (h : PD w F p d) (hx : RefD w xb d) :
    Calls Try.prog 13 #[.pointer (some ⟨p, 0, none⟩), .pointer (some ⟨xb, 0, none⟩), acV a] w fun e w' => e = .returned (.bool true) ∧ Two w F p xb (play d a) w' := by
  obtain ⟨kd, nm, st, nn⟩ := a
  simp only at hk
  subst hk
  obtain ⟨W1, hW1⟩ : ∃ W1, w.alloc (.cells #[.int .i64 (1 : Int), .string (S nm), .string (S st), .int .i64 nn] 31) = W1 := ⟨_, rfl⟩
  have b1 : Below w.heap.size w W1 := hW1 ▸ below_box w _
  have A1 : Arr W1 w.heap.size 31 #[.int .i64 (1 : Int), .string (S nm), .string (S st), .int .i64 nn] := hW1 ▸ Arr.new w _ _
  have hFB : ¬ F w.heap.size := fun hk => by have := h.lt hk; omega
  have c0 : W1.cell? ⟨w.heap.size, 0, none⟩ = some (.int .i64 (1 : Int)) := A1.cell rfl
  have hn := ha.n
  have hs := ha.s
  have hi := ha.i
  simp only at hn hs hi
  unfold acV
  have hgl : ((get d.seen nm).getD []).length ≤ 1048576 := bytes_get (bytes_of_used (Nat.le_trans hd.rm.r.used hd.rm.r.cap)) nm
  have hua := used_after hd.rm.r.sorted ⟨1, nm, st⟩
  have husd := Nat.le_trans hd.rm.r.used hd.rm.r.cap
  have hP := padd_any F p d nm st hd.rm.room (by omega) W1.drew (h.below (below_drew b1))
  have hplay : play d ⟨1, nm, st, nn⟩ = (turn d ⟨1, nm, st⟩).2 := by simp [play]
  rw [hplay]
  have HR : Hid (∀ w2, Step W1.drew F p (turn d ⟨1, nm, st⟩).2 w2 → w2.cell? ⟨w.heap.size, 1, none⟩ = some (.string (S nm)) ∧ w2.cell? ⟨w.heap.size, 2, none⟩ = some (.string (S st)) ∧
      Calls Try.prog 37 #[.pointer (some ⟨xb, 0, none⟩), .agg #[.int .i64 (1 : Int), .string (S nm), .string (S st)]] w2 fun e w3 => e = .returned (.int .i64 ((turn d ⟨1, nm, st⟩).1 : Nat)) ∧ (Two w F p xb (turn d ⟨1, nm, st⟩).2 w3 ∧ w3.cell? ⟨w.heap.size, 1, none⟩ = some (.string (S nm)) ∧ w3.cell? ⟨w.heap.size, 2, none⟩ = some (.string (S st)))) := by
    intro w2 s2
    have k1 : Below w.heap.size w W1.drew := below_drew b1
    have A2 := box_after (A1.below (below_drew (Below.refl _ _))) hFB s2
    have r2 := ref_after hx h k1 s2
    have hT := refturn_any xb d ⟨1, nm, st⟩ hd.fit (by simp) (by show (st : Bs).length ≤ _; omega) (by show ((get d.seen nm).getD []).length ≤ _; omega) (by simp only at hua; omega) w2 r2
    refine ⟨A2.cell rfl, A2.cell rfl, hT.mono ?_⟩
    rintro e w3 ⟨e1, e2, e3⟩
    obtain ⟨sv, lv, pv, hax, _⟩ := r2.a
    have hxb : w.heap.size ≠ xb := by have := hx.lt; omega
    have A3 := e3.arr A2 hxb
    exact ⟨e1, Two.from k1 (Two.of s2 r2 e2 e3), A3.cell rfl, A3.cell rfl⟩
  have k0 : W1.drew.cell? ⟨w.heap.size, 1, none⟩ = some (.string (S nm)) ∧ W1.drew.cell? ⟨w.heap.size, 2, none⟩ = some (.string (S st)) := ⟨A1.cell rfl, A1.cell rfl⟩
  generalize turn d ⟨1, nm, st⟩ = R at *
  clear hd ha h hx A1 hFB hgl hua husd hplay b1 hn hs hi
  go_enter Try.func13, Try.ntmps13
  go_upto_region 3 with (fail)
  clear hW1 c0
  go_region_held3 (fun W => W.cell? ⟨w.heap.size, 1, none⟩ = some (.string (S nm)) ∧ W.cell? ⟨w.heap.size, 2, none⟩ = some (.string (S st)))
    (first | (with_reducible exact k0) | (with_reducible exact k2) | (with_reducible exact k3) | go_keep)
    ((first
      | (go_at_call 20; with_reducible refine hP.mono ?_; rintro e w2 ⟨rfl, s2⟩
         have k2 := And.intro (HR.out w2 s2).1 (HR.out w2 s2).2.1
         have hT := (HR.out w2 s2).2.2)
      | (go_at_call 37; with_reducible refine hT.mono ?_; rintro e w3 ⟨rfl, t3, k3⟩)))
  have HS := Lib.hid t3
  clear hP hT HR k0 k2 k3 s2 t3
  go_wp2_with fail
  go_ret
  exact ⟨rfl, HS.out⟩

set_option maxHeartbeats 4000000 in
set_option maxRecDepth 100000 in
theorem act_2 (F : Nat → Prop) (p xb : Nat) (d : Dk) (a : Ac) (hk : a.kind = 2) (hd : Both d) (ha : Fits a) (w : World) (h : PD w F p d) (hx : RefD w xb d) :
    Calls Try.prog 13 #[.pointer (some ⟨p, 0, none⟩), .pointer (some ⟨xb, 0, none⟩), acV a] w fun e w' => e = .returned (.bool true) ∧ Two w F p xb (play d a) w' := by
  obtain ⟨kd, nm, st, nn⟩ := a
  simp only at hk
  subst hk
  obtain ⟨W1, hW1⟩ : ∃ W1, w.alloc (.cells #[.int .i64 (2 : Int), .string (S nm), .string (S st), .int .i64 nn] 31) = W1 := ⟨_, rfl⟩
  have b1 : Below w.heap.size w W1 := hW1 ▸ below_box w _
  have A1 : Arr W1 w.heap.size 31 #[.int .i64 (2 : Int), .string (S nm), .string (S st), .int .i64 nn] := hW1 ▸ Arr.new w _ _
  have hFB : ¬ F w.heap.size := fun hk => by have := h.lt hk; omega
  have c0 : W1.cell? ⟨w.heap.size, 0, none⟩ = some (.int .i64 (2 : Int)) := A1.cell rfl
  have hn := ha.n
  have hs := ha.s
  have hi := ha.i
  simp only at hn hs hi
  unfold acV
  have hgl : ((get d.seen nm).getD []).length ≤ 1048576 := bytes_get (bytes_of_used (Nat.le_trans hd.rm.r.used hd.rm.r.cap)) nm
  have hua := used_after hd.rm.r.sorted ⟨2, nm, st⟩
  have husd := Nat.le_trans hd.rm.r.used hd.rm.r.cap
  have hP := pput_any F p d nm st hd.rm.room (by omega) W1.drew (h.below (below_drew b1))
  have hplay : play d ⟨2, nm, st, nn⟩ = (turn d ⟨2, nm, st⟩).2 := by simp [play]
  rw [hplay]
  have HR : Hid (∀ w2, Step W1.drew F p (turn d ⟨2, nm, st⟩).2 w2 → w2.cell? ⟨w.heap.size, 1, none⟩ = some (.string (S nm)) ∧ w2.cell? ⟨w.heap.size, 2, none⟩ = some (.string (S st)) ∧
      Calls Try.prog 37 #[.pointer (some ⟨xb, 0, none⟩), .agg #[.int .i64 (2 : Int), .string (S nm), .string (S st)]] w2 fun e w3 => e = .returned (.int .i64 ((turn d ⟨2, nm, st⟩).1 : Nat)) ∧ (Two w F p xb (turn d ⟨2, nm, st⟩).2 w3 ∧ w3.cell? ⟨w.heap.size, 1, none⟩ = some (.string (S nm)) ∧ w3.cell? ⟨w.heap.size, 2, none⟩ = some (.string (S st)))) := by
    intro w2 s2
    have k1 : Below w.heap.size w W1.drew := below_drew b1
    have A2 := box_after (A1.below (below_drew (Below.refl _ _))) hFB s2
    have r2 := ref_after hx h k1 s2
    have hT := refturn_any xb d ⟨2, nm, st⟩ hd.fit (by simp) (by show (st : Bs).length ≤ _; omega) (by show ((get d.seen nm).getD []).length ≤ _; omega) (by simp only at hua; omega) w2 r2
    refine ⟨A2.cell rfl, A2.cell rfl, hT.mono ?_⟩
    rintro e w3 ⟨e1, e2, e3⟩
    obtain ⟨sv, lv, pv, hax, _⟩ := r2.a
    have hxb : w.heap.size ≠ xb := by have := hx.lt; omega
    have A3 := e3.arr A2 hxb
    exact ⟨e1, Two.from k1 (Two.of s2 r2 e2 e3), A3.cell rfl, A3.cell rfl⟩
  have k0 : W1.drew.cell? ⟨w.heap.size, 1, none⟩ = some (.string (S nm)) ∧ W1.drew.cell? ⟨w.heap.size, 2, none⟩ = some (.string (S st)) := ⟨A1.cell rfl, A1.cell rfl⟩
  generalize turn d ⟨2, nm, st⟩ = R at *
  clear hd ha h hx A1 hFB hgl hua husd hplay b1 hn hs hi
  go_enter Try.func13, Try.ntmps13
  go_upto_region 5 with (fail)
  clear hW1 c0
  go_region_held3 (fun W => W.cell? ⟨w.heap.size, 1, none⟩ = some (.string (S nm)) ∧ W.cell? ⟨w.heap.size, 2, none⟩ = some (.string (S st)))
    (first | (with_reducible exact k0) | (with_reducible exact k2) | (with_reducible exact k3) | go_keep)
    ((first
      | (go_at_call 12; with_reducible refine hP.mono ?_; rintro e w2 ⟨rfl, s2⟩
         have k2 := And.intro (HR.out w2 s2).1 (HR.out w2 s2).2.1
         have hT := (HR.out w2 s2).2.2)
      | (go_at_call 37; with_reducible refine hT.mono ?_; rintro e w3 ⟨rfl, t3, k3⟩)))
  have HS := Lib.hid t3
  clear hP hT HR k0 k2 k3 s2 t3
  go_wp2_with fail
  go_ret
  exact ⟨rfl, HS.out⟩

set_option maxHeartbeats 4000000 in
set_option maxRecDepth 100000 in
theorem act_3 (F : Nat → Prop) (p xb : Nat) (d : Dk) (a : Ac) (hk : a.kind = 3) (hd : Both d) (ha : Fits a) (w : World) (h : PD w F p d) (hx : RefD w xb d) :
    Calls Try.prog 13 #[.pointer (some ⟨p, 0, none⟩), .pointer (some ⟨xb, 0, none⟩), acV a] w fun e w' => e = .returned (.bool true) ∧ Two w F p xb (play d a) w' := by
  obtain ⟨kd, nm, st, nn⟩ := a
  simp only at hk
  subst hk
  obtain ⟨W1, hW1⟩ : ∃ W1, w.alloc (.cells #[.int .i64 (3 : Int), .string (S nm), .string (S st), .int .i64 nn] 31) = W1 := ⟨_, rfl⟩
  have b1 : Below w.heap.size w W1 := hW1 ▸ below_box w _
  have A1 : Arr W1 w.heap.size 31 #[.int .i64 (3 : Int), .string (S nm), .string (S st), .int .i64 nn] := hW1 ▸ Arr.new w _ _
  have hFB : ¬ F w.heap.size := fun hk => by have := h.lt hk; omega
  have c0 : W1.cell? ⟨w.heap.size, 0, none⟩ = some (.int .i64 (3 : Int)) := A1.cell rfl
  have hn := ha.n
  have hs := ha.s
  have hi := ha.i
  simp only at hn hs hi
  unfold acV
  have hgl : ((get d.seen nm).getD []).length ≤ 1048576 := bytes_get (bytes_of_used (Nat.le_trans hd.rm.r.used hd.rm.r.cap)) nm
  have hua := used_after hd.rm.r.sorted ⟨3, nm, []⟩
  have husd := Nat.le_trans hd.rm.r.used hd.rm.r.cap
  have hP := pdrop_any F p d nm hd.rm.room W1.drew (h.below (below_drew b1))
  have hplay : play d ⟨3, nm, st, nn⟩ = (turn d ⟨3, nm, []⟩).2 := by simp [play]
  rw [hplay]
  have HR : Hid (∀ w2, Step W1.drew F p (turn d ⟨3, nm, []⟩).2 w2 → w2.cell? ⟨w.heap.size, 1, none⟩ = some (.string (S nm)) ∧ w2.cell? ⟨w.heap.size, 2, none⟩ = some (.string (S st)) ∧
      Calls Try.prog 37 #[.pointer (some ⟨xb, 0, none⟩), .agg #[.int .i64 (3 : Int), .string (S nm), .string ⟨#[]⟩]] w2 fun e w3 => e = .returned (.int .i64 ((turn d ⟨3, nm, []⟩).1 : Nat)) ∧ (Two w F p xb (turn d ⟨3, nm, []⟩).2 w3 ∧ w3.cell? ⟨w.heap.size, 1, none⟩ = some (.string (S nm)) ∧ w3.cell? ⟨w.heap.size, 2, none⟩ = some (.string (S st)))) := by
    intro w2 s2
    have k1 : Below w.heap.size w W1.drew := below_drew b1
    have A2 := box_after (A1.below (below_drew (Below.refl _ _))) hFB s2
    have r2 := ref_after hx h k1 s2
    have hT := refturn_any xb d ⟨3, nm, []⟩ hd.fit (by simp) (by show ([] : Bs).length ≤ _; simp) (by show ((get d.seen nm).getD []).length ≤ _; omega) (by simp only at hua; simp only [List.length_nil] at hua; omega) w2 r2
    refine ⟨A2.cell rfl, A2.cell rfl, hT.mono ?_⟩
    rintro e w3 ⟨e1, e2, e3⟩
    obtain ⟨sv, lv, pv, hax, _⟩ := r2.a
    have hxb : w.heap.size ≠ xb := by have := hx.lt; omega
    have A3 := e3.arr A2 hxb
    exact ⟨e1, Two.from k1 (Two.of s2 r2 e2 e3), A3.cell rfl, A3.cell rfl⟩
  have k0 : W1.drew.cell? ⟨w.heap.size, 1, none⟩ = some (.string (S nm)) ∧ W1.drew.cell? ⟨w.heap.size, 2, none⟩ = some (.string (S st)) := ⟨A1.cell rfl, A1.cell rfl⟩
  generalize turn d ⟨3, nm, []⟩ = R at *
  clear hd ha h hx A1 hFB hgl hua husd hplay b1 hn hs hi
  go_enter Try.func13, Try.ntmps13
  go_upto_region 7 with (fail)
  clear hW1 c0
  go_region_held3 (fun W => W.cell? ⟨w.heap.size, 1, none⟩ = some (.string (S nm)) ∧ W.cell? ⟨w.heap.size, 2, none⟩ = some (.string (S st)))
    (first | (with_reducible exact k0) | (with_reducible exact k2) | (with_reducible exact k3) | go_keep)
    ((first
      | (go_at_call 24; with_reducible refine hP.mono ?_; rintro e w2 ⟨rfl, s2⟩
         have k2 := And.intro (HR.out w2 s2).1 (HR.out w2 s2).2.1
         have hT := (HR.out w2 s2).2.2)
      | (go_at_call 37; with_reducible refine hT.mono ?_; rintro e w3 ⟨rfl, t3, k3⟩)))
  have HS := Lib.hid t3
  clear hP hT HR k0 k2 k3 s2 t3
  go_wp2_with fail
  go_ret
  exact ⟨rfl, HS.out⟩

set_option maxHeartbeats 4000000 in
set_option maxRecDepth 100000 in
theorem act_4 (F : Nat → Prop) (p xb : Nat) (d : Dk) (a : Ac) (hk : a.kind = 4) (hd : Both d) (ha : Fits a) (w : World) (h : PD w F p d) (hx : RefD w xb d) :
    Calls Try.prog 13 #[.pointer (some ⟨p, 0, none⟩), .pointer (some ⟨xb, 0, none⟩), acV a] w fun e w' => e = .returned (.bool true) ∧ Two w F p xb (play d a) w' := by
  obtain ⟨kd, nm, st, nn⟩ := a
  simp only at hk
  subst hk
  obtain ⟨W1, hW1⟩ : ∃ W1, w.alloc (.cells #[.int .i64 (4 : Int), .string (S nm), .string (S st), .int .i64 nn] 31) = W1 := ⟨_, rfl⟩
  have b1 : Below w.heap.size w W1 := hW1 ▸ below_box w _
  have A1 : Arr W1 w.heap.size 31 #[.int .i64 (4 : Int), .string (S nm), .string (S st), .int .i64 nn] := hW1 ▸ Arr.new w _ _
  have hFB : ¬ F w.heap.size := fun hk => by have := h.lt hk; omega
  have c0 : W1.cell? ⟨w.heap.size, 0, none⟩ = some (.int .i64 (4 : Int)) := A1.cell rfl
  have hn := ha.n
  have hs := ha.s
  have hi := ha.i
  simp only at hn hs hi
  unfold acV
  have hP := psync_any F p d hd.rm.r (Nat.le_trans hd.rm.l (by decide)) (Nat.le_trans hd.rm.p (by decide)) W1 (h.below b1)
  have hplay : play d ⟨4, nm, st, nn⟩ = (sync d).2 := by simp [play]
  rw [hplay]
  have HR : Hid (∀ w2, Step W1 F p (sync d).2 w2 → Calls Try.prog 38 #[.pointer (some ⟨xb, 0, none⟩)] w2 fun e w3 => e = .returned (.int .i64 ((sync d).1 : Nat)) ∧ Two w F p xb (sync d).2 w3) := by
    intro w2 s2
    have r2 := ref_after hx h b1 s2
    refine (refsync_any xb d hd.fit w2 r2).mono ?_
    rintro e w3 ⟨e1, e2, e3⟩
    exact ⟨e1, Two.from b1 (Two.of s2 r2 e2 e3)⟩
  generalize sync d = R at *
  clear hd ha h hx A1 hFB hplay b1 hn hs hi
  go_enter Try.func13, Try.ntmps13
  go_wp2_with fail
  refine hP.mono ?_
  rintro e w2 ⟨rfl, s2⟩
  have hT := HR.out w2 s2
  clear hP HR s2 hW1 c0
  go_wp2_with fail
  refine hT.mono ?_
  rintro e w3 ⟨rfl, t3⟩
  have HS := Lib.hid t3
  clear hT t3
  go_wp2_with fail
  go_ret
  exact ⟨rfl, HS.out⟩

set_option maxHeartbeats 4000000 in
set_option maxRecDepth 100000 in
theorem act_5 (F : Nat → Prop) (p xb : Nat) (d : Dk) (a : Ac) (hk : a.kind = 5) (hd : Both d) (ha : Fits a) (w : World) (h : PD w F p d) (hx : RefD w xb d) :
    Calls Try.prog 13 #[.pointer (some ⟨p, 0, none⟩), .pointer (some ⟨xb, 0, none⟩), acV a] w fun e w' => e = .returned (.bool true) ∧ Two w F p xb (play d a) w' := by
  obtain ⟨kd, nm, st, nn⟩ := a
  simp only at hk
  subst hk
  obtain ⟨W1, hW1⟩ : ∃ W1, w.alloc (.cells #[.int .i64 (5 : Int), .string (S nm), .string (S st), .int .i64 nn] 31) = W1 := ⟨_, rfl⟩
  have b1 : Below w.heap.size w W1 := hW1 ▸ below_box w _
  have A1 : Arr W1 w.heap.size 31 #[.int .i64 (5 : Int), .string (S nm), .string (S st), .int .i64 nn] := hW1 ▸ Arr.new w _ _
  have hFB : ¬ F w.heap.size := fun hk => by have := h.lt hk; omega
  have c0 : W1.cell? ⟨w.heap.size, 0, none⟩ = some (.int .i64 (5 : Int)) := A1.cell rfl
  have hn := ha.n
  have hs := ha.s
  have hi := ha.i
  simp only at hn hs hi
  unfold acV
  have hP := read_any F p d nm (by unfold maxLen; omega) W1 (h.below b1)
  have hplay : play d ⟨5, nm, st, nn⟩ = d := by simp [play]
  rw [hplay]
  have c1 : W1.cell? ⟨w.heap.size, 1, none⟩ = some (.string (S nm)) := A1.cell rfl
  have HR : Hid (∀ w2, Below W1.heap.size W1 w2 → w2.cell? ⟨w.heap.size, 1, none⟩ = some (.string (S nm)) ∧ Calls Try.prog 39 #[.pointer (some ⟨xb, 0, none⟩), .string (S nm)] w2 fun e w3 => e = .returned (.tuple #[.string (S (read d nm).1), .int .i64 ((read d nm).2 : Nat)]) ∧ w3 = w2 ∧ Hid (Two w F p xb d w2)) := by
    intro w2 k2
    have b2 : Below w.heap.size w w2 := b1.trans (k2.mono b1.size)
    refine ⟨(A1.below k2).cell rfl, (refread_any xb d nm hd.fit w2 (hx.below b2)).mono ?_⟩
    rintro e w3 ⟨e1, e2⟩
    exact ⟨e1, e2, ⟨F, h.below b2, hx.below b2, Fr.of_below b2, Nu.refl _ _⟩⟩
  generalize read d nm = R at *
  clear hd ha h hx A1 hFB hplay b1 hn hs hi
  go_enter Try.func13, Try.ntmps13
  go_wp2_with fail
  refine hP.mono ?_
  rintro e w2 ⟨rfl, s2⟩
  obtain ⟨c2, hT⟩ := HR.out w2 s2
  clear hP HR s2 hW1 c0 c1
  go_wp2_with fail
  refine hT.mono ?_
  rintro e w3 ⟨rfl, rfl, t3⟩
  clear hT
  go_wp2_with fail
  go_ret
  exact ⟨rfl, t3.out⟩

set_option maxHeartbeats 4000000 in
set_option maxRecDepth 100000 in
theorem act_6 (F : Nat → Prop) (p xb : Nat) (d : Dk) (a : Ac) (hk : a.kind = 6) (hd : Both d) (ha : Fits a) (w : World) (h : PD w F p d) (hx : RefD w xb d) :
    Calls Try.prog 13 #[.pointer (some ⟨p, 0, none⟩), .pointer (some ⟨xb, 0, none⟩), acV a] w fun e w' => e = .returned (.bool true) ∧ Two w F p xb (play d a) w' := by
  obtain ⟨kd, nm, st, nn⟩ := a
  simp only at hk
  subst hk
  obtain ⟨W1, hW1⟩ : ∃ W1, w.alloc (.cells #[.int .i64 (6 : Int), .string (S nm), .string (S st), .int .i64 nn] 31) = W1 := ⟨_, rfl⟩
  have b1 : Below w.heap.size w W1 := hW1 ▸ below_box w _
  have A1 : Arr W1 w.heap.size 31 #[.int .i64 (6 : Int), .string (S nm), .string (S st), .int .i64 nn] := hW1 ▸ Arr.new w _ _
  have hFB : ¬ F w.heap.size := fun hk => by have := h.lt hk; omega
  have c0 : W1.cell? ⟨w.heap.size, 0, none⟩ = some (.int .i64 (6 : Int)) := A1.cell rfl
  have hn := ha.n
  have hs := ha.s
  have hi := ha.i
  simp only at hn hs hi
  unfold acV
  have hP := fuse_any F p d nn hi W1 (h.below b1)
  have hplay : play d ⟨6, nm, st, nn⟩ = fuse d nn := by simp [play]
  rw [hplay]
  have c3 : W1.cell? ⟨w.heap.size, 3, none⟩ = some (.int .i64 nn) := A1.cell rfl
  have HR : Hid (∀ w2, Step W1 F p (fuse d nn) w2 → w2.cell? ⟨w.heap.size, 3, none⟩ = some (.int .i64 nn) ∧ Calls Try.prog 40 #[.pointer (some ⟨xb, 0, none⟩), .int .i64 nn] w2 fun e w3 => e = .returned (.tuple #[]) ∧ Two w F p xb (fuse d nn) w3) := by
    intro w2 s2
    have r2 := ref_after hx h b1 s2
    refine ⟨(box_after A1 hFB s2).cell rfl, (reffuse_any xb d nn w2 r2).mono ?_⟩
    rintro e w3 ⟨e1, e2, e3⟩
    exact ⟨e1, Two.from b1 (Two.of s2 r2 e2 e3)⟩
  generalize fuse d nn = R at *
  clear hd ha h hx A1 hFB hplay b1 hn hs hi
  go_enter Try.func13, Try.ntmps13
  go_wp2_with fail
  refine hP.mono ?_
  rintro e w2 ⟨rfl, s2⟩
  obtain ⟨c2, hT⟩ := HR.out w2 s2
  clear hP HR s2 hW1 c0 c3
  go_wp2_with fail
  refine hT.mono ?_
  rintro e w3 ⟨rfl, t3⟩
  have HS := Lib.hid t3
  clear hT t3
  go_wp2_with fail
  go_ret
  exact ⟨rfl, HS.out⟩

set_option maxHeartbeats 4000000 in
set_option maxRecDepth 100000 in
theorem act_7 (F : Nat → Prop) (p xb : Nat) (d : Dk) (a : Ac) (hk : a.kind = 7) (hd : Both d) (ha : Fits a) (w : World) (h : PD w F p d) (hx : RefD w xb d) :
    Calls Try.prog 13 #[.pointer (some ⟨p, 0, none⟩), .pointer (some ⟨xb, 0, none⟩), acV a] w fun e w' => e = .returned (.bool true) ∧ Two w F p xb (play d a) w' := by
  obtain ⟨kd, nm, st, nn⟩ := a
  simp only at hk
  subst hk
  obtain ⟨W1, hW1⟩ : ∃ W1, w.alloc (.cells #[.int .i64 (7 : Int), .string (S nm), .string (S st), .int .i64 nn] 31) = W1 := ⟨_, rfl⟩
  have b1 : Below w.heap.size w W1 := hW1 ▸ below_box w _
  have A1 : Arr W1 w.heap.size 31 #[.int .i64 (7 : Int), .string (S nm), .string (S st), .int .i64 nn] := hW1 ▸ Arr.new w _ _
  have hFB : ¬ F w.heap.size := fun hk => by have := h.lt hk; omega
  have c0 : W1.cell? ⟨w.heap.size, 0, none⟩ = some (.int .i64 (7 : Int)) := A1.cell rfl
  have hn := ha.n
  have hs := ha.s
  have hi := ha.i
  simp only at hn hs hi
  unfold acV
  have hP := pcrash_any F p d nn hd.rm.r (Nat.le_trans hd.rm.l (by decide)) (Nat.le_trans hd.rm.p (by decide)) W1.drew (h.below (below_drew b1))
  have hplay : play d ⟨7, nm, st, nn⟩ = (crash d nn).2 := by simp [play]
  rw [hplay]
  have HR : Hid (∀ w2, Step W1.drew F p (crash d nn).2 w2 → w2.cell? ⟨w.heap.size, 3, none⟩ = some (.int .i64 nn) ∧ Calls Try.prog 41 #[.pointer (some ⟨xb, 0, none⟩), .int .i64 nn] w2 fun e w3 => e = .returned (.int .i64 ((crash d nn).1 : Nat)) ∧ (Two w F p xb (crash d nn).2 w3 ∧ w3.cell? ⟨w.heap.size, 3, none⟩ = some (.int .i64 nn))) := by
    intro w2 s2
    have k1 : Below w.heap.size w W1.drew := below_drew b1
    have r2 := ref_after hx h k1 s2
    have A2 := box_after (A1.below (below_drew (Below.refl _ _))) hFB s2
    refine ⟨A2.cell rfl, (refcrash_any xb d nn hi hd.rm.r ⟨hd.rm.p, hd.rm.l⟩ hd.s w2 r2).mono ?_⟩
    rintro e w3 ⟨e1, e2, e3⟩
    have hxb : w.heap.size ≠ xb := by have := hx.lt; omega
    exact ⟨e1, Two.from k1 (Two.of s2 r2 e2 e3), (e3.arr A2 hxb).cell rfl⟩
  have k0 : W1.drew.cell? ⟨w.heap.size, 3, none⟩ = some (.int .i64 nn) := A1.cell rfl
  generalize crash d nn = R at *
  clear hd ha h hx A1 hFB hplay b1 hn hs hi
  go_enter Try.func13, Try.ntmps13
  go_upto_region 18 with (fail)
  clear hW1 c0
  go_region_held3 (fun W => W.cell? ⟨w.heap.size, 3, none⟩ = some (.int .i64 nn))
    (first | (with_reducible exact k0) | (with_reducible exact k2) | (with_reducible exact k3) | go_keep)
    ((first
      | (go_at_call 18; with_reducible refine hP.mono ?_; rintro e w2 ⟨rfl, s2⟩
         have k2 := (HR.out w2 s2).1
         have hT := (HR.out w2 s2).2)
      | (go_at_call 41; with_reducible refine hT.mono ?_; rintro e w3 ⟨rfl, t3, k3⟩)))
  have HS := Lib.hid t3
  clear hP hT HR k0 k2 k3 s2 t3
  go_wp2_with fail
  go_ret
  exact ⟨rfl, HS.out⟩

set_option maxHeartbeats 4000000 in
set_option maxRecDepth 100000 in
theorem act_other (F : Nat → Prop) (p xb : Nat) (d : Dk) (a : Ac) (hk : a.kind < 1 ∨ 7 < a.kind) (hd : Both d) (ha : Fits a) (w : World) (h : PD w F p d) (hx : RefD w xb d) :
    Calls Try.prog 13 #[.pointer (some ⟨p, 0, none⟩), .pointer (some ⟨xb, 0, none⟩), acV a] w fun e w' => e = .returned (.bool true) ∧ Two w F p xb (play d a) w' := by
  obtain ⟨kd, nm, st, nn⟩ := a
  simp only at hk
  obtain ⟨W1, hW1⟩ : ∃ W1, w.alloc (.cells #[.int .i64 kd, .string (S nm), .string (S st), .int .i64 nn] 31) = W1 := ⟨_, rfl⟩
  have b1 : Below w.heap.size w W1 := hW1 ▸ below_box w _
  have A1 : Arr W1 w.heap.size 31 #[.int .i64 kd, .string (S nm), .string (S st), .int .i64 nn] := hW1 ▸ Arr.new w _ _
  have hFB : ¬ F w.heap.size := fun hk => by have := h.lt hk; omega
  have c0 : W1.cell? ⟨w.heap.size, 0, none⟩ = some (.int .i64 kd) := A1.cell rfl
  have hn := ha.n
  have hs := ha.s
  have hi := ha.i
  simp only at hn hs hi
  unfold acV
  have hplay : play d ⟨kd, nm, st, nn⟩ = d := by
    unfold play
    simp only
    rw [if_neg (by omega), if_neg (by omega), if_neg (by omega), if_neg (by omega), if_neg (by omega), if_neg (by omega)]
  rw [hplay]
  have HS : Hid (Two w F p xb d W1) := ⟨F, h.below b1, hx.below b1, Fr.of_below b1, Nu.refl _ _⟩
  have n1 : (kd == 1) = false := by rw [beq_eq_false_iff_ne]; omega
  have n2 : (kd == 2) = false := by rw [beq_eq_false_iff_ne]; omega
  have n3 : (kd == 3) = false := by rw [beq_eq_false_iff_ne]; omega
  have n4 : (kd == 4) = false := by rw [beq_eq_false_iff_ne]; omega
  have n5 : (kd == 5) = false := by rw [beq_eq_false_iff_ne]; omega
  have n6 : (kd == 6) = false := by rw [beq_eq_false_iff_ne]; omega
  have n7 : (kd == 7) = false := by rw [beq_eq_false_iff_ne]; omega
  clear hd ha h hx A1 hFB hplay b1 hn hs hi hk
  go_enter Try.func13, Try.ntmps13
  go_wp2_with fail
  go_ret
  exact ⟨rfl, HS.out⟩
theorem act_any (F : Nat → Prop) (p xb : Nat) (d : Dk) (a : Ac) (hd : Both d) (ha : Fits a) (w : World) (h : PD w F p d) (hx : RefD w xb d) :
    Calls Try.prog 13 #[.pointer (some ⟨p, 0, none⟩), .pointer (some ⟨xb, 0, none⟩), acV a] w fun e w' => e = .returned (.bool true) ∧ Two w F p xb (play d a) w' := by
  by_cases h0 : a.kind < 1 ∨ 7 < a.kind
  · exact act_other F p xb d a h0 hd ha w h hx
  have : a.kind = 1 ∨ a.kind = 2 ∨ a.kind = 3 ∨ a.kind = 4 ∨ a.kind = 5 ∨ a.kind = 6 ∨ a.kind = 7 := by omega
  rcases this with e | e | e | e | e | e | e
  · exact act_1 F p xb d a e hd ha w h hx
  · exact act_2 F p xb d a e hd ha w h hx
  · exact act_3 F p xb d a e hd ha w h hx
  · exact act_4 F p xb d a e hd ha w h hx
  · exact act_5 F p xb d a e hd ha w h hx
  · exact act_6 F p xb d a e hd ha w h hx
  · exact act_7 F p xb d a e hd ha w h hx
end Go.Proofs.Ytiljhnheacppgaa.dk
