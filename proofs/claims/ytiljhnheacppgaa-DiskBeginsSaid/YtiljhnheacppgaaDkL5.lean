/-
  Acts that came in; what holds of a disk behind so many of them; the law's turn.
-/
import Derived.Test.YtiljhnheacppgaaDkL4
namespace Go.Proofs.Ytiljhnheacppgaa.dk
set_option linter.unusedVariables false
open Go.RowKit
open fl (S S_size S_append S_inj str_eq str_ne)
open rw (Arr But Row Own bnext below_box below_drew below_drewN addr_add Fr RowB)
open mp (Mp Turned kget kput kwithout kmap KSorted Ranging)

def acC (a : Ac) : List Value := [.int .i64 a.kind, .string (S a.name), .string (S a.s), .int .i64 a.n]
instance : Inhabited Ac := ⟨⟨0, [], [], 0⟩⟩
/-- A row of acts that came in. -/
def ActRow (w : World) (v : Value) (l : List Ac) : Prop :=
  (∃ a c, v = .slice a l.length c ∧ (l = [] ∨ ∃ b off, a = some ⟨b, off, none⟩ ∧ b < w.heap.size ∧ ∀ j (h : j < l.length) i, i < 4 → w.cell? ⟨b, off + j * 4 + i, none⟩ = (acC l[j])[i]?)) ∧ l.length ≤ 140737488355328 ∧ ∀ x ∈ l, Fits x
theorem ActRow.later {w w' : World} {v : Value} {l : List Ac} (h : ActRow w v l) (k : Below w.heap.size w w') : ActRow w' v l := by
  obtain ⟨⟨a, c, h1, h2⟩, h3⟩ := h
  refine ⟨⟨a, c, h1, ?_⟩, h3⟩
  rcases h2 with h | ⟨b, off, e, hb, hc⟩
  · exact .inl h
  · exact .inr ⟨b, off, e, Nat.lt_of_lt_of_le hb k.size, fun j hj i hi => (World.cell?_of_block (k.block b hb)).trans (hc j hj i hi)⟩
theorem ActRow.at {w : World} {a : Option Addr} {n c : Nat} {l : List Ac} (h : ActRow w (.slice a n c) l) {j : Nat} (hj : j < l.length) : ∃ b off, a = some ⟨b, off, none⟩ ∧ w.cell? ⟨b, off + j * 4, none⟩ = some (.int .i64 l[j].kind) ∧ w.cell? ⟨b, off + j * 4 + 1, none⟩ = some (.string (S l[j].name)) ∧ w.cell? ⟨b, off + j * 4 + 2, none⟩ = some (.string (S l[j].s)) ∧ w.cell? ⟨b, off + j * 4 + 3, none⟩ = some (.int .i64 l[j].n) := by
  obtain ⟨⟨a', c', h1, h2⟩, h3⟩ := h
  cases h1
  rcases h2 with rfl | ⟨b, off, e, hb, hc⟩
  · simp at hj
  · exact ⟨b, off, e, hc j hj 0 (by decide), hc j hj 1 (by decide), hc j hj 2 (by decide), hc j hj 3 (by decide)⟩
theorem ActRow.form {w : World} {v : Value} {l : List Ac} (h : ActRow w v l) : ∃ a c, v = .slice a l.length c := by obtain ⟨⟨a, c, h1, h2⟩, h3⟩ := h; exact ⟨a, c, h1⟩

/-! ### How large a disk is behind so many calls -/
theorem full_length (l : List File) (p : List Call) : (full l p).length ≤ l.length + p.length := by
  induction p generalizing l with
  | nil => exact Nat.le_refl _
  | cons c r ih =>
    have h1 := ih (done l c (steps c))
    have h2 := done_le l c (steps c)
    show (full (done l c (steps c)) r).length ≤ _
    rw [List.length_cons]
    omega
theorem Rm.of {d : Dk} (h : Right d) (hs : d.lasts.length + d.pend.length ≤ 1000) : Rm d :=
  ⟨h, by rw [h.seen]; have := full_length d.lasts d.pend; omega, by omega, by omega⟩
theorem turn_size (d : Dk) (c : Call) : (turn d c).2.lasts.length + (turn d c).2.pend.length ≤ d.lasts.length + d.pend.length + 1 := by
  obtain ⟨e1, _, _, p, e4, e5⟩ := turn_kept d c
  rw [e1, e4, List.length_append]
  rcases e5 with rfl | rfl
  · simp
  · rw [List.length_singleton]; omega
/-- What holds behind j acts. -/
structure Inv (j : Nat) (d : Dk) : Prop where
  r : Right d
  n : d.lasts.length + d.pend.length ≤ j
  s : ∀ c ∈ d.pend, c.s.length ≤ 140737488355328
  f : d.fused = true → 0 ≤ d.left ∧ d.left ≤ 9223372036854775807
theorem Inv.both {j : Nat} {d : Dk} (h : Inv j d) (hj : j ≤ 1000) : Both d := ⟨Rm.of h.r (Nat.le_trans h.n hj), h.s, fun hf => ⟨by have := (h.f hf).1; omega, (h.f hf).2⟩⟩
theorem Inv.mono {j j' : Nat} {d : Dk} (h : Inv j d) (k : j ≤ j') : Inv j' d := ⟨h.r, Nat.le_trans h.n k, h.s, h.f⟩
theorem inv_fresh {cap : Nat} (h : cap ≤ 1048576) : Inv 0 (fresh cap) := ⟨fresh_right h, Nat.le_refl _, fun c hc => (by cases hc), fun hf => (by cases hf)⟩
theorem off_left {d : Dk} (ho : off d = false) (hf : d.fused = true) : 1 ≤ d.left := by
  unfold off at ho
  rw [hf, Bool.true_and, decide_eq_false_iff_not] at ho
  omega
theorem spend_f {d : Dk} (ho : off d = false) (h : d.fused = true → 0 ≤ d.left ∧ d.left ≤ 9223372036854775807) : (spend d).fused = true → 0 ≤ (spend d).left ∧ (spend d).left ≤ 9223372036854775807 := by
  intro hf
  rw [(spend_parts d).2.2.2.2] at hf
  have h1 := h hf
  have h2 := off_left ho hf
  unfold spend
  rw [if_pos hf]
  exact ⟨by show 0 ≤ d.left - 1; omega, by show d.left - 1 ≤ _; omega⟩
theorem turn_off' {d : Dk} {c : Call} (h : (turn d c).2 ≠ d) : off d = false := by
  unfold turn at h
  by_cases h1 : c.name.length < 1 ∨ 80 < c.name.length
  · rw [if_pos h1] at h; exact absurd rfl h
  · rw [if_neg h1] at h
    by_cases h2 : off d = true
    · rw [if_pos h2] at h; exact absurd rfl h
    · simpa using h2
theorem inv_turn {j : Nat} {d : Dk} (h : Inv j d) (c : Call) (hs : c.s.length ≤ 140737488355328) : Inv (j + 1) (turn d c).2 := by
  by_cases he : (turn d c).2 = d
  · rw [he]; exact h.mono (Nat.le_succ j)
  have ho := turn_off' he
  refine ⟨turn_right h.r c, by have := turn_size d c; have := h.n; omega, fun x hx => ?_, ?_⟩
  · obtain ⟨_, _, _, p, e4, e5⟩ := turn_kept d c
    rw [e4] at hx
    rcases List.mem_append.1 hx with hx | hx
    · exact h.s x hx
    · rcases e5 with rfl | rfl
      · cases hx
      · rw [List.mem_singleton.1 hx]; exact hs
  · rcases turn_cases d c with e | ⟨_, hg, hu, e⟩
    · exact absurd e he
    · rw [e]
      exact spend_f (d := { d with seen := done d.seen c (steps c), pend := d.pend ++ [c] }) ho h.f
theorem inv_sync {j : Nat} {d : Dk} (h : Inv j d) : Inv (j + 1) (sync d).2 := by
  have hr := sync_right h.r
  unfold sync at hr ⊢
  split
  · exact h.mono (Nat.le_succ j)
  · next ho =>
    have ho : off d = false := by simpa using ho
    rw [if_neg (by rw [ho]; decide)] at hr
    obtain ⟨e1, e2, e3, e4, e5⟩ := spend_parts { d with lasts := d.seen, pend := [] }
    refine ⟨hr, ?_, fun c hc => ?_, spend_f (d := { d with lasts := d.seen, pend := [] }) ho h.f⟩
    · show (spend { d with lasts := d.seen, pend := [] }).lasts.length + (spend { d with lasts := d.seen, pend := [] }).pend.length ≤ j + 1
      rw [e3, e4]
      show d.seen.length + ([] : List Call).length ≤ j + 1
      have h1 := full_length d.lasts d.pend
      rw [← h.r.seen] at h1
      have := h.n
      simp only [List.length_nil]
      omega
    · have hc' : c ∈ (spend { d with lasts := d.seen, pend := [] }).pend := hc
      rw [e4] at hc'
      cases hc'
theorem inv_crash {j : Nat} {d : Dk} (h : Inv j d) (k : Int) : Inv (j + 1) (crash d k).2 := by
  have hr := crash_right h.r k
  unfold crash at hr ⊢
  split
  · exact h.mono (Nat.le_succ j)
  · next hk =>
    rw [if_neg hk] at hr
    refine ⟨hr, ?_, fun c hc => (by cases hc), fun hf => (by cases hf)⟩
    show (again d.lasts d.pend k.toNat).length + ([] : List Call).length ≤ j + 1
    have := again_length d.lasts d.pend k.toNat
    have := h.n
    simp only [List.length_nil]
    omega
theorem inv_play {j : Nat} {d : Dk} (h : Inv j d) {a : Ac} (ha : Fits a) : Inv (j + 1) (play d a) := by
  unfold play
  split
  · exact inv_turn h _ ha.s
  split
  · exact inv_turn h _ ha.s
  split
  · exact inv_turn h _ (by simp)
  split
  · exact inv_sync h
  split
  · refine ⟨fuse_right h.r a.n, by have := h.n; show d.lasts.length + d.pend.length ≤ _; omega, h.s, fun hf => ?_⟩
    have : decide (0 ≤ a.n) = true := hf
    exact ⟨of_decide_eq_true this, ha.i.2⟩
  split
  · exact inv_crash h a.n
  · exact h.mono (Nat.le_succ j)

/-! ### The law's turn -/
def toC (a : Ac) : Call := ⟨if 1 ≤ a.kind ∧ a.kind ≤ 3 then a.kind.toNat else 0, a.name, if a.kind = 3 then [] else a.s⟩
def tn (d : Dk) (a : Ac) : Nat × Dk := if 1 ≤ (toC a).kind ∧ (toC a).kind ≤ 3 then turn d (toC a) else (0, d)
theorem tn_1 (d : Dk) (a : Ac) (h : a.kind = 1) : tn d a = turn d ⟨1, a.name, a.s⟩ := by unfold tn toC; simp [h]
theorem tn_2 (d : Dk) (a : Ac) (h : a.kind = 2) : tn d a = turn d ⟨2, a.name, a.s⟩ := by unfold tn toC; simp [h]
theorem tn_3 (d : Dk) (a : Ac) (h : a.kind = 3) : tn d a = turn d ⟨3, a.name, []⟩ := by unfold tn toC; simp [h]
theorem tn_o (d : Dk) (a : Ac) (h : a.kind < 1 ∨ 3 < a.kind) : tn d a = (0, d) := by unfold tn toC; rw [if_neg]; simp only; rw [if_neg (by omega)]; omega
theorem toC_s {a : Ac} (h : Fits a) : (toC a).s.length ≤ 140737488355328 := by
  unfold toC
  simp only
  split
  · simp
  · exact h.s
theorem inv_tn {j : Nat} {d : Dk} (h : Inv j d) {a : Ac} (ha : Fits a) : Inv (j + 1) (tn d a).2 := by
  unfold tn
  split
  · exact inv_turn h _ (toC_s ha)
  · exact h.mono (Nat.le_succ j)
theorem all_tn (d : Dk) (l : List Ac) (a : Ac) : all d ((l ++ [a]).map toC) = (tn (all d (l.map toC)) a).2 := by
  rw [List.map_append, List.map_cons, List.map_nil, all_snoc]
  unfold tn
  split <;> rfl
theorem inv_all {d : Dk} {l : List Ac} (hl : ∀ x ∈ l, Fits x) : ∀ {j : Nat}, Inv j d → Inv (j + l.length) (all d (l.map toC)) := by
  induction l generalizing d with
  | nil => intro j h; exact h
  | cons a r ih =>
    intro j h
    have h1 := ih (fun x hx => hl x (List.mem_cons_of_mem _ hx)) (inv_tn h (hl a List.mem_cons_self))
    rw [List.map_cons, all_cons, List.length_cons]
    have e : (if 1 ≤ (toC a).kind ∧ (toC a).kind ≤ 3 then (turn d (toC a)).2 else d) = (tn d a).2 := by unfold tn; split <;> rfl
    rw [e]
    have : j + (r.length + 1) = j + 1 + r.length := by omega
    rw [this]
    exact h1
set_option maxHeartbeats 1000000 in
set_option maxRecDepth 100000 in
theorem lturn_any (F : Nat → Prop) (p : Nat) (d : Dk) (a : Ac) (hd : Rm d) (ha : Fits a) (w : World) (h : PD w F p d) :
    Calls Try.prog 15 #[.pointer (some ⟨p, 0, none⟩), acV a] w fun e w' => e = .returned (.int .i64 ((tn d a).1 : Nat)) ∧ Step w F p (tn d a).2 w' := by
  obtain ⟨kd, nm, st, nn⟩ := a
  have hs := ha.s
  simp only at hs
  obtain ⟨W1, hW1⟩ : ∃ W1, w.alloc (.cells #[.int .i64 kd, .string (S nm), .string (S st), .int .i64 nn] 31) = W1 := ⟨_, rfl⟩
  have b1 : Below w.heap.size w W1 := hW1 ▸ below_box w _
  have A1 : Arr W1 w.heap.size 31 #[.int .i64 kd, .string (S nm), .string (S st), .int .i64 nn] := hW1 ▸ Arr.new w _ _
  have c0 : W1.cell? ⟨w.heap.size, 0, none⟩ = some (.int .i64 kd) := A1.cell rfl
  have c1 : W1.cell? ⟨w.heap.size, 1, none⟩ = some (.string (S nm)) := A1.cell rfl
  have c2 : W1.cell? ⟨w.heap.size, 2, none⟩ = some (.string (S st)) := A1.cell rfl
  unfold acV
  by_cases h1 : kd = 1
  · subst h1
    have hP := padd_any F p d nm st hd.room (by omega) W1 (h.below b1)
    rw [tn_1 d _ rfl]
    generalize turn d ⟨1, nm, st⟩ = R at *
    have HS : Hid (∀ w2, Step W1 F p R.2 w2 → Step w F p R.2 w2) := fun w2 s => Step.from b1 s
    clear h hd ha A1 b1 hs
    go_enter Try.func15, Try.ntmps15
    go_wp2_with fail
    refine hP.mono ?_
    rintro e w2 ⟨rfl, s2⟩
    have S2 := Lib.hid (HS.out w2 s2)
    clear hP s2 HS hW1 c0 c1 c2
    go_wp2_with fail
    go_ret
    exact ⟨rfl, S2.out⟩
  by_cases h2 : kd = 2
  · subst h2
    have hP := pput_any F p d nm st hd.room (by omega) W1 (h.below b1)
    rw [tn_2 d _ rfl]
    generalize turn d ⟨2, nm, st⟩ = R at *
    have HS : Hid (∀ w2, Step W1 F p R.2 w2 → Step w F p R.2 w2) := fun w2 s => Step.from b1 s
    clear h hd ha A1 b1 hs h1
    go_enter Try.func15, Try.ntmps15
    go_wp2_with fail
    refine hP.mono ?_
    rintro e w2 ⟨rfl, s2⟩
    have S2 := Lib.hid (HS.out w2 s2)
    clear hP s2 HS hW1 c0 c1 c2
    go_wp2_with fail
    go_ret
    exact ⟨rfl, S2.out⟩
  by_cases h3 : kd = 3
  · subst h3
    have hP := pdrop_any F p d nm hd.room W1 (h.below b1)
    rw [tn_3 d _ rfl]
    generalize turn d ⟨3, nm, []⟩ = R at *
    have HS : Hid (∀ w2, Step W1 F p R.2 w2 → Step w F p R.2 w2) := fun w2 s => Step.from b1 s
    clear h hd ha A1 b1 hs h1 h2
    go_enter Try.func15, Try.ntmps15
    go_wp2_with fail
    refine hP.mono ?_
    rintro e w2 ⟨rfl, s2⟩
    have S2 := Lib.hid (HS.out w2 s2)
    clear hP s2 HS hW1 c0 c1 c2
    go_wp2_with fail
    go_ret
    exact ⟨rfl, S2.out⟩
  rw [tn_o d _ (by show kd < 1 ∨ 3 < kd; omega)]
  have n1 : (kd == 1) = false := by rw [beq_eq_false_iff_ne]; omega
  have n2 : (kd == 2) = false := by rw [beq_eq_false_iff_ne]; omega
  have n3 : (kd == 3) = false := by rw [beq_eq_false_iff_ne]; omega
  have HS : Hid (Step w F p d W1) := Step.same h b1
  clear h hd ha A1 b1 hs h1 h2 h3
  go_enter Try.func15, Try.ntmps15
  go_wp2_with fail
  go_ret
  exact ⟨rfl, HS.out⟩
end Go.Proofs.Ytiljhnheacppgaa.dk
