/-
  How large a disk is behind so many calls. No walk.
-/
import Derived.Test.YtpimdbnhpbjlkaaGreatDoorDkL1
namespace Go.Proofs.YtpimdbnhpbjlkaaGreatDoor.dk
set_option linter.unusedVariables false

/-! ### How large a disk is behind so many calls -/
theorem full_length (l : List File) (p : List Call) : (full l p).length ≤ l.length + p.length := by
  induction p generalizing l with
  | nil => exact Nat.le_refl _
  | cons c r ih =>
    have h1 := ih (done l c (steps c))
    have h2 := done_le l c (steps c)
    show (full (done l c (steps c)) r).length ≤ _
    rw [List.length_cons]
    omega
theorem Rm.of {d : Dk} (h : Right d) (hs : d.lasts.length + d.pend.length ≤ 1000) : Rm d :=
  ⟨h, by rw [h.seen]; have := full_length d.lasts d.pend; omega, by omega, by omega⟩
theorem turn_size (d : Dk) (c : Call) : (turn d c).2.lasts.length + (turn d c).2.pend.length ≤ d.lasts.length + d.pend.length + 1 := by
  obtain ⟨e1, _, _, p, e4, e5⟩ := turn_kept d c
  rw [e1, e4, List.length_append]
  rcases e5 with rfl | rfl
  · simp
  · rw [List.length_singleton]; omega
/-- What holds behind j acts. -/
structure Inv (j : Nat) (d : Dk) : Prop where
  r : Right d
  n : d.lasts.length + d.pend.length ≤ j
  s : ∀ c ∈ d.pend, c.s.length ≤ 140737488355328
  f : d.fused = true → 0 ≤ d.left ∧ d.left ≤ 9223372036854775807
theorem Inv.mono {j j' : Nat} {d : Dk} (h : Inv j d) (k : j ≤ j') : Inv j' d := ⟨h.r, Nat.le_trans h.n k, h.s, h.f⟩
theorem inv_fresh {cap : Nat} (h : cap ≤ 1048576) : Inv 0 (fresh cap) := ⟨fresh_right h, Nat.le_refl _, fun c hc => (by cases hc), fun hf => (by cases hf)⟩
theorem off_left {d : Dk} (ho : off d = false) (hf : d.fused = true) : 1 ≤ d.left := by
  unfold off at ho
  rw [hf, Bool.true_and, decide_eq_false_iff_not] at ho
  omega
theorem spend_f {d : Dk} (ho : off d = false) (h : d.fused = true → 0 ≤ d.left ∧ d.left ≤ 9223372036854775807) : (spend d).fused = true → 0 ≤ (spend d).left ∧ (spend d).left ≤ 9223372036854775807 := by
  intro hf
  rw [(spend_parts d).2.2.2.2] at hf
  have h1 := h hf
  have h2 := off_left ho hf
  unfold spend
  rw [if_pos hf]
  exact ⟨by show 0 ≤ d.left - 1; omega, by show d.left - 1 ≤ _; omega⟩
theorem turn_off' {d : Dk} {c : Call} (h : (turn d c).2 ≠ d) : off d = false := by
  unfold turn at h
  by_cases h1 : c.name.length < 1 ∨ 80 < c.name.length
  · rw [if_pos h1] at h; exact absurd rfl h
  · rw [if_neg h1] at h
    by_cases h2 : off d = true
    · rw [if_pos h2] at h; exact absurd rfl h
    · simpa using h2
theorem inv_turn {j : Nat} {d : Dk} (h : Inv j d) (c : Call) (hs : c.s.length ≤ 140737488355328) : Inv (j + 1) (turn d c).2 := by
  by_cases he : (turn d c).2 = d
  · rw [he]; exact h.mono (Nat.le_succ j)
  have ho := turn_off' he
  refine ⟨turn_right h.r c, by have := turn_size d c; have := h.n; omega, fun x hx => ?_, ?_⟩
  · obtain ⟨_, _, _, p, e4, e5⟩ := turn_kept d c
    rw [e4] at hx
    rcases List.mem_append.1 hx with hx | hx
    · exact h.s x hx
    · rcases e5 with rfl | rfl
      · cases hx
      · rw [List.mem_singleton.1 hx]; exact hs
  · rcases turn_cases d c with e | ⟨_, hg, hu, e⟩
    · exact absurd e he
    · rw [e]
      exact spend_f (d := { d with seen := done d.seen c (steps c), pend := d.pend ++ [c] }) ho h.f
theorem inv_sync {j : Nat} {d : Dk} (h : Inv j d) : Inv (j + 1) (sync d).2 := by
  have hr := sync_right h.r
  unfold sync at hr ⊢
  split
  · exact h.mono (Nat.le_succ j)
  · next ho =>
    have ho : off d = false := by simpa using ho
    rw [if_neg (by rw [ho]; decide)] at hr
    obtain ⟨e1, e2, e3, e4, e5⟩ := spend_parts { d with lasts := d.seen, pend := [] }
    refine ⟨hr, ?_, fun c hc => ?_, spend_f (d := { d with lasts := d.seen, pend := [] }) ho h.f⟩
    · show (spend { d with lasts := d.seen, pend := [] }).lasts.length + (spend { d with lasts := d.seen, pend := [] }).pend.length ≤ j + 1
      rw [e3, e4]
      show d.seen.length + ([] : List Call).length ≤ j + 1
      have h1 := full_length d.lasts d.pend
      rw [← h.r.seen] at h1
      have := h.n
      simp only [List.length_nil]
      omega
    · have hc' : c ∈ (spend { d with lasts := d.seen, pend := [] }).pend := hc
      rw [e4] at hc'
      cases hc'
theorem inv_crash {j : Nat} {d : Dk} (h : Inv j d) (k : Int) : Inv (j + 1) (crash d k).2 := by
  have hr := crash_right h.r k
  unfold crash at hr ⊢
  split
  · exact h.mono (Nat.le_succ j)
  · next hk =>
    rw [if_neg hk] at hr
    refine ⟨hr, ?_, fun c hc => (by cases hc), fun hf => (by cases hf)⟩
    show (again d.lasts d.pend k.toNat).length + ([] : List Call).length ≤ j + 1
    have := again_length d.lasts d.pend k.toNat
    have := h.n
    simp only [List.length_nil]
    omega
theorem inv_fuse {j : Nat} {d : Dk} (h : Inv j d) (n : Int) (hn : n ≤ 9223372036854775807) : Inv j (fuse d n) :=
  ⟨fuse_right h.r n, h.n, h.s, fun hf => ⟨of_decide_eq_true (show decide (0 ≤ n) = true from hf), hn⟩⟩
theorem Inv.rm {j : Nat} {d : Dk} (h : Inv j d) (hj : j ≤ 1000) : Rm d := Rm.of h.r (Nat.le_trans h.n hj)
end Go.Proofs.YtpimdbnhpbjlkaaGreatDoor.dk
