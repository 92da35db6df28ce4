/-
  Two disks that are played side by side, and three; what the law DiskBegins asks of them.
-/
import Derived.Test.YtiljhnheacppgaaDkL8
namespace Go.Proofs.Ytiljhnheacppgaa.dk
set_option linter.unusedVariables false
open Go.RowKit
open fl (S S_size S_append S_inj str_eq str_ne)
open rw (Arr But Row Own bnext below_box below_drew below_drewN addr_add Fr RowB)
open mp (Mp Turned kget kput kwithout kmap KSorted Ranging)

/-- Acts in boxes stay. -/
def Kp (wr wx : World) : Prop := ∀ b cs, Arr wr b 31 cs → Arr wx b 31 cs
theorem Kp.below {wr wx : World} (h : Below wr.heap.size wr wx) : Kp wr wx := fun b cs hA => hA.below h
/-- A disk's call: its new footprint; a disk beside it stays beside it. -/
theorem One.to {w wr wx : World} {F : Nat → Prop} {p cap j j' : Nat} {d d' : Dk} (h : One w wr F p cap j d) (s : Step wr F p d' wx) (hi : Inv j' d') (hf : d'.fused = false) (hc : d'.cap = cap) :
    ∃ F', One w wx F' p cap j' d' ∧ Kp wr wx ∧ ∀ G q k t, One w wr G q cap k t → (∀ i, F i → ¬ G i) → One w wx G q cap k t ∧ ∀ i, F' i → ¬ G i := by
  obtain ⟨F', h1, h2, h3⟩ := s
  have hB := h.b.trans (h2.below h.b.size h.g)
  refine ⟨F', ⟨h1, hi, hf, hc, fun q hq => ?_, hB⟩, fun b cs hA => h2.arr hA fun hb => PD.types h.pd (t := 31) (by decide) (by decide) (by decide) b hb _ _ hA, fun G q k t o hd => ⟨⟨o.pd.fr h2 (fun i hi hk => hd i hk hi) h.pd.nobox, o.i, o.f, o.c, o.g, hB⟩, fun i hi hk => ?_⟩⟩
  · rcases h3 q hq with h' | h'
    · exact h.g q h'
    · exact Nat.le_trans h.b.size h'
  · rcases h3 i hi with h' | h'
    · exact hd i h' hk
    · have := o.pd.lt hk
      omega
def Pr (w wr : World) (cap p j : Nat) (d : Dk) (q k : Nat) (t : Dk) : Prop := ∃ F G, One w wr F p cap j d ∧ One w wr G q cap k t ∧ ∀ i, F i → ¬ G i
theorem Pr.symm {w wr : World} {cap p j q k : Nat} {d t : Dk} (h : Pr w wr cap p j d q k t) : Pr w wr cap q k t p j d := by
  obtain ⟨F, G, h1, h2, h3⟩ := h
  exact ⟨G, F, h2, h1, fun i hi hk => h3 i hk hi⟩
theorem Pr.below {w wr wx : World} {cap p j q k : Nat} {d t : Dk} (h : Pr w wr cap p j d q k t) (b : Below wr.heap.size wr wx) : Pr w wx cap p j d q k t := by
  obtain ⟨F, G, h1, h2, h3⟩ := h
  exact ⟨F, G, h1.below b, h2.below b, h3⟩
theorem Pr.since {w wr : World} {cap p j q k : Nat} {d t : Dk} (h : Pr w wr cap p j d q k t) : Below w.heap.size w wr := by obtain ⟨F, G, h1, h2, h3⟩ := h; exact h1.b
theorem Pr.i {w wr : World} {cap p j q k : Nat} {d t : Dk} (h : Pr w wr cap p j d q k t) : Inv j d ∧ d.fused = false ∧ d.cap = cap := by obtain ⟨F, G, h1, h2, h3⟩ := h; exact ⟨h1.i, h1.f, h1.c⟩
theorem Pr.up {w wr : World} {cap p j q k j' k' : Nat} {d t : Dk} (h : Pr w wr cap p j d q k t) (hj : j ≤ j') (hk : k ≤ k') : Pr w wr cap p j' d q k' t := by
  obtain ⟨F, G, h1, h2, h3⟩ := h
  exact ⟨F, G, ⟨h1.pd, h1.i.mono hj, h1.f, h1.c, h1.g, h1.b⟩, ⟨h2.pd, h2.i.mono hk, h2.f, h2.c, h2.g, h2.b⟩, h3⟩
theorem Pr.turn {w wr : World} {cap p j q k : Nat} {d t : Dk} (h : Pr w wr cap p j d q k t) (hj : j ≤ 1000) {a : Ac} (ha : Fits a) :
    Calls Try.prog 15 #[.pointer (some ⟨p, 0, none⟩), acV a] wr fun e w' => e = .returned (.int .i64 ((tn d a).1 : Nat)) ∧ Pr w w' cap p (j + 1) (tn d a).2 q k t := by
  obtain ⟨F, G, h1, h2, h3⟩ := h
  have hk := tn_kept d a
  refine (lturn_any F p d a (h1.rm hj) ha wr h1.pd).mono fun e w' ⟨x, y⟩ => ⟨x, ?_⟩
  obtain ⟨F', z1, z2, z3⟩ := h1.to y (inv_tn h1.i ha) (hk.1.trans h1.f) (hk.2.trans h1.c)
  obtain ⟨z4, z5⟩ := z3 _ _ _ _ h2 h3
  exact ⟨F', G, z1, z4, z5⟩
theorem Pr.crash {w wr : World} {cap p j q k : Nat} {d t : Dk} (h : Pr w wr cap p j d q k t) (hj : j ≤ 1000) (n : Int) :
    Calls Try.prog 18 #[.pointer (some ⟨p, 0, none⟩), .int .i64 n] wr fun e w' => e = .returned (.int .i64 ((crash d n).1 : Nat)) ∧ Pr w w' cap p (j + 1) (crash d n).2 q k t := by
  obtain ⟨F, G, h1, h2, h3⟩ := h
  have hd := h1.rm hj
  have hk := crash_kept h1.f n
  refine (pcrash_any F p d n hd.r (Nat.le_trans hd.l (by decide)) (Nat.le_trans hd.p (by decide)) wr h1.pd).mono fun e w' ⟨x, y⟩ => ⟨x, ?_⟩
  obtain ⟨F', z1, z2, z3⟩ := h1.to y (inv_crash h1.i n) hk.1 (hk.2.trans h1.c)
  obtain ⟨z4, z5⟩ := z3 _ _ _ _ h2 h3
  exact ⟨F', G, z1, z4, z5⟩
theorem Pr.pending {w wr : World} {cap p j q k : Nat} {d t : Dk} (h : Pr w wr cap p j d q k t) :
    Calls Try.prog 17 #[.pointer (some ⟨p, 0, none⟩)] wr fun e w' => e = .returned (.int .i64 (count d.pend : Nat)) ∧ w' = wr := by
  obtain ⟨F, G, h1, _⟩ := h
  exact pending_any F p d wr h1.pd
theorem Pr.used {w wr : World} {cap p j q k : Nat} {d t : Dk} (h : Pr w wr cap p j d q k t) :
    Calls Try.prog 19 #[.pointer (some ⟨p, 0, none⟩)] wr fun e w' => e = .returned (.int .i64 (used d.seen : Nat)) ∧ w' = wr := by
  obtain ⟨F, G, h1, _⟩ := h
  exact used_any F p d wr h1.pd
theorem Pr.files {w wr : World} {cap p j q k : Nat} {d t : Dk} (h : Pr w wr cap p j d q k t) (hj : j ≤ 1000) :
    Calls Try.prog 22 #[.pointer (some ⟨p, 0, none⟩)] wr fun e w' => ∃ a c, e = .returned (.slice a d.seen.length c) ∧ SlF w' (.slice a d.seen.length c) d.seen ∧ Below wr.heap.size wr w' := by
  obtain ⟨F, G, h1, _⟩ := h
  refine (files_any F p d (h1.rm hj) (off_not h1.f) wr h1.pd).mono fun e w' ⟨u, x, y, z⟩ => ?_
  obtain ⟨a, c, rfl⟩ := y.form
  exact ⟨a, c, x, rw.Own.sl fileSh y, z⟩
/-- The files of both, held against one another. -/
theorem Pr.two {w wr : World} {cap p j q k : Nat} {d t : Dk} (h : Pr w wr cap p j d q k t) (hj : j ≤ 1000) (hk : k ≤ 1000) (hX : d.seen = t.seen) :
    Calls Try.prog 22 #[.pointer (some ⟨p, 0, none⟩)] wr fun e w' => ∃ a c, e = .returned (.slice a d.seen.length c) ∧
      Calls Try.prog 22 #[.pointer (some ⟨q, 0, none⟩)] w' fun e w2 => ∃ a2 c2, e = .returned (.slice a2 t.seen.length c2) ∧
        Calls Try.prog 21 #[.slice a d.seen.length c, .slice a2 t.seen.length c2] w2 fun e w3 => e = .returned (.bool true) ∧ Below w.heap.size w w3 := by
  refine (h.files hj).mono fun e w' ⟨a, c, x, y, b⟩ => ⟨a, c, x, ?_⟩
  have h2 := h.below b
  refine (h2.symm.files hk).mono fun e w2 ⟨a2, c2, x2, y2, b2⟩ => ⟨a2, c2, x2, ?_⟩
  have h3 := h2.below b2
  have hl : ∀ {p j q k : Nat} {d t : Dk}, Pr w w2 cap p j d q k t → j ≤ 1000 → d.seen.length ≤ 140737488355328 := fun h hj => Nat.le_trans ((h.i.1.both hj).rm).s (by decide)
  refine (refsame_any _ _ d.seen t.seen (hl h3 hj) (hl h3.symm hk) w2 (rw.Sl.later fileSh y b2) y2).mono fun e w3 ⟨x3, b3⟩ => ⟨?_, h3.since.trans (b3.mono h3.since.size)⟩
  rw [x3, decide_eq_true hX]
theorem One.twin {w wr : World} {F : Nat → Prop} {cap p j : Nat} {d : Dk} (h : One w wr F p cap j d) (hj : j ≤ 1000) :
    Calls Try.prog 11 #[.pointer (some ⟨p, 0, none⟩)] wr fun e w' => ∃ q, e = .returned (.pointer (some ⟨q, 0, none⟩)) ∧ Below wr.heap.size wr w' ∧ ∃ G, One w w' G q cap j d ∧ ∀ i, G i → wr.heap.size ≤ i := by
  have hd := h.rm hj
  refine (ptwin_any F p d hd.r (Nat.le_trans hd.s (by decide)) (Nat.le_trans hd.l (by decide)) (by have := hd.p; omega) wr h.pd).mono fun e w' ⟨q, x, ⟨G, y, z⟩, b⟩ => ⟨q, x, b, G, ⟨y, h.i, h.f, h.c, fun i hi => Nat.le_trans h.b.size (z i hi), h.b.trans (b.mono h.b.size)⟩, z⟩
theorem Wd.twin {w wr : World} {cap p j : Nat} {d : Dk} {v : Value} {l : List File} (h : Wd w wr p cap j d v l) (hj : j ≤ 1000) :
    Calls Try.prog 11 #[.pointer (some ⟨p, 0, none⟩)] wr fun e w' => ∃ q, e = .returned (.pointer (some ⟨q, 0, none⟩)) ∧ Pr w w' cap p j d q j d := by
  obtain ⟨F, h1, h2⟩ := h
  refine (h1.twin hj).mono fun e w' ⟨q, x, b, G, o, hG⟩ => ⟨q, x, F, G, h1.below b, o, fun i hi hk => ?_⟩
  have := hG i hk
  have := h1.pd.lt hi
  omega
/-- d, beside it t, beside both u. -/
def Tr (w wr : World) (cap p j : Nat) (d : Dk) (q k : Nat) (t : Dk) (r i : Nat) (u : Dk) : Prop := ∃ F G H, One w wr F p cap j d ∧ One w wr G q cap k t ∧ One w wr H r cap i u ∧ (∀ x, F x → ¬ G x) ∧ (∀ x, F x → ¬ H x) ∧ ∀ x, G x → ¬ H x
theorem Tr.below {w wr wx : World} {cap p j q k r i : Nat} {d t u : Dk} (h : Tr w wr cap p j d q k t r i u) (b : Below wr.heap.size wr wx) : Tr w wx cap p j d q k t r i u := by
  obtain ⟨F, G, H, h1, h2, h3, h4⟩ := h
  exact ⟨F, G, H, h1.below b, h2.below b, h3.below b, h4⟩
theorem Tr.dt {w wr : World} {cap p j q k r i : Nat} {d t u : Dk} (h : Tr w wr cap p j d q k t r i u) : Pr w wr cap p j d q k t := by
  obtain ⟨F, G, H, h1, h2, h3, h4, _⟩ := h
  exact ⟨F, G, h1, h2, h4⟩
theorem Tr.du {w wr : World} {cap p j q k r i : Nat} {d t u : Dk} (h : Tr w wr cap p j d q k t r i u) : Pr w wr cap p j d r i u := by
  obtain ⟨F, G, H, h1, h2, h3, _, h4, _⟩ := h
  exact ⟨F, H, h1, h3, h4⟩
theorem Pr.twin {w wr : World} {cap p j q k : Nat} {d t : Dk} (h : Pr w wr cap p j d q k t) (hk : k ≤ 1000) :
    Calls Try.prog 11 #[.pointer (some ⟨q, 0, none⟩)] wr fun e w' => ∃ r, e = .returned (.pointer (some ⟨r, 0, none⟩)) ∧ Below wr.heap.size wr w' ∧ Tr w w' cap p j d q k t r k t := by
  obtain ⟨F, G, h1, h2, h3⟩ := h
  refine (h2.twin hk).mono fun e w' ⟨r, x, b, H, o, hH⟩ => ⟨r, x, b, F, G, H, h1.below b, h2.below b, o, h3, fun i hi hk => ?_, fun i hi hk => ?_⟩
  · have := hH i hk
    have := h1.pd.lt hi
    omega
  · have := hH i hk
    have := h2.pd.lt hi
    omega
theorem Tr.turn {w wr : World} {cap p j q k r i : Nat} {d t u : Dk} (h : Tr w wr cap p j d q k t r i u) (hk : k ≤ 1000) {a : Ac} (ha : Fits a) :
    Calls Try.prog 15 #[.pointer (some ⟨q, 0, none⟩), acV a] wr fun e w' => e = .returned (.int .i64 ((tn t a).1 : Nat)) ∧ Tr w w' cap p j d q (k + 1) (tn t a).2 r i u ∧ Kp wr w' := by
  obtain ⟨F, G, H, h1, h2, h3, h4, h5, h6⟩ := h
  have hk' := tn_kept t a
  refine (lturn_any G q t a (h2.rm hk) ha wr h2.pd).mono fun e w' ⟨x, y⟩ => ⟨x, ?_⟩
  obtain ⟨G', z1, z2, z3⟩ := h2.to y (inv_tn h2.i ha) (hk'.1.trans h2.f) (hk'.2.trans h2.c)
  obtain ⟨z4, z5⟩ := z3 _ _ _ _ h3 h6
  obtain ⟨z6, z7⟩ := z3 _ _ _ _ h1 (fun i hi hk => h4 i hk hi)
  exact ⟨⟨F, G', H, z6, z1, z4, fun i hi hk => z7 i hk hi, h5, z5⟩, z2⟩
/-- An Add to the one behind. -/
theorem Pr.add {w wr : World} {cap p j q k : Nat} {d t : Dk} (h : Pr w wr cap p j d q k t) (hk : k ≤ 1000) (n s : Bs) (hs : s.length ≤ 140737488355328) :
    Calls Try.prog 20 #[.pointer (some ⟨q, 0, none⟩), .string (S n), .string (S s)] wr fun e w' => e = .returned (.int .i64 ((dk.turn t ⟨1, n, s⟩).1 : Nat)) ∧ Pr w w' cap p j d q (k + 1) (dk.turn t ⟨1, n, s⟩).2 ∧ Kp wr w' := by
  obtain ⟨F, G, h1, h2, h3⟩ := h
  have hr := h2.rm hk
  have hkp := turn_kept t ⟨1, n, s⟩
  refine (padd_any G q t n s hr.room (by omega) wr h2.pd).mono fun e w' ⟨x, y⟩ => ⟨x, ?_⟩
  obtain ⟨G', z1, z2, z3⟩ := h2.to y (inv_turn h2.i _ hs) (hkp.2.1.trans h2.f) (hkp.2.2.1.trans h2.c)
  obtain ⟨z4, z5⟩ := z3 _ _ _ _ h1 (fun i hi hk => h3 i hk hi)
  exact ⟨⟨F, G', z4, z1, fun i hi hk => z5 i hk hi⟩, z2⟩

/-! ### The mathematics of a round -/
/-- Where the script has come to. -/
def At (X : List File) (t : Dk) (r : Nat) (m : List Ac) : Prop := count t.pend ≤ r ∧ X = upto t r (m.map toC)
theorem At.go {X : List File} {t : Dk} {r : Nat} {a : Ac} {m : List Ac} (h : At X t r (a :: m)) :
    ((tn t a).1 ≠ 0 ∧ At X t r m) ∨
      ((tn t a).1 = 0 ∧ count (tn t a).2.pend ≤ r ∧ At X (tn t a).2 r m) ∨
      ((tn t a).1 = 0 ∧ r < count (tn t a).2.pend ∧ a.kind = 1 ∧ count t.pend < r ∧ r - count t.pend ≤ a.s.length ∧ X = (turn t ⟨1, a.name, a.s.take (r - count t.pend)⟩).2.seen) ∨
      ((tn t a).1 = 0 ∧ r < count (tn t a).2.pend ∧ ¬ (a.kind = 1 ∧ count t.pend < r) ∧ X = t.seen) := by
  obtain ⟨h1, h2⟩ := h
  rw [List.map_cons, upto] at h2
  unfold tn
  by_cases hk : 1 ≤ (toC a).kind ∧ (toC a).kind ≤ 3
  · rw [if_pos hk] at h2 ⊢
    by_cases he : (turn t (toC a)).1 ≠ 0
    · rw [if_pos he] at h2
      exact .inl ⟨he, h1, h2⟩
    · rw [if_neg he] at h2
      have he0 : (turn t (toC a)).1 = 0 := Decidable.not_not.1 he
      by_cases hr : r < count (turn t (toC a)).2.pend
      · rw [if_pos hr] at h2
        have hkk : (toC a).kind = 1 ↔ a.kind = 1 := by unfold toC; simp only; split <;> omega
        by_cases h1k : (toC a).kind = 1 ∧ count t.pend < r
        · rw [if_pos h1k] at h2
          have ha1 : a.kind = 1 := hkk.1 h1k.1
          have hC : toC a = ⟨1, a.name, a.s⟩ := by unfold toC; simp [ha1]
          refine .inr (.inr (.inl ⟨he0, hr, ha1, h1k.2, ?_, ?_⟩))
          · rcases turn_cases t (toC a) with e | ⟨_, _, _, e⟩
            · rw [e] at hr; omega
            · rw [e, (spend_parts _).2.2.2.1] at hr
              rw [count_snoc, hC] at hr
              have : steps ⟨1, a.name, a.s⟩ = a.s.length := by simp [steps]
              omega
          · rw [h2, hC]
        · rw [if_neg h1k] at h2
          exact .inr (.inr (.inr ⟨he0, hr, fun hh => h1k ⟨hkk.2 hh.1, hh.2⟩, h2⟩))
      · rw [if_neg hr] at h2
        exact .inr (.inl ⟨he0, by omega, by omega, h2⟩)
  · rw [if_neg hk] at h2 ⊢
    exact .inr (.inl ⟨rfl, h1, h1, h2⟩)
end Go.Proofs.Ytiljhnheacppgaa.dk
