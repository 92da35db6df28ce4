/-
  A disk that is played beside a row of files, call by call; the law DiskSynced, walked.
-/
import Derived.Test.YtiljhnheacppgaaDkL7
namespace Go.Proofs.Ytiljhnheacppgaa.dk
set_option linter.unusedVariables false
open Go.RowKit
open fl (S S_size S_append S_inj str_eq str_ne)
open rw (Arr But Row Own bnext below_box below_drew below_drewN addr_add Fr RowB)
open mp (Mp Turned kget kput kwithout kmap KSorted Ranging)

/-- One disk, no fuse, and a row of files beside it. -/
def Wd (w wr : World) (p cap j : Nat) (d : Dk) (v : Value) (l : List File) : Prop := ∃ F, One w wr F p cap j d ∧ SlF wr v l
theorem Wd.below {w wr wx : World} {p cap j : Nat} {d : Dk} {v : Value} {l : List File} (h : Wd w wr p cap j d v l) (k : Below wr.heap.size wr wx) : Wd w wx p cap j d v l := by
  obtain ⟨F, h1, h2⟩ := h
  exact ⟨F, h1.below k, rw.Sl.later fileSh h2 k⟩
theorem Wd.since {w wr : World} {p cap j : Nat} {d : Dk} {v : Value} {l : List File} (h : Wd w wr p cap j d v l) : Below w.heap.size w wr := by obtain ⟨F, h1, _⟩ := h; exact h1.b
theorem Wd.i {w wr : World} {p cap j : Nat} {d : Dk} {v : Value} {l : List File} (h : Wd w wr p cap j d v l) : Inv j d := by obtain ⟨F, h1, _⟩ := h; exact h1.i
theorem Wd.f {w wr : World} {p cap j : Nat} {d : Dk} {v : Value} {l : List File} (h : Wd w wr p cap j d v l) : d.fused = false := by obtain ⟨F, h1, _⟩ := h; exact h1.f
theorem Wd.c {w wr : World} {p cap j : Nat} {d : Dk} {v : Value} {l : List File} (h : Wd w wr p cap j d v l) : d.cap = cap := by obtain ⟨F, h1, _⟩ := h; exact h1.c
theorem Wd.sl {w wr : World} {p cap j : Nat} {d : Dk} {v : Value} {l : List File} (h : Wd w wr p cap j d v l) : SlF wr v l := by obtain ⟨F, _, h1⟩ := h; exact h1
theorem Wd.rm {w wr : World} {p cap j : Nat} {d : Dk} {v : Value} {l : List File} (h : Wd w wr p cap j d v l) (hj : j ≤ 1000) : Rm d := (h.i.both hj).rm
theorem Wd.new {w w1 w2 : World} {p cap : Nat} (hc : cap ≤ 1048576) (hB : Below w.heap.size w w1) (h : PNew w1 w2 p (fresh cap)) (k : Below w1.heap.size w1 w2) : Wd w w2 p cap 0 (fresh cap) (.slice none 0 0) [] := by
  obtain ⟨F, h1⟩ := One.new hc hB h k
  exact ⟨F, h1, rw.Sl.nil fileSh _⟩
theorem Wd.step {w wr wx : World} {F : Nat → Prop} {p cap j j' : Nat} {d d' : Dk} {v : Value} {l : List File} (h : One w wr F p cap j d) (hs : SlF wr v l) (s : Step wr F p d' wx) (hi : Inv j' d') (hf : d'.fused = false) (hc : d'.cap = cap) : Wd w wx p cap j' d' v l := by
  have hv := files_kept hs h.pd s
  obtain ⟨F', h1, h2, h3⟩ := s
  refine ⟨F', ⟨h1, hi, hf, hc, fun q hq => ?_, h.b.trans (h2.below h.b.size h.g)⟩, hv⟩
  rcases h3 q hq with h' | h'
  · exact h.g q h'
  · exact Nat.le_trans h.b.size h'
theorem Wd.turn {w wr : World} {p cap j : Nat} {d : Dk} {v : Value} {l : List File} (h : Wd w wr p cap j d v l) (hj : j ≤ 1000) {a : Ac} (ha : Fits a) :
    Calls Try.prog 15 #[.pointer (some ⟨p, 0, none⟩), acV a] wr fun e w' => e = .returned (.int .i64 ((tn d a).1 : Nat)) ∧ Wd w w' p cap (j + 1) (tn d a).2 v l := by
  obtain ⟨F, h1, h2⟩ := h
  have hk := tn_kept d a
  exact (lturn_any F p d a (h1.rm hj) ha wr h1.pd).mono fun e w' ⟨x, y⟩ => ⟨x, Wd.step h1 h2 y (inv_tn h1.i ha) (hk.1.trans h1.f) (hk.2.trans h1.c)⟩
theorem sync_of {d : Dk} (hf : d.fused = false) : (sync d).1 = 0 ∧ (sync d).2.pend = [] ∧ (sync d).2.seen = d.seen ∧ (sync d).2.fused = false ∧ (sync d).2.cap = d.cap := by
  obtain ⟨e1, e2, e3, e4, e5⟩ := spend_parts { d with lasts := d.seen, pend := [] }
  unfold sync
  rw [if_neg (by rw [off_not hf]; decide)]
  exact ⟨rfl, e4, e2, e5.trans hf, e1⟩
theorem Wd.sync {w wr : World} {p cap j : Nat} {d : Dk} {v : Value} {l : List File} (h : Wd w wr p cap j d v l) (hj : j ≤ 1000) :
    Calls Try.prog 16 #[.pointer (some ⟨p, 0, none⟩)] wr fun e w' => e = .returned (.int .i64 0) ∧ Wd w w' p cap (j + 1) (sync d).2 v l := by
  obtain ⟨F, h1, h2⟩ := h
  have hd := h1.rm hj
  obtain ⟨s1, s2, s3, s4, s5⟩ := sync_of h1.f
  refine (psync_any F p d hd.r (Nat.le_trans hd.l (by decide)) (Nat.le_trans hd.p (by decide)) wr h1.pd).mono fun e w' ⟨x, y⟩ => ⟨?_, Wd.step h1 h2 y (inv_sync h1.i) s4 (s5.trans h1.c)⟩
  rw [x, s1]
  rfl
theorem crash_kept {d : Dk} (hf : d.fused = false) (k : Int) : (crash d k).2.fused = false ∧ (crash d k).2.cap = d.cap := by
  unfold crash
  split
  · exact ⟨hf, rfl⟩
  · exact ⟨rfl, rfl⟩
theorem Wd.crash {w wr : World} {p cap j : Nat} {d : Dk} {v : Value} {l : List File} (h : Wd w wr p cap j d v l) (hj : j ≤ 1000) (k : Int) :
    Calls Try.prog 18 #[.pointer (some ⟨p, 0, none⟩), .int .i64 k] wr fun e w' => e = .returned (.int .i64 ((crash d k).1 : Nat)) ∧ Wd w w' p cap (j + 1) (crash d k).2 v l := by
  obtain ⟨F, h1, h2⟩ := h
  have hd := h1.rm hj
  have hk := crash_kept h1.f k
  exact (pcrash_any F p d k hd.r (Nat.le_trans hd.l (by decide)) (Nat.le_trans hd.p (by decide)) wr h1.pd).mono fun e w' ⟨x, y⟩ => ⟨x, Wd.step h1 h2 y (inv_crash h1.i k) hk.1 (hk.2.trans h1.c)⟩
theorem Wd.files {w wr : World} {p cap j : Nat} {d : Dk} {v : Value} {l : List File} (h : Wd w wr p cap j d v l) (hj : j ≤ 1000) :
    Calls Try.prog 22 #[.pointer (some ⟨p, 0, none⟩)] wr fun e w' => ∃ a c, e = .returned (.slice a d.seen.length c) ∧ Wd w w' p cap j d (.slice a d.seen.length c) d.seen ∧ Below wr.heap.size wr w' := by
  obtain ⟨F, h1, h2⟩ := h
  refine (files_any F p d (h1.rm hj) (off_not h1.f) wr h1.pd).mono fun e w' ⟨u, x, y, z⟩ => ?_
  obtain ⟨a, c, rfl⟩ := y.form
  exact ⟨a, c, x, ⟨F, h1.below z, rw.Own.sl fileSh y⟩, z⟩
theorem Wd.read {w wr : World} {p cap j : Nat} {d : Dk} {v : Value} {l : List File} (h : Wd w wr p cap j d v l) (n : Bs) (hn : n.length ≤ maxLen) :
    Calls Try.prog 23 #[.pointer (some ⟨p, 0, none⟩), .string (S n)] wr fun e w' => e = .returned (.tuple #[.string (S (read d n).1), .int .i64 ((read d n).2 : Nat)]) ∧ Wd w w' p cap j d v l := by
  obtain ⟨F, h1, h2⟩ := h
  exact (read_any F p d n hn wr h1.pd).mono fun e w' ⟨x, y⟩ => ⟨x, F, h1.below y, rw.Sl.later fileSh h2 y⟩
theorem Wd.pending {w wr : World} {p cap j : Nat} {d : Dk} {v : Value} {l : List File} (h : Wd w wr p cap j d v l) :
    Calls Try.prog 17 #[.pointer (some ⟨p, 0, none⟩)] wr fun e w' => e = .returned (.int .i64 (count d.pend : Nat)) ∧ w' = wr := by
  obtain ⟨F, h1, h2⟩ := h
  exact pending_any F p d wr h1.pd
theorem Wd.used {w wr : World} {p cap j : Nat} {d : Dk} {v : Value} {l : List File} (h : Wd w wr p cap j d v l) :
    Calls Try.prog 19 #[.pointer (some ⟨p, 0, none⟩)] wr fun e w' => e = .returned (.int .i64 (used d.seen : Nat)) ∧ w' = wr := by
  obtain ⟨F, h1, h2⟩ := h
  exact used_any F p d wr h1.pd

/-- A count of steps that an argument names. -/
theorem step_of (k : Int) (n : Nat) (hn : n ≤ 1048576000) : ∃ r : Nat, r ≤ n ∧ (IntKind.u64.wrap k).tmod ((n : Int) + 1) = (r : Int) ∧ IntKind.i64.wrap ((n : Int) + 1) = (n : Int) + 1 ∧ IntKind.u64.wrap ((n : Int) + 1) = (n : Int) + 1 ∧ IntKind.u64.wrap (r : Int) = (r : Int) ∧ IntKind.i64.wrap (r : Int) = (r : Int) := by
  have hU : 0 ≤ IntKind.u64.wrap k := by
    simp only [IntKind.wrap, IntKind.bits, IntKind.signed]
    simp
    omega
  obtain ⟨r, hr⟩ : ∃ r : Nat, IntKind.u64.wrap k % ((n : Int) + 1) = (r : Int) := ⟨_, (Int.toNat_of_nonneg (Int.emod_nonneg _ (by omega))).symm⟩
  have hrl := Int.emod_lt_of_pos (IntKind.u64.wrap k) (b := (n : Int) + 1) (by omega)
  exact ⟨r, by omega, by rw [Int.tmod_eq_emod_of_nonneg hU, hr], IntWalk.i64_in _ (by omega), IntWalk.u64_in _ (by omega), IntWalk.u64_in _ (by omega), IntWalk.i64_in _ (by omega)⟩
theorem Rm.count {d : Dk} (h : Rm d) : count d.pend ≤ 1048576000 := by
  have := count_bound h.r
  have := h.p
  omega
/-- The law's last three crashes. -/
theorem crashes {d : Dk} {r : Nat} (hr : r ≤ count d.pend) : ∃ d2 : Dk, (crash d (r : Int) = (0, d2) ∧ crash d2 1 = (1, d2) ∧ crash d2 0 = (0, d2)) ∧ d2.seen = again d.lasts d.pend r ∧ d2.fused = false :=
  ⟨_, ⟨crash_ok hr, rfl, rfl⟩, rfl, rfl⟩
theorem take_tn (d : Dk) (l : List Ac) {k : Nat} (hk : k < l.length) : all d ((l.take (k + 1)).map toC) = (tn (all d ((l.take k).map toC)) l[k]).2 := by
  rw [List.take_succ_eq_append_getElem hk, all_tn]
/-- Whether a name is turned among these. -/
def tur (l : List Ac) (n : Bs) : Bool := l.any fun a => decide (a.name = n)
theorem tur_snoc (l : List Ac) (n : Bs) {k : Nat} (hk : k < l.length) : tur (l.take (k + 1)) n = (tur (l.take k) n || decide (l[k].name = n)) := by
  unfold tur
  rw [List.take_succ_eq_append_getElem hk, List.any_append]
  simp only [List.any_cons, List.any_nil, Bool.or_false]
theorem tur_not {l : List Ac} {n : Bs} (h : tur l n = false) : ∀ c ∈ l.map toC, c.name ≠ n := by
  intro c hc
  obtain ⟨a, ha, rfl⟩ := List.mem_map.1 hc
  have := List.any_eq_false.1 h a ha
  exact fun e => this (decide_eq_true (show a.name = n from e))
/-- What was synced, and not turned since, is read. -/
theorem kept_read {d0 d2 : Dk} (hr : Right d0) (hp : d0.pend = []) (m : List Ac) (r : Nat) (h2 : d2.seen = again (all d0 (m.map toC)).lasts (all d0 (m.map toC)).pend r) (hf : d2.fused = false) {i : Nat} (hi : i < d0.seen.length) (ht : tur m d0.seen[i].1 = false) : read d2 d0.seen[i].1 = (d0.seen[i].2, 0) := by
  unfold read
  rw [if_neg (by rw [off_not hf]; decide), h2, synced hr hp _ r (tur_not ht), get_of_mem hr.sorted (show (d0.seen[i].1, d0.seen[i].2) ∈ d0.seen from List.getElem_mem hi)]
end Go.Proofs.Ytiljhnheacppgaa.dk
