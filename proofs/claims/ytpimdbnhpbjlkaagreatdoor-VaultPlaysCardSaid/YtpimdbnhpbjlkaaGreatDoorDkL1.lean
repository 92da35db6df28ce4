/-
  A disk that a law plays: its calls, over the heap that the law began with. The law's alive.
-/
import Derived.Test.YtpimdbnhpbjlkaaGreatDoorDkPD
namespace Go.Proofs.YtpimdbnhpbjlkaaGreatDoor.dk
set_option linter.unusedVariables false
open Go.RowKit
open fl (S S_size S_append S_inj str_eq str_ne)
open rw (Arr But Row Own bnext below_box below_drew below_drewN addr_add Fr RowB)
open mp (Mp Turned kget kput kwithout kmap KSorted Ranging)

/-- Block p is a disk that was made since w0. -/
def Live (w0 w : World) (p : Nat) (d : Dk) : Prop := ∃ F, PD w F p d ∧ (∀ k, F k → w0.heap.size ≤ k) ∧ Below w0.heap.size w0 w
theorem Live.step {w0 w w' : World} {F : Nat → Prop} {p : Nat} {d' : Dk} (hF : ∀ k, F k → w0.heap.size ≤ k) (hB : Below w0.heap.size w0 w) (s : Step w F p d' w') : Live w0 w' p d' := by
  obtain ⟨F', h1, h2, h3⟩ := s
  refine ⟨F', h1, fun k hk => ?_, hB.trans (h2.below hB.size hF)⟩
  rcases h3 k hk with h | h
  · exact hF k h
  · exact Nat.le_trans hB.size h
theorem Live.below {w0 w w' : World} {p : Nat} {d : Dk} (h : Live w0 w p d) (k : Below w.heap.size w w') : Live w0 w' p d := by
  obtain ⟨F, h1, h2, h3⟩ := h
  exact ⟨F, h1.below k, h2, h3.trans (k.mono h3.size)⟩
theorem Live.since {w0 w : World} {p : Nat} {d : Dk} (h : Live w0 w p d) : Below w0.heap.size w0 w := by obtain ⟨F, h1, h2, h3⟩ := h; exact h3
theorem Live.new {w0 w w' : World} {p : Nat} {d : Dk} (hB : Below w0.heap.size w0 w) (h : PNew w w' p d) (k : Below w.heap.size w w') : Live w0 w' p d := by
  obtain ⟨F, h1, h2⟩ := h
  exact ⟨F, h1, fun i hi => Nat.le_trans hB.size (h2 i hi), hB.trans (k.mono hB.size)⟩
theorem lput_any {w0 : World} (p : Nat) (d : Dk) (n s : Bs) (hd : Room d) (hs : s.length ≤ 281474976710656) (w : World) (h : Live w0 w p d) :
    Calls Tryz.prog 31 #[.pointer (some ⟨p, 0, none⟩), .string (S n), .string (S s)] w fun e w' => e = .returned (.int .i64 ((turn d ⟨2, n, s⟩).1 : Nat)) ∧ Live w0 w' p (turn d ⟨2, n, s⟩).2 := by
  obtain ⟨F, h1, h2, h3⟩ := h
  exact (pput_any F p d n s hd hs w h1).mono fun e w' ⟨a, b⟩ => ⟨a, Live.step h2 h3 b⟩
theorem ldrop_any {w0 : World} (p : Nat) (d : Dk) (n : Bs) (hd : Room d) (w : World) (h : Live w0 w p d) :
    Calls Tryz.prog 53 #[.pointer (some ⟨p, 0, none⟩), .string (S n)] w fun e w' => e = .returned (.int .i64 ((turn d ⟨3, n, []⟩).1 : Nat)) ∧ Live w0 w' p (turn d ⟨3, n, []⟩).2 := by
  obtain ⟨F, h1, h2, h3⟩ := h
  exact (pdrop_any F p d n hd w h1).mono fun e w' ⟨a, b⟩ => ⟨a, Live.step h2 h3 b⟩
/-- .. with the bounds that Sync, Crash, Twin, Names ask. -/
structure Rm (d : Dk) : Prop where
  r : Right d
  s : d.seen.length ≤ 1000
  l : d.lasts.length ≤ 1000
  p : d.pend.length ≤ 1000
theorem Rm.room {d : Dk} (h : Rm d) : Room d := ⟨h.r, Nat.le_trans h.s (by decide), Nat.le_trans h.p (by decide)⟩
theorem lsync_any {w0 : World} (p : Nat) (d : Dk) (hd : Rm d) (w : World) (h : Live w0 w p d) :
    Calls Tryz.prog 43 #[.pointer (some ⟨p, 0, none⟩)] w fun e w' => e = .returned (.int .i64 ((sync d).1 : Nat)) ∧ Live w0 w' p (sync d).2 := by
  obtain ⟨F, h1, h2, h3⟩ := h
  exact (psync_any F p d hd.r (Nat.le_trans hd.l (by decide)) (Nat.le_trans hd.p (by decide)) w h1).mono fun e w' ⟨a, b⟩ => ⟨a, Live.step h2 h3 b⟩
theorem lcrash_any {w0 : World} (p : Nat) (d : Dk) (k : Int) (hd : Rm d) (w : World) (h : Live w0 w p d) :
    Calls Tryz.prog 35 #[.pointer (some ⟨p, 0, none⟩), .int .i64 k] w fun e w' => e = .returned (.int .i64 ((crash d k).1 : Nat)) ∧ Live w0 w' p (crash d k).2 := by
  obtain ⟨F, h1, h2, h3⟩ := h
  exact (pcrash_any F p d k hd.r (Nat.le_trans hd.l (by decide)) (Nat.le_trans hd.p (by decide)) w h1).mono fun e w' ⟨a, b⟩ => ⟨a, Live.step h2 h3 b⟩
theorem lread_any {w0 : World} (p : Nat) (d : Dk) (n : Bs) (hn : n.length ≤ maxLen) (w : World) (h : Live w0 w p d) :
    Calls Tryz.prog 42 #[.pointer (some ⟨p, 0, none⟩), .string (S n)] w fun e w' => e = .returned (.tuple #[.string (S (read d n).1), .int .i64 ((read d n).2 : Nat)]) ∧ Below w.heap.size w w' := by
  obtain ⟨F, h1, h2, h3⟩ := h
  exact read_any F p d n hn w h1
theorem lpending_any {w0 : World} (p : Nat) (d : Dk) (w : World) (h : Live w0 w p d) :
    Calls Tryz.prog 12 #[.pointer (some ⟨p, 0, none⟩)] w fun e w' => e = .returned (.int .i64 (count d.pend : Nat)) ∧ w' = w := by
  obtain ⟨F, h1, h2, h3⟩ := h
  exact pending_any F p d w h1
theorem lnames_any {w0 : World} (p : Nat) (d : Dk) (hd : Rm d) (w : World) (h : Live w0 w p d) :
    Calls Tryz.prog 68 #[.pointer (some ⟨p, 0, none⟩)] w fun e w' => ∃ v, e = .returned v ∧ Own strSh w' w.heap.size v (d.seen.map (·.1)) ∧ Below w.heap.size w w' := by
  obtain ⟨F, h1, h2, h3⟩ := h
  exact names_any F p d (Nat.le_trans hd.s (by decide)) (fun f hf => (hd.r.named f hf).2) w h1

/-! ### alive -/
def d0 : Dk := fresh 9
def d1 : Dk := ⟨9, [([97], [120, 121, 122])], [], [⟨1, [97], [120, 121, 122]⟩], false, 0⟩
def d2 : Dk := ⟨9, [([97], [120, 121, 122])], [([97], [120, 121, 122])], [], false, 0⟩
def d3 : Dk := ⟨9, [([97], [120, 121, 122, 117, 118])], [([97], [120, 121, 122])], [⟨1, [97], [117, 118]⟩], false, 0⟩
def d4 : Dk := ⟨9, [([97], [120, 121, 122, 117, 118]), ([98], [49])], [([97], [120, 121, 122])], [⟨1, [97], [117, 118]⟩, ⟨2, [98], [49]⟩], false, 0⟩
def d5 : Dk := ⟨9, [([97], [120, 121, 122, 117])], [([97], [120, 121, 122, 117])], [], false, 0⟩
theorem e1 : turn d0 ⟨1, [97], [120, 121, 122]⟩ = (0, d1) := by rfl
theorem e2 : sync d1 = (0, d2) := by rfl
theorem e3 : turn d2 ⟨1, [97], [117, 118]⟩ = (0, d3) := by rfl
theorem e4 : turn d3 ⟨2, [98], [49]⟩ = (0, d4) := by rfl
theorem e5 : crash d4 1 = (0, d5) := by rfl
theorem e6 : read d5 [97] = ([120, 121, 122, 117], 0) := by rfl
theorem r0 : Rm d0 := ⟨fresh_right (by decide), by decide, by decide, by decide⟩
theorem r1 : Rm d1 := ⟨by have := turn_right r0.r ⟨1, [97], [120, 121, 122]⟩; rwa [e1] at this, by decide, by decide, by decide⟩
theorem r2 : Rm d2 := ⟨by have := sync_right r1.r; rwa [e2] at this, by decide, by decide, by decide⟩
theorem r3 : Rm d3 := ⟨by have := turn_right r2.r ⟨1, [97], [117, 118]⟩; rwa [e3] at this, by decide, by decide, by decide⟩
theorem r4 : Rm d4 := ⟨by have := turn_right r3.r ⟨2, [98], [49]⟩; rwa [e4] at this, by decide, by decide, by decide⟩
theorem r5 : Rm d5 := ⟨by have := crash_right r4.r 1; rwa [e5] at this, by decide, by decide, by decide⟩
end Go.Proofs.YtpimdbnhpbjlkaaGreatDoor.dk
