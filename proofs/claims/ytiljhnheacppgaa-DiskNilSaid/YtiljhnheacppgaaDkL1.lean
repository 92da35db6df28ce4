/-
  A disk that a law plays: its calls, over the heap that the law began with. The law's alive.
-/
import Derived.Test.YtiljhnheacppgaaDkPD
namespace Go.Proofs.Ytiljhnheacppgaa.dk
set_option linter.unusedVariables false
open Go.RowKit
open fl (S S_size S_append S_inj str_eq str_ne)
open rw (Arr But Row Own bnext below_box below_drew below_drewN addr_add Fr RowB)
open mp (Mp Turned kget kput kwithout kmap KSorted Ranging)

/-- Block p is a disk that was made since w0. -/
def Live (w0 w : World) (p : Nat) (d : Dk) : Prop := ∃ F, PD w F p d ∧ (∀ k, F k → w0.heap.size ≤ k) ∧ Below w0.heap.size w0 w
theorem Live.step {w0 w w' : World} {F : Nat → Prop} {p : Nat} {d' : Dk} (hF : ∀ k, F k → w0.heap.size ≤ k) (hB : Below w0.heap.size w0 w) (s : Step w F p d' w') : Live w0 w' p d' := by
  obtain ⟨F', h1, h2, h3⟩ := s
  refine ⟨F', h1, fun k hk => ?_, hB.trans (h2.below hB.size hF)⟩
  rcases h3 k hk with h | h
  · exact hF k h
  · exact Nat.le_trans hB.size h
theorem Live.below {w0 w w' : World} {p : Nat} {d : Dk} (h : Live w0 w p d) (k : Below w.heap.size w w') : Live w0 w' p d := by
  obtain ⟨F, h1, h2, h3⟩ := h
  exact ⟨F, h1.below k, h2, h3.trans (k.mono h3.size)⟩
theorem Live.since {w0 w : World} {p : Nat} {d : Dk} (h : Live w0 w p d) : Below w0.heap.size w0 w := by obtain ⟨F, h1, h2, h3⟩ := h; exact h3
theorem Live.new {w0 w w' : World} {p : Nat} {d : Dk} (hB : Below w0.heap.size w0 w) (h : PNew w w' p d) (k : Below w.heap.size w w') : Live w0 w' p d := by
  obtain ⟨F, h1, h2⟩ := h
  exact ⟨F, h1, fun i hi => Nat.le_trans hB.size (h2 i hi), hB.trans (k.mono hB.size)⟩
theorem ladd_any {w0 : World} (p : Nat) (d : Dk) (n s : Bs) (hd : Room d) (hs : s.length ≤ 281474976710656) (w : World) (h : Live w0 w p d) :
    Calls Try.prog 20 #[.pointer (some ⟨p, 0, none⟩), .string (S n), .string (S s)] w fun e w' => e = .returned (.int .i64 ((turn d ⟨1, n, s⟩).1 : Nat)) ∧ Live w0 w' p (turn d ⟨1, n, s⟩).2 := by
  obtain ⟨F, h1, h2, h3⟩ := h
  exact (padd_any F p d n s hd hs w h1).mono fun e w' ⟨a, b⟩ => ⟨a, Live.step h2 h3 b⟩
theorem lput_any {w0 : World} (p : Nat) (d : Dk) (n s : Bs) (hd : Room d) (hs : s.length ≤ 281474976710656) (w : World) (h : Live w0 w p d) :
    Calls Try.prog 12 #[.pointer (some ⟨p, 0, none⟩), .string (S n), .string (S s)] w fun e w' => e = .returned (.int .i64 ((turn d ⟨2, n, s⟩).1 : Nat)) ∧ Live w0 w' p (turn d ⟨2, n, s⟩).2 := by
  obtain ⟨F, h1, h2, h3⟩ := h
  exact (pput_any F p d n s hd hs w h1).mono fun e w' ⟨a, b⟩ => ⟨a, Live.step h2 h3 b⟩
theorem ldrop_any {w0 : World} (p : Nat) (d : Dk) (n : Bs) (hd : Room d) (w : World) (h : Live w0 w p d) :
    Calls Try.prog 24 #[.pointer (some ⟨p, 0, none⟩), .string (S n)] w fun e w' => e = .returned (.int .i64 ((turn d ⟨3, n, []⟩).1 : Nat)) ∧ Live w0 w' p (turn d ⟨3, n, []⟩).2 := by
  obtain ⟨F, h1, h2, h3⟩ := h
  exact (pdrop_any F p d n hd w h1).mono fun e w' ⟨a, b⟩ => ⟨a, Live.step h2 h3 b⟩
/-- .. with the bounds that Sync, Crash, Twin, Names ask. -/
structure Rm (d : Dk) : Prop where
  r : Right d
  s : d.seen.length ≤ 1000
  l : d.lasts.length ≤ 1000
  p : d.pend.length ≤ 1000
theorem Rm.room {d : Dk} (h : Rm d) : Room d := ⟨h.r, Nat.le_trans h.s (by decide), Nat.le_trans h.p (by decide)⟩
theorem lsync_any {w0 : World} (p : Nat) (d : Dk) (hd : Rm d) (w : World) (h : Live w0 w p d) :
    Calls Try.prog 16 #[.pointer (some ⟨p, 0, none⟩)] w fun e w' => e = .returned (.int .i64 ((sync d).1 : Nat)) ∧ Live w0 w' p (sync d).2 := by
  obtain ⟨F, h1, h2, h3⟩ := h
  exact (psync_any F p d hd.r (Nat.le_trans hd.l (by decide)) (Nat.le_trans hd.p (by decide)) w h1).mono fun e w' ⟨a, b⟩ => ⟨a, Live.step h2 h3 b⟩
theorem lcrash_any {w0 : World} (p : Nat) (d : Dk) (k : Int) (hd : Rm d) (w : World) (h : Live w0 w p d) :
    Calls Try.prog 18 #[.pointer (some ⟨p, 0, none⟩), .int .i64 k] w fun e w' => e = .returned (.int .i64 ((crash d k).1 : Nat)) ∧ Live w0 w' p (crash d k).2 := by
  obtain ⟨F, h1, h2, h3⟩ := h
  exact (pcrash_any F p d k hd.r (Nat.le_trans hd.l (by decide)) (Nat.le_trans hd.p (by decide)) w h1).mono fun e w' ⟨a, b⟩ => ⟨a, Live.step h2 h3 b⟩
theorem lread_any {w0 : World} (p : Nat) (d : Dk) (n : Bs) (hn : n.length ≤ maxLen) (w : World) (h : Live w0 w p d) :
    Calls Try.prog 23 #[.pointer (some ⟨p, 0, none⟩), .string (S n)] w fun e w' => e = .returned (.tuple #[.string (S (read d n).1), .int .i64 ((read d n).2 : Nat)]) ∧ Below w.heap.size w w' := by
  obtain ⟨F, h1, h2, h3⟩ := h
  exact read_any F p d n hn w h1
theorem lused_any {w0 : World} (p : Nat) (d : Dk) (w : World) (h : Live w0 w p d) :
    Calls Try.prog 19 #[.pointer (some ⟨p, 0, none⟩)] w fun e w' => e = .returned (.int .i64 (used d.seen : Nat)) ∧ w' = w := by
  obtain ⟨F, h1, h2, h3⟩ := h
  exact used_any F p d w h1
theorem lpending_any {w0 : World} (p : Nat) (d : Dk) (w : World) (h : Live w0 w p d) :
    Calls Try.prog 17 #[.pointer (some ⟨p, 0, none⟩)] w fun e w' => e = .returned (.int .i64 (count d.pend : Nat)) ∧ w' = w := by
  obtain ⟨F, h1, h2, h3⟩ := h
  exact pending_any F p d w h1
theorem lnames_any {w0 : World} (p : Nat) (d : Dk) (hd : Rm d) (w : World) (h : Live w0 w p d) :
    Calls Try.prog 26 #[.pointer (some ⟨p, 0, none⟩)] w fun e w' => ∃ v, e = .returned v ∧ Own strSh w' w.heap.size v (d.seen.map (·.1)) ∧ Below w.heap.size w w' := by
  obtain ⟨F, h1, h2, h3⟩ := h
  exact names_any F p d (Nat.le_trans hd.s (by decide)) (fun f hf => (hd.r.named f hf).2) w h1

/-! ### alive -/
def d0 : Dk := fresh 9
def d1 : Dk := ⟨9, [([97], [120, 121, 122])], [], [⟨1, [97], [120, 121, 122]⟩], false, 0⟩
def d2 : Dk := ⟨9, [([97], [120, 121, 122])], [([97], [120, 121, 122])], [], false, 0⟩
def d3 : Dk := ⟨9, [([97], [120, 121, 122, 117, 118])], [([97], [120, 121, 122])], [⟨1, [97], [117, 118]⟩], false, 0⟩
def d4 : Dk := ⟨9, [([97], [120, 121, 122, 117, 118]), ([98], [49])], [([97], [120, 121, 122])], [⟨1, [97], [117, 118]⟩, ⟨2, [98], [49]⟩], false, 0⟩
def d5 : Dk := ⟨9, [([97], [120, 121, 122, 117])], [([97], [120, 121, 122, 117])], [], false, 0⟩
theorem e1 : turn d0 ⟨1, [97], [120, 121, 122]⟩ = (0, d1) := by rfl
theorem e2 : sync d1 = (0, d2) := by rfl
theorem e3 : turn d2 ⟨1, [97], [117, 118]⟩ = (0, d3) := by rfl
theorem e4 : turn d3 ⟨2, [98], [49]⟩ = (0, d4) := by rfl
theorem e5 : crash d4 1 = (0, d5) := by rfl
theorem e6 : read d5 [97] = ([120, 121, 122, 117], 0) := by rfl
theorem r0 : Rm d0 := ⟨fresh_right (by decide), by decide, by decide, by decide⟩
theorem r1 : Rm d1 := ⟨by have := turn_right r0.r ⟨1, [97], [120, 121, 122]⟩; rwa [e1] at this, by decide, by decide, by decide⟩
theorem r2 : Rm d2 := ⟨by have := sync_right r1.r; rwa [e2] at this, by decide, by decide, by decide⟩
theorem r3 : Rm d3 := ⟨by have := turn_right r2.r ⟨1, [97], [117, 118]⟩; rwa [e3] at this, by decide, by decide, by decide⟩
theorem r4 : Rm d4 := ⟨by have := turn_right r3.r ⟨2, [98], [49]⟩; rwa [e4] at this, by decide, by decide, by decide⟩
theorem r5 : Rm d5 := ⟨by have := crash_right r4.r 1; rwa [e5] at this, by decide, by decide, by decide⟩
set_option maxHeartbeats 4000000 in
set_option maxRecDepth 100000 in
theorem alive_any (w : World) : Calls Try.prog 8 #[] w fun e w' => e = .returned (.bool true) ∧ Below w.heap.size w w' := by
  have hN := pnew_any 9 w
  have H1 := Lib.hid fun p W => ladd_any (w0 := w) p d0 [97] [120, 121, 122] r0.room (by decide) W
  have H2 := Lib.hid fun p W => lsync_any (w0 := w) p d1 r1 W
  have H3 := Lib.hid fun p W => ladd_any (w0 := w) p d2 [97] [117, 118] r2.room (by decide) W
  have H4 := Lib.hid fun p W => lput_any (w0 := w) p d3 [98] [49] r3.room (by decide) W
  have H5 := Lib.hid fun p W => lpending_any (w0 := w) p d4 W
  have H6 := Lib.hid fun p W => lcrash_any (w0 := w) p d4 1 r4 W
  have H7 := Lib.hid fun p W => lread_any (w0 := w) p d5 [97] (by decide) W
  have H8 := Lib.hid fun p W => lnames_any (w0 := w) p d5 r5 W
  have H9 := Lib.hid fun p W => lused_any (w0 := w) p d5 W
  rw [e1] at H1
  rw [e2] at H2
  rw [e3] at H3
  rw [e4] at H4
  rw [e5] at H6
  rw [e6] at H7
  go_enter Try.func8, Try.ntmps8
  go_wp2_with fail
  refine hN.mono ?_
  rintro e w1 (⟨h, _⟩ | ⟨cap, hc, _, p, rfl, hP, hB⟩)
  · omega
  obtain rfl : cap = 9 := by omega
  have L1 : Hid (Live w w1 p d0) := Live.new (Below.refl _ _) hP hB
  clear hN hP hB hc
  have C1 := H1.out p w1 L1.out
  go_wp2_with fail
  refine C1.mono ?_
  rintro e w2 ⟨rfl, l⟩
  have L2 := Lib.hid l
  have C2 := H2.out p w2 l
  clear C1 l
  go_wp2_with fail
  refine C2.mono ?_
  rintro e w3 ⟨rfl, l⟩
  have L3 := Lib.hid l
  have C3 := H3.out p w3 l
  clear C2 l
  go_wp2_with fail
  refine C3.mono ?_
  rintro e w4 ⟨rfl, l⟩
  have L4 := Lib.hid l
  have C4 := H4.out p w4 l
  clear C3 l
  go_wp2_with fail
  refine C4.mono ?_
  rintro e w5 ⟨rfl, l⟩
  have L5 := Lib.hid l
  have C5 := H5.out p w5 l
  clear C4 l
  go_wp2_with fail
  refine C5.mono ?_
  rintro e w6 ⟨rfl, rfl⟩
  have C6 := H6.out p w6 L5.out
  have hc : ((count d4.pend : Nat) : Int) = 3 := rfl
  clear C5
  go_wp2_with fail
  refine C6.mono ?_
  rintro e w7 ⟨rfl, l⟩
  have L7 := Lib.hid l
  have C7 := H7.out p w7 l
  clear C6 l hc
  go_wp2_with fail
  refine C7.mono ?_
  rintro e w8 ⟨rfl, b8⟩
  have L8 := Lib.hid (L7.out.below b8)
  have C8 := H8.out p w8 L8.out
  have hs : S [120, 121, 122, 117] = ⟨#[120, 121, 122, 117]⟩ := rfl
  clear C7 b8
  go_wp2_with fail
  refine C8.mono ?_
  rintro e w9 ⟨v, rfl, o9, b9⟩
  have L9 := Lib.hid (L8.out.below b9)
  have C9 := H9.out p w9 L9.out
  obtain ⟨a9, c9, rfl⟩ := o9.form
  have hl : (d5.seen.map (·.1)).length = 1 := rfl
  rw [hl]
  clear C8 b9 o9 hl
  go_wp2_with fail
  refine C9.mono ?_
  rintro e w10 ⟨rfl, rfl⟩
  have hu : ((used d5.seen : Nat) : Int) = 4 := rfl
  clear C9
  go_wp2_with fail
  go_ret
  exact ⟨rfl, L9.out.since⟩
end Go.Proofs.Ytiljhnheacppgaa.dk
