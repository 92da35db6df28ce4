/-
  What is pending: closures over boxes that nobody turns any more; what each makes of files.
-/
import Derived.Test.YtpimdbnhpbjlkaaGreatDoorDkP1
import Derived.Deep.RegionHeld3
import Derived.Deep.QuietTactic
import Derived.BigQuiet
namespace Go.Proofs.YtpimdbnhpbjlkaaGreatDoor.dk
set_option linter.unusedVariables false
open Go.RowKit
open fl (S S_size S_append S_inj str_eq str_ne)
open rw (Arr But Row Own bnext below_box below_drew below_drewN addr_add Fr RowB)
open mp (Mp Turned kget kput kwithout kmap KSorted)

def Boxed (w : World) (a : Nat) (s : Bs) : Prop := Arr w a 9 #[.string (S s)]
theorem Boxed.lt {w : World} {a : Nat} {s : Bs} (h : Boxed w a s) : a < w.heap.size := Arr.lt h
theorem Boxed.of {w w' : World} {a : Nat} {s : Bs} (h : Boxed w a s) (hb : w'.heap[a]? = w.heap[a]?) : Boxed w' a s := Arr.of h hb
/-- v does the call c again. -/
def Does (w : World) (v : Value) (c : Call) : Prop :=
  (c.kind = 1 ∧ ∃ a b : Nat, False ∧ Boxed w a c.name ∧ Boxed w b c.s) ∨
  (c.kind = 2 ∧ ∃ a b, v = .func (.func 59) #[] #[.pointer (some ⟨a, 0, none⟩), .pointer (some ⟨b, 0, none⟩)] ∧ Boxed w a c.name ∧ Boxed w b c.s) ∨
  (c.kind = 3 ∧ ∃ a, v = .func (.func 80) #[] #[.pointer (some ⟨a, 0, none⟩)] ∧ Boxed w a c.name)
/-- A box's block is of strings. -/
def NoBox (w : World) (F : Nat → Prop) : Prop := ∀ k, F k → ∀ s, ¬ Boxed w k s
theorem Does.of {w w' : World} {v : Value} {c : Call} (h : Does w v c) (hb : ∀ a s, Boxed w a s → w'.heap[a]? = w.heap[a]?) : Does w' v c := by
  rcases h with ⟨h1, a, b, h2, h3, h4⟩ | ⟨h1, a, b, h2, h3, h4⟩ | ⟨h1, a, h2, h3⟩
  · exact .inl ⟨h1, a, b, h2, h3.of (hb a _ h3), h4.of (hb b _ h4)⟩
  · exact .inr (.inl ⟨h1, a, b, h2, h3.of (hb a _ h3), h4.of (hb b _ h4)⟩)
  · exact .inr (.inr ⟨h1, a, h2, h3.of (hb a _ h3)⟩)
theorem Does.below {w w' : World} {v : Value} {c : Call} (h : Does w v c) (k : Below w.heap.size w w') : Does w' v c := h.of fun a s hs => k.block a hs.lt
theorem Does.fr {w w' : World} {v : Value} {c : Call} (h : Does w v c) {F : Nat → Prop} (k : Fr F w w') (hF : NoBox w F) : Does w' v c := h.of fun a s hs => k.block a hs.lt fun hk => hF a hk s hs
theorem FM.nobox {w : World} {F : Nat → Prop} {b : Nat} {l : List File} (h : FM w F b l) : NoBox w F := by
  intro k hk s hs
  unfold Boxed Arr at hs
  rcases h.typed k hk with ⟨es, c, e⟩ | ⟨cs, fr, e⟩
  · rw [hs] at e; cases e
  · rw [hs] at e; cases e

set_option maxHeartbeats 1000000 in
set_option maxRecDepth 100000 in
theorem put1_any (F : Nat → Prop) (b : Nat) (l : List File) (c : Call) (a1 a2 : Nat) (n : Nat) (hk : c.kind = 2) (hc : Good c) (hn1 : 1 ≤ n) (hl : l.length ≤ 1000000) (hz : c.s.length ≤ 140737488355328) (w : World) (h : FM w F b l)
    (h1 : Boxed w a1 c.name) (h2 : Boxed w a2 c.s) :
    Calls Tryz.prog 59 #[.map (some b), .int .i64 (n : Nat), .pointer (some ⟨a1, 0, none⟩), .pointer (some ⟨a2, 0, none⟩)] w fun e w' => e = .returned (.tuple #[]) ∧ Made w F b (done l c n) w' := by
  have hA := fput_any F b l c.name c.s hc.1.2 hl hz w h
  have ed : done l c n = put l (c.name, c.s) := by unfold done; rw [if_neg (by omega), if_neg (by omega), if_pos hk]
  rw [ed]
  have c1 : w.cell? ⟨a1, 0, none⟩ = some (.string (S c.name)) := h1.cell rfl
  have c2 : w.cell? ⟨a2, 0, none⟩ = some (.string (S c.s)) := h2.cell rfl
  generalize (put l (c.name, c.s)) = P at *
  clear h1 h2 h ed hk hc hn1 hl hz
  go_enter Tryz.func59, Tryz.ntmps59
  go_wp2_with fail
  refine hA.mono ?_
  rintro e w1 ⟨rfl, hM⟩
  have HM := Lib.hid hM
  clear hM hA
  go_wp2_with fail
  exact bodyPost_end (results_none rfl _ _ _) rfl ⟨rfl, HM.out⟩
set_option maxHeartbeats 1000000 in
set_option maxRecDepth 100000 in
theorem drop1_any (F : Nat → Prop) (b : Nat) (l : List File) (c : Call) (a1 : Nat) (n : Nat) (hk : c.kind = 3) (hc : Good c) (hn1 : 1 ≤ n) (w : World) (h : FM w F b l) (h1 : Boxed w a1 c.name) :
    Calls Tryz.prog 80 #[.map (some b), .int .i64 (n : Nat), .pointer (some ⟨a1, 0, none⟩)] w fun e w' => e = .returned (.tuple #[]) ∧ Made w F b (done l c n) w' := by
  have hA := fdrop_any F b l c.name hc.1.2 w h
  have ed : done l c n = without l c.name := by unfold done; rw [if_neg (by omega), if_neg (by omega), if_neg (by omega)]
  rw [ed]
  have c1 : w.cell? ⟨a1, 0, none⟩ = some (.string (S c.name)) := h1.cell rfl
  generalize without l c.name = P at *
  clear h1 h ed hk hc hn1
  go_enter Tryz.func80, Tryz.ntmps80
  go_wp2_with fail
  refine hA.mono ?_
  rintro e w1 ⟨rfl, hM⟩
  have HM := Lib.hid hM
  clear hM hA
  go_wp2_with fail
  exact bodyPost_end (results_none rfl _ _ _) rfl ⟨rfl, HM.out⟩
end Go.Proofs.YtpimdbnhpbjlkaaGreatDoor.dk
