/-
  What each call of a nil disk answers.
-/
import Derived.Test.YtiljhnheacppgaaDkL1
namespace Go.Proofs.Ytiljhnheacppgaa.dk
set_option linter.unusedVariables false
open Go.RowKit
open fl (S S_size S_append S_inj str_eq str_ne)
open rw (Arr But Row Own bnext below_box below_drew below_drewN addr_add Fr RowB)
open mp (Mp Turned kget kput kwithout kmap KSorted Ranging)

set_option maxRecDepth 100000 in
theorem nil_fuse (n : Int) (w : World) : Calls Try.prog 25 #[.pointer none, .int .i64 n] w fun e w' => e = .returned (.tuple #[]) ∧ Below w.heap.size w w' := by
  go_enter Try.func25, Try.ntmps25
  go_wp2_with fail
  exact bodyPost_end (results_none rfl _ _ _) rfl ⟨rfl, Below.refl _ _⟩
set_option maxRecDepth 100000 in
theorem nil_read (n : Bs) (w : World) : Calls Try.prog 23 #[.pointer none, .string (S n)] w fun e w' => e = .returned (.tuple #[.string ⟨#[]⟩, .int .i64 1]) ∧ Below w.heap.size w w' := by
  go_enter Try.func23, Try.ntmps23
  go_wp2_with fail
  go_ret2
  exact ⟨rfl, Below.refl _ _⟩
set_option maxRecDepth 100000 in
theorem nil_refuses (n : Bs) (w : World) : Calls Try.prog 30 #[.pointer none, .string (S n)] w fun e w' => e = .returned (.int .i64 1) ∧ Below w.heap.size w w' := by
  go_enter Try.func30, Try.ntmps30
  go_wp2_with fail
  go_ret
  exact ⟨rfl, Below.refl _ _⟩
set_option maxRecDepth 100000 in
theorem nil_sync (w : World) : Calls Try.prog 16 #[.pointer none] w fun e w' => e = .returned (.int .i64 1) ∧ Below w.heap.size w w' := by
  go_enter Try.func16, Try.ntmps16
  go_wp2_with fail
  go_ret
  exact ⟨rfl, Below.refl _ _⟩
set_option maxRecDepth 100000 in
theorem nil_crash (n : Int) (w : World) : Calls Try.prog 18 #[.pointer none, .int .i64 n] w fun e w' => e = .returned (.int .i64 1) ∧ Below w.heap.size w w' := by
  go_enter Try.func18, Try.ntmps18
  go_wp2_with fail
  go_ret
  exact ⟨rfl, Below.refl _ _⟩
set_option maxRecDepth 100000 in
theorem nil_names (w : World) : Calls Try.prog 26 #[.pointer none] w fun e w' => e = .returned (.slice none 0 0) ∧ Below w.heap.size w w' := by
  go_enter Try.func26, Try.ntmps26
  go_wp2_with fail
  go_ret
  exact ⟨rfl, Below.refl _ _⟩
set_option maxRecDepth 100000 in
theorem nil_used (w : World) : Calls Try.prog 19 #[.pointer none] w fun e w' => e = .returned (.int .i64 0) ∧ Below w.heap.size w w' := by
  go_enter Try.func19, Try.ntmps19
  go_wp2_with fail
  go_ret
  exact ⟨rfl, Below.refl _ _⟩
set_option maxRecDepth 100000 in
theorem nil_pending (w : World) : Calls Try.prog 17 #[.pointer none] w fun e w' => e = .returned (.int .i64 0) ∧ Below w.heap.size w w' := by
  go_enter Try.func17, Try.ntmps17
  go_wp2_with fail
  go_ret
  exact ⟨rfl, Below.refl _ _⟩
set_option maxRecDepth 100000 in
theorem nil_off (w : World) : Calls Try.prog 27 #[.pointer none] w fun e w' => e = .returned (.bool true) ∧ Below w.heap.size w w' := by
  go_enter Try.func27, Try.ntmps27
  go_wp2_with fail
  go_ret
  exact ⟨rfl, Below.refl _ _⟩
set_option maxRecDepth 100000 in
theorem nil_twin (w : World) : Calls Try.prog 11 #[.pointer none] w fun e w' => e = .returned (.pointer none) ∧ Below w.heap.size w w' := by
  go_enter Try.func11, Try.ntmps11
  go_wp2_with fail
  go_ret
  exact ⟨rfl, Below.refl _ _⟩
set_option maxRecDepth 100000 in
theorem nil_add (n s : Bs) (w : World) : Calls Try.prog 20 #[.pointer none, .string (S n), .string (S s)] w fun e w' => e = .returned (.int .i64 1) ∧ Below w.heap.size w w' := by
  obtain ⟨W0, hW0⟩ : ∃ W0, (w.alloc (.cells #[.string (S n)] 9)).alloc (.cells #[.string (S s)] 9) = W0 := ⟨_, rfl⟩
  have b0 : Below w.heap.size w W0 := by rw [← hW0]; exact (below_box w _).trans ((below_box (w.alloc (.cells #[.string (S n)] 9)) _).mono (by simp))
  have x1 : Boxed W0 w.heap.size n := by rw [← hW0]; exact (Arr.new w _ _).below (below_box _ _)
  have hRf := nil_refuses n W0
  have e1 : W0.cell? ⟨w.heap.size, 0, none⟩ = some (.string (S n)) := x1.cell rfl
  have HB := Lib.hid b0
  clear b0 x1
  go_enter Try.func20, Try.ntmps20
  go_wp2_with fail
  refine hRf.mono ?_
  rintro e w1 ⟨rfl, b1⟩
  have H1 := Lib.hid (HB.out.trans (b1.mono HB.out.size))
  clear hRf b1
  go_wp2_with fail
  go_ret
  exact ⟨rfl, H1.out⟩
set_option maxRecDepth 100000 in
theorem nil_put (n s : Bs) (w : World) : Calls Try.prog 12 #[.pointer none, .string (S n), .string (S s)] w fun e w' => e = .returned (.int .i64 1) ∧ Below w.heap.size w w' := by
  obtain ⟨W0, hW0⟩ : ∃ W0, (w.alloc (.cells #[.string (S n)] 9)).alloc (.cells #[.string (S s)] 9) = W0 := ⟨_, rfl⟩
  have b0 : Below w.heap.size w W0 := by rw [← hW0]; exact (below_box w _).trans ((below_box (w.alloc (.cells #[.string (S n)] 9)) _).mono (by simp))
  have x1 : Boxed W0 w.heap.size n := by rw [← hW0]; exact (Arr.new w _ _).below (below_box _ _)
  have hRf := nil_refuses n W0
  have e1 : W0.cell? ⟨w.heap.size, 0, none⟩ = some (.string (S n)) := x1.cell rfl
  have HB := Lib.hid b0
  clear b0 x1
  go_enter Try.func12, Try.ntmps12
  go_wp2_with fail
  refine hRf.mono ?_
  rintro e w1 ⟨rfl, b1⟩
  have H1 := Lib.hid (HB.out.trans (b1.mono HB.out.size))
  clear hRf b1
  go_wp2_with fail
  go_ret
  exact ⟨rfl, H1.out⟩
set_option maxRecDepth 100000 in
theorem nil_drop (n : Bs) (w : World) : Calls Try.prog 24 #[.pointer none, .string (S n)] w fun e w' => e = .returned (.int .i64 1) ∧ Below w.heap.size w w' := by
  obtain ⟨W0, hW0⟩ : ∃ W0, w.alloc (.cells #[.string (S n)] 9) = W0 := ⟨_, rfl⟩
  have b0 : Below w.heap.size w W0 := by rw [← hW0]; exact below_box w _
  have x1 : Boxed W0 w.heap.size n := by rw [← hW0]; exact Arr.new w _ _
  have hRf := nil_refuses n W0
  have e1 : W0.cell? ⟨w.heap.size, 0, none⟩ = some (.string (S n)) := x1.cell rfl
  have HB := Lib.hid b0
  clear b0 x1
  go_enter Try.func24, Try.ntmps24
  go_wp2_with fail
  refine hRf.mono ?_
  rintro e w1 ⟨rfl, b1⟩
  have H1 := Lib.hid (HB.out.trans (b1.mono HB.out.size))
  clear hRf b1
  go_wp2_with fail
  go_ret
  exact ⟨rfl, H1.out⟩
theorem lfuse_any {w0 : World} (p : Nat) (d : Dk) (n : Int) (hn : -9223372036854775808 ≤ n ∧ n ≤ 9223372036854775807) (w : World) (h : Live w0 w p d) :
    Calls Try.prog 25 #[.pointer (some ⟨p, 0, none⟩), .int .i64 n] w fun e w' => e = .returned (.tuple #[]) ∧ Live w0 w' p (fuse d n) := by
  obtain ⟨F, h1, h2, h3⟩ := h
  exact (fuse_any F p d n hn w h1).mono fun e w' ⟨a, b⟩ => ⟨a, Live.step h2 h3 b⟩
theorem loff_any {w0 : World} (p : Nat) (d : Dk) (w : World) (h : Live w0 w p d) :
    Calls Try.prog 27 #[.pointer (some ⟨p, 0, none⟩)] w fun e w' => e = .returned (.bool (off d)) ∧ w' = w := by
  obtain ⟨F, h1, h2, h3⟩ := h
  exact off_any F p d w h1
end Go.Proofs.Ytiljhnheacppgaa.dk
