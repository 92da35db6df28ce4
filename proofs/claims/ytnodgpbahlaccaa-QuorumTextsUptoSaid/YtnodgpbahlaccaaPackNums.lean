/-
  What pack.Nums answers: how many numbers there are, then each, as bytes.
-/
import Derived.Test.YtnodgpbahlaccaaPackNum
namespace Go.Proofs.Ytnodgpbahlaccaa.pk
open Go.RowKit

/-- The bytes of numbers, one behind the other. -/
def each (l : List Nat) : List UInt8 := l.flatMap Lib.uvarint
theorem each_nil : each [] = [] := rfl
theorem each_cons (x : Nat) (l : List Nat) : each (x :: l) = Lib.uvarint x ++ each l := by simp [each]
theorem each_take_succ (l : List Nat) (k : Nat) (h : k < l.length) : each (l.take (k + 1)) = each (l.take k) ++ Lib.uvarint l[k] := by
  unfold each
  rw [List.take_succ_eq_append_getElem h, List.flatMap_append]
  simp only [List.flatMap_cons, List.flatMap_nil, List.append_nil]
theorem each_len (l : List Nat) (h : ∀ x ∈ l, x < 18446744073709551616) : (each l).length ≤ 10 * l.length := by
  induction l with
  | nil => simp [each]
  | cons x l ih =>
    have h1 := Lib.uvarint_length64 (h x (by simp))
    have h2 := ih (fun y hy => h y (by simp [hy]))
    rw [each_cons, List.length_append, List.length_cons]
    omega

set_option maxHeartbeats 4000000 in
set_option maxRecDepth 100000 in
theorem nums_some (b off cap : Nat) (l : List Nat) (hl : ∀ x ∈ l, x < 18446744073709551616) (hlen : 10 * l.length + 20 ≤ 140737488355328) (w : World) (hbw : b < w.heap.size)
    (hc : ∀ j (hj : j < l.length), w.cell? ⟨b, off + j, none⟩ = some (.int .u64 (l[j] : Nat))) :
    Calls Try.prog 41 #[.slice (some ⟨b, off, none⟩) l.length cap] w fun e w' => e = .returned (.string (S (Lib.uvarint l.length ++ each l))) ∧ Below w.heap.size w w' := by
  have hl10 := Lib.uvarint_length64 (x := l.length) (by omega)
  have hpos := Lib.uvarint_pos l.length
  obtain ⟨n, hn⟩ : ∃ n, n = l.length := ⟨_, rfl⟩
  have hnl : n ≤ 14073748835530 := by omega
  have HN := Lib.hid hn
  rw [← hn] at hl10 hpos
  rw [← hn]
  clear hn
  have hcH : Hid (∀ j (hj : j < l.length), w.cell? ⟨b, off + j, none⟩ = some (.int .u64 (l[j] : Nat))) := hc
  have hlH : Hid (∀ x ∈ l, x < 18446744073709551616) := hl
  clear hc hl hlen
  go_enter Try.func41, Try.ntmps41
  go_wp2_with fail
  refine (append_any w.heap.size 0 n (by omega) _ [] w (World.ownsRow_nil _ _ _ _) (Nat.le_refl _) (by omega)).mono ?_
  rintro e w1 ⟨v1, rfl, hown, hb1⟩
  rw [Nat.zero_add, List.nil_append] at hown
  go_wp2_with fail
  go_loopw [3, 12] (fun v i wr => ∃ k : Nat, k ≤ n ∧ i = .int .i64 k ∧ wr.ownsRow w.heap.size 5 1 v (Lib.uvarint n ++ each (l.take k)).length (Lib.byteCells (Lib.uvarint n ++ each (l.take k))) ∧ Below w.heap.size w wr)
    (fun _ i _ => n - (intOf i).toNat)
  case atStart => exact ⟨0, Nat.zero_le _, rfl, by simpa [each] using hown, hb1⟩
  case round =>
    obtain ⟨k, hk, rfl, hown1, hnx⟩ := hrel
    by_cases hlt : k < n
    · have hkl : k < l.length := by have := HN.out; omega
      obtain ⟨x, hx⟩ : ∃ x, x = l[k] := ⟨_, rfl⟩
      have hx64 : x < 18446744073709551616 := by rw [hx]; exact hlH.out _ (List.getElem_mem _)
      have hcell : wr.cell? ⟨b, off + k, none⟩ = some (.int .u64 (x : Int)) := by
        rw [hnx.cell (by exact hbw), hcH.out k hkl, hx]
      have hsz : (Lib.uvarint n ++ each (l.take k)).length + 10 ≤ 140737488355328 := by
        have h1 := each_len (l.take k) (fun y hy => hlH.out y (List.mem_of_mem_take hy))
        have h2 : (l.take k).length ≤ k := List.length_take_le _ _
        rw [List.length_append]
        omega
      have HX := Lib.hid hx
      clear hx
      have hB : w.heap.size ≤ wr.heap.size := hnx.size
      have hownH := Lib.hid hown1
      clear hown1 hown
      go_wp2_with fail
      refine (append_any w.heap.size _ x hx64 _ _ wr hownH.out hB hsz).mono ?_
      rintro e w2 ⟨v2, rfl, hown2, hb2⟩
      have hown3 := Lib.hid hown2
      clear hown2
      go_wp2
      go_roundw
      case rel =>
        refine ⟨k + 1, by omega, by go_num, ?_, hnx.trans hb2⟩
        have h := hown3.out
        rw [← Lib.byteCells_append, ← List.length_append, List.append_assoc] at h
        rw [each_take_succ l k hkl, ← HX.out]
        exact h
      case measure => simp [intOf]; omega
    · obtain rfl : k = n := by omega
      have htk : l.take k = l := List.take_of_length_le (by have := HN.out; omega)
      rw [htk] at hown1
      have hcv := conv_own wr _ _ _ (fun h => by have := congrArg List.length h; rw [List.length_append, List.length_nil] at this; omega) hown1
      clear hown1 hown
      go_wp2
      go_ret
      exact ⟨rfl, hnx⟩

set_option maxRecDepth 100000 in
theorem nums_zero (a : Option Addr) (cap : Nat) (w : World) :
    Calls Try.prog 41 #[.slice a 0 cap] w fun e w' => e = .returned (.string (S [0])) ∧ Below w.heap.size w w' := by
  have e0 : Lib.uvarint 0 = [0] := by rw [Lib.uvarint_small (by omega)]; rfl
  go_enter Try.func41, Try.ntmps41
  go_wp2_with fail
  refine (append_any w.heap.size 0 0 (by omega) _ [] w (World.ownsRow_nil _ _ _ _) (Nat.le_refl _) (by omega)).mono ?_
  rintro e w1 ⟨v1, rfl, hown, hb1⟩
  rw [Nat.zero_add, List.nil_append, e0] at hown
  have hcv := conv_own w1 _ _ [0] (by simp) hown
  clear hown e0
  go_wp2_with fail
  refine wp_loop_rounds 1 ?_
  rw [rounds_succ]
  go_wp2
  go_ret
  exact ⟨rfl, hb1⟩
end Go.Proofs.Ytnodgpbahlaccaa.pk
