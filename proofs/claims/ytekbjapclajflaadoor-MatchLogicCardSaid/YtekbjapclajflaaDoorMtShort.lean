/-
  What few, short, says of the laws answer.
-/
import Derived.Test.YtekbjapclajflaaDoorMtRows
namespace Go.Proofs.YtekbjapclajflaaDoor.mt
set_option linter.unusedVariables false
open Go.RowKit Go.Shelf
open fl (S S_size S_append S_inj)
attribute [local go_sem] Oper.semAt_some

def few (n : Nat) : Nat := min n 1048576
def part (k : Key) : Nat := few k.text.length + few k.field.length
def tot (l : List Key) : Nat := (l.map part).sum
theorem tot_take (l : List Key) (i : Nat) (h : i < l.length) : tot (l.take (i + 1)) = tot (l.take i) + part l[i] := by
  unfold tot
  rw [List.take_succ_eq_append_getElem h, List.map_append, List.sum_append]
  simp
theorem part_le (k : Key) : part k ≤ 2097152 := by unfold part few; omega
theorem tot_le : ∀ l : List Key, tot l ≤ l.length * 2097152
  | [] => by simp [tot]
  | k :: l => by
    have := tot_le l
    have := part_le k
    unfold tot at *
    simp only [List.map_cons, List.sum_cons, List.length_cons]
    omega
theorem part_mem : ∀ {l : List Key} {k : Key}, k ∈ l → part k ≤ tot l
  | x :: l, k, h => by
    unfold tot
    simp only [List.map_cons, List.sum_cons]
    rcases List.mem_cons.1 h with rfl | h
    · omega
    · have := part_mem h
      unfold tot at this
      omega
def shortL (l : List Key) (n : Nat) : Bool := decide (l.length ≤ 64) && decide (few n + tot l ≤ 4096)
theorem short_yes {l : List Key} {n : Nat} (h : shortL l n = true) : l.length ≤ 64 ∧ n ≤ 4096 ∧ ∀ k ∈ l, k.text.length ≤ 4096 ∧ k.field.length ≤ 4096 := by
  unfold shortL at h
  rw [Bool.and_eq_true, decide_eq_true_eq, decide_eq_true_eq] at h
  refine ⟨h.1, ?_, fun k hk => ?_⟩
  · have := h.2
    unfold few at this
    omega
  · have := part_mem hk
    unfold part few at this
    omega
theorem short_light {l : List Key} {n : Nat} (h : shortL l n = true) : ∀ k ∈ l, Light k := fun k hk => by
  have := (short_yes h).2.2 k hk
  exact ⟨by omega, by omega⟩

set_option maxRecDepth 100000 in
theorem few_any (n : Nat) (w : World) : Calls Tryd.prog 12 #[.int .i64 (n : Nat)] w fun e w' => e = .returned (.int .i64 (few n : Nat)) ∧ w' = w := by
  by_cases h : n ≤ 1048576
  · have hf : few n = n := Nat.min_eq_left h
    have hi : (n : Int) ≤ 1048576 := by omega
    rw [hf]
    clear h hf
    go_enter Tryd.func12, Tryd.ntmps12
    go_wp2
    go_ret
    exact ⟨by first | rfl | (simp; omega) | (congr 3; omega), rfl⟩
  · have hf : few n = 1048576 := Nat.min_eq_right (by omega)
    have hi : ¬ (n : Int) ≤ 1048576 := by omega
    rw [hf]
    clear h hf
    go_enter Tryd.func12, Tryd.ntmps12
    go_wp2
    go_ret
    exact ⟨by first | rfl | (simp; omega) | (congr 3; omega), rfl⟩

set_option maxHeartbeats 1000000 in
set_option maxRecDepth 100000 in
theorem short_any (v : Value) (l : List Key) (hl : l.length ≤ 140737488355328) (m : ByteArray) (hm : m.size ≤ 281474976710656) (w : World) (h : Sl w v l) :
    Calls Tryd.prog 7 #[v, .string m] w fun e w' => e = .returned (.bool (shortL l m.size)) ∧ Below w.heap.size w w' := by
  obtain ⟨⟨a, c, rfl, _, hr, _⟩, _⟩ := h
  by_cases h64 : l.length ≤ 64
  · have hi : ¬ ((l.length : Nat) : Int) > 64 := by omega
    have HS : Hid (shortL l m.size = decide (few m.size + tot l ≤ 4096)) := by
      show shortL l m.size = _
      unfold shortL
      rw [decide_eq_true h64, Bool.true_and]
    have HF := Lib.hid (fun n w => few_any n w)
    have hfm : few m.size ≤ 1048576 := Nat.min_le_right _ _
    generalize shortL l m.size = r at *
    go_enter Tryd.func7, Tryd.ntmps7
    go_wp2_with fail
    refine (HF.out m.size w).mono ?_
    rintro e w1 ⟨rfl, rfl⟩
    obtain ⟨fm, hfmm⟩ : ∃ x, few m.size = x := ⟨_, rfl⟩
    rw [hfmm] at HS hfm ⊢
    clear hfmm
    go_wp2_with fail
    go_loopw [5, 6] (fun s i wr => ∃ k : Nat, i = .int .i64 k ∧ k ≤ l.length ∧ (∃ t : Nat, s = .int .i64 t ∧ Hid (t = fm + tot (l.take k)) ∧ t ≤ 200000000) ∧ Below w1.heap.size w1 wr)
      (fun _ i _ => l.length - (intOf i).toNat)
    case atStart => exact ⟨0, rfl, Nat.zero_le _, ⟨fm, rfl, by show fm = fm + tot (l.take 0); simp [tot], by omega⟩, Below.refl _ _⟩
    case round =>
      obtain ⟨k, rfl, hk, ⟨t, rfl, HT, ht⟩, hB⟩ := hrel
      by_cases hlt : k < l.length
      · obtain ⟨b, off, rfl, hb, c0, c1, c2, c3, c4, c5⟩ := rowK_at (hr.later hB) hlt
        have hki : (k : Int) < (l.length : Int) := by omega
        obtain ⟨x, hx⟩ : ∃ x, l[k]'hlt = x := ⟨_, rfl⟩
        have HN : Hid (fm + tot (l.take (k + 1)) = t + (few x.text.length + few x.field.length)) := by
          show _ = _
          rw [tot_take l k hlt, HT.out, hx]
          unfold part
          omega
        have hbt : fm + tot (l.take (k + 1)) ≤ 200000000 := by
          have h1 := tot_le (l.take (k + 1))
          rw [List.length_take] at h1
          omega
        have hp1 : few x.text.length ≤ 1048576 := Nat.min_le_right _ _
        have hp2 : few x.field.length ≤ 1048576 := Nat.min_le_right _ _
        have z1 := S_size x.text
        have z2 := S_size x.field
        rw [hx] at c0 c1 c2 c3 c4 c5
        rw [HN.out] at hbt
        generalize x.text = tx at *
        generalize x.field = fx at *
        clear hx c0 c1 c4 c5
        have HB := Lib.hid hB
        have HB0 := Lib.hid hr
        clear hB hr hb
        go_wp2_with fail
        go_quiet (first | (go_at_call 12; refine Calls.quiet_of_same (HF.out _ _)))
        have hBq := Lib.hid (sq.below_drewN HB.out nq)
        have HT2 : Hid (t + (few tx.length + few fx.length) = fm + tot (l.take (k + 1))) := HN.out.symm
        clear HB c2 c3 HT
        generalize few tx.length = p1 at *
        generalize few fx.length = p2 at *
        go_wp2_with fail
        go_roundw
        case rel => exact ⟨k + 1, by go_num, by omega, ⟨t + (p1 + p2), by go_num, HT2, hbt⟩, hBq.out⟩
        case measure => simp [intOf]; omega
      · obtain rfl : k = l.length := by omega
        rw [List.take_length] at HT
        have HF2 : Hid (r = decide (t ≤ 4096)) := by rw [HT.out]; exact HS.out
        have hd : decide ((t : Int) ≤ 4096) = decide (t ≤ 4096) := by
          by_cases h : t ≤ 4096
          · rw [decide_eq_true h, decide_eq_true (by omega)]
          · rw [decide_eq_false h, decide_eq_false (by omega)]
        clear hr HT HS
        generalize decide (t ≤ 4096) = q at *
        go_wp2_with fail
        go_ret
        exact ⟨by rw [HF2.out]; first | rfl | (rw [← hd]; rfl) | simp [← hd], hB⟩
  · have hi : ((l.length : Nat) : Int) > 64 := by omega
    have HS : shortL l m.size = false := by
      unfold shortL
      rw [decide_eq_false h64, Bool.false_and]
    rw [HS]
    clear HS h64 hr
    generalize l.length = n at *
    go_enter Tryd.func7, Tryd.ntmps7
    go_wp2_with fail
    go_ret
    exact ⟨rfl, Below.refl _ _⟩

set_option maxHeartbeats 1000000 in
set_option maxRecDepth 100000 in
theorem says_any (v : Value) (l : List Key) (hl : l.length ≤ 140737488355328) (hlt : l.length ≤ 1000 → ∀ k ∈ l, Light k) (y : Mail) (hm : y.m.length < 4294967281) (M : Int) (w : World) (hM : w.cell? ⟨0, 0, none⟩ = some (.int .i64 M)) (h : Sl w v l) (hf : FlagsIn w y) :
    Calls Tryd.prog 9 #[v, mailV y] w fun e w' => e = .returned (.bool (says (alone y) l)) ∧ Below w.heap.size w w' := by
  have b0 := below_box w (.cells #[.int .u64 (y.uid : Nat), y.fv, .int .u64 (y.mod : Nat), .string y.hash, .int .u64 (y.size : Nat), .int .u64 (y.seq : Nat), .int .u64 (y.mostSeq : Nat), .int .u64 (y.mostUid : Nat), .string (S y.m)] 30)
  have hc := match_any v l hl hlt y hm M _ ((b0.cell (p := ⟨0, 0, none⟩) (World.block_lt_of_cell? w _ hM)).trans hM) (h.later b0) (hf.later b0)
  have HB := Lib.hid b0
  unfold letterV placeV at hc
  unfold mailV
  generalize says (alone y) l = r at *
  clear hM h hf b0 hlt hm
  go_enter Tryd.func9, Tryd.ntmps9
  go_wp2_with fail
  refine hc.mono ?_
  rintro e w1 ⟨rfl, b1⟩
  have B1 := HB.out.trans (b1.mono HB.out.size)
  clear hc b1 HB
  go_wp2_with fail
  go_ret
  exact ⟨rfl, B1⟩
end Go.Proofs.YtekbjapclajflaaDoor.mt
