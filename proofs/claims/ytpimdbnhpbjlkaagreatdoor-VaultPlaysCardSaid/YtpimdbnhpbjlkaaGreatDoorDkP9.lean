/-
  The program's Sync; how many bytes files have; files once more.
-/
import Derived.Test.YtpimdbnhpbjlkaaGreatDoorDkP8
namespace Go.Proofs.YtpimdbnhpbjlkaaGreatDoor.dk
set_option linter.unusedVariables false
open Go.RowKit
open fl (S S_size S_append S_inj str_eq str_ne)
open rw (Arr But Row Own bnext below_box below_drew below_drewN addr_add Fr RowB)
open mp (Mp Turned kget kput kwithout kmap KSorted Ranging)

set_option maxHeartbeats 1000000 in
set_option maxRecDepth 100000 in
theorem psync_any (F : Nat → Prop) (p : Nat) (d : Dk) (hd : Right d) (hl : d.lasts.length ≤ 100000) (hp : d.pend.length ≤ 100000) (w : World) (h : PD w F p d) :
    Calls Tryz.prog 43 #[.pointer (some ⟨p, 0, none⟩)] w fun e w' => e = .returned (.int .i64 ((sync d).1 : Nat)) ∧ Step w F p (sync d).2 w' := by
  have hO := off_any F p d w h
  unfold sync
  cases ho : off d with
  | true =>
    rw [ho] at hO
    have HS : Hid (Step w F p d w) := Step.same h (Below.refl _ _)
    clear h hd hl hp ho
    go_enter Tryz.func43, Tryz.ntmps43
    go_wp2_with fail
    refine hO.mono ?_
    rintro e w1 ⟨rfl, rfl⟩
    clear hO
    go_wp2_with fail
    go_ret
    exact ⟨rfl, HS.out⟩
  | false =>
    rw [ho] at hO
    have c5 : w.cell? ⟨p, 5, none⟩ = some (.int .i64 (count d.pend : Nat)) := by
      obtain ⟨bs, bl, Fs, Fl, pv, ts, fz, h1, _⟩ := h
      exact h1.cell rfl
    have hS := settle_any F p d (count d.pend) hd hl hp (Nat.le_refl _) w h
    rw [again_full _ _ _ (Nat.le_refl _), ← hd.seen] at hS
    have HB : Hid (∀ F1 w1, PD w1 F1 p { d with lasts := d.seen, pend := [] } → Calls Tryz.prog 72 #[.pointer (some ⟨p, 0, none⟩)] w1 fun e w' => e = .returned (.tuple #[]) ∧ Step w1 F1 p (spend { d with lasts := d.seen, pend := [] }) w') :=
      fun F1 w1 h1 => burn_any F1 p { d with lasts := d.seen, pend := [] } ho w1 h1
    clear h hd hl hp ho
    go_enter Tryz.func43, Tryz.ntmps43
    go_wp2_with fail
    refine hO.mono ?_
    rintro e w1 ⟨rfl, rfl⟩
    clear hO
    go_wp2_with fail
    refine hS.mono ?_
    rintro e w2 ⟨rfl, F1, p1, f1, n1⟩
    have HF := Lib.hid (And.intro f1 n1)
    have hB := HB.out F1 w2 p1
    clear hS p1 f1 n1 HB c5
    go_wp2_with fail
    refine hB.mono ?_
    rintro e w3 ⟨rfl, s3⟩
    have HS := Lib.hid (Step.after HF.out.1 HF.out.2 s3)
    clear hB s3 HF
    go_wp2_with fail
    go_ret
    exact ⟨rfl, HS.out⟩

/-! ### Files gone over -/
theorem vals_mem {fs : List FV} {n : Bs} {v : Value} (h : (n, v) ∈ vals fs) : ∃ s r, (n, (s, r)) ∈ fs ∧ v = .agg #[r] := by
  obtain ⟨f, hf, e⟩ := List.mem_map.1 h
  injection e with e1 e2
  subst e1 e2
  exact ⟨f.2.1, f.2.2, hf, rfl⟩
theorem vals_without (fs : List FV) (n : Bs) : kwithout (vals fs) n = vals (kwithout fs n) := by unfold vals; rw [mp.kmap_without]
theorem used_take_one {fs : List FV} (h : KSorted fs) {n s : Bs} {r : Value} (hm : (n, (s, r)) ∈ fs) : used (con fs) = used (con (kwithout fs n)) + s.length := by
  have h1 := used_without (l := con fs) ((mp.kmap_sorted _).2 h) n
  rw [con_without]
  have : get (con fs) n = some s := by
    rw [← get_k, mp.kmap_get, mp.kget_of_mem h hm]
    rfl
  rw [this] at h1
  exact h1
theorem used_con_le {fs : List FV} (h : KSorted fs) {n s : Bs} {r : Value} (hm : (n, (s, r)) ∈ fs) : s.length ≤ used (con fs) := by have := used_take_one h hm; omega

set_option maxHeartbeats 1000000 in
set_option maxRecDepth 100000 in
theorem sum_any (F : Nat → Prop) (b : Nat) (l : List File) (hu : used l ≤ 1048576) (w : World) (h : FM w F b l) :
    Calls Tryz.prog 67 #[.map (some b)] w fun e w' => e = .returned (.int .i64 (used l : Nat)) ∧ Below w.heap.size w w' := by
  obtain ⟨fs, h1, rfl, hF⟩ := h
  obtain ⟨w0, hr, hG, hB, hz⟩ := h1.map.range und_f
  have H1 := Lib.hid h1
  have HB0 := Lib.hid hB
  have HG0 := Lib.hid hG
  have HU := Lib.hid hu
  clear hB hG hz h1 hF hu
  go_enter Tryz.func67, Tryz.ntmps67
  go_wp2_with fail
  go_loopw [3] (fun v wr => ∃ (fr : List FV) (m : Nat), v = .int .i64 m ∧ Hid (fr.Sublist fs ∧ Ranging wr b w.heap.size (vals fs) (vals fr) ∧ m + used (con fr) = used (con fs) ∧ Below w.heap.size w wr))
    (fun _ wr => wr.rangeLeft b w.heap.size)
  case atStart => exact ⟨fs, 0, rfl, List.Sublist.refl _, HG0.out, by simp, HB0.out⟩
  case round =>
    obtain ⟨fr, m, rfl, HI⟩ := hrel
    rcases HI.out.2.1.next 0 with ⟨e1, hrun⟩ | ⟨n, v, w1, hm, hn, hrun, hG1, hT, hlt, hen⟩
    · have hfr : fr = [] := by cases fr with | nil => rfl | cons _ _ => cases e1
      subst hfr
      have HE : Hid (m = used (con fs) ∧ Below w.heap.size w wr) := ⟨by have := HI.out.2.2.1; simpa [used] using this, HI.out.2.2.2⟩
      clear HI e1
      go_wp2_with fail
      go_ret
      rw [HE.out.1]
      exact ⟨rfl, HE.out.2⟩
    · obtain ⟨s, r, hm2, rfl⟩ := vals_mem hm
      have hsf := HI.out.1
      have hso : KSorted fr := List.Pairwise.sublist hsf H1.out.sorted
      have hrow := H1.out.own _ (hsf.subset hm2)
      obtain ⟨a, c, e, _⟩ := hrow.form
      simp only at e
      subst e
      have ht := used_take_one hso hm2
      have hU := HU.out
      have hsum := HI.out.2.2.1
      have b1 : Below w.heap.size wr w1 := ⟨hT.os, hT.tape, hT.output, Nat.le_of_eq hT.size.symm, fun k hk => hT.block k (by omega)⟩
      have b2 := below_box w1 (.cells #[.slice (some a) s.length c] 102)
      have bb2 : Below w.heap.size wr (w1.alloc (.cells #[.slice (some a) s.length c] 102)) := b1.trans (b2.mono (by have := HI.out.2.2.2.size; rw [hT.size]; exact this))
      have HN : Hid ((kwithout fr n).Sublist fs ∧ Ranging (w1.alloc (.cells #[.slice (some a) s.length c] 102)) b w.heap.size (vals fs) (vals (kwithout fr n)) ∧ (m + s.length) + used (con (kwithout fr n)) = used (con fs) ∧ Below w.heap.size w (w1.alloc (.cells #[.slice (some a) s.length c] 102)) ∧
          (w1.alloc (.cells #[.slice (some a) s.length c] 102)).rangeLeft b w.heap.size < wr.rangeLeft b w.heap.size) := by
        refine ⟨List.Sublist.trans List.filter_sublist hsf, ?_, by omega, HI.out.2.2.2.trans bb2, ?_⟩
        · rw [← vals_without]
          exact hG1.of (b2.block _ hG1.mp.lt) (b2.block _ hG1.lt)
        · rw [mp.left_of (b2.block _ hG1.mp.lt) (b2.block _ hG1.lt)]
          exact hlt
      have hw : IntKind.i64.wrap ((m : Int) + (s.length : Int)) = ((m + s.length : Nat) : Int) := by
        rw [IntWalk.i64_in _ (by omega)]; omega
      obtain ⟨ms, hms⟩ : ∃ ms, m + s.length = ms := ⟨_, rfl⟩
      rw [hms] at hw HN
      clear HI hm hm2 hn hG1 hT hlt hsf hso hrow ht hU hsum b1 b2 bb2 hms
      generalize s.length = L at *
      go_wp2_with fail
      go_roundw
      case rel => exact ⟨kwithout fr n, ms, rfl, HN.out.1, HN.out.2.1, HN.out.2.2.1, HN.out.2.2.2.1⟩
      case measure => exact HN.out.2.2.2.2
end Go.Proofs.YtpimdbnhpbjlkaaGreatDoor.dk
