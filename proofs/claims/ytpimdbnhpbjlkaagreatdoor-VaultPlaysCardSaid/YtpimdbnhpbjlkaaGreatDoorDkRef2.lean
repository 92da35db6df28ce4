/-
  What the reference's with, Used, Steps, Done, Same answer.
-/
import Derived.Test.YtpimdbnhpbjlkaaGreatDoorDkRef
namespace Go.Proofs.YtpimdbnhpbjlkaaGreatDoor.dk
set_option linter.unusedVariables false
open Go.RowKit
open fl (S S_size S_append S_inj str_eq str_ne)
open rw (Arr But Row Own bnext below_box below_drew below_drewN addr_add)

theorem ins_less {f x : File} {l : List File} (h : f.1 < x.1) : ins f (x :: l) = f :: x :: l := by rw [ins, if_pos h]
theorem ins_not {f x : File} {l : List File} (h : ¬ f.1 < x.1) : ins f (x :: l) = x :: ins f l := by rw [ins, if_neg h]
theorem ins_length (f : File) : ∀ l : List File, (ins f l).length = l.length + 1
  | [] => rfl
  | x :: l => by
    unfold ins
    split
    · rfl
    · simp [ins_length f l]
theorem without_length (l : List File) (n : Bs) : (without l n).length ≤ l.length := List.length_filter_le _ _
theorem put_length (l : List File) (f : File) : (put l f).length ≤ l.length + 1 := by unfold put; rw [ins_length]; have := without_length l f.1; omega
/-- How far a file has been put among those that were gone over. -/
structure Ins (f : File) (l : List File) (k : Nat) (q : Bool) (o : List File) : Prop where
  t : q = true → ins f l = o ++ l.drop k
  f : q = false → o = l.take k ∧ ins f l = o ++ ins f (l.drop k)
  n : o.length ≤ k + 1
theorem Ins.start (f : File) (l : List File) : Ins f l 0 false [] := ⟨fun h => (by cases h), fun _ => ⟨rfl, rfl⟩, by simp⟩
theorem Ins.keep {f : File} {l : List File} {k : Nat} {o : List File} (h : Ins f l k true o) (hk : k < l.length) : Ins f l (k + 1) true (o ++ [l[k]]) :=
  ⟨fun _ => by rw [h.t rfl, List.drop_eq_getElem_cons hk]; simp, fun e => (by cases e), by have := h.n; simp; omega⟩
theorem Ins.less {f : File} {l : List File} {k : Nat} {o : List File} (h : Ins f l k false o) (hk : k < l.length) (hl : f.1 < l[k].1) : Ins f l (k + 1) true ((o ++ [f]) ++ [l[k]]) := by
  obtain ⟨h1, h2⟩ := h.f rfl
  refine ⟨fun _ => ?_, fun e => (by cases e), ?_⟩
  · rw [h2, List.drop_eq_getElem_cons hk, ins_less hl]; simp
  · rw [h1]; simp; omega
theorem Ins.more {f : File} {l : List File} {k : Nat} {o : List File} (h : Ins f l k false o) (hk : k < l.length) (hl : ¬ f.1 < l[k].1) : Ins f l (k + 1) false (o ++ [l[k]]) := by
  obtain ⟨h1, h2⟩ := h.f rfl
  refine ⟨fun e => (by cases e), fun _ => ⟨?_, ?_⟩, ?_⟩
  · rw [h1, List.take_succ_eq_append_getElem hk]
  · rw [h2, List.drop_eq_getElem_cons hk, ins_not hl]; simp
  · have := h.n; simp; omega
theorem Ins.done {f : File} {l : List File} {o : List File} (h : Ins f l l.length true o) : ins f l = o := by rw [h.t rfl, List.drop_length, List.append_nil]
theorem Ins.last {f : File} {l : List File} {o : List File} (h : Ins f l l.length false o) : ins f l = o ++ [f] := by
  obtain ⟨_, h2⟩ := h.f rfl
  rw [h2, List.drop_length]
  rfl

theorem own_lower {w : World} {b b' : Nat} {v : Value} {l : List File} (h : Own fileSh w b v l) (hb : b' ≤ b) : Own fileSh w b' v l := by
  obtain ⟨h1, h2 | ⟨g, cap, cur, h3, h4, h5⟩⟩ := h
  · exact ⟨h1, .inl h2⟩
  · exact ⟨h1, .inr ⟨g, cap, cur, h3, by omega, h5⟩⟩

set_option maxHeartbeats 4000000 in
set_option maxRecDepth 100000 in
theorem refwith_any (v : Value) (l : List File) (n s : Bs) (hl : l.length ≤ 1000000) (w : World) (hs : SlF w v l) :
    Calls Tryz.prog 63 #[v, .agg #[.string (S n), .string (S s)]] w fun e w' => (∃ u, e = .returned u ∧ Own fileSh w' w.heap.size u (put l (n, s))) ∧ Below w.heap.size w w' := by
  have b0 := below_box w (.cells #[.string (S n), .string (S s)] 74)
  have hc := refwithout_any v l n hl _ (hs.later _ b0)
  have A0 := Lib.hid (Arr.new w 74 #[.string (S n), .string (S s)])
  have B0 := Lib.hid b0
  have hwl := without_length l n
  have HP : Hid (put l (n, s) = ins (n, s) (without l n)) := rfl
  obtain ⟨va, vn, vc, rfl⟩ : ∃ a n c, v = .slice a n c := by obtain ⟨a, c, e, _⟩ := hs; exact ⟨a, _, c, e⟩
  clear hs b0
  generalize without l n = m at *
  go_enter Tryz.func63, Tryz.ntmps63
  go_wp2_with fail
  refine hc.mono ?_
  rintro e w2 ⟨⟨u, rfl, ho⟩, b2⟩
  have B2 : Hid (Below w.heap.size w w2) := bnext B0.out b2
  have A2 := Lib.hid (A0.out.below b2)
  obtain ⟨a, cap, e, hcap, hr, hnn⟩ := ho.sl
  subst e
  have hwb : w.heap.size < w2.heap.size := A2.out.lt
  clear hc b2 A0 B0 ho hcap hnn
  go_wp2_with fail
  go_loopw [5, 6, 7] (fun o d i wr => ∃ (k : Nat) (q : Bool) (ol : List File), i = .int .i64 k ∧ k ≤ m.length ∧ d = .bool q ∧ Hid (Ins (n, s) m k q ol ∧ Own fileSh wr w2.heap.size o ol ∧ Below w2.heap.size w2 wr))
    (fun _ _ i _ => m.length - (intOf i).toNat)
  case atStart => exact ⟨0, false, [], rfl, Nat.zero_le _, rfl, Ins.start _ _, Own.nil _ _ _, Below.refl _ _⟩
  case round =>
    obtain ⟨k, q, ol, rfl, hk, rfl, HI⟩ := hrel
    obtain ⟨hi, ho, hB⟩ := HI.out
    by_cases hlt : k < m.length
    · obtain ⟨b, off, rfl, hb, c0, c1⟩ := slF_at (hr.keep _ hB.size (fun b _ _ h => hB.block b h)) hlt
      have hki : (k : Int) < (m.length : Int) := by omega
      have f0 : wr.cell? ⟨w.heap.size, 0, none⟩ = some (.string (S n)) := (A2.out.below hB).cell rfl
      have f1 : wr.cell? ⟨w.heap.size, 1, none⟩ = some (.string (S s)) := (A2.out.below hB).cell rfl
      have hls := less_S n (m[k]'hlt).1
      obtain ⟨x, hx⟩ : ∃ x, m[k]'hlt = x := ⟨_, rfl⟩
      have HX : Hid (∃ h : k < m.length, m[k]'h = x) := ⟨hlt, hx⟩
      rw [hx] at c0 c1 hls
      have HQ : Hid (∀ nq, Own fileSh (wr.drewN nq) w2.heap.size u5 ol ∧ Below w2.heap.size w2 (wr.drewN nq) ∧ (wr.drewN nq).cell? ⟨b, off + k * 2, none⟩ = some (.string (S x.1)) ∧ (wr.drewN nq).cell? ⟨b, off + k * 2 + 1, none⟩ = some (.string (S x.2)) ∧ (wr.drewN nq).cell? ⟨w.heap.size, 0, none⟩ = some (.string (S n)) ∧ (wr.drewN nq).cell? ⟨w.heap.size, 1, none⟩ = some (.string (S s))) :=
        fun nq => ⟨ho, below_drewN hB nq, c0, c1, f0, f1⟩
      have HS := Lib.hid hi
      clear hi ho hB hx hlt HI
      cases q with
      | true =>
        go_wp2
        go_quiet (fail)
        obtain ⟨q1, q2, q3, q4, q5, q6⟩ := HQ.out nq
        clear HQ c0 c1 f0 f1 hls
        generalize wr.drewN nq = wq at *
        obtain ⟨o', w', h1, h2, h3⟩ := rw.append_one fileSh w2.heap.size _ ol x (by have := HS.out.n; have := HX.out.1; omega) wq q1 q2.size
        have HN : Hid (Ins (n, s) m (k + 1) true (ol ++ [x]) ∧ Own fileSh w' w2.heap.size o' (ol ++ [x]) ∧ Below w2.heap.size w2 w') := by
          have h4 := HS.out.keep HX.out.1
          rw [HX.out.2] at h4
          exact ⟨h4, h2, q2.trans h3⟩
        have HR := Lib.hid h1
        clear q1 q2 h1 h2 h3
        go_wp2_with (at_builtin; refine rw.wpList_append_at _ _ _ rfl rfl _ _ _ _ rfl rfl HR.out ?_)
        have hl2 := HX.out.1
        go_roundw
        case rel => exact ⟨k + 1, true, _, by go_num, by omega, rfl, HN⟩
        case measure => simp [intOf]; omega
      | false =>
        by_cases hlt2 : n < x.1
        · rw [decide_eq_true hlt2] at hls
          go_wp2
          go_quiet (fail)
          obtain ⟨q1, q2, q3, q4, q5, q6⟩ := HQ.out nq
          clear HQ c0 c1 f0 f1 hls
          generalize wr.drewN nq = wq at *
          obtain ⟨o1, w1, h1, h2, h3⟩ := rw.append_one fileSh w2.heap.size _ ol (n, s) (by have := HS.out.n; have := HX.out.1; omega) wq q1 q2.size
          have q2' := q2.trans h3
          have kk : w1.cell? ⟨b, off + k * 2, none⟩ = some (.string (S x.1)) ∧ w1.cell? ⟨b, off + k * 2 + 1, none⟩ = some (.string (S x.2)) := by
            obtain ⟨b', off', e', hb', c0', c1'⟩ := slF_at (hr.keep _ q2'.size (fun b _ _ h => q2'.block b h)) HX.out.1
            cases e'
            rw [HX.out.2] at c0' c1'
            exact ⟨c0', c1'⟩
          obtain ⟨k0, k1⟩ := kk
          obtain ⟨o2, w3, g1, g2, g3⟩ := rw.append_one fileSh w2.heap.size _ (ol ++ [(n, s)]) x (by have := HS.out.n; have := HX.out.1; simp; omega) w1 h2 q2'.size
          have HN : Hid (Ins (n, s) m (k + 1) true ((ol ++ [(n, s)]) ++ [x]) ∧ Own fileSh w3 w2.heap.size o2 ((ol ++ [(n, s)]) ++ [x]) ∧ Below w2.heap.size w2 w3) := by
            have h4 := HS.out.less HX.out.1 (by rw [HX.out.2]; exact hlt2)
            rw [HX.out.2] at h4
            exact ⟨h4, g2, q2'.trans g3⟩
          have HR := Lib.hid h1
          have HR2 := Lib.hid g1
          clear q1 q2 h1 h2 h3 g1 g2 g3 q2'
          go_wp2_with (at_builtin; first | (refine rw.wpList_append_at _ _ _ rfl rfl _ _ _ _ rfl rfl HR.out ?_; clear HR) | (refine rw.wpList_append_at _ _ _ rfl rfl _ _ _ _ rfl rfl HR2.out ?_; clear HR2))
          have hl2 := HX.out.1
          go_roundw
          case rel => exact ⟨k + 1, true, _, by go_num, by omega, rfl, HN⟩
          case measure => simp [intOf]; omega
        · rw [decide_eq_false hlt2] at hls
          go_wp2
          go_quiet (fail)
          obtain ⟨q1, q2, q3, q4, q5, q6⟩ := HQ.out nq
          clear HQ c0 c1 f0 f1 hls
          generalize wr.drewN nq = wq at *
          obtain ⟨o', w', h1, h2, h3⟩ := rw.append_one fileSh w2.heap.size _ ol x (by have := HS.out.n; have := HX.out.1; omega) wq q1 q2.size
          have HN : Hid (Ins (n, s) m (k + 1) false (ol ++ [x]) ∧ Own fileSh w' w2.heap.size o' (ol ++ [x]) ∧ Below w2.heap.size w2 w') := by
            have h4 := HS.out.more HX.out.1 (by rw [HX.out.2]; exact hlt2)
            rw [HX.out.2] at h4
            exact ⟨h4, h2, q2.trans h3⟩
          have HR := Lib.hid h1
          clear q1 q2 h1 h2 h3
          go_wp2_with (at_builtin; refine rw.wpList_append_at _ _ _ rfl rfl _ _ _ _ rfl rfl HR.out ?_)
          have hl2 := HX.out.1
          go_roundw
          case rel => exact ⟨k + 1, false, _, by go_num, by omega, rfl, HN⟩
          case measure => simp [intOf]; omega
    · obtain rfl : k = m.length := by omega
      have f0 : wr.cell? ⟨w.heap.size, 0, none⟩ = some (.string (S n)) := (A2.out.below hB).cell rfl
      have f1 : wr.cell? ⟨w.heap.size, 1, none⟩ = some (.string (S s)) := (A2.out.below hB).cell rfl
      have hB' : Below w.heap.size w wr := bnext B2.out hB
      cases q with
      | true =>
        have HE : Hid (Own fileSh wr w.heap.size u5 (put l (n, s))) := by
          rw [HP.out, hi.done]
          exact own_lower ho B2.out.size
        have HB' := Lib.hid hB'
        clear hi ho hB HI hr hB' f0 f1
        go_wp2
        go_ret
        exact ⟨⟨_, rfl, HE.out⟩, HB'.out⟩
      | false =>
        obtain ⟨o', w', h1, h2, h3⟩ := rw.append_one fileSh w2.heap.size _ ol (n, s) (by have := hi.n; omega) wr ho hB.size
        have HE : Hid (Own fileSh w' w.heap.size o' (put l (n, s)) ∧ Below w.heap.size w w') := by
          rw [HP.out, hi.last]
          exact ⟨own_lower h2 B2.out.size, B2.out.trans ((hB.trans h3).mono B2.out.size)⟩
        have HR := Lib.hid h1
        clear hi ho hB HI hr hB' h1 h2 h3
        go_wp2_with (at_builtin; refine rw.wpList_append_at _ _ _ rfl rfl _ _ _ _ rfl rfl HR.out ?_)
        go_ret
        exact ⟨⟨_, rfl, HE.out.1⟩, HE.out.2⟩
end Go.Proofs.YtpimdbnhpbjlkaaGreatDoor.dk
