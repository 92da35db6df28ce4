/-
  What the reference's All and Same answer.
-/
import Derived.Test.YtpeogcjakojjhaaSealAll
import Derived.Test.YtpeogcjakojjhaaSealRefCut
namespace Go.Proofs.Ytpeogcjakojjhaa.sl
open Go.RowKit

theorem infoI : (Try.prog.info? 3).map (fun i => (i.zero, i.size, i.bytes)) = some (some (.int .i64 0), 1, 8) := by kernel_rfl

/-- Rows of elements of two types lie in two blocks. -/
theorem ownsRow_apart {w : World} {b b' : Nat} {e e' : TypeId} {z z' : Nat} {v u : Value} {n m : Nat} {xs ys : List Value} (h : w.ownsRow b e z v n xs) (k : w.ownsRow b' e' z' u m ys) (hne : e ≠ e') : v.ownBlock = none ∨ v.ownBlock ≠ u.ownBlock := by
  obtain ⟨h1, ⟨h2, _⟩ | ⟨g, cap, cur, h3, h4, h5, h6⟩⟩ := h
  · exact .inl (by rw [h2]; rfl)
  · right
    obtain ⟨k1, ⟨k2, _⟩ | ⟨g', cap', cur', k3, k4, k5, k6⟩⟩ := k
    · rw [h3, k2]; simp [Value.ownBlock]
    · rw [h3, k3]
      simp only [Value.ownBlock, ne_eq, Option.some.injEq]
      intro hg
      subst hg
      rw [h5] at k5
      simp at k5
      exact hne k5.2

def ints (ps : List (Nat × List UInt8)) : List Value := ps.map fun x => .int .i64 x.1
theorem ints_snoc (ps : List (Nat × List UInt8)) (x : Nat × List UInt8) : ints (ps ++ [x]) = ints ps ++ [.int .i64 x.1] := by simp [ints]

theorem err_at {l : List UInt8} {p : Nat} (hp : p < l.length) (hf : fin 0 l = p) : err l = (cut (l.drop p)).2.2 := by
  unfold err
  rw [hf, if_neg (by omega)]
theorem err_end {l : List UInt8} (hf : fin 0 l = l.length) : err l = 0 := by unfold err; rw [if_pos hf]

theorem results_tmp4 {fn : Func} {t u v x : Tmp} (h : fn.results = #[.tmp t, .tmp u, .tmp v, .tmp x]) (tmps : Array Value) (P : Program) (w : World) :
    (results fn tmps).run P w = .ok (.tuple #[tmps.getD t undef, tmps.getD u undef, tmps.getD v undef, tmps.getD x undef]) w := by
  simp [results, h, go_sem]

set_option maxHeartbeats 1000000 in
set_option maxRecDepth 100000 in
theorem refall_any (l : List UInt8) (hl : l.length ≤ 17592186044416) (w : World) :
    Calls Try.prog 17 #[.string (S l)] w fun e w' => ∃ v u, e = .returned (.tuple #[v, u, .int .i64 (fin 0 l), .int .i64 (err l)]) ∧ w'.ownsRow w.heap.size 9 1 v (scan 0 l).length (texts (scan 0 l)) ∧ w'.ownsRow w.heap.size 3 1 u (scan 0 l).length (ints (scan 0 l)) ∧ Below w.heap.size w w' := by
  have hz := S_size l
  have hsl := scan_len l 0
  obtain ⟨i0, hi, hz0, hz1, hz2⟩ := info_parts infoS
  obtain ⟨j0, hj, hy0, hy1, hy2⟩ := info_parts infoI
  go_enter Try.func17, Try.ntmps17
  go_wp2
  go_loopw [6, 7, 8] (fun v u i wr => ∃ (pre : List (Nat × List UInt8)) (p : Nat), i = .int .i64 p ∧ p ≤ l.length ∧ scan 0 l = pre ++ scan p (l.drop p) ∧ fin 0 l = fin p (l.drop p) ∧ wr.ownsRow w.heap.size 9 1 v pre.length (texts pre) ∧ wr.ownsRow w.heap.size 3 1 u pre.length (ints pre) ∧ Below w.heap.size w wr)
    (fun _ _ i _ => l.length - (intOf i).toNat)
  case atStart => exact ⟨[], 0, rfl, Nat.zero_le _, rfl, rfl, World.ownsRow_nil _ _ _ _, World.ownsRow_nil _ _ _ _, Below.refl _ _⟩
  case round =>
    obtain ⟨pre, p, rfl, hp, hs, hf, hv, hu, hB⟩ := hrel
    have hpl : pre.length ≤ (scan 0 l).length := by rw [hs, List.length_append]; omega
    have hsz := hB.size
    by_cases hlt : p < l.length
    · have hd : (S l).extract p l.length = S (l.drop p) := S_drop l p
      have hC := refcut_any (l.drop p) (by rw [List.length_drop]; omega)
      by_cases hok : (cut (l.drop p)).2.2 = 0
      · have hb := cut_bounds hok
        have hm := hb.2.1
        have hm8 := hb.1
        rw [List.length_drop] at hm
        rw [scan_ok hok, List.drop_drop] at hs
        rw [fin_ok hok, List.drop_drop] at hf
        rw [hok] at hC
        have hpl2 : pre.length + 1 ≤ (scan 0 l).length := by rw [hs, List.length_append, List.length_cons]; omega
        generalize (cut (l.drop p)).1 = b at hC hs
        generalize (cut (l.drop p)).2.1 = m at hC hs hf hm hm8
        have HS := Lib.hid hs
        have HF := Lib.hid hf
        clear hok hb hs hf
        go_wp2_with fail
        refine (hC _).mono ?_
        rintro e w1 ⟨rfl, hb1⟩
        have hv1 := ownsRow_below hv hb1
        have hu1 := ownsRow_below hu hb1
        have hB1 : Below w.heap.size w w1 := hB.trans (hb1.mono hsz)
        have hsz1 := hB1.size
        clear hv hu hB hb1 hC
        go_wp2_with (at_builtin; refine wpList_append_own _ rfl _ _ 35 rfl w.heap.size 9 i0 (.string ⟨#[]⟩) 1 16 Try.underlying35 hi hz0 hz1 hz2 rfl (by decide) _ _ _ rfl (hv1.alloc _) ⟨w1.heap.size, 0, none⟩ 1 1 [.string (S b)] rfl rfl (cell_one_new _ _ _) (by simp [Value.oneCell']) (by unfold maxLen; omega) (by omega) (by simp; omega) ?_)
        intro v' w2 hv2 hg2 _
        have hap := ownsRow_apart hu1 hv1 (by decide)
        have hu2 := (hu1.alloc (.cells #[.string (S b)] 9)).kept hg2 hap
        have hB2 : Below w.heap.size w w2 := (hB1.alloc hsz1 _).grown hg2 (by simp; omega) (fun k hk => (hv1.lt k hk).1)
        have hsz2 := hB2.size
        clear hap hu1 hv1 hB1 hg2
        go_wp2_with (at_builtin; refine wpList_append_own _ rfl _ _ 38 rfl w.heap.size 3 j0 (.int .i64 0) 1 8 Try.underlying38 hj hy0 hy1 hy2 rfl (by decide) _ _ _ rfl (hu2.alloc _) ⟨w2.heap.size, 0, none⟩ 1 1 [.int .i64 p] rfl rfl (cell_one_new _ _ _) (by simp [Value.oneCell']) (by unfold maxLen; omega) (by omega) (by simp; omega) ?_)
        intro u' w3 hu3 hg3 _
        have hap := ownsRow_apart hv2 hu2 (by decide)
        have hv3 := (hv2.alloc (.cells #[.int .i64 p] 3)).kept hg3 hap
        have hB3 : Below w.heap.size w w3 := (hB2.alloc hsz2 _).grown hg3 (by simp; omega) (fun k hk => (hu2.lt k hk).1)
        clear hap hu2 hv2 hB2 hg3
        go_wp2
        go_roundw
        case rel => exact ⟨pre ++ [(p, b)], p + m, by go_num, by omega, by rw [HS.out]; simp, HF.out, by rw [texts_snoc, List.length_append]; exact hv3, by rw [ints_snoc, List.length_append]; exact hu3, hB3⟩
        case measure => simp [intOf]; omega
      · have hne : (((cut (l.drop p)).2.2 : Int) != 0) = true := by simp; omega
        rw [scan_no hok, List.append_nil] at hs
        rw [fin_no hok] at hf
        have he := Lib.hid (err_at hlt hf)
        have HS := Lib.hid hs
        have HF := Lib.hid hf
        clear hs hf
        go_wp2_with fail
        refine (hC _).mono ?_
        rintro e w1 ⟨rfl, hb1⟩
        have hv1 := ownsRow_below hv hb1
        have hu1 := ownsRow_below hu hb1
        go_wp2
        refine bodyPost_ret (results_tmp4 rfl _ _ _) rfl ?_
        exact ⟨_, _, by rw [he.out, HF.out]; rfl, by rw [HS.out]; exact hv1, by rw [HS.out]; exact hu1, hB.trans (hb1.mono hsz)⟩
    · obtain rfl : p = l.length := by omega
      rw [List.drop_length, scan_nil, List.append_nil] at hs
      rw [List.drop_length, fin_nil] at hf
      have he := Lib.hid (err_end hf)
      have HS := Lib.hid hs
      have HF := Lib.hid hf
      clear hs hf
      go_wp2
      refine bodyPost_ret (results_tmp4 rfl _ _ _) rfl ?_
      exact ⟨_, _, by rw [he.out, HF.out]; rfl, by rw [HS.out]; exact hv, by rw [HS.out]; exact hu, hB⟩
end Go.Proofs.Ytpeogcjakojjhaa.sl
