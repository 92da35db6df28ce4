/-
  What the law's walk stands on, part 3 of 3: the texts VtP2, VtP3, DigAbc, VtL1, VtL2, VtL3, one behind the other.
-/
import Derived.Deep.RegionLaw
import Derived.Deep.RegionHeld3
import Derived.Test.YtpimdbnhpbjlkaaDoorVaultTrueMb
/-! VtP2 -/
namespace Go.Proofs.YtpimdbnhpbjlkaaDoor.vt
set_option linter.unusedVariables false
open Go.RowKit
open fl (S S_size S_append S_inj)
open rw (Arr But below_box bnext below_drew below_drewN Fr)
open dk (Bs File Dk PD Step Nu Inv Live turn sync read fuse crash Right count)

theorem read_small {d : Dk} (hd : Right d) (n : Bs) : (read d n).1.length ≤ 1048576 := by
  unfold dk.read
  split
  · exact Nat.zero_le _
  · cases hg : dk.get d.seen n with
    | none => exact Nat.zero_le _
    | some s =>
      have h1 := dk.used_without hd.sorted n
      rw [hg] at h1
      have h2 := hd.used
      have h3 := hd.cap
      show s.length ≤ _
      simp only [Option.getD_some] at h1
      omega
set_option maxHeartbeats 4000000 in
set_option maxRecDepth 100000 in
theorem put_call {w0 w : World} {vb p : Nat} {d : Dk} (s : Bs) (hd : Inv 900 d) (h : Vt w0 w vb p d) :
    Calls Tryd.prog 11 #[.pointer (some ⟨vb, 0, none⟩), .string (S s)] w fun e w' => e = .returned (.tuple #[.string (S (putV d s).1), .int .i64 ((putV d s).2.1 : Nat)]) ∧ Vt w0 w' vb p (putV d s).2.2 := by
  obtain ⟨R, hR⟩ : ∃ R, putV d s = R := ⟨_, rfl⟩
  rw [hR]
  unfold putV at hR
  have hz := S_size s
  by_cases hl : 4096 < s.length
  · rw [if_pos hl] at hR
    have hR := Lib.hid hR
    have hli : ((S s).size : Int) > 4096 := by omega
    have H0 := Lib.hid h
    clear h
    go_enter Tryd.func11, Tryd.ntmps11
    go_wp2_with fail
    go_ret2
    rw [← hR.out]
    exact ⟨rfl, H0.out⟩
  · rw [if_neg hl] at hR
    have hli : ¬ ((S s).size : Int) > 4096 := by omega
    have hs1 := sum_call s (by omega) w h.keys
    have hsl : (dg.sum s).length = 32 := dg.sum_length s
    generalize dg.sum s = q at *
    have HR := Lib.hid hR
    have HV := Lib.hid h
    have HI := Lib.hid hd
    clear hR h hd
    go_enter Tryd.func11, Tryd.ntmps11
    go_wp2_with fail
    refine hs1.mono ?_
    clear hs1
    rintro e w2 ⟨rfl, b2⟩
    have V2 := Lib.hid (HV.out.below b2)
    have hn := name_call q (by omega) w2
    clear b2 HV
    go_wp2_with fail
    refine hn.mono ?_
    clear hn
    rintro e w3 ⟨rfl, b3⟩
    have V3 := Lib.hid (V2.out.below b3)
    have hnl := vname_len hsl
    generalize vname q = n at *
    have hr := vread_call n (by unfold maxLen; omega) V3.out
    have a3 := V3.out.a.cell (j := 0) rfl
    clear b3 V2
    have hq1 := S_beq (read d n).1 s
    obtain ⟨rs, hrs⟩ : ∃ r, (read d n).1 = r := ⟨_, rfl⟩
    obtain ⟨re, hre⟩ : ∃ r, (read d n).2 = r := ⟨_, rfl⟩
    rw [hrs] at hq1
    rw [hrs, hre] at hr HR
    clear hrs hre
    go_wp2_with fail
    refine hr.mono ?_
    clear hr
    rintro e w4 ⟨rfl, b4⟩
    have V4 := Lib.hid (V3.out.below b4)
    have a4 := V4.out.a.cell (j := 0) rfl
    clear b4 V3 a3
    by_cases c : re = 0 ∧ rs = s
    · obtain ⟨rfl, rfl⟩ := c
      have HE : Hid ((q, 0, d) = R) := by
        have h := HR.out
        rw [if_pos ⟨rfl, rfl⟩] at h
        exact h
      rw [decide_eq_true rfl] at hq1
      clear HR a4
      go_wp2_with fail
      go_ret2
      rw [← HE.out]
      exact ⟨rfl, V4.out⟩
    · rw [if_neg c] at HR
      have hcb : Hid (re = 0 → ¬ rs = s) := fun h1 h2 => c ⟨h1, h2⟩
      have hP := vput_call n s HI.out (by omega) V4.out
      have HI2 := Lib.hid (dk.inv_turn HI.out ⟨2, n, s⟩ (by show s.length ≤ _; omega))
      generalize turn d ⟨2, n, s⟩ = T at *
      obtain ⟨te, td⟩ := T
      simp only at HR hP HI2
      have HC2 : Hid ((re = 0 ∧ ((S rs).toList == (S s).toList) = false) ∨ ¬ (re : Int) = 0) := by
        by_cases h0 : re = 0
        · exact .inl ⟨h0, by rw [hq1, decide_eq_false (hcb.out h0)]⟩
        · exact .inr (by omega)
      clear c hcb hq1 HI
      have key : ∀ (W : World), Hid (Vt w0 W vb p td) → W.cell? ⟨vb, 0, none⟩ = some (.pointer (some ⟨p, 0, none⟩)) → True := fun _ _ _ => trivial
      clear key
      rcases HC2.out with ⟨h0, hb⟩ | h0
      · subst h0
        clear HC2
        go_wp2_with fail
        refine hP.mono ?_
        clear hP a4 hb
        rintro e w5 ⟨rfl, v5⟩
        have V5 := Lib.hid v5
        have a5 := v5.a.cell (j := 0) rfl
        have hS := vsync_call (HI2.out.mono (by decide)) v5
        clear v5
        generalize sync td = U at *
        obtain ⟨ue, ud⟩ := U
        simp only at HR hS
        by_cases ht : te = 0
        · subst ht
          rw [if_neg (fun h => h rfl)] at HR
          go_wp2_with fail
          refine hS.mono ?_
          clear hS a5
          rintro e w6 ⟨rfl, v6⟩
          have V6 := Lib.hid v6
          clear v6
          by_cases hu : ue = 0
          · subst hu
            rw [if_neg (fun h => h rfl)] at HR
            go_wp2_with fail
            go_ret2
            rw [← HR.out]
            exact ⟨rfl, V6.out⟩
          · have hui : ¬ (ue : Int) = 0 := by omega
            rw [if_pos hu] at HR
            go_wp2_with fail
            go_ret2
            rw [← HR.out]
            exact ⟨rfl, V6.out⟩
        · have hti : ¬ (te : Int) = 0 := by omega
          rw [if_pos ht] at HR
          go_wp2_with fail
          go_ret2
          rw [← HR.out]
          exact ⟨rfl, V5.out⟩
      · clear HC2
        go_wp2_with fail
        refine hP.mono ?_
        clear hP a4
        rintro e w5 ⟨rfl, v5⟩
        have V5 := Lib.hid v5
        have a5 := v5.a.cell (j := 0) rfl
        have hS := vsync_call (HI2.out.mono (by decide)) v5
        clear v5
        generalize sync td = U at *
        obtain ⟨ue, ud⟩ := U
        simp only at HR hS
        by_cases ht : te = 0
        · subst ht
          rw [if_neg (fun h => h rfl)] at HR
          go_wp2_with fail
          refine hS.mono ?_
          clear hS a5
          rintro e w6 ⟨rfl, v6⟩
          have V6 := Lib.hid v6
          clear v6
          by_cases hu : ue = 0
          · subst hu
            rw [if_neg (fun h => h rfl)] at HR
            go_wp2_with fail
            go_ret2
            rw [← HR.out]
            exact ⟨rfl, V6.out⟩
          · have hui : ¬ (ue : Int) = 0 := by omega
            rw [if_pos hu] at HR
            go_wp2_with fail
            go_ret2
            rw [← HR.out]
            exact ⟨rfl, V6.out⟩
        · have hti : ¬ (te : Int) = 0 := by omega
          rw [if_pos ht] at HR
          go_wp2_with fail
          go_ret2
          rw [← HR.out]
          exact ⟨rfl, V5.out⟩
set_option maxHeartbeats 4000000 in
set_option maxRecDepth 100000 in
theorem get_call {w0 w : World} {vb p : Nat} {d : Dk} (q : Bs) (hd : Right d) (h : Vt w0 w vb p d) :
    Calls Tryd.prog 18 #[.pointer (some ⟨vb, 0, none⟩), .string (S q)] w fun e w' => e = .returned (.tuple #[.string (S (getV d q).1), .int .i64 ((getV d q).2 : Nat)]) ∧ Below w.heap.size w w' := by
  obtain ⟨R, hR⟩ : ∃ R, getV d q = R := ⟨_, rfl⟩
  rw [hR]
  unfold getV at hR
  have hz := S_size q
  by_cases hl : q.length ≠ 32
  · rw [if_pos hl] at hR
    have hR := Lib.hid hR
    have hli : ¬ ((S q).size : Int) = 32 := by omega
    clear h
    go_enter Tryd.func18, Tryd.ntmps18
    go_wp2_with fail
    go_ret2
    rw [← hR.out]
    exact ⟨rfl, Below.refl _ _⟩
  · rw [if_neg hl] at hR
    have hl2 : q.length = 32 := Decidable.not_not.1 hl
    have hli : ((S q).size : Int) = 32 := by omega
    have hnl := vname_len hl2
    have hsm := read_small hd (vname q)
    have HN := Lib.hid fun W => name_call q (by omega) W
    have HV := Lib.hid h
    generalize vname q = n at *
    have HRd : Hid (∀ W, Vt w0 W vb p d → Calls Tryd.prog 23 #[.pointer (some ⟨p, 0, none⟩), .string (S n)] W fun e w' => e = .returned (.tuple #[.string (S (read d n).1), .int .i64 ((read d n).2 : Nat)]) ∧ Below W.heap.size W w') := fun W hW => vread_call n (by unfold maxLen; omega) hW
    generalize read d n = X at *
    obtain ⟨rs, re⟩ := X
    simp only at hR HRd hsm
    have HR := Lib.hid hR
    clear hR h hl hd
    go_enter Tryd.func18, Tryd.ntmps18
    go_upto_region 3 with (fail)
    have V1 := Lib.hid (And.intro (HV.out.below (below_drew (Below.refl w.heap.size w))) (below_drew (Below.refl w.heap.size w)))
    clear HV
    have k0 : w.drew.cell? ⟨vb, 0, none⟩ = some (.pointer (some ⟨p, 0, none⟩)) := V1.out.1.a.cell rfl
    go_region_law
      (first | (go_simp; go_at_call 25; refine (HN.out _).mono ?_; rintro e w2 ⟨rfl, b2⟩; replace V1 := Lib.hid (And.intro (V1.out.1.below b2) (V1.out.2.trans (b2.mono V1.out.2.size))); clear k0 b2; have k0 : w2.cell? ⟨vb, 0, none⟩ = some (.pointer (some ⟨p, 0, none⟩)) := V1.out.1.a.cell rfl) | (go_simp; go_at_call 23; refine (HRd.out _ V1.out.1).mono ?_; rintro e w3 ⟨rfl, b3⟩; have V2 := Lib.hid (And.intro (V1.out.1.below b3) (V1.out.2.trans (b3.mono V1.out.2.size))); clear b3 k0 V1))
    all_goals (
      have V3 := V2
      clear V2 HN HRd
      by_cases h0 : re = 0
      · subst h0
        rw [if_neg (fun h => h rfl)] at HR
        have hI := isd_call q rs (by omega) w3 V3.out.1.keys
        generalize dg.sum rs = y at *
        by_cases hy : y = q
        · subst hy
          rw [if_neg (fun h => h rfl)] at HR
          rw [decide_eq_true rfl] at hI
          go_wp2_with fail
          refine hI.mono ?_
          clear hI
          rintro e w4 ⟨rfl, b4⟩
          have B4 := Lib.hid (V3.out.2.trans (b4.mono V3.out.2.size))
          clear b4 V3
          go_wp2_with fail
          go_ret2
          rw [← HR.out]
          exact ⟨rfl, B4.out⟩
        · rw [if_pos hy] at HR
          rw [decide_eq_false hy] at hI
          go_wp2_with fail
          refine hI.mono ?_
          clear hI
          rintro e w4 ⟨rfl, b4⟩
          have B4 := Lib.hid (V3.out.2.trans (b4.mono V3.out.2.size))
          clear b4 V3
          go_wp2_with fail
          go_ret2
          rw [← HR.out]
          exact ⟨rfl, B4.out⟩
      · have h0i : ¬ (re : Int) = 0 := by omega
        rw [if_pos h0] at HR
        go_wp2_with fail
        go_ret2
        rw [← HR.out]
        exact ⟨rfl, V3.out.2⟩)
set_option maxRecDepth 100000 in
theorem has_call {w0 w : World} {vb p : Nat} {d : Dk} (q : Bs) (hd : Right d) (h : Vt w0 w vb p d) :
    Calls Tryd.prog 22 #[.pointer (some ⟨vb, 0, none⟩), .string (S q)] w fun e w' => e = .returned (.bool (decide ((getV d q).2 = 0))) ∧ Below w.heap.size w w' := by
  have hG := get_call q hd h
  generalize getV d q = X at *
  obtain ⟨gs, ge⟩ := X
  simp only at hG ⊢
  clear h
  by_cases h0 : ge = 0
  · subst h0
    rw [decide_eq_true rfl]
    go_enter Tryd.func22, Tryd.ntmps22
    go_wp2_with fail
    refine hG.mono ?_
    clear hG
    rintro e w2 ⟨rfl, b2⟩
    have B2 := Lib.hid b2
    clear b2
    go_wp2_with fail
    go_ret
    exact ⟨rfl, B2.out⟩
  · have h0i : ((ge : Int) == 0) = false := by rw [beq_eq_false_iff_ne]; omega
    rw [decide_eq_false h0]
    go_enter Tryd.func22, Tryd.ntmps22
    go_wp2_with fail
    refine hG.mono ?_
    clear hG
    rintro e w2 ⟨rfl, b2⟩
    have B2 := Lib.hid b2
    clear b2
    go_wp2_with fail
    go_ret
    exact ⟨rfl, B2.out⟩
end Go.Proofs.YtpimdbnhpbjlkaaDoor.vt
/-! VtP3 -/
namespace Go.Proofs.YtpimdbnhpbjlkaaDoor.vt
set_option linter.unusedVariables false
open Go.RowKit
open fl (S S_size S_append S_inj)
open rw (Arr But below_box bnext below_drew below_drewN Fr Own)
open dk (Bs File Dk PD Step Nu Inv Live turn sync read fuse crash Right count strSh)

section
variable {α : Type} {s : rw.Sh α} {w w' : World}
theorem own_of {B : Nat} {v : Value} {l : List α} (h : Own s w B v l) (hb : ∀ q, v.ownBlock = some q → w'.heap[q]? = w.heap[q]?) : Own s w' B v l := by
  obtain ⟨h1, h2 | ⟨g, cap, cur, h3, h4, h5, h6⟩⟩ := h
  · exact ⟨h1, .inl h2⟩
  · exact ⟨h1, .inr ⟨g, cap, cur, h3, h4, (hb g (by rw [h3]; rfl)).trans h5, h6⟩⟩
theorem own_typed {B : Nat} {v : Value} {l : List α} (h : Own s w B v l) {q : Nat} (hq : v.ownBlock = some q) : ∃ cs, w.heap[q]? = some (.cells cs s.t (0, 0)) := by
  obtain ⟨_, ⟨e, _⟩ | ⟨g, cap, cur, e, _, h5, _⟩⟩ := h
  · rw [e] at hq; cases hq
  · rw [e] at hq
    cases hq
    exact ⟨cur, h5⟩
theorem own_lt {B : Nat} {v : Value} {l : List α} (h : Own s w B v l) {q : Nat} (hq : v.ownBlock = some q) : q < w.heap.size := by
  obtain ⟨cs, hc⟩ := own_typed h hq
  exact (Array.getElem?_eq_some_iff.1 hc).1
theorem own_ne {B q : Nat} {v : Value} {l : List α} (h : Own s w B v l) {t : TypeId} {cs : Array Value} {fr : Nat × Nat} (hq : w.heap[q]? = some (.cells cs t fr)) (ht : t ≠ s.t) : v.ownBlock ≠ some q := by
  intro e
  obtain ⟨c, hc⟩ := own_typed h e
  rw [hq] at hc
  cases hc
  exact ht rfl
theorem own_but {B q : Nat} {v : Value} {l : List α} (h : Own s w B v l) {t : TypeId} {cs : Array Value} {fr : Nat × Nat} (hq : w.heap[q]? = some (.cells cs t fr)) (ht : t ≠ s.t) (k : But q w w') : Own s w' B v l :=
  own_of h fun i hi => k.block i (own_lt h hi) fun e => own_ne h hq ht (e ▸ hi)
theorem own_lower {B B' : Nat} {v : Value} {l : List α} (h : Own s w B v l) (hB : B' ≤ B) : Own s w B' v l := by
  obtain ⟨h1, h2 | ⟨g, cap, cur, h3, h4, h5⟩⟩ := h
  · exact ⟨h1, .inl h2⟩
  · exact ⟨h1, .inr ⟨g, cap, cur, h3, by omega, h5⟩⟩
theorem own_fr {B : Nat} {v : Value} {l : List α} (h : Own s w B v l) {G : Nat → Prop} (k : Fr G w w') (hv : ∀ q, v.ownBlock = some q → ¬ G q) : Own s w' B v l :=
  own_of h fun i hi => k.block i (own_lt h hi) (hv i hi)
end
/-- A row of texts, cell by cell. -/
theorem texts_at {w : World} {v : Value} {l : List Bs} (h : rw.Sl strSh w v l) {j : Nat} (hj : j < l.length) : ∃ b off c, v = .slice (some ⟨b, off, none⟩) l.length c ∧ w.cell? ⟨b, off + j, none⟩ = some (.string (S (l[j]'hj))) := by
  obtain ⟨a, c, h1, h2, h3, h4⟩ := h
  obtain ⟨b, off, e, hb, hc⟩ := h3.at _ hj
  have := hc 0 (by decide)
  exact ⟨b, off, c, by rw [h1, e], by simpa [strSh] using this⟩

set_option maxHeartbeats 4000000 in
set_option maxRecDepth 100000 in
theorem all1_call (lb : Nat) (v : Value) (x : List Bs) (h : Bs) (hx : x.length ≤ 1000000) (B : Nat) (w : World) (ha : Arr w lb 22 #[v]) (ho : Own strSh w B v x) (hB : B ≤ w.heap.size) (hlb : lb < B) :
    Calls Tryd.prog 44 #[.string (S h), .pointer (some ⟨lb, 0, none⟩)] w fun e w' => e = .returned (.int .i64 0) ∧ ∃ v', Arr w' lb 22 #[v'] ∧ Own strSh w' B v' (x ++ [h]) ∧ Fr (fun k => k = lb ∨ B ≤ k) w w' := by
  obtain ⟨v', w1, g1, o1, b1⟩ := rw.append_one strSh B v x h (by omega) w ho hB
  have a1 : Arr w1 lb 22 #[v] := ha.of (b1.block lb hlb)
  have HR := Lib.hid g1
  obtain ⟨va, vc, rfl⟩ : ∃ a c, v = .slice a x.length c := ho.form
  obtain ⟨ua, uc, rfl⟩ : ∃ a c, v' = .slice a (x ++ [h]).length c := o1.form
  have c0 : (w.alloc (.cells #[.string (S h)] 9)).cell? ⟨lb, 0, none⟩ = some (.slice va x.length vc) := (ha.below (below_box w _)).cell rfl
  have c00 : w.cell? ⟨lb, 0, none⟩ = some (.slice va x.length vc) := ha.cell rfl
  have c1 : w1.cell? ⟨lb, 0, none⟩ = some (.slice va x.length vc) := a1.cell rfl
  have f1 : w1.frozen? ⟨lb, 0, none⟩ = false := a1.frozen 0
  have HE : Hid (∃ u, Arr (w1.setCell ⟨lb, 0, none⟩ (.slice ua (x ++ [h]).length uc)) lb 22 #[u] ∧ Own strSh (w1.setCell ⟨lb, 0, none⟩ (.slice ua (x ++ [h]).length uc)) B u (x ++ [h]) ∧ Fr (fun k => k = lb ∨ B ≤ k) w (w1.setCell ⟨lb, 0, none⟩ (.slice ua (x ++ [h]).length uc))) := by
    have k : But lb w1 (w1.setCell ⟨lb, 0, none⟩ (.slice ua (x ++ [h]).length uc)) := (But.refl lb w1).set 0 _
    refine ⟨_, a1.set 0 _, own_but o1 a1 (by decide) k, ?_⟩
    exact ⟨k.os.trans b1.os, k.tape.trans b1.tape, k.output.trans b1.output, Nat.le_trans b1.size k.size, fun i hi hn => (k.block i (Nat.lt_of_lt_of_le hi b1.size) fun e => hn (.inl e)).trans (b1.block i (by
      rcases Nat.lt_or_ge i B with h | h
      · exact h
      · exact absurd (.inr h) hn))⟩
  change Hid (rw.App strSh (.slice va x.length vc) (.slice (some ⟨w.heap.size, 0, none⟩) 1 1) (w.alloc (.cells #[.string (S h)] 9)) (.slice ua (x ++ [h]).length uc) w1) at HR
  obtain ⟨n1, hn1⟩ : ∃ n, (x ++ [h]).length = n := ⟨_, rfl⟩
  obtain ⟨n0, hn0⟩ : ∃ n, x.length = n := ⟨_, rfl⟩
  rw [hn1] at HR HE
  rw [hn0] at HR c0 c00 c1
  clear hn1 hn0 g1 o1 b1 a1 ha ho hB hlb hx
  go_enter Tryd.func44, Tryd.ntmps44
  go_wp2_with (at_builtin; refine rw.wpList_append_at _ _ _ rfl rfl _ _ _ _ rfl rfl HR.out ?_)
  go_ret
  exact ⟨rfl, HE.out⟩
/-- The digests of the first k names. -/
def digs (ns : List Bs) (k : Nat) : List Bs := (ns.take k).filterMap fileDig
theorem digs_succ (ns : List Bs) (k : Nat) (h : k < ns.length) : digs ns (k + 1) = digs ns k ++ (fileDig (ns[k]'h)).toList := by
  unfold digs
  rw [List.take_succ_eq_append_getElem h, List.filterMap_append]
  congr 1
theorem digs_all (l : List File) : digs (l.map (·.1)) (l.map (·.1)).length = allV l := by
  unfold digs allV
  rw [List.take_length, List.filterMap_map]
  rfl
theorem digs_len (ns : List Bs) (k : Nat) : (digs ns k).length ≤ ns.length := by
  unfold digs
  exact Nat.le_trans (List.length_filterMap_le _ _) (by rw [List.length_take]; omega)
/-- All's round. -/
def RA (w w1 wr : World) (lb : Nat) (nv : Value) (ns : List Bs) (k : Nat) : Prop :=
  ∃ v, Arr wr lb 22 #[v] ∧ Own strSh wr w1.heap.size v (digs ns k) ∧ Own strSh wr w.heap.size nv ns ∧ Fr (fun i => i = lb ∨ w1.heap.size ≤ i) w1 wr
theorem RA.below {w w1 wr wx : World} {lb : Nat} {nv : Value} {ns : List Bs} {k : Nat} (h : RA w w1 wr lb nv ns k) (b : Below wr.heap.size wr wx) : RA w w1 wx lb nv ns k := by
  obtain ⟨v, h1, h2, h3, h4⟩ := h
  exact ⟨v, h1.below b, h2.below _ b, h3.below _ b, h4.then_below b⟩
set_option maxHeartbeats 8000000 in
set_option maxRecDepth 100000 in
theorem eachA_call {w0 w : World} {vb p lb : Nat} {d : Dk} (hd : Inv 900 d) (hV : Vt w0 w vb p d) (ha : Arr w lb 22 #[.slice none 0 0]) :
    Calls Tryd.prog 30 #[.pointer (some ⟨vb, 0, none⟩), .func (.func 44) #[] #[.pointer (some ⟨lb, 0, none⟩)]] w fun e w' => e = .returned (.int .i64 0) ∧ ∃ v, Arr w' lb 22 #[v] ∧ Own strSh w' w.heap.size v (allV d.seen) ∧ Fr (fun k => k = lb ∨ w.heap.size ≤ k) w w' := by
  have hrm := hd.rm (by decide)
  have hN := hV.tell fun F hp => dk.names_any F p d (Nat.le_trans hrm.s (by decide)) (fun f hf => (hrm.r.named f hf).2) w hp
  have hns : ∀ n ∈ d.seen.map (·.1), n.length ≤ 80 := fun n hn => by
    obtain ⟨f, hf, rfl⟩ := List.mem_map.1 hn
    exact (hrm.r.named f hf).2
  have hnl : (d.seen.map (·.1)).length ≤ 1000 := by rw [List.length_map]; exact hrm.s
  have HD := Lib.hid (digs_all d.seen)
  generalize d.seen.map (·.1) = ns at *
  have c0 : w.cell? ⟨vb, 0, none⟩ = some (.pointer (some ⟨p, 0, none⟩)) := hV.a.cell rfl
  have HA := Lib.hid ha
  have HNS := Lib.hid hns
  clear hd hrm hV ha hns
  go_enter Tryd.func30, Tryd.ntmps30
  go_wp2_with fail
  refine hN.mono ?_
  clear hN c0
  rintro e w1 ⟨nv, rfl, on, b1⟩
  have R0 : Hid (RA w w1 w1 lb nv ns 0) := ⟨_, HA.out.below b1, rw.Own.nil strSh w1 w1.heap.size, on, Fr.refl _ _⟩
  have HB := Lib.hid b1
  have HLB : Hid (lb < w1.heap.size) := Nat.lt_of_lt_of_le HA.out.lt b1.size
  have HN1 : Hid (∀ q, nv.ownBlock = some q → q < w1.heap.size) := fun q hq => own_lt on hq
  obtain ⟨na, nc, rfl⟩ : ∃ a c, nv = .slice a ns.length c := on.form
  clear on b1 HA
  go_wp2_with fail
  go_loopw [18] (fun i wr => ∃ k : Nat, i = .int .i64 (k : Nat) ∧ k ≤ ns.length ∧ Hid (RA w w1 wr lb (.slice na ns.length nc) ns k))
    (fun i _ => ns.length - (intOf i).toNat)
  case atStart => exact ⟨0, rfl, Nat.zero_le _, R0.out⟩
  case round =>
  obtain ⟨k, rfl, hk, HI⟩ := hrel
  by_cases hlt : k < ns.length
  · have hki : (k : Int) < (ns.length : Int) := by omega
    obtain ⟨b, off, c, e, hc⟩ : ∃ b off c, (Value.slice na ns.length nc) = .slice (some ⟨b, off, none⟩) ns.length c ∧ wr.cell? ⟨b, off + k, none⟩ = some (.string (S (ns[k]'hlt))) := by
      obtain ⟨v, _, _, h3, _⟩ := HI.out
      exact texts_at h3.sl hlt
    injection e with e1 e2 e3
    subst e1 e3
    have hds := digs_succ ns k hlt
    have hnk := HNS.out _ (List.getElem_mem hlt)
    generalize ns[k]'hlt = n at *
    have hF := dig_call n (by omega) wr
    cases hfd : fileDig n with
    | none =>
      rw [hfd] at hF hds
      simp only [Option.getD_none, Option.isSome_none, Option.toList_none, List.append_nil] at hF hds
      have HE : Hid (∀ W, Below wr.heap.size wr W → RA w w1 W lb (.slice (some ⟨b, off, none⟩) ns.length nc) ns (k + 1)) := fun W kb => by
        have h := HI.out.below kb
        unfold RA at h ⊢
        rw [hds]
        exact h
      clear HI hds hfd e2
      go_wp2_with fail
      refine hF.mono ?_
      clear hF hc
      rintro e w2 ⟨rfl, b2⟩
      have HE2 := Lib.hid (HE.out w2 b2)
      clear b2 HE
      go_wp2_with fail
      exact ⟨⟨k + 1, by rw [Int.natCast_add]; rfl, by omega, HE2⟩, by simp only [intOf]; omega⟩
    | some h =>
      rw [hfd] at hF hds
      simp only [Option.getD_some, Option.isSome_some, Option.toList_some] at hF hds
      have HE : Hid (∀ W, Below wr.heap.size wr W → Calls Tryd.prog 44 #[.string (S h), .pointer (some ⟨lb, 0, none⟩)] W fun e w' => e = .returned (.int .i64 0) ∧ RA w w1 w' lb (.slice (some ⟨b, off, none⟩) ns.length nc) ns (k + 1)) := fun W kb => by
        obtain ⟨v, h1, h2, h3, h4⟩ := HI.out.below kb
        refine (all1_call lb v _ h (by have := digs_len ns k; omega) w1.heap.size W h1 h2 h4.size HLB.out).mono ?_
        rintro e w' ⟨rfl, v', g1, g2, g3⟩
        refine ⟨rfl, v', g1, by rw [hds]; exact g2, own_fr h3 g3 fun q hq hg => ?_, h4.trans g3 fun i _ hh => hh⟩
        rcases hg with rfl | hg
        · exact own_ne h3 h1 (by decide) hq
        · have := HN1.out q hq; omega
      clear HI hds hfd e2
      go_wp2_with fail
      refine hF.mono ?_
      clear hF hc
      rintro e w2 ⟨rfl, b2⟩
      have hE := HE.out w2 b2
      clear b2 HE
      go_wp2_with fail
      refine hE.mono ?_
      clear hE
      rintro e w3 ⟨rfl, r3⟩
      have HE2 := Lib.hid r3
      clear r3
      go_wp2_with fail
      exact ⟨⟨k + 1, by rw [Int.natCast_add]; rfl, by omega, HE2⟩, by simp only [intOf]; omega⟩
  obtain rfl : k = ns.length := by omega
  have hki : ¬ (ns.length : Int) < (ns.length : Int) := by omega
  have HE : Hid (∃ v, Arr wr lb 22 #[v] ∧ Own strSh wr w.heap.size v (allV d.seen) ∧ Fr (fun k => k = lb ∨ w.heap.size ≤ k) w wr) := by
    obtain ⟨v, h1, h2, h3, h4⟩ := HI.out
    rw [HD.out] at h2
    exact ⟨v, h1, own_lower h2 HB.out.size, (Fr.of_below HB.out).trans h4 fun i _ hh => hh.imp id fun hh => Nat.le_trans HB.out.size hh⟩
  clear HI R0
  go_wp2_with fail
  go_ret
  exact ⟨rfl, HE.out⟩
set_option maxHeartbeats 4000000 in
set_option maxRecDepth 100000 in
theorem all_call {w0 w : World} {vb p : Nat} {d : Dk} (hd : Inv 900 d) (hV : Vt w0 w vb p d) :
    Calls Tryd.prog 21 #[.pointer (some ⟨vb, 0, none⟩)] w fun e w' => ∃ v, e = .returned v ∧ Own strSh w' w.heap.size v (allV d.seen) ∧ Below w.heap.size w w' := by
  have kb := below_box w (.cells #[.slice none 0 0] 22)
  have hE := eachA_call hd (hV.below kb) (Arr.new w _ _)
  have HK := Lib.hid kb
  clear hV kb
  go_enter Tryd.func21, Tryd.ntmps21
  go_wp2_with fail
  refine hE.mono ?_
  clear hE
  rintro e w2 ⟨rfl, v, a2, o2, f2⟩
  have c2 := a2.cell (j := 0) rfl
  have HE : Hid (Own strSh w2 w.heap.size v (allV d.seen) ∧ Below w.heap.size w w2) := ⟨own_lower o2 HK.out.size, (f2.below (B := w.heap.size) (by have := HK.out.size; exact this) (fun k hk => hk.elim (fun e => by omega) fun e => Nat.le_trans HK.out.size e)) |> fun h => HK.out.trans h⟩
  obtain ⟨va, vc, rfl⟩ : ∃ a c, v = .slice a (allV d.seen).length c := o2.form
  clear a2 o2 f2
  go_wp2_with fail
  go_ret
  exact ⟨_, rfl, HE.out⟩
end Go.Proofs.YtpimdbnhpbjlkaaDoor.vt
/-! DigAbc -/
namespace Go.Proofs.YtpimdbnhpbjlkaaDoor.dg
open Go.RowKit

def abc : List UInt8 := [97, 98, 99]
def abcBlock : List UInt8 := [97, 98, 99, 128, 0, 0, 0, 0, 0, 0, 0, 0, 0, 0, 0, 0, 0, 0, 0, 0, 0, 0, 0, 0, 0, 0, 0, 0, 0, 0, 0, 0, 0, 0, 0, 0, 0, 0, 0, 0, 0, 0, 0, 0, 0, 0, 0, 0, 0, 0, 0, 0, 0, 0, 0, 0, 0, 0, 0, 0, 0, 0, 0, 24]
theorem abc_block : blk (pad abc) 0 = abcBlock := by decide +kernel
theorem abc_count : (pad abc).length / 64 = 1 := by decide +kernel
theorem abc_w0 : wd abcBlock 0 = 1633837952 := (wd_small (by decide)).trans (by kernel_rfl)
theorem abc_w1 : wd abcBlock 1 = 0 := (wd_small (by decide)).trans (by kernel_rfl)
theorem abc_w2 : wd abcBlock 2 = 0 := (wd_small (by decide)).trans (by kernel_rfl)
theorem abc_w3 : wd abcBlock 3 = 0 := (wd_small (by decide)).trans (by kernel_rfl)
theorem abc_w4 : wd abcBlock 4 = 0 := (wd_small (by decide)).trans (by kernel_rfl)
theorem abc_w5 : wd abcBlock 5 = 0 := (wd_small (by decide)).trans (by kernel_rfl)
theorem abc_w6 : wd abcBlock 6 = 0 := (wd_small (by decide)).trans (by kernel_rfl)
theorem abc_w7 : wd abcBlock 7 = 0 := (wd_small (by decide)).trans (by kernel_rfl)
theorem abc_w8 : wd abcBlock 8 = 0 := (wd_small (by decide)).trans (by kernel_rfl)
theorem abc_w9 : wd abcBlock 9 = 0 := (wd_small (by decide)).trans (by kernel_rfl)
theorem abc_w10 : wd abcBlock 10 = 0 := (wd_small (by decide)).trans (by kernel_rfl)
theorem abc_w11 : wd abcBlock 11 = 0 := (wd_small (by decide)).trans (by kernel_rfl)
theorem abc_w12 : wd abcBlock 12 = 0 := (wd_small (by decide)).trans (by kernel_rfl)
theorem abc_w13 : wd abcBlock 13 = 0 := (wd_small (by decide)).trans (by kernel_rfl)
theorem abc_w14 : wd abcBlock 14 = 0 := (wd_small (by decide)).trans (by kernel_rfl)
theorem abc_w15 : wd abcBlock 15 = 24 := (wd_small (by decide)).trans (by kernel_rfl)
theorem abc_w16 : wd abcBlock 16 = 1633837952 := by
  rw [wd_big (by decide), abc_w14, abc_w9, abc_w1, abc_w0]
  kernel_rfl
theorem abc_w17 : wd abcBlock 17 = 983040 := by
  rw [wd_big (by decide), abc_w15, abc_w10, abc_w2, abc_w1]
  kernel_rfl
theorem abc_w18 : wd abcBlock 18 = 2108187653 := by
  rw [wd_big (by decide), abc_w16, abc_w11, abc_w3, abc_w2]
  kernel_rfl
theorem abc_w19 : wd abcBlock 19 = 1610613702 := by
  rw [wd_big (by decide), abc_w17, abc_w12, abc_w4, abc_w3]
  kernel_rfl
theorem abc_w20 : wd abcBlock 20 = 1050508152 := by
  rw [wd_big (by decide), abc_w18, abc_w13, abc_w5, abc_w4]
  kernel_rfl
theorem abc_w21 : wd abcBlock 21 = 25426944 := by
  rw [wd_big (by decide), abc_w19, abc_w14, abc_w6, abc_w5]
  kernel_rfl
theorem abc_w22 : wd abcBlock 22 = 316456923 := by
  rw [wd_big (by decide), abc_w20, abc_w15, abc_w7, abc_w6]
  kernel_rfl
theorem abc_w23 : wd abcBlock 23 = 3806512014 := by
  rw [wd_big (by decide), abc_w21, abc_w16, abc_w8, abc_w7]
  kernel_rfl
theorem abc_w24 : wd abcBlock 24 = 3357629466 := by
  rw [wd_big (by decide), abc_w22, abc_w17, abc_w9, abc_w8]
  kernel_rfl
theorem abc_w25 : wd abcBlock 25 = 3073800610 := by
  rw [wd_big (by decide), abc_w23, abc_w18, abc_w10, abc_w9]
  kernel_rfl
theorem abc_w26 : wd abcBlock 26 = 3854317833 := by
  rw [wd_big (by decide), abc_w24, abc_w19, abc_w11, abc_w10]
  kernel_rfl
theorem abc_w27 : wd abcBlock 27 = 845560923 := by
  rw [wd_big (by decide), abc_w25, abc_w20, abc_w12, abc_w11]
  kernel_rfl
theorem abc_w28 : wd abcBlock 28 = 2636160359 := by
  rw [wd_big (by decide), abc_w26, abc_w21, abc_w13, abc_w12]
  kernel_rfl
theorem abc_w29 : wd abcBlock 29 = 3968280267 := by
  rw [wd_big (by decide), abc_w27, abc_w22, abc_w14, abc_w13]
  kernel_rfl
theorem abc_w30 : wd abcBlock 30 = 1881225380 := by
  rw [wd_big (by decide), abc_w28, abc_w23, abc_w15, abc_w14]
  kernel_rfl
theorem abc_w31 : wd abcBlock 31 = 3552024379 := by
  rw [wd_big (by decide), abc_w29, abc_w24, abc_w16, abc_w15]
  kernel_rfl
theorem abc_w32 : wd abcBlock 32 = 2482346367 := by
  rw [wd_big (by decide), abc_w30, abc_w25, abc_w17, abc_w16]
  kernel_rfl
theorem abc_w33 : wd abcBlock 33 = 996719219 := by
  rw [wd_big (by decide), abc_w31, abc_w26, abc_w18, abc_w17]
  kernel_rfl
theorem abc_w34 : wd abcBlock 34 = 2952069057 := by
  rw [wd_big (by decide), abc_w32, abc_w27, abc_w19, abc_w18]
  kernel_rfl
theorem abc_w35 : wd abcBlock 35 = 4043988066 := by
  rw [wd_big (by decide), abc_w33, abc_w28, abc_w20, abc_w19]
  kernel_rfl
theorem abc_w36 : wd abcBlock 36 = 176896406 := by
  rw [wd_big (by decide), abc_w34, abc_w29, abc_w21, abc_w20]
  kernel_rfl
theorem abc_w37 : wd abcBlock 37 = 1924104970 := by
  rw [wd_big (by decide), abc_w35, abc_w30, abc_w22, abc_w21]
  kernel_rfl
theorem abc_w38 : wd abcBlock 38 = 2483675966 := by
  rw [wd_big (by decide), abc_w36, abc_w31, abc_w23, abc_w22]
  kernel_rfl
theorem abc_w39 : wd abcBlock 39 = 610538786 := by
  rw [wd_big (by decide), abc_w37, abc_w32, abc_w24, abc_w23]
  kernel_rfl
theorem abc_w40 : wd abcBlock 40 = 2672279444 := by
  rw [wd_big (by decide), abc_w38, abc_w33, abc_w25, abc_w24]
  kernel_rfl
theorem abc_w41 : wd abcBlock 41 = 4037431130 := by
  rw [wd_big (by decide), abc_w39, abc_w34, abc_w26, abc_w25]
  kernel_rfl
theorem abc_w42 : wd abcBlock 42 = 1042573945 := by
  rw [wd_big (by decide), abc_w40, abc_w35, abc_w27, abc_w26]
  kernel_rfl
theorem abc_w43 : wd abcBlock 43 = 657669027 := by
  rw [wd_big (by decide), abc_w41, abc_w36, abc_w28, abc_w27]
  kernel_rfl
theorem abc_w44 : wd abcBlock 44 = 206005234 := by
  rw [wd_big (by decide), abc_w42, abc_w37, abc_w29, abc_w28]
  kernel_rfl
theorem abc_w45 : wd abcBlock 45 = 2215296807 := by
  rw [wd_big (by decide), abc_w43, abc_w38, abc_w30, abc_w29]
  kernel_rfl
theorem abc_w46 : wd abcBlock 46 = 2049510749 := by
  rw [wd_big (by decide), abc_w44, abc_w39, abc_w31, abc_w30]
  kernel_rfl
theorem abc_w47 : wd abcBlock 47 = 106709978 := by
  rw [wd_big (by decide), abc_w45, abc_w40, abc_w32, abc_w31]
  kernel_rfl
theorem abc_w48 : wd abcBlock 48 = 4215179723 := by
  rw [wd_big (by decide), abc_w46, abc_w41, abc_w33, abc_w32]
  kernel_rfl
theorem abc_w49 : wd abcBlock 49 = 3430291419 := by
  rw [wd_big (by decide), abc_w47, abc_w42, abc_w34, abc_w33]
  kernel_rfl
theorem abc_w50 : wd abcBlock 50 = 3118885940 := by
  rw [wd_big (by decide), abc_w48, abc_w43, abc_w35, abc_w34]
  kernel_rfl
theorem abc_w51 : wd abcBlock 51 = 2845390439 := by
  rw [wd_big (by decide), abc_w49, abc_w44, abc_w36, abc_w35]
  kernel_rfl
theorem abc_w52 : wd abcBlock 52 = 2226839261 := by
  rw [wd_big (by decide), abc_w50, abc_w45, abc_w37, abc_w36]
  kernel_rfl
theorem abc_w53 : wd abcBlock 53 = 3256115900 := by
  rw [wd_big (by decide), abc_w51, abc_w46, abc_w38, abc_w37]
  kernel_rfl
theorem abc_w54 : wd abcBlock 54 = 344409900 := by
  rw [wd_big (by decide), abc_w52, abc_w47, abc_w39, abc_w38]
  kernel_rfl
theorem abc_w55 : wd abcBlock 55 = 2987358873 := by
  rw [wd_big (by decide), abc_w53, abc_w48, abc_w40, abc_w39]
  kernel_rfl
theorem abc_w56 : wd abcBlock 56 = 4015503821 := by
  rw [wd_big (by decide), abc_w54, abc_w49, abc_w41, abc_w40]
  kernel_rfl
theorem abc_w57 : wd abcBlock 57 = 3957764664 := by
  rw [wd_big (by decide), abc_w55, abc_w50, abc_w42, abc_w41]
  kernel_rfl
theorem abc_w58 : wd abcBlock 58 = 2682456414 := by
  rw [wd_big (by decide), abc_w56, abc_w51, abc_w43, abc_w42]
  kernel_rfl
theorem abc_w59 : wd abcBlock 59 = 2025622859 := by
  rw [wd_big (by decide), abc_w57, abc_w52, abc_w44, abc_w43]
  kernel_rfl
theorem abc_w60 : wd abcBlock 60 = 2755645205 := by
  rw [wd_big (by decide), abc_w58, abc_w53, abc_w45, abc_w44]
  kernel_rfl
theorem abc_w61 : wd abcBlock 61 = 1720397816 := by
  rw [wd_big (by decide), abc_w59, abc_w54, abc_w46, abc_w45]
  kernel_rfl
theorem abc_w62 : wd abcBlock 62 = 4004225740 := by
  rw [wd_big (by decide), abc_w60, abc_w55, abc_w47, abc_w46]
  kernel_rfl
theorem abc_w63 : wd abcBlock 63 = 313650667 := by
  rw [wd_big (by decide), abc_w61, abc_w56, abc_w48, abc_w47]
  kernel_rfl
theorem abc_r0 : rounds abcBlock start 0 = ⟨1779033703, 3144134277, 1013904242, 2773480762, 1359893119, 2600822924, 528734635, 1541459225⟩ := rfl
theorem abc_r1 : rounds abcBlock start 1 = ⟨1567288269, 1779033703, 3144134277, 1013904242, 4197074466, 1359893119, 2600822924, 528734635⟩ := by
  show round (rounds abcBlock start 0) (key 0) (wd abcBlock 0) = _
  rw [abc_r0, abc_w0]
  kernel_rfl
theorem abc_r2 : rounds abcBlock start 2 = ⟨1516951981, 1567288269, 1779033703, 3144134277, 2026797449, 4197074466, 1359893119, 2600822924⟩ := by
  show round (rounds abcBlock start 1) (key 1) (wd abcBlock 1) = _
  rw [abc_r1, abc_w1]
  kernel_rfl
theorem abc_r3 : rounds abcBlock start 3 = ⟨3368241063, 1516951981, 1567288269, 1779033703, 4180228587, 2026797449, 4197074466, 1359893119⟩ := by
  show round (rounds abcBlock start 2) (key 2) (wd abcBlock 2) = _
  rw [abc_r2, abc_w2]
  kernel_rfl
theorem abc_r4 : rounds abcBlock start 4 = ⟨3578852966, 3368241063, 1516951981, 1567288269, 618661968, 4180228587, 2026797449, 4197074466⟩ := by
  show round (rounds abcBlock start 3) (key 3) (wd abcBlock 3) = _
  rw [abc_r3, abc_w3]
  kernel_rfl
theorem abc_r5 : rounds abcBlock start 5 = ⟨71342698, 3578852966, 3368241063, 1516951981, 1135452741, 618661968, 4180228587, 2026797449⟩ := by
  show round (rounds abcBlock start 4) (key 4) (wd abcBlock 4) = _
  rw [abc_r4, abc_w4]
  kernel_rfl
theorem abc_r6 : rounds abcBlock start 6 = ⟨725748213, 71342698, 3578852966, 3368241063, 1900175533, 1135452741, 618661968, 4180228587⟩ := by
  show round (rounds abcBlock start 5) (key 5) (wd abcBlock 5) = _
  rw [abc_r5, abc_w5]
  kernel_rfl
theorem abc_r7 : rounds abcBlock start 7 = ⟨3842179968, 725748213, 71342698, 3578852966, 2603066369, 1900175533, 1135452741, 618661968⟩ := by
  show round (rounds abcBlock start 6) (key 6) (wd abcBlock 6) = _
  rw [abc_r6, abc_w6]
  kernel_rfl
theorem abc_r8 : rounds abcBlock start 8 = ⟨2241887071, 3842179968, 725748213, 71342698, 207977081, 2603066369, 1900175533, 1135452741⟩ := by
  show round (rounds abcBlock start 7) (key 7) (wd abcBlock 7) = _
  rw [abc_r7, abc_w7]
  kernel_rfl
theorem abc_r9 : rounds abcBlock start 9 = ⟨2382687417, 2241887071, 3842179968, 725748213, 852110732, 207977081, 2603066369, 1900175533⟩ := by
  show round (rounds abcBlock start 8) (key 8) (wd abcBlock 8) = _
  rw [abc_r8, abc_w8]
  kernel_rfl
theorem abc_r10 : rounds abcBlock start 10 = ⟨2357671019, 2382687417, 2241887071, 3842179968, 482944406, 852110732, 207977081, 2603066369⟩ := by
  show round (rounds abcBlock start 9) (key 9) (wd abcBlock 9) = _
  rw [abc_r9, abc_w9]
  kernel_rfl
theorem abc_r11 : rounds abcBlock start 11 = ⟨1201185780, 2357671019, 2382687417, 2241887071, 1131095016, 482944406, 852110732, 207977081⟩ := by
  show round (rounds abcBlock start 10) (key 10) (wd abcBlock 10) = _
  rw [abc_r10, abc_w10]
  kernel_rfl
theorem abc_r12 : rounds abcBlock start 12 = ⟨4146054569, 1201185780, 2357671019, 2382687417, 2171590377, 1131095016, 482944406, 852110732⟩ := by
  show round (rounds abcBlock start 11) (key 11) (wd abcBlock 11) = _
  rw [abc_r11, abc_w11]
  kernel_rfl
theorem abc_r13 : rounds abcBlock start 13 = ⟨2274437520, 4146054569, 1201185780, 2357671019, 509051416, 2171590377, 1131095016, 482944406⟩ := by
  show round (rounds abcBlock start 12) (key 12) (wd abcBlock 12) = _
  rw [abc_r12, abc_w12]
  kernel_rfl
theorem abc_r14 : rounds abcBlock start 14 = ⟨3643992854, 2274437520, 4146054569, 1201185780, 1952073950, 509051416, 2171590377, 1131095016⟩ := by
  show round (rounds abcBlock start 13) (key 13) (wd abcBlock 13) = _
  rw [abc_r13, abc_w13]
  kernel_rfl
theorem abc_r15 : rounds abcBlock start 15 = ⟨3227803614, 3643992854, 2274437520, 4146054569, 194179596, 1952073950, 509051416, 2171590377⟩ := by
  show round (rounds abcBlock start 14) (key 14) (wd abcBlock 14) = _
  rw [abc_r14, abc_w14]
  kernel_rfl
theorem abc_r16 : rounds abcBlock start 16 = ⟨2969183118, 3227803614, 3643992854, 2274437520, 123276749, 194179596, 1952073950, 509051416⟩ := by
  show round (rounds abcBlock start 15) (key 15) (wd abcBlock 15) = _
  rw [abc_r15, abc_w15]
  kernel_rfl
theorem abc_r17 : rounds abcBlock start 17 = ⟨567974555, 2969183118, 3227803614, 3643992854, 2150900380, 123276749, 194179596, 1952073950⟩ := by
  show round (rounds abcBlock start 16) (key 16) (wd abcBlock 16) = _
  rw [abc_r16, abc_w16]
  kernel_rfl
theorem abc_r18 : rounds abcBlock start 18 = ⟨3271285201, 567974555, 2969183118, 3227803614, 2221859924, 2150900380, 123276749, 194179596⟩ := by
  show round (rounds abcBlock start 17) (key 17) (wd abcBlock 17) = _
  rw [abc_r17, abc_w17]
  kernel_rfl
theorem abc_r19 : rounds abcBlock start 19 = ⟨4269243327, 3271285201, 567974555, 2969183118, 3431569761, 2221859924, 2150900380, 123276749⟩ := by
  show round (rounds abcBlock start 18) (key 18) (wd abcBlock 18) = _
  rw [abc_r18, abc_w18]
  kernel_rfl
theorem abc_r20 : rounds abcBlock start 20 = ⟨3790736435, 4269243327, 3271285201, 567974555, 2959311225, 3431569761, 2221859924, 2150900380⟩ := by
  show round (rounds abcBlock start 19) (key 19) (wd abcBlock 19) = _
  rw [abc_r19, abc_w19]
  kernel_rfl
theorem abc_r21 : rounds abcBlock start 21 = ⟨2647034723, 3790736435, 4269243327, 3271285201, 2329577776, 2959311225, 3431569761, 2221859924⟩ := by
  show round (rounds abcBlock start 20) (key 20) (wd abcBlock 20) = _
  rw [abc_r20, abc_w20]
  kernel_rfl
theorem abc_r22 : rounds abcBlock start 22 = ⟨3261099373, 2647034723, 3790736435, 4269243327, 3777329520, 2329577776, 2959311225, 3431569761⟩ := by
  show round (rounds abcBlock start 21) (key 21) (wd abcBlock 21) = _
  rw [abc_r21, abc_w21]
  kernel_rfl
theorem abc_r23 : rounds abcBlock start 23 = ⟨2812502591, 3261099373, 2647034723, 3790736435, 1240797514, 3777329520, 2329577776, 2959311225⟩ := by
  show round (rounds abcBlock start 22) (key 22) (wd abcBlock 22) = _
  rw [abc_r22, abc_w22]
  kernel_rfl
theorem abc_r24 : rounds abcBlock start 24 = ⟨3319086477, 2812502591, 3261099373, 2647034723, 2856829767, 1240797514, 3777329520, 2329577776⟩ := by
  show round (rounds abcBlock start 23) (key 23) (wd abcBlock 23) = _
  rw [abc_r23, abc_w23]
  kernel_rfl
theorem abc_r25 : rounds abcBlock start 25 = ⟨472655928, 3319086477, 2812502591, 3261099373, 673443729, 2856829767, 1240797514, 3777329520⟩ := by
  show round (rounds abcBlock start 24) (key 24) (wd abcBlock 24) = _
  rw [abc_r24, abc_w24]
  kernel_rfl
theorem abc_r26 : rounds abcBlock start 26 = ⟨3454534525, 472655928, 3319086477, 2812502591, 339230094, 673443729, 2856829767, 1240797514⟩ := by
  show round (rounds abcBlock start 25) (key 25) (wd abcBlock 25) = _
  rw [abc_r25, abc_w25]
  kernel_rfl
theorem abc_r27 : rounds abcBlock start 27 = ⟨3056518332, 3454534525, 472655928, 3319086477, 3343672598, 339230094, 673443729, 2856829767⟩ := by
  show round (rounds abcBlock start 26) (key 26) (wd abcBlock 26) = _
  rw [abc_r26, abc_w26]
  kernel_rfl
theorem abc_r28 : rounds abcBlock start 28 = ⟨2010346792, 3056518332, 3454534525, 472655928, 3992961016, 3343672598, 339230094, 673443729⟩ := by
  show round (rounds abcBlock start 27) (key 27) (wd abcBlock 27) = _
  rw [abc_r27, abc_w27]
  kernel_rfl
theorem abc_r29 : rounds abcBlock start 29 = ⟨909411017, 2010346792, 3056518332, 3454534525, 1628611511, 3992961016, 3343672598, 339230094⟩ := by
  show round (rounds abcBlock start 28) (key 28) (wd abcBlock 28) = _
  rw [abc_r28, abc_w28]
  kernel_rfl
theorem abc_r30 : rounds abcBlock start 30 = ⟨2684750640, 909411017, 2010346792, 3056518332, 2917635127, 1628611511, 3992961016, 3343672598⟩ := by
  show round (rounds abcBlock start 29) (key 29) (wd abcBlock 29) = _
  rw [abc_r29, abc_w29]
  kernel_rfl
theorem abc_r31 : rounds abcBlock start 31 = ⟨3935906338, 2684750640, 909411017, 2010346792, 17410874, 2917635127, 1628611511, 3992961016⟩ := by
  show round (rounds abcBlock start 30) (key 30) (wd abcBlock 30) = _
  rw [abc_r30, abc_w30]
  kernel_rfl
theorem abc_r32 : rounds abcBlock start 32 = ⟨1941126133, 3935906338, 2684750640, 909411017, 3126399250, 17410874, 2917635127, 1628611511⟩ := by
  show round (rounds abcBlock start 31) (key 31) (wd abcBlock 31) = _
  rw [abc_r31, abc_w31]
  kernel_rfl
theorem abc_r33 : rounds abcBlock start 33 = ⟨2564891911, 1941126133, 3935906338, 2684750640, 2631529974, 3126399250, 17410874, 2917635127⟩ := by
  show round (rounds abcBlock start 32) (key 32) (wd abcBlock 32) = _
  rw [abc_r32, abc_w32]
  kernel_rfl
theorem abc_r34 : rounds abcBlock start 34 = ⟨4267724277, 2564891911, 1941126133, 3935906338, 1495571923, 2631529974, 3126399250, 17410874⟩ := by
  show round (rounds abcBlock start 33) (key 33) (wd abcBlock 33) = _
  rw [abc_r33, abc_w33]
  kernel_rfl
theorem abc_r35 : rounds abcBlock start 35 = ⟨2846323596, 4267724277, 2564891911, 1941126133, 140458035, 1495571923, 2631529974, 3126399250⟩ := by
  show round (rounds abcBlock start 34) (key 34) (wd abcBlock 34) = _
  rw [abc_r34, abc_w34]
  kernel_rfl
theorem abc_r36 : rounds abcBlock start 36 = ⟨1705037796, 2846323596, 4267724277, 2564891911, 4105175766, 140458035, 1495571923, 2631529974⟩ := by
  show round (rounds abcBlock start 35) (key 35) (wd abcBlock 35) = _
  rw [abc_r35, abc_w35]
  kernel_rfl
theorem abc_r37 : rounds abcBlock start 37 = ⟨1101421745, 1705037796, 2846323596, 4267724277, 124953195, 4105175766, 140458035, 1495571923⟩ := by
  show round (rounds abcBlock start 36) (key 36) (wd abcBlock 36) = _
  rw [abc_r36, abc_w36]
  kernel_rfl
theorem abc_r38 : rounds abcBlock start 38 = ⟨887035396, 1101421745, 1705037796, 2846323596, 2768741693, 124953195, 4105175766, 140458035⟩ := by
  show round (rounds abcBlock start 37) (key 37) (wd abcBlock 37) = _
  rw [abc_r37, abc_w37]
  kernel_rfl
theorem abc_r39 : rounds abcBlock start 39 = ⟨1841658506, 887035396, 1101421745, 1705037796, 4034403272, 2768741693, 124953195, 4105175766⟩ := by
  show round (rounds abcBlock start 38) (key 38) (wd abcBlock 38) = _
  rw [abc_r38, abc_w38]
  kernel_rfl
theorem abc_r40 : rounds abcBlock start 40 = ⟨2045405306, 1841658506, 887035396, 1101421745, 519815328, 4034403272, 2768741693, 124953195⟩ := by
  show round (rounds abcBlock start 39) (key 39) (wd abcBlock 39) = _
  rw [abc_r39, abc_w39]
  kernel_rfl
theorem abc_r41 : rounds abcBlock start 41 = ⟨3597076326, 2045405306, 1841658506, 887035396, 641019235, 519815328, 4034403272, 2768741693⟩ := by
  show round (rounds abcBlock start 40) (key 40) (wd abcBlock 40) = _
  rw [abc_r40, abc_w40]
  kernel_rfl
theorem abc_r42 : rounds abcBlock start 42 = ⟨3745932591, 3597076326, 2045405306, 1841658506, 2206934801, 641019235, 519815328, 4034403272⟩ := by
  show round (rounds abcBlock start 41) (key 41) (wd abcBlock 41) = _
  rw [abc_r41, abc_w41]
  kernel_rfl
theorem abc_r43 : rounds abcBlock start 43 = ⟨397020670, 3745932591, 3597076326, 2045405306, 3737995029, 2206934801, 641019235, 519815328⟩ := by
  show round (rounds abcBlock start 42) (key 42) (wd abcBlock 42) = _
  rw [abc_r42, abc_w42]
  kernel_rfl
theorem abc_r44 : rounds abcBlock start 44 = ⟨2638983059, 397020670, 3745932591, 3597076326, 4255271982, 3737995029, 2206934801, 641019235⟩ := by
  show round (rounds abcBlock start 43) (key 43) (wd abcBlock 43) = _
  rw [abc_r43, abc_w43]
  kernel_rfl
theorem abc_r45 : rounds abcBlock start 45 = ⟨643991573, 2638983059, 397020670, 3745932591, 2819559920, 4255271982, 3737995029, 2206934801⟩ := by
  show round (rounds abcBlock start 44) (key 44) (wd abcBlock 44) = _
  rw [abc_r44, abc_w44]
  kernel_rfl
theorem abc_r46 : rounds abcBlock start 46 = ⟨1923828625, 643991573, 2638983059, 397020670, 3077922209, 2819559920, 4255271982, 3737995029⟩ := by
  show round (rounds abcBlock start 45) (key 45) (wd abcBlock 45) = _
  rw [abc_r45, abc_w45]
  kernel_rfl
theorem abc_r47 : rounds abcBlock start 47 = ⟨2706117808, 1923828625, 643991573, 2638983059, 3581645993, 3077922209, 2819559920, 4255271982⟩ := by
  show round (rounds abcBlock start 46) (key 46) (wd abcBlock 46) = _
  rw [abc_r46, abc_w46]
  kernel_rfl
theorem abc_r48 : rounds abcBlock start 48 = ⟨1098003085, 2706117808, 1923828625, 643991573, 4274981830, 3581645993, 3077922209, 2819559920⟩ := by
  show round (rounds abcBlock start 47) (key 47) (wd abcBlock 47) = _
  rw [abc_r47, abc_w47]
  kernel_rfl
theorem abc_r49 : rounds abcBlock start 49 = ⟨91585771, 1098003085, 2706117808, 1923828625, 3178315832, 4274981830, 3581645993, 3077922209⟩ := by
  show round (rounds abcBlock start 48) (key 48) (wd abcBlock 48) = _
  rw [abc_r48, abc_w48]
  kernel_rfl
theorem abc_r50 : rounds abcBlock start 50 = ⟨4045142696, 91585771, 1098003085, 2706117808, 1851537676, 3178315832, 4274981830, 3581645993⟩ := by
  show round (rounds abcBlock start 49) (key 49) (wd abcBlock 49) = _
  rw [abc_r49, abc_w49]
  kernel_rfl
theorem abc_r51 : rounds abcBlock start 51 = ⟨2047150241, 4045142696, 91585771, 1098003085, 1391578359, 1851537676, 3178315832, 4274981830⟩ := by
  show round (rounds abcBlock start 50) (key 50) (wd abcBlock 50) = _
  rw [abc_r50, abc_w50]
  kernel_rfl
theorem abc_r52 : rounds abcBlock start 52 = ⟨2288941602, 2047150241, 4045142696, 91585771, 1227037726, 1391578359, 1851537676, 3178315832⟩ := by
  show round (rounds abcBlock start 51) (key 51) (wd abcBlock 51) = _
  rw [abc_r51, abc_w51]
  kernel_rfl
theorem abc_r53 : rounds abcBlock start 53 = ⟨270520975, 2288941602, 2047150241, 4045142696, 1386118400, 1227037726, 1391578359, 1851537676⟩ := by
  show round (rounds abcBlock start 52) (key 52) (wd abcBlock 52) = _
  rw [abc_r52, abc_w52]
  kernel_rfl
theorem abc_r54 : rounds abcBlock start 54 = ⟨4117770203, 270520975, 2288941602, 2047150241, 2672265155, 1386118400, 1227037726, 1391578359⟩ := by
  show round (rounds abcBlock start 53) (key 53) (wd abcBlock 53) = _
  rw [abc_r53, abc_w53]
  kernel_rfl
theorem abc_r55 : rounds abcBlock start 55 = ⟨1053056219, 4117770203, 270520975, 2288941602, 3842906959, 2672265155, 1386118400, 1227037726⟩ := by
  show round (rounds abcBlock start 54) (key 54) (wd abcBlock 54) = _
  rw [abc_r54, abc_w54]
  kernel_rfl
theorem abc_r56 : rounds abcBlock start 56 = ⟨952932627, 1053056219, 4117770203, 270520975, 1422599787, 3842906959, 2672265155, 1386118400⟩ := by
  show round (rounds abcBlock start 55) (key 55) (wd abcBlock 55) = _
  rw [abc_r55, abc_w55]
  kernel_rfl
theorem abc_r57 : rounds abcBlock start 57 = ⟨4241590395, 952932627, 1053056219, 4117770203, 2606665836, 1422599787, 3842906959, 2672265155⟩ := by
  show round (rounds abcBlock start 56) (key 56) (wd abcBlock 56) = _
  rw [abc_r56, abc_w56]
  kernel_rfl
theorem abc_r58 : rounds abcBlock start 58 = ⟨3227702383, 4241590395, 952932627, 1053056219, 2118385806, 2606665836, 1422599787, 3842906959⟩ := by
  show round (rounds abcBlock start 57) (key 57) (wd abcBlock 57) = _
  rw [abc_r57, abc_w57]
  kernel_rfl
theorem abc_r59 : rounds abcBlock start 59 = ⟨4290184306, 3227702383, 4241590395, 952932627, 1837350854, 2118385806, 2606665836, 1422599787⟩ := by
  show round (rounds abcBlock start 58) (key 58) (wd abcBlock 58) = _
  rw [abc_r58, abc_w58]
  kernel_rfl
theorem abc_r60 : rounds abcBlock start 60 = ⟨3064893439, 4290184306, 3227702383, 4241590395, 2988158269, 1837350854, 2118385806, 2606665836⟩ := by
  show round (rounds abcBlock start 59) (key 59) (wd abcBlock 59) = _
  rw [abc_r59, abc_w59]
  kernel_rfl
theorem abc_r61 : rounds abcBlock start 61 = ⟨3093179625, 3064893439, 4290184306, 3227702383, 2518632596, 2988158269, 1837350854, 2118385806⟩ := by
  show round (rounds abcBlock start 60) (key 60) (wd abcBlock 60) = _
  rw [abc_r60, abc_w60]
  kernel_rfl
theorem abc_r62 : rounds abcBlock start 62 = ⟨80891244, 3093179625, 3064893439, 4290184306, 2492278198, 2518632596, 2988158269, 1837350854⟩ := by
  show round (rounds abcBlock start 61) (key 61) (wd abcBlock 61) = _
  rw [abc_r61, abc_w61]
  kernel_rfl
theorem abc_r63 : rounds abcBlock start 63 = ⟨3550093669, 80891244, 3093179625, 3064893439, 4212265488, 2492278198, 2518632596, 2988158269⟩ := by
  show round (rounds abcBlock start 62) (key 62) (wd abcBlock 62) = _
  rw [abc_r62, abc_w62]
  kernel_rfl
theorem abc_r64 : rounds abcBlock start 64 = ⟨1349398616, 3550093669, 80891244, 3093179625, 1593118500, 4212265488, 2492278198, 2518632596⟩ := by
  show round (rounds abcBlock start 63) (key 63) (wd abcBlock 63) = _
  rw [abc_r63, abc_w63]
  kernel_rfl
theorem abc_press : press start abcBlock = ⟨3128432319, 2399260650, 1094795486, 1571693091, 2953011619, 2518121116, 3021012833, 4060091821⟩ := by
  unfold press
  rw [abc_r64]
  kernel_rfl
theorem abc_sum : hex (sum abc) = [98, 97, 55, 56, 49, 54, 98, 102, 56, 102, 48, 49, 99, 102, 101, 97, 52, 49, 52, 49, 52, 48, 100, 101, 53, 100, 97, 101, 50, 50, 50, 51, 98, 48, 48, 51, 54, 49, 97, 51, 57, 54, 49, 55, 55, 97, 57, 99, 98, 52, 49, 48, 102, 102, 54, 49, 102, 50, 48, 48, 49, 53, 97, 100] := by
  unfold sum
  rw [abc_count]
  show hex (outs (press start (blk (pad abc) 0)) 8) = _
  rw [abc_block, abc_press]
  decide +kernel
end Go.Proofs.YtpimdbnhpbjlkaaDoor.dg
/-! VtL1 -/
namespace Go.Proofs.YtpimdbnhpbjlkaaDoor.vt
set_option linter.unusedVariables false
open Go.RowKit
open fl (S S_size S_append S_inj)
open rw (Arr But below_box bnext below_drew below_drewN Fr Own)
open dk (Bs File Dk PD Step Nu Inv Live turn sync read fuse crash Right count strSh get used)

/-! ### Put, where there is room and power -/
theorem off_no {d : Dk} (h : d.fused = false) : dk.off d = false := by unfold dk.off; rw [h]; rfl
theorem spend_no {d : Dk} (h : d.fused = false) : dk.spend d = d := by unfold dk.spend; rw [if_neg (by rw [h]; decide)]
theorem sync_no {d : Dk} (h : d.fused = false) : sync d = (0, { d with lasts := d.seen, pend := [] }) := by
  unfold sync
  rw [if_neg (by rw [off_no h]; decide)]
  unfold dk.spend
  rw [if_neg (by show ¬ d.fused = true; rw [h]; decide)]
theorem putV_inv {j : Nat} {d : Dk} (h : Inv j d) (s : Bs) (hs : s.length ≤ 140737488355328) : Inv (j + 2) (putV d s).2.2 := by
  have h1 := dk.inv_turn h ⟨2, vname (dg.sum s), s⟩ hs
  have h2 := dk.inv_sync h1
  unfold putV
  split
  · exact h.mono (by omega)
  · split
    · exact h.mono (by omega)
    · split
      · exact h1.mono (by omega)
      · split
        · exact h2
        · exact h2
/-- What a Put makes. -/
structure Did (d d' : Dk) (s : Bs) : Prop where
  f : d'.fused = false
  c : d'.cap = d.cap
  seen : (d' = d ∧ get d.seen (vname (dg.sum s)) = some s) ∨ (d'.seen = dk.put d.seen (vname (dg.sum s), s) ∧ d'.lasts = d'.seen ∧ d'.pend = [])
theorem putV_did {d : Dk} (hd : Right d) (hf : d.fused = false) (s : Bs) (hs : s.length ≤ 4096) (hu : used d.seen + s.length ≤ d.cap) : ∃ d', putV d s = (dg.sum s, 0, d') ∧ Did d d' s := by
  have hn : dk.Named (vname (dg.sum s)) := vname_named (dg.sum_length s)
  have hup := dk.used_put hd.sorted (vname (dg.sum s), s)
  have ht := turn_put (off_no hf) hn (s := s) (by
    have : used (dk.put d.seen (vname (dg.sum s), s)) + ((get d.seen (vname (dg.sum s))).getD []).length = used d.seen + s.length := hup
    omega)
  by_cases hg : get d.seen (vname (dg.sum s)) = some s
  · refine ⟨d, ?_, hf, rfl, .inl ⟨rfl, hg⟩⟩
    unfold putV
    rw [rd_some (off_no hf) hg, if_neg (by omega), if_pos ⟨rfl, rfl⟩]
  · have hr : ¬ ((read d (vname (dg.sum s))).2 = 0 ∧ (read d (vname (dg.sum s))).1 = s) := by
      rintro ⟨h1, h2⟩
      cases hgg : get d.seen (vname (dg.sum s)) with
      | none => rw [rd_none (off_no hf) hgg] at h1; exact absurd h1 (by decide)
      | some t =>
        rw [rd_some (off_no hf) hgg] at h2
        exact hg (by rw [hgg]; exact congrArg some h2)
    rw [spend_no (d := { d with seen := dk.put d.seen (vname (dg.sum s), s), pend := d.pend ++ [⟨2, vname (dg.sum s), s⟩] }) hf] at ht
    have hsy := sync_no (d := { d with seen := dk.put d.seen (vname (dg.sum s), s), pend := d.pend ++ [⟨2, vname (dg.sum s), s⟩] }) hf
    refine ⟨{ d with lasts := dk.put d.seen (vname (dg.sum s), s), seen := dk.put d.seen (vname (dg.sum s), s), pend := [] }, ?_, hf, rfl, .inr ⟨rfl, rfl, rfl⟩⟩
    unfold putV
    rw [if_neg (by omega), if_neg hr, ht]
    simp only
    rw [if_neg (by decide), hsy]
    simp only
    rw [if_neg (by decide)]
section
variable {d d' : Dk} {s : Bs}
theorem Did.get (h : Did d d' s) (hd : Right d) : get d'.seen (vname (dg.sum s)) = some s := by
  rcases h.seen with ⟨rfl, hg⟩ | ⟨e, _⟩
  · exact hg
  · rw [e]; exact dk.get_put_same hd.sorted _ _
theorem Did.other (h : Did d d' s) (hd : Right d) {n : Bs} (hn : n ≠ vname (dg.sum s)) : dk.get d'.seen n = dk.get d.seen n := by
  rcases h.seen with ⟨rfl, hg⟩ | ⟨e, _⟩
  · rfl
  · rw [e]; exact dk.get_put_other hd.sorted _ hn
theorem Did.used (h : Did d d' s) (hd : Right d) : dk.used d'.seen ≤ dk.used d.seen + s.length := by
  rcases h.seen with ⟨rfl, hg⟩ | ⟨e, _⟩
  · omega
  · rw [e]
    have : dk.used (dk.put d.seen (vname (dg.sum s), s)) + ((dk.get d.seen (vname (dg.sum s))).getD []).length = dk.used d.seen + s.length := dk.used_put hd.sorted (vname (dg.sum s), s)
    omega
end

/-! ### few, long -/
set_option maxRecDepth 100000 in
theorem few_call (n : Nat) (w : World) : Calls Tryd.prog 24 #[.int .i64 (n : Nat)] w fun e w' => e = .returned (.int .i64 (min n 1048576 : Nat)) ∧ Below w.heap.size w w' := by
  go_enter Tryd.func24, Tryd.ntmps24
  go_wp2_with fail
  go_ret
  exact ⟨congrArg (fun z => Ending.returned (Value.int .i64 z)) (by show min (n : Int) 1048576 = _; omega), Below.refl _ _⟩
def lens (l : List Bs) : Nat := (l.map (·.length)).sum
def fews (l : List Bs) : Nat := (l.map fun s => min s.length 1048576).sum
theorem fews_succ (l : List Bs) (k : Nat) (h : k < l.length) : fews (l.take (k + 1)) = fews (l.take k) + min (l[k]'h).length 1048576 := by
  unfold fews
  rw [List.take_succ_eq_append_getElem h, List.map_append, List.sum_append]
  simp
theorem fews_le : ∀ l : List Bs, fews l ≤ l.length * 1048576
  | [] => by simp [fews]
  | a :: r => by
    have := fews_le r
    unfold fews at *
    simp only [List.map_cons, List.sum_cons, List.length_cons]
    omega
theorem fews_lens : ∀ l : List Bs, fews l < 1048576 → lens l = fews l
  | [], _ => rfl
  | a :: r, h => by
    unfold fews lens at *
    simp only [List.map_cons, List.sum_cons] at *
    have := fews_lens r (by unfold fews; omega)
    unfold fews lens at this
    omega
theorem lens_mem {l : List Bs} {s : Bs} (h : s ∈ l) : s.length ≤ lens l := by
  induction l with
  | nil => cases h
  | cons a r ih =>
    unfold lens at *
    simp only [List.map_cons, List.sum_cons]
    rcases List.mem_cons.1 h with rfl | h
    · omega
    · have := ih h; omega
/-- What long tells. -/
def LO (l : List Bs) (n : Nat) : Prop := n ≤ 32768 → l.length ≤ 40 ∧ lens l ≤ 32768
set_option maxHeartbeats 4000000 in
set_option maxRecDepth 100000 in
theorem long_call (v : Value) (l : List Bs) (w : World) (hv : rw.Sl strSh w v l) : Calls Tryd.prog 7 #[v] w fun e w' => ∃ n : Nat, e = .returned (.int .i64 (n : Nat)) ∧ n ≤ 1073741824 ∧ LO l n ∧ Below w.heap.size w w' := by
  obtain ⟨va, vc, rfl⟩ : ∃ a c, v = .slice a l.length c := by obtain ⟨a, c, e, _⟩ := hv; exact ⟨a, c, e⟩
  have HV := Lib.hid hv
  clear hv
  by_cases h40 : l.length ≤ 40
  · have hi40 : ¬ (l.length : Int) > 40 := by omega
    go_enter Tryd.func7, Tryd.ntmps7
    go_wp2_with fail
    go_loopw [3, 4] (fun n i wr => ∃ k t : Nat, i = .int .i64 (k : Nat) ∧ n = .int .i64 (t : Nat) ∧ k ≤ l.length ∧ t ≤ 40 + k * 1048576 ∧ Hid (t = l.length + fews (l.take k) ∧ Below w.heap.size w wr))
      (fun _ i _ => l.length - (intOf i).toNat)
    case atStart => exact ⟨0, l.length, rfl, rfl, Nat.zero_le _, by omega, by simp [fews], Below.refl _ _⟩
    case round =>
    obtain ⟨k, t, rfl, rfl, hk, ht, HI⟩ := hrel
    by_cases hlt : k < l.length
    · have hki : (k : Int) < (l.length : Int) := by omega
      obtain ⟨b, off, c, e, hc⟩ := texts_at (rw.Sl.later strSh HV.out HI.out.2) hlt
      injection e with e1 e2 e3
      subst e1 e3
      have hfs := fews_succ l k hlt
      generalize l[k]'hlt = x at *
      have hF := few_call x.length wr
      have hxs := S_size x
      obtain ⟨f2, hf2⟩ : ∃ f, min x.length 1048576 = f := ⟨_, rfl⟩
      rw [hf2] at hF hfs
      have hf3 : f2 ≤ 1048576 := by omega
      obtain ⟨z, hz⟩ : ∃ z, t + f2 = z := ⟨_, rfl⟩
      have q1 : IntKind.i64.wrap ((t : Int) + (f2 : Int)) = (z : Int) := by rw [IntWalk.i64_in _ (by omega)]; omega
      have HZ : Hid (z = l.length + fews (l.take (k + 1))) := Lib.hid (by rw [hfs, ← hz, HI.out.1]; omega)
      have hz2 : z ≤ 40 + (k + 1) * 1048576 := by omega
      have HB := Lib.hid HI.out.2
      clear HI e2 hf2 hz hfs ht hf3
      go_wp2_with fail
      refine hF.mono ?_
      clear hF hc
      rintro e w2 ⟨rfl, b2⟩
      have HB2 := Lib.hid (HB.out.trans (b2.mono HB.out.size))
      clear b2 HB
      go_wp2_with fail
      exact ⟨⟨k + 1, z, by rw [Int.natCast_add]; rfl, rfl, by omega, hz2, HZ.out, HB2.out⟩, by simp only [intOf]; omega⟩
    obtain rfl : k = l.length := by omega
    have hki : ¬ (l.length : Int) < (l.length : Int) := by omega
    have HE : Hid (LO l t ∧ Below w.heap.size w wr) := by
      refine ⟨fun h => ?_, HI.out.2⟩
      have h1 := HI.out.1
      rw [List.take_length] at h1
      have h2 := fews_lens l (by omega)
      omega
    have ht2 : t ≤ 1073741824 := by omega
    clear HI ht
    go_wp2_with fail
    go_ret
    exact ⟨t, rfl, ht2, HE.out.1, HE.out.2⟩
  · have hi40 : (l.length : Int) > 40 := by omega
    go_enter Tryd.func7, Tryd.ntmps7
    go_wp2_with fail
    go_ret
    exact ⟨1073741824, rfl, Nat.le_refl _, fun h => by omega, Below.refl _ _⟩

/-! ### clash -/
def NoClash (l : List Bs) : Prop := ∀ a ∈ l, ∀ b ∈ l, dg.sum a = dg.sum b → a = b
def Before (l : List Bs) (i k : Nat) : Prop := (∀ a (ha : a < l.length) b (hb : b < l.length), a < i → b < a → dg.sum l[a] = dg.sum l[b] → l[a] = l[b]) ∧ (∀ (hi : i < l.length) b (hb : b < l.length), b < k → dg.sum l[i] = dg.sum l[b] → l[i] = l[b])
theorem Before.all {l : List Bs} (h : Before l l.length 0) : NoClash l := by
  intro x hx y hy e
  obtain ⟨a, ha, rfl⟩ := List.mem_iff_getElem.1 hx
  obtain ⟨b, hb, rfl⟩ := List.mem_iff_getElem.1 hy
  rcases Nat.lt_trichotomy b a with h1 | h1 | h1
  · exact h.1 a ha b hb ha h1 e
  · subst h1; rfl
  · exact (h.1 b hb a ha hb h1 e.symm).symm
theorem Before.next {l : List Bs} {i k : Nat} (h : Before l i k) (hi : i < l.length) (hk : k < l.length) (hn : dg.sum l[i] = dg.sum l[k] → l[i] = l[k]) : Before l i (k + 1) := by
  refine ⟨h.1, fun _ b hb hbk => ?_⟩
  rcases Nat.lt_or_ge b k with h1 | h1
  · exact h.2 hi b hb h1
  · obtain rfl : b = k := by omega
    exact hn
theorem Before.turn {l : List Bs} {i : Nat} (h : Before l i i) : Before l (i + 1) 0 := by
  refine ⟨fun a ha b hb h1 h2 => ?_, fun _ b hb h => by omega⟩
  rcases Nat.lt_or_ge a i with h3 | h3
  · exact h.1 a ha b hb h3 h2
  · obtain rfl : a = i := by omega
    exact h.2 ha b hb h2
/-- What clash tells. -/
def CO (l : List Bs) (e : Ending) : Prop := ∃ r, e = .returned (.bool r) ∧ (r = false → NoClash l)
set_option maxHeartbeats 8000000 in
set_option maxRecDepth 100000 in
theorem clash_call (v : Value) (l : List Bs) (hl : ∀ s ∈ l, s.length ≤ 1099511627776) (hn : l.length ≤ 1000000) (w : World) (hK : dg.Keys w) (hv : rw.Sl strSh w v l) : Calls Tryd.prog 8 #[v] w fun e w' => CO l e ∧ Below w.heap.size w w' := by
  obtain ⟨va, vc, rfl⟩ : ∃ a c, v = .slice a l.length c := by obtain ⟨a, c, e, _⟩ := hv; exact ⟨a, c, e⟩
  have HV := Lib.hid (And.intro hv hK)
  have HL := Lib.hid hl
  clear hv hK hl
  go_enter Tryd.func8, Tryd.ntmps8
  go_wp2_with fail
  go_loopw [3] (fun i wr => ∃ k : Nat, i = .int .i64 (k : Nat) ∧ k ≤ l.length ∧ Hid (Before l k 0 ∧ Below w.heap.size w wr))
    (fun i _ => l.length - (intOf i).toNat)
  case atStart => exact ⟨0, rfl, Nat.zero_le _, ⟨fun a ha b hb h => by omega, fun _ b hb h => by omega⟩, Below.refl _ _⟩
  case round =>
  obtain ⟨i, rfl, hi, HI⟩ := hrel
  by_cases hlt : i < l.length
  · have hki : (i : Int) < (l.length : Int) := by omega
    rename World => w1
    go_wp2_with fail
    go_loopw [4] (fun kk wr => ∃ k : Nat, kk = .int .i64 (k : Nat) ∧ k ≤ i ∧ Hid (Before l i k ∧ Below w.heap.size w wr))
      (fun kk _ => i - (intOf kk).toNat)
    case atStart => exact ⟨0, rfl, Nat.zero_le _, HI.out⟩
    case round =>
    obtain ⟨k, rfl, hk, HI2⟩ := hrel
    by_cases hlk : k < i
    · have hkk : (k : Int) < (i : Int) := by omega
      have hkl : k < l.length := by omega
      have hkli : (k : Int) < (l.length : Int) := by omega
      have HB := Lib.hid HI2.out.2
      have HN : Hid ((dg.sum l[i] = dg.sum l[k] → l[i] = l[k]) → Before l i (k + 1)) := HI2.out.1.next hlt hkl
      have hsa := HL.out _ (List.getElem_mem hlt)
      have hsb := HL.out _ (List.getElem_mem hkl)
      have T1 := Lib.hid fun W (h : Below wr.heap.size wr W) => texts_at (rw.Sl.later strSh HV.out.1 (HB.out.trans (h.mono HB.out.size))) hlt
      have T2 := Lib.hid fun W (h : Below wr.heap.size wr W) => texts_at (rw.Sl.later strSh HV.out.1 (HB.out.trans (h.mono HB.out.size))) hkl
      generalize l[i] = xa at *
      generalize l[k] = xb at *
      obtain ⟨b, off, c, e, -⟩ := T1.out wr (Below.refl _ _)
      injection e with e1 e2 e3
      subst e1 e3
      have HC : Hid (∀ W, Below wr.heap.size wr W → W.cell? ⟨b, off + i, none⟩ = some (.string (S xa)) ∧ W.cell? ⟨b, off + k, none⟩ = some (.string (S xb))) := fun W h => by
        obtain ⟨b1, o1, c1, g1, h1⟩ := T1.out W h
        obtain ⟨b2, o2, c2, g2, h2⟩ := T2.out W h
        injection g1 with g11 g12 g13
        injection g11 with g11
        injection g11 with g14 g15
        injection g2 with g21 g22 g23
        injection g21 with g21
        injection g21 with g24 g25
        subst g14 g15 g24 g25
        exact ⟨h1, h2⟩
      clear T1 T2 HI2 e2
      have hq := S_beq xa xb
      go_wp2_with fail
      by_cases hab : xa = xb
      · have HE : Hid (∀ n, Before l i (k + 1) ∧ Below w.heap.size w (wr.drewN n)) := fun n => ⟨HN.out fun _ => hab, HB.out.trans (below_drewN (Below.refl _ _) n |>.mono HB.out.size)⟩
        rw [decide_eq_true hab] at hq
        have HC1 : Hid (∀ n, (wr.drewN n).cell? ⟨b, off + i, none⟩ = some (.string (S xa)) ∧ (wr.drewN n).cell? ⟨b, off + k, none⟩ = some (.string (S xb))) := fun n => HC.out _ (below_drewN (Below.refl _ _) n)
        obtain ⟨d1, d2⟩ := HC.out wr (Below.refl _ _)
        clear HC HN HB hsa hsb hab
        go_quiet (fail)
        clear d1 d2
        have HE2 := Lib.hid (HE.out nq)
        clear HE HC1
        go_wp2_with fail
        exact ⟨⟨k + 1, by rw [Int.natCast_add]; rfl, by omega, HE2⟩, by simp only [intOf]; omega⟩
      · rw [decide_eq_false hab] at hq
        obtain ⟨ya, hya⟩ : ∃ y, dg.sum xa = y := ⟨_, rfl⟩
        obtain ⟨yb, hyb⟩ : ∃ y, dg.sum xb = y := ⟨_, rfl⟩
        have HKy : Hid (∀ W, Below wr.heap.size wr W → dg.Keys W) := fun W h => HV.out.2.below (HB.out.trans (h.mono HB.out.size)) HV.out.2.pos
        have HSa : Hid (∀ W, Below wr.heap.size wr W → Calls Tryd.prog 12 #[.string (S xa)] W fun e w' => e = .returned (.string (S ya)) ∧ Below W.heap.size W w') := fun W h => by
          rw [← hya]; exact sum_call xa (by omega) W (HKy.out W h)
        have HSb : Hid (∀ W, Below wr.heap.size wr W → Calls Tryd.prog 12 #[.string (S xb)] W fun e w' => e = .returned (.string (S yb)) ∧ Below W.heap.size W w') := fun W h => by
          rw [← hyb]; exact sum_call xb (by omega) W (HKy.out W h)
        rw [hya, hyb] at HN
        have hq2 := S_beq ya yb
        obtain ⟨r, hr⟩ : ∃ r, decide (ya = yb) = r := ⟨_, rfl⟩
        rw [hr] at hq2
        have HE : Hid ((r = false → Before l i (k + 1)) ∧ ∀ W, Below wr.heap.size wr W → Below w.heap.size w W) := ⟨fun h => HN.out fun he => by rw [h] at hr; exact absurd he (of_decide_eq_false hr), fun W h => HB.out.trans (h.mono HB.out.size)⟩
        clear HN HB hya hyb hr HKy hsa hsb hab
        have X0 := Lib.hid (below_drew (Below.refl wr.heap.size wr))
        have kx := HC.out _ X0.out
        go_region_held3 (fun W => W.cell? ⟨b, off + i, none⟩ = some (.string (S xa)) ∧ W.cell? ⟨b, off + k, none⟩ = some (.string (S xb)))
          (first | (with_reducible exact kx) | go_keep)
          (first | (go_at_call 12; with_reducible refine (HSa.out _ X0.out).mono ?_; rintro e w5 ⟨rfl, b5⟩; replace X0 := Lib.hid (X0.out.trans (b5.mono X0.out.size)); clear kx b5; have kx := HC.out _ X0.out) | (go_at_call 12; with_reducible refine (HSb.out _ X0.out).mono ?_; rintro e w6 ⟨rfl, b6⟩; replace X0 := Lib.hid (X0.out.trans (b6.mono X0.out.size)); clear kx b6; have kx := HC.out _ X0.out))
        all_goals (
          have HX := Lib.hid (HE.out.2 _ X0.out)
          have HF := Lib.hid HE.out.1
          clear HE X0 kx HSa HSb HC
          cases r with
          | true =>
            go_wp2_with fail
            go_ret
            exact ⟨⟨true, rfl, fun h => by cases h⟩, HX.out⟩
          | false =>
            have HE2 := Lib.hid (And.intro (HF.out rfl) HX.out)
            clear HX HF
            go_wp2_with fail
            exact ⟨⟨k + 1, by rw [Int.natCast_add]; rfl, by omega, HE2⟩, by simp only [intOf]; omega⟩)
    obtain rfl : k = i := by omega
    have hkk : ¬ (k : Int) < (k : Int) := by omega
    have HE2 := Lib.hid (And.intro HI2.out.1.turn HI2.out.2)
    clear HI2 HI
    go_wp2_with fail
    exact ⟨⟨k + 1, by rw [Int.natCast_add]; rfl, by omega, HE2⟩, by simp only [intOf]; omega⟩
  obtain rfl : i = l.length := by omega
  have hki : ¬ (l.length : Int) < (l.length : Int) := by omega
  have HE : Hid (NoClash l ∧ Below w.heap.size w wr) := ⟨HI.out.1.all, HI.out.2⟩
  clear HI
  go_wp2_with fail
  go_ret
  exact ⟨⟨false, rfl, fun _ => HE.out.1⟩, HE.out.2⟩
end Go.Proofs.YtpimdbnhpbjlkaaDoor.vt
/-! VtL2 -/
namespace Go.Proofs.YtpimdbnhpbjlkaaDoor.vt
set_option linter.unusedVariables false
open Go.RowKit
open fl (S S_size S_append S_inj)
open rw (Arr But below_box bnext below_drew below_drewN Fr Own)
open dk (Bs File Dk PD Step Nu Inv Live turn sync read fuse crash Right count strSh get used)

theorem abc_hex : S (dg.hex (dg.sum dg.abc)) = ⟨#[98, 97, 55, 56, 49, 54, 98, 102, 56, 102, 48, 49, 99, 102, 101, 97, 52, 49, 52, 49, 52, 48, 100, 101, 53, 100, 97, 101, 50, 50, 50, 51, 98, 48, 48, 51, 54, 49, 97, 51, 57, 54, 49, 55, 55, 97, 57, 99, 98, 52, 49, 48, 102, 102, 54, 49, 102, 50, 48, 48, 49, 53, 97, 100]⟩ := by rw [dg.abc_sum]; rfl
theorem getV_small {d : Dk} (hd : Right d) (h : Bs) : (getV d h).1.length ≤ 1048576 := by
  unfold getV
  split
  · exact Nat.zero_le _
  · split
    · exact Nat.zero_le _
    · split
      · exact Nat.zero_le _
      · exact read_small hd _
theorem put_nil (f : File) : dk.put [] f = [f] := rfl
theorem alive_gen (s q : Bs) (hq : dg.sum s = q) (hs : s.length ≤ 90) : ∃ D1, putV (dk.fresh 100) s = (q, 0, D1) ∧ getV D1 q = (s, 0) ∧ (allV D1.seen).length = 1 ∧ Inv 2 D1 ∧ q.length = 32 := by
  have hi0 : Inv 0 (dk.fresh 100) := dk.inv_fresh (by decide)
  obtain ⟨D1, hP1, hD1⟩ := putV_did (d := dk.fresh 100) hi0.r rfl s (by omega) (by show 0 + s.length ≤ 100; omega)
  have hi1 : Inv 2 D1 := by
    have := putV_inv hi0 s (by omega)
    rw [hP1] at this
    exact this
  have hG1 : getV D1 (dg.sum s) = (s, 0) := getV_some (off_no hD1.f) (hD1.get hi0.r)
  have hl := dg.sum_length s
  have hsn := hD1.seen
  rw [hq] at hP1 hG1 hl hsn
  refine ⟨D1, hP1, hG1, ?_, hi1, hl⟩
  rcases hsn with ⟨rfl, hg⟩ | ⟨e, _⟩
  · cases hg
  · rw [e]
    show (allV [(vname q, s)]).length = 1
    unfold allV
    rw [List.filterMap_cons, fileDig_name hl]
    rfl
theorem alive_facts : ∃ q D1, putV (dk.fresh 100) dg.abc = (q, 0, D1) ∧ getV D1 q = (dg.abc, 0) ∧ (allV D1.seen).length = 1 ∧ Inv 2 D1 ∧ q.length = 32 ∧ S (dg.hex q) = ⟨#[98, 97, 55, 56, 49, 54, 98, 102, 56, 102, 48, 49, 99, 102, 101, 97, 52, 49, 52, 49, 52, 48, 100, 101, 53, 100, 97, 101, 50, 50, 50, 51, 98, 48, 48, 51, 54, 49, 97, 51, 57, 54, 49, 55, 55, 97, 57, 99, 98, 52, 49, 48, 102, 102, 54, 49, 102, 50, 48, 48, 49, 53, 97, 100]⟩ := by
  obtain ⟨q, hq⟩ : ∃ q, dg.sum dg.abc = q := ⟨_, rfl⟩
  have hh := abc_hex
  rw [hq] at hh
  obtain ⟨D1, h1, h2, h3, h4, h5⟩ := alive_gen dg.abc q hq (by decide)
  exact ⟨q, D1, h1, h2, h3, h4, h5, hh⟩
set_option maxHeartbeats 8000000 in
set_option maxRecDepth 100000 in
theorem alive_call (w : World) (hK : dg.Keys w) : Calls Tryd.prog 6 #[] w fun e w' => e = .returned (.bool true) ∧ Below w.heap.size w w' := by
  have hN := dk.pnew_any 100 w
  have hi0 : Inv 0 (dk.fresh 100) := dk.inv_fresh (by decide)
  obtain ⟨q, D1, hP1, hG1, hA1, hi1, hql, hh⟩ := alive_facts
  have hS : S dg.abc = ⟨#[97, 98, 99]⟩ := rfl
  have HP := Lib.hid fun vb p W (h : Vt w W vb p (dk.fresh 100)) => put_call dg.abc (hi0.mono (by decide)) h
  have HG := Lib.hid fun vb p W (h : Vt w W vb p D1) => get_call q hi1.r h
  have HH := Lib.hid fun W => hex_call q (by omega) W
  have HHs := Lib.hid fun vb p W (h : Vt w W vb p D1) => has_call q hi1.r h
  have HAl := Lib.hid fun vb p W (h : Vt w W vb p D1) => all_call (hi1.mono (by decide)) h
  rw [hP1, hS] at HP
  rw [hG1, hS] at HG
  rw [hG1] at HHs
  rw [hh] at HH
  have HKy := Lib.hid hK
  generalize allV D1.seen = al at *
  clear hi0 hi1 hP1 hG1 hS hh hK hql
  go_enter Tryd.func6, Tryd.ntmps6
  go_wp2_with fail
  refine hN.mono ?_
  clear hN
  rintro e w1 (⟨h, -, -⟩ | ⟨cap, hc, -, p, rfl, hp, hb⟩)
  · exfalso
    omega
  obtain rfl : cap = 100 := by omega
  have hO := vopen_call (Live.new (Below.refl _ _) hp hb) HKy.out
  clear hp hb hc
  go_wp2_with fail
  refine hO.mono ?_
  clear hO
  rintro e w2 ⟨vb, rfl, v2⟩
  have hPc := HP.out vb p w2 v2
  clear v2 HP
  go_wp2_with fail
  refine hPc.mono ?_
  clear hPc
  rintro e w3 ⟨rfl, v3⟩
  have V3 := Lib.hid v3
  have hGc := HG.out vb p w3 v3
  clear v3 HG
  go_wp2_with fail
  refine hGc.mono ?_
  clear hGc
  rintro e w4 ⟨rfl, b4⟩
  have V4 := Lib.hid (V3.out.below b4)
  have hHc := HH.out w4
  clear b4 V3 HH
  go_wp2_with fail
  refine hHc.mono ?_
  clear hHc
  rintro e w5 ⟨rfl, b5⟩
  have V5 := Lib.hid (V4.out.below b5)
  have hHc := HHs.out vb p w5 V5.out
  clear b5 V4 HHs
  go_wp2_with fail
  refine hHc.mono ?_
  clear hHc
  rintro e w6 ⟨rfl, b6⟩
  have V6 := Lib.hid (V5.out.below b6)
  have hAc := HAl.out vb p w6 V6.out
  clear b6 V5 HAl
  go_wp2_with fail
  refine hAc.mono ?_
  clear hAc
  rintro e w7 ⟨v, rfl, o7, b7⟩
  have B7 := Lib.hid (V6.out.below b7).since
  obtain ⟨va, vc, rfl⟩ : ∃ a c, v = .slice a al.length c := o7.form
  rw [hA1]
  clear b7 o7 V6
  go_wp2_with fail
  go_ret
  exact ⟨rfl, B7.out⟩
/-- What lies in a file named by a digest is told just if it has that digest. -/
theorem getV_file {d : Dk} (hf : d.fused = false) {h t : Bs} (hl : h.length = 32) (hg : get d.seen (vname h) = some t) : getV d h = if dg.sum t = h then (t, 0) else ([], 5) := by
  unfold getV
  rw [rd_some (off_no hf) hg, if_neg (by omega), if_neg (by simp)]
  by_cases hs : dg.sum t = h
  · rw [if_neg (fun h => h hs), if_pos hs]
  · rw [if_pos hs, if_neg hs]
end Go.Proofs.YtpimdbnhpbjlkaaDoor.vt
/-! VtL3 -/
namespace Go.Proofs.YtpimdbnhpbjlkaaDoor.vt
set_option linter.unusedVariables false
open Go.RowKit
open fl (S S_size S_append S_inj)
open rw (Arr But below_box bnext below_drew below_drewN Fr Own)
open dk (Bs File Dk PD Step Nu Inv Live turn sync read fuse crash Right count strSh get used)

set_option maxHeartbeats 8000000 in
set_option maxRecDepth 100000 in
theorem true_any (body other sm : Bs) (w : World) (hK : dg.Keys w) (hb : body.length ≤ 281474976710000) (ho : other.length ≤ 281474976710000) (hs : sm.length ≤ 281474976710000) :
    Calls Tryd.prog 4 #[.string (S body), .string (S other), .string (S sm)] w fun e w' => e = .returned (.bool true) ∧ Below w.heap.size w w' := by
  have hAl := alive_call w hK
  have HK := Lib.hid hK
  have hz1 := S_size body
  have hz2 := S_size other
  clear hK
  go_enter Tryd.func4, Tryd.ntmps4
  go_wp2_with fail
  refine hAl.mono ?_
  clear hAl
  rintro e w1 ⟨rfl, b1⟩
  have B1 := Lib.hid b1
  clear b1
  by_cases c1 : 1024 < body.length
  · have d1 : ((S body).size : Int) > 1024 := by omega
    go_wp2_with fail
    go_ret
    exact ⟨rfl, B1.out⟩
  have d1 : ¬ ((S body).size : Int) > 1024 := by omega
  by_cases c2 : 1024 < other.length
  · have d2 : ((S other).size : Int) > 1024 := by omega
    go_wp2_with fail
    go_ret
    exact ⟨rfl, B1.out⟩
  have d2 : ¬ ((S other).size : Int) > 1024 := by omega
  have kl := below_box w1 (.cells #[.string (S body), .string (S other)] 9)
  have hCl : Calls Tryd.prog 8 #[.slice (some ⟨w1.heap.size, 0, none⟩) 2 2] (w1.alloc (.cells #[.string (S body), .string (S other)] 9)) fun e w' => CO [body, other] e ∧ Below (w1.alloc (.cells #[.string (S body), .string (S other)] 9)).heap.size (w1.alloc (.cells #[.string (S body), .string (S other)] 9)) w' :=
    clash_call (.slice (some ⟨w1.heap.size, 0, none⟩) 2 2) [body, other] (fun s h => by
      rcases List.mem_cons.1 h with rfl | h
      · omega
      · rw [List.mem_singleton.1 h]
        omega) (by simp) _ (HK.out.below (B1.out.trans (kl.mono B1.out.size)) HK.out.pos) (rw.Own.lit strSh w1 [body, other] (by simp) (by simp)).sl
  have BL := Lib.hid (B1.out.trans (kl.mono B1.out.size))
  clear kl B1
  go_wp2_with fail
  refine hCl.mono ?_
  clear hCl
  rintro e w2 ⟨⟨r, rfl, hr⟩, b2⟩
  have B2 := Lib.hid (BL.out.trans (b2.mono BL.out.size))
  clear b2 BL
  cases r with
  | true =>
    go_wp2_with fail
    go_ret
    exact ⟨rfl, B2.out⟩
  | false =>
  have HC := Lib.hid (hr rfl)
  clear hr d1 d2
  have hN := dk.pnew_any 65536 w2
  go_wp2_with fail
  refine hN.mono ?_
  clear hN
  rintro e w3 (⟨h, -, -⟩ | ⟨cap, hc, -, p, rfl, hp, hbb⟩)
  · exfalso
    omega
  obtain rfl : cap = 65536 := by omega
  have hO := vopen_call (Live.new (Below.refl w2.heap.size w2) hp hbb) (HK.out.below B2.out HK.out.pos)
  clear hp hbb hc
  go_wp2_with fail
  refine hO.mono ?_
  clear hO
  rintro e w4 ⟨vb, rfl, v4⟩
  have V4 := Lib.hid v4
  have hSm := sum_call body hb w4 v4.keys
  have hi0 : Inv 0 (dk.fresh 65536) := dk.inv_fresh (by decide)
  have ht1 := turn_put (d := dk.fresh 65536) (n := vname (dg.sum body)) (s := other) rfl (vname_named (dg.sum_length body)) (by show other.length + 0 ≤ 65536; omega)
  obtain ⟨D1, hD1⟩ : ∃ D, dk.spend { dk.fresh 65536 with seen := dk.put (dk.fresh 65536).seen (vname (dg.sum body), other), pend := (dk.fresh 65536).pend ++ [⟨2, vname (dg.sum body), other⟩] } = D := ⟨_, rfl⟩
  rw [hD1] at ht1
  have hi1 : Inv 1 D1 := by
    have := dk.inv_turn hi0 ⟨2, vname (dg.sum body), other⟩ (by show other.length ≤ _; omega)
    rw [ht1] at this
    exact this
  have hf1 : D1.fused = false := by rw [← hD1]; rfl
  have hc1 : D1.cap = 65536 := by rw [← hD1]; rfl
  have hs1 : D1.seen = [(vname (dg.sum body), other)] := by rw [← hD1]; rfl
  have hg1 : get D1.seen (vname (dg.sum body)) = some other := by rw [hs1]; simp [dk.get]
  have hG1 := getV_file hf1 (dg.sum_length body) hg1
  obtain ⟨D2, hP2, hD2⟩ := putV_did hi1.r hf1 body (by omega) (by rw [hc1, hs1]; show other.length + 0 + body.length ≤ _; omega)
  have hi2 : Inv 3 D2 := by
    have := putV_inv hi1 body (by omega)
    rw [hP2] at this
    exact this
  have hG2 : getV D2 (dg.sum body) = (body, 0) := getV_some (off_no hD2.f) (hD2.get hi1.r)
  have hvn : (⟨#[98]⟩ : ByteArray) ++ S (dg.hex (dg.sum body)) = S (vname (dg.sum body)) := by
    show S [98] ++ S (dg.hex (dg.sum body)) = _
    rw [S_append]; rfl
  have hxz := S_size (dg.hex (dg.sum body))
  have hxl : (dg.hex (dg.sum body)).length = 64 := by rw [dg.hex_length, dg.sum_length]
  have hTr := getV_true D1 sm
  have hTs := getV_small hi1.r sm
  have HH := Lib.hid fun W => hex_call (dg.sum body) (by rw [dg.sum_length]; decide) W
  have HPd := Lib.hid fun W (h : Vt w2 W vb p (dk.fresh 65536)) => vput_call (vname (dg.sum body)) other (hi0.mono (by decide)) (by omega) h
  rw [ht1] at HPd
  have HG1 := Lib.hid fun W (h : Vt w2 W vb p D1) => get_call (dg.sum body) hi1.r h
  rw [hG1] at HG1
  have HGs := Lib.hid fun W (h : Vt w2 W vb p D1) => get_call sm hi1.r h
  have HP2 := Lib.hid fun W (h : Vt w2 W vb p D1) => put_call body (hi1.mono (by decide)) h
  rw [hP2] at HP2
  have HG2 := Lib.hid fun W (h : Vt w2 W vb p D2) => get_call (dg.sum body) hi2.r h
  rw [hG2] at HG2
  have HCl : Hid (dg.sum other = dg.sum body → other = body) := HC.out other (by simp) body (by simp)
  clear hi0 hi1 hi2 ht1 hf1 hc1 hs1 hg1 hG1 hP2 hD2 hG2 hD1 HC v4
  generalize getV D1 sm = X at *
  obtain ⟨t, f⟩ := X
  simp only at hTr hTs HGs
  generalize vname (dg.sum body) = n at *
  generalize dg.hex (dg.sum body) = hx at *
  have hqq := S_beq other body
  go_wp2_with fail
  refine hSm.mono ?_
  clear hSm
  rintro e w5 ⟨rfl, b5⟩
  have V5 := Lib.hid (V4.out.below b5)
  have hHc := HH.out w5
  clear b5 V4 HH
  go_wp2_with fail
  refine hHc.mono ?_
  clear hHc
  rintro e w6 ⟨rfl, b6⟩
  have V6 := Lib.hid (V5.out.below b6)
  have hPd := HPd.out w6 V6.out
  clear b6 V5 HPd
  go_wp2_with fail
  refine hPd.mono ?_
  clear hPd hvn hxz hxl
  rintro e w7 ⟨rfl, v7⟩
  have V7 := Lib.hid v7
  have hG := HG1.out w7 v7
  clear v7 V6 HG1
  go_wp2_with fail
  refine hG.mono ?_
  clear hG
  rintro e w8 ⟨rfl, b8⟩
  have V8 := Lib.hid (V7.out.below b8)
  have hGs := HGs.out w8 V8.out
  clear b8 V7 HGs
  by_cases ho2 : other = body
  · subst ho2
    rw [if_pos rfl]
    rw [decide_eq_true rfl] at hqq
    go_wp2_with fail
    refine hGs.mono ?_
    clear hGs
    rintro e w9 ⟨rfl, b9⟩
    have V9 := Lib.hid (V8.out.below b9)
    clear b9 V8
    by_cases hf0 : f = 0
    · have htr := hTr.1 hf0
      subst hf0
      have hS9 := sum_call t (by omega) w9 V9.out.keys
      rw [htr] at hS9
      go_wp2_with fail
      refine hS9.mono ?_
      clear hS9
      rintro e wa ⟨rfl, ba⟩
      have VA := Lib.hid (V9.out.below ba)
      have hPc := HP2.out wa VA.out
      clear ba V9
      go_wp2_with fail
      refine hPc.mono ?_
      clear hPc
      rintro e wb ⟨rfl, vb2⟩
      have VB := Lib.hid vb2
      have hGc := HG2.out wb vb2
      clear vb2 VA
      go_wp2_with fail
      refine hGc.mono ?_
      clear hGc
      rintro e wc ⟨rfl, bc⟩
      have BC := Lib.hid (B2.out.trans ((VB.out.below bc).since.mono B2.out.size))
      clear bc VB
      go_wp2_with fail
      go_ret
      exact ⟨rfl, BC.out⟩
    · have htr := hTr.2 hf0
      subst htr
      have hf1 : ¬ (f : Int) = 0 := by omega
      have hE0 : S ([] : Bs) = ⟨#[]⟩ := rfl
      rw [hE0]
      clear hE0
      have hPc := HP2.out w9 V9.out
      go_wp2_with fail
      refine hPc.mono ?_
      clear hPc
      rintro e wb ⟨rfl, vb2⟩
      have VB := Lib.hid vb2
      have hGc := HG2.out wb vb2
      clear vb2 V9
      go_wp2_with fail
      refine hGc.mono ?_
      clear hGc
      rintro e wc ⟨rfl, bc⟩
      have BC := Lib.hid (B2.out.trans ((VB.out.below bc).since.mono B2.out.size))
      clear bc VB
      go_wp2_with fail
      go_ret
      exact ⟨rfl, BC.out⟩
  · have hns : ¬ dg.sum other = dg.sum body := fun h => ho2 (HCl.out h)
    rw [if_neg hns]
    rw [decide_eq_false ho2] at hqq
    have hE0 : S ([] : Bs) = ⟨#[]⟩ := rfl
    rw [hE0]
    clear hE0
    go_wp2_with fail
    refine hGs.mono ?_
    clear hGs
    rintro e w9 ⟨rfl, b9⟩
    have V9 := Lib.hid (V8.out.below b9)
    clear b9 V8
    by_cases hf0 : f = 0
    · have htr := hTr.1 hf0
      subst hf0
      have hS9 := sum_call t (by omega) w9 V9.out.keys
      rw [htr] at hS9
      go_wp2_with fail
      refine hS9.mono ?_
      clear hS9
      rintro e wa ⟨rfl, ba⟩
      have VA := Lib.hid (V9.out.below ba)
      have hPc := HP2.out wa VA.out
      clear ba V9
      go_wp2_with fail
      refine hPc.mono ?_
      clear hPc
      rintro e wb ⟨rfl, vb2⟩
      have VB := Lib.hid vb2
      have hGc := HG2.out wb vb2
      clear vb2 VA
      go_wp2_with fail
      refine hGc.mono ?_
      clear hGc
      rintro e wc ⟨rfl, bc⟩
      have BC := Lib.hid (B2.out.trans ((VB.out.below bc).since.mono B2.out.size))
      clear bc VB
      go_wp2_with fail
      go_ret
      exact ⟨rfl, BC.out⟩
    · have htr := hTr.2 hf0
      subst htr
      have hf1 : ¬ (f : Int) = 0 := by omega
      have hE0 : S ([] : Bs) = ⟨#[]⟩ := rfl
      rw [hE0]
      clear hE0
      have hPc := HP2.out w9 V9.out
      go_wp2_with fail
      refine hPc.mono ?_
      clear hPc
      rintro e wb ⟨rfl, vb2⟩
      have VB := Lib.hid vb2
      have hGc := HG2.out wb vb2
      clear vb2 V9
      go_wp2_with fail
      refine hGc.mono ?_
      clear hGc
      rintro e wc ⟨rfl, bc⟩
      have BC := Lib.hid (B2.out.trans ((VB.out.below bc).since.mono B2.out.size))
      clear bc VB
      go_wp2_with fail
      go_ret
      exact ⟨rfl, BC.out⟩
end Go.Proofs.YtpimdbnhpbjlkaaDoor.vt
