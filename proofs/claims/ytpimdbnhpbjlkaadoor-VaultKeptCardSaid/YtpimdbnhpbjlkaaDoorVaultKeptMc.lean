/-
  What the law's walk stands on, part 3 of 3: the texts VtP1, VtP2, VtP3, DigAbc, VtL1, VtL2, VtK1, VtK2, VtL4, VtL5, VtKe, VtRows, VtL6, VtKp, one behind the other.
-/
import Derived.Deep.RegionLaw
import Derived.Deep.RegionHeld3
import Derived.Test.YtpimdbnhpbjlkaaDoorRows
import Derived.ProofKit
import Derived.OpenShut
import Derived.Deep.Slices
import Derived.Deep.SlicePairs
import Derived.Test.YtpimdbnhpbjlkaaDoorVaultKeptMb
/-! VtP1 -/
namespace Go.Proofs.YtpimdbnhpbjlkaaDoor.vt
set_option linter.unusedVariables false
open Go.RowKit
open fl (S S_size S_append S_inj)
open rw (Arr But below_box bnext below_drew below_drewN Fr Own)
open dk (Bs File Dk PD Step Nu Inv Live turn sync read fuse crash Right count strSh)

theorem sum_call (l : Bs) (hl : l.length ≤ 281474976710000) (w : World) (hK : dg.Keys w) : Calls Tryd.prog 12 #[.string (S l)] w fun e w' => e = .returned (.string (S (dg.sum l))) ∧ Below w.heap.size w w' := dg.sum_any l w hK hl
theorem hex_call (l : Bs) (hl : l.length ≤ 70368744177000) (w : World) : Calls Tryd.prog 20 #[.string (S l)] w fun e w' => e = .returned (.string (S (dg.hex l))) ∧ Below w.heap.size w w' := dg.hex_any l hl w
theorem unhex_call (l : Bs) (hl : l.length ≤ 140737488355328) (w : World) : Calls Tryd.prog 62 #[.string (S l)] w fun e w' => e = .returned (.tuple #[.string (S (dg.unhex l)), .bool (dg.good l)]) ∧ Below w.heap.size w w' := dg.unhex_any l hl w
theorem S_beq (a b : Bs) : ((S a).toList == (S b).toList) = decide (a = b) := by
  rw [Bool.eq_iff_iff, beq_iff_eq, decide_eq_true_eq]
  constructor
  · intro h
    rw [ByteArray.toList_eq, ByteArray.toList_eq] at h
    exact S_inj (ByteArray.ext (Array.toList_inj.1 h))
  · rintro rfl; rfl
/-- The name of a digest's file. -/
theorem name_call (h : Bs) (hl : h.length ≤ 1000000) (w : World) : Calls Tryd.prog 25 #[.string (S h)] w fun e w' => e = .returned (.string (S (vname h))) ∧ Below w.heap.size w w' := by
  have hH := hex_call h (by omega) w
  have hz : (dg.hex h).length ≤ 2000000 := by rw [dg.hex_length]; omega
  have hS : (⟨#[98]⟩ : ByteArray) ++ S (dg.hex h) = S (vname h) := by
    show S [98] ++ S (dg.hex h) = _
    rw [S_append]; rfl
  have hs := S_size (dg.hex h)
  generalize dg.hex h = x at *
  go_enter Tryd.func25, Tryd.ntmps25
  go_wp2_with fail
  refine hH.mono ?_
  clear hH
  rintro e w2 ⟨rfl, b2⟩
  have B2 := Lib.hid b2
  clear b2
  go_wp2_with fail
  go_ret
  exact ⟨rfl, B2.out⟩
theorem isd_call (h b : Bs) (hb : b.length ≤ 281474976710000) (w : World) (hK : dg.Keys w) : Calls Tryd.prog 36 #[.string (S h), .string (S b)] w fun e w' => e = .returned (.bool (decide (dg.sum b = h))) ∧ Below w.heap.size w w' := by
  have hH := sum_call b hb w hK
  have hq := S_beq (dg.sum b) h
  generalize dg.sum b = x at *
  obtain ⟨r, hr⟩ : ∃ r, decide (x = h) = r := ⟨_, rfl⟩
  rw [hr] at hq ⊢
  go_enter Tryd.func36, Tryd.ntmps36
  go_wp2_with fail
  refine hH.mono ?_
  clear hH
  rintro e w2 ⟨rfl, b2⟩
  have B2 := Lib.hid b2
  clear b2 hr
  go_wp2_with fail
  go_ret
  exact ⟨rfl, B2.out⟩
theorem cut_call (n : Bs) (w : World) : Calls Tryd.prog 61 #[.string (S n), .string ⟨#[98]⟩] w fun e w' => e = .returned (.tuple #[.string (S (if n.head? = some 98 then n.tail else n)), .bool (decide (n.head? = some 98))]) ∧ w' = w := by
  have hC := Tryd.strings_CutPrefix (S n) ⟨#[98]⟩ w
  have h1 : (S n).data.toList = n := by simp [S]
  have h2 : (⟨#[98]⟩ : ByteArray).data.toList = [98] := rfl
  rw [h1, h2] at hC
  have h3 : Lib.hasPrefix n [98] = decide (n.head? = some 98) := by
    unfold Lib.hasPrefix
    cases n with
    | nil => rfl
    | cons c r =>
      rw [Bool.eq_iff_iff, decide_eq_true_eq]
      simp [List.isPrefixOf]
      exact eq_comm
  have h4 : Lib.trimPrefix n [98] = if n.head? = some 98 then n.tail else n := by
    unfold Lib.trimPrefix
    rw [h3]
    by_cases h : n.head? = some 98
    · rw [if_pos h, if_pos (decide_eq_true h)]; cases n <;> rfl
    · rw [if_neg h, if_neg (by simpa using h)]
  rw [h3, h4] at hC
  exact hC
theorem fileDig_eq (n : Bs) : fileDig n = if n.head? = some 98 ∧ n.tail.length = 64 ∧ dg.good n.tail = true then some (dg.vals n.tail) else none := by
  cases n with
  | nil => rfl
  | cons c r =>
    show (if c = 98 ∧ r.length = 64 ∧ dg.good r = true then some (dg.vals r) else none) = _
    by_cases hc : c = 98
    · subst hc
      by_cases h : r.length = 64 ∧ dg.good r = true
      · rw [if_pos ⟨rfl, h⟩, if_pos ⟨rfl, h⟩]; rfl
      · rw [if_neg (fun k => h k.2), if_neg (fun k => h k.2)]
    · rw [if_neg (fun k => hc k.1), if_neg (fun k => hc (Option.some.inj k.1))]
set_option maxHeartbeats 1000000 in
/-- What the name of a file says. -/
theorem dig_call (n : Bs) (hn : n.length ≤ 1000000) (w : World) : Calls Tryd.prog 53 #[.string (S n)] w fun e w' => e = .returned (.tuple #[.string (S ((fileDig n).getD [])), .bool (fileDig n).isSome]) ∧ Below w.heap.size w w' := by
  have hC := cut_call n w
  obtain ⟨R, hR⟩ : ∃ R, fileDig n = R := ⟨_, rfl⟩
  rw [hR]
  rw [fileDig_eq] at hR
  have hHn := S_size n
  have hHt := S_size n.tail
  have htl : n.tail.length ≤ 1000000 := by rw [List.length_tail]; omega
  by_cases h1 : n.head? = some 98
  · rw [if_pos h1, decide_eq_true h1] at hC
    generalize n.tail = t at *
    by_cases h2 : t.length = 64
    · have hU := unhex_call t (by omega) w
      have hRb : Hid (S (R.getD []) = S (dg.unhex t) ∧ R.isSome = dg.good t) := by
        rw [← hR]
        unfold dg.unhex
        by_cases h3 : dg.good t = true
        · rw [if_pos ⟨h1, h2, h3⟩, if_pos h3, h3]; exact ⟨rfl, rfl⟩
        · rw [if_neg (fun k => h3 k.2.2), if_neg h3]
          exact ⟨rfl, by simpa using h3⟩
      have h64 : ((S t).size : Int) = 64 := by omega
      clear hR h1
      go_enter Tryd.func53, Tryd.ntmps53
      go_wp2_with fail
      refine hC.mono ?_
      clear hC
      rintro e w2 ⟨rfl, rfl⟩
      go_wp2_with fail
      refine hU.mono ?_
      clear hU
      rintro e w3 ⟨rfl, b3⟩
      have B3 := Lib.hid b3
      clear b3
      go_wp2_with fail
      go_ret2
      rw [hRb.out.1, hRb.out.2]
      exact ⟨rfl, B3.out⟩
    · have hRb : Hid (R = none) := Lib.hid (by rw [← hR, if_neg (fun k => h2 k.2.1)])
      have h64 : ¬ ((S t).size : Int) = 64 := by omega
      clear hR h1
      go_enter Tryd.func53, Tryd.ntmps53
      go_wp2_with fail
      refine hC.mono ?_
      clear hC
      rintro e w2 ⟨rfl, rfl⟩
      go_wp2_with fail
      go_ret2
      rw [hRb.out]
      exact ⟨rfl, Below.refl _ _⟩
  · rw [if_neg h1, decide_eq_false h1] at hC
    have hRb : Hid (R = none) := Lib.hid (by rw [← hR, if_neg (fun k => h1 k.1)])
    clear hR h1
    go_enter Tryd.func53, Tryd.ntmps53
    go_wp2_with fail
    refine hC.mono ?_
    clear hC
    rintro e w2 ⟨rfl, rfl⟩
    go_wp2_with fail
    go_ret2
    rw [hRb.out]
    exact ⟨rfl, Below.refl _ _⟩

/-! ### Rows of one's own beside a disk -/
section
variable {α : Type} {s : rw.Sh α} {w w' : World}
theorem own_of {B : Nat} {v : Value} {l : List α} (h : Own s w B v l) (hb : ∀ q, v.ownBlock = some q → w'.heap[q]? = w.heap[q]?) : Own s w' B v l := by
  obtain ⟨h1, h2 | ⟨g, cap, cur, h3, h4, h5, h6⟩⟩ := h
  · exact ⟨h1, .inl h2⟩
  · exact ⟨h1, .inr ⟨g, cap, cur, h3, h4, (hb g (by rw [h3]; rfl)).trans h5, h6⟩⟩
theorem own_typed {B : Nat} {v : Value} {l : List α} (h : Own s w B v l) {q : Nat} (hq : v.ownBlock = some q) : ∃ cs, w.heap[q]? = some (.cells cs s.t (0, 0)) := by
  obtain ⟨_, ⟨e, _⟩ | ⟨g, cap, cur, e, _, h5, _⟩⟩ := h
  · rw [e] at hq; cases hq
  · rw [e] at hq
    cases hq
    exact ⟨cur, h5⟩
theorem own_lt {B : Nat} {v : Value} {l : List α} (h : Own s w B v l) {q : Nat} (hq : v.ownBlock = some q) : q < w.heap.size := by
  obtain ⟨cs, hc⟩ := own_typed h hq
  exact (Array.getElem?_eq_some_iff.1 hc).1
theorem own_ne {B q : Nat} {v : Value} {l : List α} (h : Own s w B v l) {t : TypeId} {cs : Array Value} {fr : Nat × Nat} (hq : w.heap[q]? = some (.cells cs t fr)) (ht : t ≠ s.t) : v.ownBlock ≠ some q := by
  intro e
  obtain ⟨c, hc⟩ := own_typed h e
  rw [hq] at hc
  cases hc
  exact ht rfl
theorem own_but {B q : Nat} {v : Value} {l : List α} (h : Own s w B v l) {t : TypeId} {cs : Array Value} {fr : Nat × Nat} (hq : w.heap[q]? = some (.cells cs t fr)) (ht : t ≠ s.t) (k : But q w w') : Own s w' B v l :=
  own_of h fun i hi => k.block i (own_lt h hi) fun e => own_ne h hq ht (e ▸ hi)
theorem own_lower {B B' : Nat} {v : Value} {l : List α} (h : Own s w B v l) (hB : B' ≤ B) : Own s w B' v l := by
  obtain ⟨h1, h2 | ⟨g, cap, cur, h3, h4, h5⟩⟩ := h
  · exact ⟨h1, .inl h2⟩
  · exact ⟨h1, .inr ⟨g, cap, cur, h3, by omega, h5⟩⟩
theorem own_fr {B : Nat} {v : Value} {l : List α} (h : Own s w B v l) {G : Nat → Prop} (k : Fr G w w') (hv : ∀ q, v.ownBlock = some q → ¬ G q) : Own s w' B v l :=
  own_of h fun i hi => k.block i (own_lt h hi) (hv i hi)
end
theorem off_disk {W : World} {p : Nat} {d : Dk} {F : Nat → Prop} (hp : PD W F p d) {t : TypeId} (h1 : t ≠ 54) (h2 : t ≠ 74) (h3 : t ≠ 5) {b : Nat} {cs : Array Value} {fr : Nat × Nat} (h : W.heap[b]? = some (.cells cs t fr)) : ¬ F b := fun hF => by
  rcases hp.off hF h with e | e | e
  · exact h1 e
  · exact h2 e
  · exact h3 e
/-! ### A vault -/
/-- Block vb is a vault on the disk p that was made since w0; beside it these rows. -/
structure Vo (O : List (Value × List Bs)) (w0 w : World) (vb p : Nat) (d : Dk) : Prop where
  l : Live w0 w p d
  a : Arr w vb 56 #[.pointer (some ⟨p, 0, none⟩)]
  g : w0.heap.size ≤ vb
  k : dg.Keys w0
  o : ∀ x ∈ O, Own strSh w w0.heap.size x.1 x.2
abbrev Vt (w0 w : World) (vb p : Nat) (d : Dk) : Prop := Vo [] w0 w vb p d
section
variable {O : List (Value × List Bs)}
variable {w0 w w' : World} {vb p : Nat} {d d' : Dk}
theorem Vo.since (h : Vo O w0 w vb p d) : Below w0.heap.size w0 w := h.l.since
theorem Vo.keys (h : Vo O w0 w vb p d) : dg.Keys w := h.k.below h.l.since h.k.pos
theorem Vo.below (h : Vo O w0 w vb p d) (k : Below w.heap.size w w') : Vo O w0 w' vb p d := ⟨h.l.below k, h.a.below k, h.g, h.k, fun x hx => (h.o x hx).below strSh k⟩
/-- A call of its disk. -/
theorem Vo.call {P : Program} {f : Nat} {args : Array Value} {E : Ending} (h : Vo O w0 w vb p d) (C : ∀ F, PD w F p d → Calls P f args w fun e w' => e = E ∧ Step w F p d' w') : Calls P f args w fun e w' => e = E ∧ Vo O w0 w' vb p d' := by
  obtain ⟨F, h1, h2, h3⟩ := h.l
  refine (C F h1).mono ?_
  rintro e w' ⟨he, hs⟩
  obtain ⟨F', s1, s2, s3⟩ := id hs
  have hn : ¬ F vb := fun hF => by
    have ha := h.a
    unfold Arr at ha
    have := h1.off hF ha
    revert this
    decide
  exact ⟨he, Live.step h2 h3 hs, s2.arr h.a hn, h.g, h.k, fun x hx => own_fr (h.o x hx) s2 fun q hq hF2 => by
    obtain ⟨cs, hc⟩ := own_typed (h.o x hx) hq
    exact off_disk h1 (by decide) (by decide) (by decide) hc hF2⟩
theorem Vo.tell {P : Program} {f : Nat} {args : Array Value} {R : Ending → World → Prop} (h : Vo O w0 w vb p d) (C : ∀ F, PD w F p d → Calls P f args w R) : Calls P f args w R := by
  obtain ⟨F, h1, h2, h3⟩ := h.l
  exact C F h1
theorem vput_call (n s : Bs) (hd : Inv 900 d) (hs : s.length ≤ 281474976710656) (h : Vo O w0 w vb p d) :
    Calls Tryd.prog 19 #[.pointer (some ⟨p, 0, none⟩), .string (S n), .string (S s)] w fun e w' => e = .returned (.int .i64 ((turn d ⟨2, n, s⟩).1 : Nat)) ∧ Vo O w0 w' vb p (turn d ⟨2, n, s⟩).2 :=
  h.call fun F hp => dk.pput_any F p d n s (hd.rm (by decide)).room hs w hp
theorem vdrop_call (n : Bs) (hd : Inv 900 d) (h : Vo O w0 w vb p d) :
    Calls Tryd.prog 32 #[.pointer (some ⟨p, 0, none⟩), .string (S n)] w fun e w' => e = .returned (.int .i64 ((turn d ⟨3, n, []⟩).1 : Nat)) ∧ Vo O w0 w' vb p (turn d ⟨3, n, []⟩).2 :=
  h.call fun F hp => dk.pdrop_any F p d n (hd.rm (by decide)).room w hp
theorem vsync_call (hd : Inv 990 d) (h : Vo O w0 w vb p d) :
    Calls Tryd.prog 26 #[.pointer (some ⟨p, 0, none⟩)] w fun e w' => e = .returned (.int .i64 ((sync d).1 : Nat)) ∧ Vo O w0 w' vb p (sync d).2 :=
  h.call fun F hp => by
    have hr := hd.rm (by decide)
    exact dk.psync_any F p d hr.r (Nat.le_trans hr.l (by decide)) (Nat.le_trans hr.p (by decide)) w hp
theorem vcrash_call (k : Int) (hd : Inv 990 d) (h : Vo O w0 w vb p d) :
    Calls Tryd.prog 16 #[.pointer (some ⟨p, 0, none⟩), .int .i64 k] w fun e w' => e = .returned (.int .i64 ((crash d k).1 : Nat)) ∧ Vo O w0 w' vb p (crash d k).2 :=
  h.call fun F hp => by
    have hr := hd.rm (by decide)
    exact dk.pcrash_any F p d k hr.r (Nat.le_trans hr.l (by decide)) (Nat.le_trans hr.p (by decide)) w hp
theorem vread_call (n : Bs) (hn : n.length ≤ maxLen) (h : Vo O w0 w vb p d) :
    Calls Tryd.prog 23 #[.pointer (some ⟨p, 0, none⟩), .string (S n)] w fun e w' => e = .returned (.tuple #[.string (S (read d n).1), .int .i64 ((read d n).2 : Nat)]) ∧ Below w.heap.size w w' :=
  h.tell fun F hp => dk.read_any F p d n hn w hp
end
set_option maxRecDepth 100000 in
theorem open_call (p : Nat) (w : World) : Calls Tryd.prog 10 #[.pointer (some ⟨p, 0, none⟩)] w fun e w' => ∃ vb, e = .returned (.pointer (some ⟨vb, 0, none⟩)) ∧ w.heap.size ≤ vb ∧ Arr w' vb 56 #[.pointer (some ⟨p, 0, none⟩)] ∧ Below w.heap.size w w' := by
  go_enter Tryd.func10, Tryd.ntmps10
  go_wp2_with fail
  go_ret
  exact ⟨_, rfl, Nat.le_refl _, Arr.new w _ _, below_box _ _⟩
theorem open_nil (w : World) : Calls Tryd.prog 10 #[.pointer none] w fun e w' => e = .returned (.pointer none) ∧ w' = w := by
  go_enter Tryd.func10, Tryd.ntmps10
  go_wp2_with fail
  go_ret
  exact ⟨rfl, rfl⟩
theorem vopen_call {w0 w : World} {p : Nat} {d : Dk} (h : Live w0 w p d) (hk : dg.Keys w0) : Calls Tryd.prog 10 #[.pointer (some ⟨p, 0, none⟩)] w fun e w' => ∃ vb, e = .returned (.pointer (some ⟨vb, 0, none⟩)) ∧ Vt w0 w' vb p d := by
  refine (open_call p w).mono ?_
  rintro e w' ⟨vb, rfl, hg, ha, b⟩
  exact ⟨vb, rfl, h.below b, ha, Nat.le_trans h.since.size hg, hk, fun x hx => nomatch hx⟩
/-- A text appended to the row beside it. -/
theorem Vo.push {v : Value} {l : List Bs} {w0 w : World} {vb p : Nat} {d : Dk} (h : Vo [(v, l)] w0 w vb p d) (hv : l = [] → v = .slice none 0 0) (hl : l.length < 1000000) (x : Bs) :
    ∃ v' w', rw.App strSh v (.slice (some ⟨w.heap.size, 0, none⟩) 1 1) (w.alloc (.cells #[.string (S x)] 9)) v' w' ∧ Vo [(v', l ++ [x])] w0 w' vb p d ∧ ∃ a n c, v' = .slice a n c := by
  have h1 := h.below (below_box w (.cells #[.string (S x)] 9))
  have ho : Own strSh (w.alloc (.cells #[.string (S x)] 9)) w0.heap.size v l := h1.o (v, l) (List.mem_singleton.2 rfl)
  have hlit : Own strSh (w.alloc (.cells #[.string (S x)] 9)) w.heap.size (.slice (some ⟨w.heap.size, 0, none⟩) 1 1) [x] := rw.Own.lit strSh w [x] (by simp) (by simp)
  have hB : w0.heap.size ≤ (w.alloc (.cells #[.string (S x)] 9)).heap.size := h1.since.size
  generalize w.alloc (.cells #[.string (S x)] 9) = w1 at *
  have fin : ∀ v' w' (G : Nat → Prop), Own strSh w' w0.heap.size v' (l ++ [x]) → Fr G w1 w' → dk.NoBox w1 G → (∀ i, G i → (∃ cs, w1.heap[i]? = some (.cells cs 9 (0, 0))) ∧ w0.heap.size ≤ i) → Vo [(v', l ++ [x])] w0 w' vb p d := by
    intro v' w' G o f nb hG
    obtain ⟨F, f1, f2, f3⟩ := h1.l
    refine ⟨⟨F, f1.fr f (fun i hi hg => ?_) nb, f2, f3.trans (f.below f3.size fun i hi => (hG i hi).2)⟩, f.arr h1.a (fun hg => ?_), h1.g, h1.k, fun y hy => by rw [List.mem_singleton.1 hy]; exact o⟩
    · obtain ⟨⟨cs, hc⟩, _⟩ := hG i hg
      exact off_disk f1 (by decide) (by decide) (by decide) hc hi
    · obtain ⟨⟨cs, hc⟩, _⟩ := hG vb hg
      have ha := h1.a
      unfold Arr at ha
      rw [ha] at hc
      injection hc with g1
      injection g1 with _ g2 _
      exact absurd g2 (by decide)
  by_cases hne : l = []
  · obtain ⟨v', w', g, o, b, gr⟩ := rw.append_own strSh w0.heap.size v l [x] _ (by simp; omega) w1 ho hB hlit.sl
    refine ⟨v', w', g, fin v' w' (fun _ => False) o (Fr.grown gr fun q hq => ?_) (fun k hk => hk.elim) (fun i hi => hi.elim), ?_⟩
    · rw [hv hne] at hq; cases hq
    · obtain ⟨a, c, e⟩ := o.form; exact ⟨a, _, c, e⟩
  · have ho2 := ho
    obtain ⟨hxl, ⟨_, e0⟩ | ⟨g, cap, cur, e, hg, hc, hn, hcm, hsz, htk⟩⟩ := ho2
    · exact absurd (List.length_eq_zero_iff.1 e0) hne
    have hpos : 1 ≤ l.length := List.length_pos_iff.2 hne
    have hk1 : strSh.k = 1 := rfl
    by_cases h1c : cur.size = 1
    · obtain ⟨i0, hi, hz0, hz1, hz2⟩ := info_parts strSh.hi
      rw [hk1] at hsz
      have hcl : (rw.cellsG strSh l).length = l.length := by rw [rw.cellsG_length, hk1, Nat.mul_one]
      obtain ⟨v', w', r, o, gr⟩ := run_append_arg_grows (P := Tryd.prog) (w := w1) strSh.st strSh.st strSh.t i0 strSh.z strSh.k strSh.bytes strSh.hu hi hz0 hz1 hz2 strSh.hz strSh.hk ⟨g, 0, none⟩ l.length cap (rw.cellsG strSh l) (rw.cellsG_length strSh l)
        (fun j u hj => by
          have hjl : j < l.length := by
            rcases Nat.lt_or_ge j l.length with h | h
            · exact h
            · rw [List.getElem?_eq_none (by rw [hcl]; exact h)] at hj; cases hj
          rw [rw.addr_add, Nat.zero_add]
          subst e
          rw [World.ownsRow.cellAt ho j (by rw [hk1]; omega)]
          exact hj)
        ⟨w.heap.size, 0, none⟩ 1 1 (rw.cellsG strSh [x]) (rw.cellsG_length strSh [x])
        (fun j u hj => by
          have hjl : j < 1 := by
            rcases Nat.lt_or_ge j 1 with h | h
            · exact h
            · rw [List.getElem?_eq_none (by rw [rw.cellsG_length, hk1]; exact h)] at hj; cases hj
          rw [rw.addr_add, Nat.zero_add]
          rw [World.ownsRow.cellAt hlit j (by rw [hk1]; exact hjl)]
          exact hj)
        (by omega) (by unfold maxLen; omega) (by have : strSh.bytes = 16 := rfl; rw [this]; omega)
      have o2 : Own strSh w' w1.heap.size v' (l ++ [x]) := by
        show w'.ownsRow w1.heap.size strSh.t strSh.k v' (l ++ [x]).length (rw.cellsG strSh (l ++ [x]))
        rw [List.length_append, rw.cellsG_append]; exact o
      refine ⟨v', w', by rw [e]; exact r, fin v' w' (fun _ => False) (own_lower o2 hB) (Fr.grown gr fun q hq => by cases hq) (fun k hk => hk.elim) (fun i hi => hi.elim), ?_⟩
      obtain ⟨a, c, e⟩ := o2.form; exact ⟨a, _, c, e⟩
    · obtain ⟨v', w', g', o, b, gr⟩ := rw.append_own strSh w0.heap.size v l [x] _ (by simp; omega) w1 ho hB hlit.sl
      refine ⟨v', w', g', fin v' w' (fun q => q = g) o (Fr.grown gr fun q hq => ?_) (fun k hk s hs => ?_) (fun i hi => ⟨⟨cur, by rw [hi]; exact hc⟩, by rw [hi]; exact hg⟩), ?_⟩
      · rw [e] at hq
        exact (Option.some.inj hq).symm
      · subst hk
        unfold dk.Boxed Arr at hs
        rw [hc] at hs
        injection hs with g1
        injection g1 with g2 _ _
        exact h1c (by rw [g2]; rfl)
      · obtain ⟨a, c, e⟩ := o.form; exact ⟨a, _, c, e⟩
/-- Opened again. -/
theorem vopen_again {O : List (Value × List Bs)} {w0 w : World} {vb p : Nat} {d : Dk} (h : Vo O w0 w vb p d) : Calls Tryd.prog 10 #[.pointer (some ⟨p, 0, none⟩)] w fun e w' => ∃ vb, e = .returned (.pointer (some ⟨vb, 0, none⟩)) ∧ Vo O w0 w' vb p d := by
  refine (open_call p w).mono ?_
  rintro e w' ⟨vb, rfl, hg, ha, b⟩
  exact ⟨vb, rfl, h.l.below b, ha, Nat.le_trans h.since.size hg, h.k, fun x hx => (h.o x hx).below strSh b⟩
theorem Vo.with {O O' : List (Value × List Bs)} {w0 w : World} {vb p : Nat} {d : Dk} (h : Vo O w0 w vb p d) (ho : ∀ x ∈ O', Own strSh w w0.heap.size x.1 x.2) : Vo O' w0 w vb p d := ⟨h.l, h.a, h.g, h.k, ho⟩
theorem vfuse_call {O : List (Value × List Bs)} {w0 w : World} {vb p : Nat} {d : Dk} (n : Int) (hn : -9223372036854775808 ≤ n ∧ n ≤ 9223372036854775807) (h : Vo O w0 w vb p d) :
    Calls Tryd.prog 13 #[.pointer (some ⟨p, 0, none⟩), .int .i64 n] w fun e w' => e = .returned (.tuple #[]) ∧ Vo O w0 w' vb p (fuse d n) :=
  h.call fun F hp => dk.fuse_any F p d n hn w hp
theorem vpending_call {O : List (Value × List Bs)} {w0 w : World} {vb p : Nat} {d : Dk} (h : Vo O w0 w vb p d) :
    Calls Tryd.prog 17 #[.pointer (some ⟨p, 0, none⟩)] w fun e w' => e = .returned (.int .i64 (count d.pend : Nat)) ∧ w' = w :=
  h.tell fun F hp => dk.pending_any F p d w hp
end Go.Proofs.YtpimdbnhpbjlkaaDoor.vt
/-! VtP2 -/
namespace Go.Proofs.YtpimdbnhpbjlkaaDoor.vt
set_option linter.unusedVariables false
open Go.RowKit
open fl (S S_size S_append S_inj)
open rw (Arr But below_box bnext below_drew below_drewN Fr)
open dk (Bs File Dk PD Step Nu Inv Live turn sync read fuse crash Right count)
variable {O : List (Value × List Bs)}

theorem read_small {d : Dk} (hd : Right d) (n : Bs) : (read d n).1.length ≤ 1048576 := by
  unfold dk.read
  split
  · exact Nat.zero_le _
  · cases hg : dk.get d.seen n with
    | none => exact Nat.zero_le _
    | some s =>
      have h1 := dk.used_without hd.sorted n
      rw [hg] at h1
      have h2 := hd.used
      have h3 := hd.cap
      show s.length ≤ _
      simp only [Option.getD_some] at h1
      omega
set_option maxHeartbeats 4000000 in
set_option maxRecDepth 100000 in
theorem put_call {w0 w : World} {vb p : Nat} {d : Dk} (s : Bs) (hd : Inv 900 d) (h : Vo O w0 w vb p d) :
    Calls Tryd.prog 11 #[.pointer (some ⟨vb, 0, none⟩), .string (S s)] w fun e w' => e = .returned (.tuple #[.string (S (putV d s).1), .int .i64 ((putV d s).2.1 : Nat)]) ∧ Vo O w0 w' vb p (putV d s).2.2 := by
  obtain ⟨R, hR⟩ : ∃ R, putV d s = R := ⟨_, rfl⟩
  rw [hR]
  unfold putV at hR
  have hz := S_size s
  by_cases hl : 4096 < s.length
  · rw [if_pos hl] at hR
    have hR := Lib.hid hR
    have hli : ((S s).size : Int) > 4096 := by omega
    have H0 := Lib.hid h
    clear h
    go_enter Tryd.func11, Tryd.ntmps11
    go_wp2_with fail
    go_ret2
    rw [← hR.out]
    exact ⟨rfl, H0.out⟩
  · rw [if_neg hl] at hR
    have hli : ¬ ((S s).size : Int) > 4096 := by omega
    have hs1 := sum_call s (by omega) w h.keys
    have hsl : (dg.sum s).length = 32 := dg.sum_length s
    generalize dg.sum s = q at *
    have HR := Lib.hid hR
    have HV := Lib.hid h
    have HI := Lib.hid hd
    clear hR h hd
    go_enter Tryd.func11, Tryd.ntmps11
    go_wp2_with fail
    refine hs1.mono ?_
    clear hs1
    rintro e w2 ⟨rfl, b2⟩
    have V2 := Lib.hid (HV.out.below b2)
    have hn := name_call q (by omega) w2
    clear b2 HV
    go_wp2_with fail
    refine hn.mono ?_
    clear hn
    rintro e w3 ⟨rfl, b3⟩
    have V3 := Lib.hid (V2.out.below b3)
    have hnl := vname_len hsl
    generalize vname q = n at *
    have hr := vread_call n (by unfold maxLen; omega) V3.out
    have a3 := V3.out.a.cell (j := 0) rfl
    clear b3 V2
    have hq1 := S_beq (read d n).1 s
    obtain ⟨rs, hrs⟩ : ∃ r, (read d n).1 = r := ⟨_, rfl⟩
    obtain ⟨re, hre⟩ : ∃ r, (read d n).2 = r := ⟨_, rfl⟩
    rw [hrs] at hq1
    rw [hrs, hre] at hr HR
    clear hrs hre
    go_wp2_with fail
    refine hr.mono ?_
    clear hr
    rintro e w4 ⟨rfl, b4⟩
    have V4 := Lib.hid (V3.out.below b4)
    have a4 := V4.out.a.cell (j := 0) rfl
    clear b4 V3 a3
    by_cases c : re = 0 ∧ rs = s
    · obtain ⟨rfl, rfl⟩ := c
      have HE : Hid ((q, 0, d) = R) := by
        have h := HR.out
        rw [if_pos ⟨rfl, rfl⟩] at h
        exact h
      rw [decide_eq_true rfl] at hq1
      clear HR a4
      go_wp2_with fail
      go_ret2
      rw [← HE.out]
      exact ⟨rfl, V4.out⟩
    · rw [if_neg c] at HR
      have hcb : Hid (re = 0 → ¬ rs = s) := fun h1 h2 => c ⟨h1, h2⟩
      have hP := vput_call n s HI.out (by omega) V4.out
      have HI2 := Lib.hid (dk.inv_turn HI.out ⟨2, n, s⟩ (by show s.length ≤ _; omega))
      generalize turn d ⟨2, n, s⟩ = T at *
      obtain ⟨te, td⟩ := T
      simp only at HR hP HI2
      have HC2 : Hid ((re = 0 ∧ ((S rs).toList == (S s).toList) = false) ∨ ¬ (re : Int) = 0) := by
        by_cases h0 : re = 0
        · exact .inl ⟨h0, by rw [hq1, decide_eq_false (hcb.out h0)]⟩
        · exact .inr (by omega)
      clear c hcb hq1 HI
      have key : ∀ (W : World), Hid (Vo O w0 W vb p td) → W.cell? ⟨vb, 0, none⟩ = some (.pointer (some ⟨p, 0, none⟩)) → True := fun _ _ _ => trivial
      clear key
      rcases HC2.out with ⟨h0, hb⟩ | h0
      · subst h0
        clear HC2
        go_wp2_with fail
        refine hP.mono ?_
        clear hP a4 hb
        rintro e w5 ⟨rfl, v5⟩
        have V5 := Lib.hid v5
        have a5 := v5.a.cell (j := 0) rfl
        have hS := vsync_call (HI2.out.mono (by decide)) v5
        clear v5
        generalize sync td = U at *
        obtain ⟨ue, ud⟩ := U
        simp only at HR hS
        by_cases ht : te = 0
        · subst ht
          rw [if_neg (fun h => h rfl)] at HR
          go_wp2_with fail
          refine hS.mono ?_
          clear hS a5
          rintro e w6 ⟨rfl, v6⟩
          have V6 := Lib.hid v6
          clear v6
          by_cases hu : ue = 0
          · subst hu
            rw [if_neg (fun h => h rfl)] at HR
            go_wp2_with fail
            go_ret2
            rw [← HR.out]
            exact ⟨rfl, V6.out⟩
          · have hui : ¬ (ue : Int) = 0 := by omega
            rw [if_pos hu] at HR
            go_wp2_with fail
            go_ret2
            rw [← HR.out]
            exact ⟨rfl, V6.out⟩
        · have hti : ¬ (te : Int) = 0 := by omega
          rw [if_pos ht] at HR
          go_wp2_with fail
          go_ret2
          rw [← HR.out]
          exact ⟨rfl, V5.out⟩
      · clear HC2
        go_wp2_with fail
        refine hP.mono ?_
        clear hP a4
        rintro e w5 ⟨rfl, v5⟩
        have V5 := Lib.hid v5
        have a5 := v5.a.cell (j := 0) rfl
        have hS := vsync_call (HI2.out.mono (by decide)) v5
        clear v5
        generalize sync td = U at *
        obtain ⟨ue, ud⟩ := U
        simp only at HR hS
        by_cases ht : te = 0
        · subst ht
          rw [if_neg (fun h => h rfl)] at HR
          go_wp2_with fail
          refine hS.mono ?_
          clear hS a5
          rintro e w6 ⟨rfl, v6⟩
          have V6 := Lib.hid v6
          clear v6
          by_cases hu : ue = 0
          · subst hu
            rw [if_neg (fun h => h rfl)] at HR
            go_wp2_with fail
            go_ret2
            rw [← HR.out]
            exact ⟨rfl, V6.out⟩
          · have hui : ¬ (ue : Int) = 0 := by omega
            rw [if_pos hu] at HR
            go_wp2_with fail
            go_ret2
            rw [← HR.out]
            exact ⟨rfl, V6.out⟩
        · have hti : ¬ (te : Int) = 0 := by omega
          rw [if_pos ht] at HR
          go_wp2_with fail
          go_ret2
          rw [← HR.out]
          exact ⟨rfl, V5.out⟩
set_option maxHeartbeats 4000000 in
set_option maxRecDepth 100000 in
theorem get_call {w0 w : World} {vb p : Nat} {d : Dk} (q : Bs) (hd : Right d) (h : Vo O w0 w vb p d) :
    Calls Tryd.prog 18 #[.pointer (some ⟨vb, 0, none⟩), .string (S q)] w fun e w' => e = .returned (.tuple #[.string (S (getV d q).1), .int .i64 ((getV d q).2 : Nat)]) ∧ Below w.heap.size w w' := by
  obtain ⟨R, hR⟩ : ∃ R, getV d q = R := ⟨_, rfl⟩
  rw [hR]
  unfold getV at hR
  have hz := S_size q
  by_cases hl : q.length ≠ 32
  · rw [if_pos hl] at hR
    have hR := Lib.hid hR
    have hli : ¬ ((S q).size : Int) = 32 := by omega
    clear h
    go_enter Tryd.func18, Tryd.ntmps18
    go_wp2_with fail
    go_ret2
    rw [← hR.out]
    exact ⟨rfl, Below.refl _ _⟩
  · rw [if_neg hl] at hR
    have hl2 : q.length = 32 := Decidable.not_not.1 hl
    have hli : ((S q).size : Int) = 32 := by omega
    have hnl := vname_len hl2
    have hsm := read_small hd (vname q)
    have HN := Lib.hid fun W => name_call q (by omega) W
    have HV := Lib.hid h
    generalize vname q = n at *
    have HRd : Hid (∀ W, Vo O w0 W vb p d → Calls Tryd.prog 23 #[.pointer (some ⟨p, 0, none⟩), .string (S n)] W fun e w' => e = .returned (.tuple #[.string (S (read d n).1), .int .i64 ((read d n).2 : Nat)]) ∧ Below W.heap.size W w') := fun W hW => vread_call n (by unfold maxLen; omega) hW
    generalize read d n = X at *
    obtain ⟨rs, re⟩ := X
    simp only at hR HRd hsm
    have HR := Lib.hid hR
    clear hR h hl hd
    go_enter Tryd.func18, Tryd.ntmps18
    go_upto_region 3 with (fail)
    have V1 := Lib.hid (And.intro (HV.out.below (below_drew (Below.refl w.heap.size w))) (below_drew (Below.refl w.heap.size w)))
    clear HV
    have k0 : w.drew.cell? ⟨vb, 0, none⟩ = some (.pointer (some ⟨p, 0, none⟩)) := V1.out.1.a.cell rfl
    go_region_law
      (first | (go_simp; go_at_call 25; refine (HN.out _).mono ?_; rintro e w2 ⟨rfl, b2⟩; replace V1 := Lib.hid (And.intro (V1.out.1.below b2) (V1.out.2.trans (b2.mono V1.out.2.size))); clear k0 b2; have k0 : w2.cell? ⟨vb, 0, none⟩ = some (.pointer (some ⟨p, 0, none⟩)) := V1.out.1.a.cell rfl) | (go_simp; go_at_call 23; refine (HRd.out _ V1.out.1).mono ?_; rintro e w3 ⟨rfl, b3⟩; have V2 := Lib.hid (And.intro (V1.out.1.below b3) (V1.out.2.trans (b3.mono V1.out.2.size))); clear b3 k0 V1))
    all_goals (
      have V3 := V2
      clear V2 HN HRd
      by_cases h0 : re = 0
      · subst h0
        rw [if_neg (fun h => h rfl)] at HR
        have hI := isd_call q rs (by omega) w3 V3.out.1.keys
        generalize dg.sum rs = y at *
        by_cases hy : y = q
        · subst hy
          rw [if_neg (fun h => h rfl)] at HR
          rw [decide_eq_true rfl] at hI
          go_wp2_with fail
          refine hI.mono ?_
          clear hI
          rintro e w4 ⟨rfl, b4⟩
          have B4 := Lib.hid (V3.out.2.trans (b4.mono V3.out.2.size))
          clear b4 V3
          go_wp2_with fail
          go_ret2
          rw [← HR.out]
          exact ⟨rfl, B4.out⟩
        · rw [if_pos hy] at HR
          rw [decide_eq_false hy] at hI
          go_wp2_with fail
          refine hI.mono ?_
          clear hI
          rintro e w4 ⟨rfl, b4⟩
          have B4 := Lib.hid (V3.out.2.trans (b4.mono V3.out.2.size))
          clear b4 V3
          go_wp2_with fail
          go_ret2
          rw [← HR.out]
          exact ⟨rfl, B4.out⟩
      · have h0i : ¬ (re : Int) = 0 := by omega
        rw [if_pos h0] at HR
        go_wp2_with fail
        go_ret2
        rw [← HR.out]
        exact ⟨rfl, V3.out.2⟩)
set_option maxRecDepth 100000 in
theorem has_call {w0 w : World} {vb p : Nat} {d : Dk} (q : Bs) (hd : Right d) (h : Vo O w0 w vb p d) :
    Calls Tryd.prog 22 #[.pointer (some ⟨vb, 0, none⟩), .string (S q)] w fun e w' => e = .returned (.bool (decide ((getV d q).2 = 0))) ∧ Below w.heap.size w w' := by
  have hG := get_call q hd h
  generalize getV d q = X at *
  obtain ⟨gs, ge⟩ := X
  simp only at hG ⊢
  clear h
  by_cases h0 : ge = 0
  · subst h0
    rw [decide_eq_true rfl]
    go_enter Tryd.func22, Tryd.ntmps22
    go_wp2_with fail
    refine hG.mono ?_
    clear hG
    rintro e w2 ⟨rfl, b2⟩
    have B2 := Lib.hid b2
    clear b2
    go_wp2_with fail
    go_ret
    exact ⟨rfl, B2.out⟩
  · have h0i : ((ge : Int) == 0) = false := by rw [beq_eq_false_iff_ne]; omega
    rw [decide_eq_false h0]
    go_enter Tryd.func22, Tryd.ntmps22
    go_wp2_with fail
    refine hG.mono ?_
    clear hG
    rintro e w2 ⟨rfl, b2⟩
    have B2 := Lib.hid b2
    clear b2
    go_wp2_with fail
    go_ret
    exact ⟨rfl, B2.out⟩
end Go.Proofs.YtpimdbnhpbjlkaaDoor.vt
/-! VtP3 -/
namespace Go.Proofs.YtpimdbnhpbjlkaaDoor.vt
set_option linter.unusedVariables false
open Go.RowKit
open fl (S S_size S_append S_inj)
open rw (Arr But below_box bnext below_drew below_drewN Fr Own)
open dk (Bs File Dk PD Step Nu Inv Live turn sync read fuse crash Right count strSh)
variable {O : List (Value × List Bs)}

/-- A row of texts, cell by cell. -/
theorem texts_at {w : World} {v : Value} {l : List Bs} (h : rw.Sl strSh w v l) {j : Nat} (hj : j < l.length) : ∃ b off c, v = .slice (some ⟨b, off, none⟩) l.length c ∧ w.cell? ⟨b, off + j, none⟩ = some (.string (S (l[j]'hj))) := by
  obtain ⟨a, c, h1, h2, h3, h4⟩ := h
  obtain ⟨b, off, e, hb, hc⟩ := h3.at _ hj
  have := hc 0 (by decide)
  exact ⟨b, off, c, by rw [h1, e], by simpa [strSh] using this⟩

set_option maxHeartbeats 4000000 in
set_option maxRecDepth 100000 in
theorem all1_call (lb : Nat) (v : Value) (x : List Bs) (h : Bs) (hx : x.length ≤ 1000000) (B : Nat) (w : World) (ha : Arr w lb 22 #[v]) (ho : Own strSh w B v x) (hB : B ≤ w.heap.size) (hlb : lb < B) :
    Calls Tryd.prog 44 #[.string (S h), .pointer (some ⟨lb, 0, none⟩)] w fun e w' => e = .returned (.int .i64 0) ∧ ∃ v', Arr w' lb 22 #[v'] ∧ Own strSh w' B v' (x ++ [h]) ∧ Fr (fun k => k = lb ∨ B ≤ k) w w' := by
  obtain ⟨v', w1, g1, o1, b1⟩ := rw.append_one strSh B v x h (by omega) w ho hB
  have a1 : Arr w1 lb 22 #[v] := ha.of (b1.block lb hlb)
  have HR := Lib.hid g1
  obtain ⟨va, vc, rfl⟩ : ∃ a c, v = .slice a x.length c := ho.form
  obtain ⟨ua, uc, rfl⟩ : ∃ a c, v' = .slice a (x ++ [h]).length c := o1.form
  have c0 : (w.alloc (.cells #[.string (S h)] 9)).cell? ⟨lb, 0, none⟩ = some (.slice va x.length vc) := (ha.below (below_box w _)).cell rfl
  have c00 : w.cell? ⟨lb, 0, none⟩ = some (.slice va x.length vc) := ha.cell rfl
  have c1 : w1.cell? ⟨lb, 0, none⟩ = some (.slice va x.length vc) := a1.cell rfl
  have f1 : w1.frozen? ⟨lb, 0, none⟩ = false := a1.frozen 0
  have HE : Hid (∃ u, Arr (w1.setCell ⟨lb, 0, none⟩ (.slice ua (x ++ [h]).length uc)) lb 22 #[u] ∧ Own strSh (w1.setCell ⟨lb, 0, none⟩ (.slice ua (x ++ [h]).length uc)) B u (x ++ [h]) ∧ Fr (fun k => k = lb ∨ B ≤ k) w (w1.setCell ⟨lb, 0, none⟩ (.slice ua (x ++ [h]).length uc))) := by
    have k : But lb w1 (w1.setCell ⟨lb, 0, none⟩ (.slice ua (x ++ [h]).length uc)) := (But.refl lb w1).set 0 _
    refine ⟨_, a1.set 0 _, own_but o1 a1 (by decide) k, ?_⟩
    exact ⟨k.os.trans b1.os, k.tape.trans b1.tape, k.output.trans b1.output, Nat.le_trans b1.size k.size, fun i hi hn => (k.block i (Nat.lt_of_lt_of_le hi b1.size) fun e => hn (.inl e)).trans (b1.block i (by
      rcases Nat.lt_or_ge i B with h | h
      · exact h
      · exact absurd (.inr h) hn))⟩
  change Hid (rw.App strSh (.slice va x.length vc) (.slice (some ⟨w.heap.size, 0, none⟩) 1 1) (w.alloc (.cells #[.string (S h)] 9)) (.slice ua (x ++ [h]).length uc) w1) at HR
  obtain ⟨n1, hn1⟩ : ∃ n, (x ++ [h]).length = n := ⟨_, rfl⟩
  obtain ⟨n0, hn0⟩ : ∃ n, x.length = n := ⟨_, rfl⟩
  rw [hn1] at HR HE
  rw [hn0] at HR c0 c00 c1
  clear hn1 hn0 g1 o1 b1 a1 ha ho hB hlb hx
  go_enter Tryd.func44, Tryd.ntmps44
  go_wp2_with (at_builtin; refine rw.wpList_append_at _ _ _ rfl rfl _ _ _ _ rfl rfl HR.out ?_)
  go_ret
  exact ⟨rfl, HE.out⟩
/-- The digests of the first k names. -/
def digs (ns : List Bs) (k : Nat) : List Bs := (ns.take k).filterMap fileDig
theorem digs_succ (ns : List Bs) (k : Nat) (h : k < ns.length) : digs ns (k + 1) = digs ns k ++ (fileDig (ns[k]'h)).toList := by
  unfold digs
  rw [List.take_succ_eq_append_getElem h, List.filterMap_append]
  congr 1
theorem digs_all (l : List File) : digs (l.map (·.1)) (l.map (·.1)).length = allV l := by
  unfold digs allV
  rw [List.take_length, List.filterMap_map]
  rfl
theorem digs_len (ns : List Bs) (k : Nat) : (digs ns k).length ≤ ns.length := by
  unfold digs
  exact Nat.le_trans (List.length_filterMap_le _ _) (by rw [List.length_take]; omega)
/-- All's round. -/
def RA (w w1 wr : World) (lb : Nat) (nv : Value) (ns : List Bs) (k : Nat) : Prop :=
  ∃ v, Arr wr lb 22 #[v] ∧ Own strSh wr w1.heap.size v (digs ns k) ∧ Own strSh wr w.heap.size nv ns ∧ Fr (fun i => i = lb ∨ w1.heap.size ≤ i) w1 wr
theorem RA.below {w w1 wr wx : World} {lb : Nat} {nv : Value} {ns : List Bs} {k : Nat} (h : RA w w1 wr lb nv ns k) (b : Below wr.heap.size wr wx) : RA w w1 wx lb nv ns k := by
  obtain ⟨v, h1, h2, h3, h4⟩ := h
  exact ⟨v, h1.below b, h2.below _ b, h3.below _ b, h4.then_below b⟩
set_option maxHeartbeats 8000000 in
set_option maxRecDepth 100000 in
theorem eachA_call {w0 w : World} {vb p lb : Nat} {d : Dk} (hd : Inv 900 d) (hV : Vo O w0 w vb p d) (ha : Arr w lb 22 #[.slice none 0 0]) :
    Calls Tryd.prog 30 #[.pointer (some ⟨vb, 0, none⟩), .func (.func 44) #[] #[.pointer (some ⟨lb, 0, none⟩)]] w fun e w' => e = .returned (.int .i64 0) ∧ ∃ v, Arr w' lb 22 #[v] ∧ Own strSh w' w.heap.size v (allV d.seen) ∧ Fr (fun k => k = lb ∨ w.heap.size ≤ k) w w' := by
  have hrm := hd.rm (by decide)
  have hN := hV.tell fun F hp => dk.names_any F p d (Nat.le_trans hrm.s (by decide)) (fun f hf => (hrm.r.named f hf).2) w hp
  have hns : ∀ n ∈ d.seen.map (·.1), n.length ≤ 80 := fun n hn => by
    obtain ⟨f, hf, rfl⟩ := List.mem_map.1 hn
    exact (hrm.r.named f hf).2
  have hnl : (d.seen.map (·.1)).length ≤ 1000 := by rw [List.length_map]; exact hrm.s
  have HD := Lib.hid (digs_all d.seen)
  generalize d.seen.map (·.1) = ns at *
  have c0 : w.cell? ⟨vb, 0, none⟩ = some (.pointer (some ⟨p, 0, none⟩)) := hV.a.cell rfl
  have HA := Lib.hid ha
  have HNS := Lib.hid hns
  clear hd hrm hV ha hns
  go_enter Tryd.func30, Tryd.ntmps30
  go_wp2_with fail
  refine hN.mono ?_
  clear hN c0
  rintro e w1 ⟨nv, rfl, on, b1⟩
  have R0 : Hid (RA w w1 w1 lb nv ns 0) := ⟨_, HA.out.below b1, rw.Own.nil strSh w1 w1.heap.size, on, Fr.refl _ _⟩
  have HB := Lib.hid b1
  have HLB : Hid (lb < w1.heap.size) := Nat.lt_of_lt_of_le HA.out.lt b1.size
  have HN1 : Hid (∀ q, nv.ownBlock = some q → q < w1.heap.size) := fun q hq => own_lt on hq
  obtain ⟨na, nc, rfl⟩ : ∃ a c, nv = .slice a ns.length c := on.form
  clear on b1 HA
  go_wp2_with fail
  go_loopw [18] (fun i wr => ∃ k : Nat, i = .int .i64 (k : Nat) ∧ k ≤ ns.length ∧ Hid (RA w w1 wr lb (.slice na ns.length nc) ns k))
    (fun i _ => ns.length - (intOf i).toNat)
  case atStart => exact ⟨0, rfl, Nat.zero_le _, R0.out⟩
  case round =>
  obtain ⟨k, rfl, hk, HI⟩ := hrel
  by_cases hlt : k < ns.length
  · have hki : (k : Int) < (ns.length : Int) := by omega
    obtain ⟨b, off, c, e, hc⟩ : ∃ b off c, (Value.slice na ns.length nc) = .slice (some ⟨b, off, none⟩) ns.length c ∧ wr.cell? ⟨b, off + k, none⟩ = some (.string (S (ns[k]'hlt))) := by
      obtain ⟨v, _, _, h3, _⟩ := HI.out
      exact texts_at h3.sl hlt
    injection e with e1 e2 e3
    subst e1 e3
    have hds := digs_succ ns k hlt
    have hnk := HNS.out _ (List.getElem_mem hlt)
    generalize ns[k]'hlt = n at *
    have hF := dig_call n (by omega) wr
    cases hfd : fileDig n with
    | none =>
      rw [hfd] at hF hds
      simp only [Option.getD_none, Option.isSome_none, Option.toList_none, List.append_nil] at hF hds
      have HE : Hid (∀ W, Below wr.heap.size wr W → RA w w1 W lb (.slice (some ⟨b, off, none⟩) ns.length nc) ns (k + 1)) := fun W kb => by
        have h := HI.out.below kb
        unfold RA at h ⊢
        rw [hds]
        exact h
      clear HI hds hfd e2
      go_wp2_with fail
      refine hF.mono ?_
      clear hF hc
      rintro e w2 ⟨rfl, b2⟩
      have HE2 := Lib.hid (HE.out w2 b2)
      clear b2 HE
      go_wp2_with fail
      exact ⟨⟨k + 1, by rw [Int.natCast_add]; rfl, by omega, HE2⟩, by simp only [intOf]; omega⟩
    | some h =>
      rw [hfd] at hF hds
      simp only [Option.getD_some, Option.isSome_some, Option.toList_some] at hF hds
      have HE : Hid (∀ W, Below wr.heap.size wr W → Calls Tryd.prog 44 #[.string (S h), .pointer (some ⟨lb, 0, none⟩)] W fun e w' => e = .returned (.int .i64 0) ∧ RA w w1 w' lb (.slice (some ⟨b, off, none⟩) ns.length nc) ns (k + 1)) := fun W kb => by
        obtain ⟨v, h1, h2, h3, h4⟩ := HI.out.below kb
        refine (all1_call lb v _ h (by have := digs_len ns k; omega) w1.heap.size W h1 h2 h4.size HLB.out).mono ?_
        rintro e w' ⟨rfl, v', g1, g2, g3⟩
        refine ⟨rfl, v', g1, by rw [hds]; exact g2, own_fr h3 g3 fun q hq hg => ?_, h4.trans g3 fun i _ hh => hh⟩
        rcases hg with rfl | hg
        · exact own_ne h3 h1 (by decide) hq
        · have := HN1.out q hq; omega
      clear HI hds hfd e2
      go_wp2_with fail
      refine hF.mono ?_
      clear hF hc
      rintro e w2 ⟨rfl, b2⟩
      have hE := HE.out w2 b2
      clear b2 HE
      go_wp2_with fail
      refine hE.mono ?_
      clear hE
      rintro e w3 ⟨rfl, r3⟩
      have HE2 := Lib.hid r3
      clear r3
      go_wp2_with fail
      exact ⟨⟨k + 1, by rw [Int.natCast_add]; rfl, by omega, HE2⟩, by simp only [intOf]; omega⟩
  obtain rfl : k = ns.length := by omega
  have hki : ¬ (ns.length : Int) < (ns.length : Int) := by omega
  have HE : Hid (∃ v, Arr wr lb 22 #[v] ∧ Own strSh wr w.heap.size v (allV d.seen) ∧ Fr (fun k => k = lb ∨ w.heap.size ≤ k) w wr) := by
    obtain ⟨v, h1, h2, h3, h4⟩ := HI.out
    rw [HD.out] at h2
    exact ⟨v, h1, own_lower h2 HB.out.size, (Fr.of_below HB.out).trans h4 fun i _ hh => hh.imp id fun hh => Nat.le_trans HB.out.size hh⟩
  clear HI R0
  go_wp2_with fail
  go_ret
  exact ⟨rfl, HE.out⟩
set_option maxHeartbeats 4000000 in
set_option maxRecDepth 100000 in
theorem all_call {w0 w : World} {vb p : Nat} {d : Dk} (hd : Inv 900 d) (hV : Vo O w0 w vb p d) :
    Calls Tryd.prog 21 #[.pointer (some ⟨vb, 0, none⟩)] w fun e w' => ∃ v, e = .returned v ∧ Own strSh w' w.heap.size v (allV d.seen) ∧ Below w.heap.size w w' := by
  have kb := below_box w (.cells #[.slice none 0 0] 22)
  have hE := eachA_call hd (hV.below kb) (Arr.new w _ _)
  have HK := Lib.hid kb
  clear hV kb
  go_enter Tryd.func21, Tryd.ntmps21
  go_wp2_with fail
  refine hE.mono ?_
  clear hE
  rintro e w2 ⟨rfl, v, a2, o2, f2⟩
  have c2 := a2.cell (j := 0) rfl
  have HE : Hid (Own strSh w2 w.heap.size v (allV d.seen) ∧ Below w.heap.size w w2) := ⟨own_lower o2 HK.out.size, (f2.below (B := w.heap.size) (by have := HK.out.size; exact this) (fun k hk => hk.elim (fun e => by omega) fun e => Nat.le_trans HK.out.size e)) |> fun h => HK.out.trans h⟩
  obtain ⟨va, vc, rfl⟩ : ∃ a c, v = .slice a (allV d.seen).length c := o2.form
  clear a2 o2 f2
  go_wp2_with fail
  go_ret
  exact ⟨_, rfl, HE.out⟩
end Go.Proofs.YtpimdbnhpbjlkaaDoor.vt
/-! DigAbc -/
namespace Go.Proofs.YtpimdbnhpbjlkaaDoor.dg
open Go.RowKit

def abc : List UInt8 := [97, 98, 99]
def abcBlock : List UInt8 := [97, 98, 99, 128, 0, 0, 0, 0, 0, 0, 0, 0, 0, 0, 0, 0, 0, 0, 0, 0, 0, 0, 0, 0, 0, 0, 0, 0, 0, 0, 0, 0, 0, 0, 0, 0, 0, 0, 0, 0, 0, 0, 0, 0, 0, 0, 0, 0, 0, 0, 0, 0, 0, 0, 0, 0, 0, 0, 0, 0, 0, 0, 0, 24]
theorem abc_block : blk (pad abc) 0 = abcBlock := by decide +kernel
theorem abc_count : (pad abc).length / 64 = 1 := by decide +kernel
theorem abc_w0 : wd abcBlock 0 = 1633837952 := (wd_small (by decide)).trans (by kernel_rfl)
theorem abc_w1 : wd abcBlock 1 = 0 := (wd_small (by decide)).trans (by kernel_rfl)
theorem abc_w2 : wd abcBlock 2 = 0 := (wd_small (by decide)).trans (by kernel_rfl)
theorem abc_w3 : wd abcBlock 3 = 0 := (wd_small (by decide)).trans (by kernel_rfl)
theorem abc_w4 : wd abcBlock 4 = 0 := (wd_small (by decide)).trans (by kernel_rfl)
theorem abc_w5 : wd abcBlock 5 = 0 := (wd_small (by decide)).trans (by kernel_rfl)
theorem abc_w6 : wd abcBlock 6 = 0 := (wd_small (by decide)).trans (by kernel_rfl)
theorem abc_w7 : wd abcBlock 7 = 0 := (wd_small (by decide)).trans (by kernel_rfl)
theorem abc_w8 : wd abcBlock 8 = 0 := (wd_small (by decide)).trans (by kernel_rfl)
theorem abc_w9 : wd abcBlock 9 = 0 := (wd_small (by decide)).trans (by kernel_rfl)
theorem abc_w10 : wd abcBlock 10 = 0 := (wd_small (by decide)).trans (by kernel_rfl)
theorem abc_w11 : wd abcBlock 11 = 0 := (wd_small (by decide)).trans (by kernel_rfl)
theorem abc_w12 : wd abcBlock 12 = 0 := (wd_small (by decide)).trans (by kernel_rfl)
theorem abc_w13 : wd abcBlock 13 = 0 := (wd_small (by decide)).trans (by kernel_rfl)
theorem abc_w14 : wd abcBlock 14 = 0 := (wd_small (by decide)).trans (by kernel_rfl)
theorem abc_w15 : wd abcBlock 15 = 24 := (wd_small (by decide)).trans (by kernel_rfl)
theorem abc_w16 : wd abcBlock 16 = 1633837952 := by
  rw [wd_big (by decide), abc_w14, abc_w9, abc_w1, abc_w0]
  kernel_rfl
theorem abc_w17 : wd abcBlock 17 = 983040 := by
  rw [wd_big (by decide), abc_w15, abc_w10, abc_w2, abc_w1]
  kernel_rfl
theorem abc_w18 : wd abcBlock 18 = 2108187653 := by
  rw [wd_big (by decide), abc_w16, abc_w11, abc_w3, abc_w2]
  kernel_rfl
theorem abc_w19 : wd abcBlock 19 = 1610613702 := by
  rw [wd_big (by decide), abc_w17, abc_w12, abc_w4, abc_w3]
  kernel_rfl
theorem abc_w20 : wd abcBlock 20 = 1050508152 := by
  rw [wd_big (by decide), abc_w18, abc_w13, abc_w5, abc_w4]
  kernel_rfl
theorem abc_w21 : wd abcBlock 21 = 25426944 := by
  rw [wd_big (by decide), abc_w19, abc_w14, abc_w6, abc_w5]
  kernel_rfl
theorem abc_w22 : wd abcBlock 22 = 316456923 := by
  rw [wd_big (by decide), abc_w20, abc_w15, abc_w7, abc_w6]
  kernel_rfl
theorem abc_w23 : wd abcBlock 23 = 3806512014 := by
  rw [wd_big (by decide), abc_w21, abc_w16, abc_w8, abc_w7]
  kernel_rfl
theorem abc_w24 : wd abcBlock 24 = 3357629466 := by
  rw [wd_big (by decide), abc_w22, abc_w17, abc_w9, abc_w8]
  kernel_rfl
theorem abc_w25 : wd abcBlock 25 = 3073800610 := by
  rw [wd_big (by decide), abc_w23, abc_w18, abc_w10, abc_w9]
  kernel_rfl
theorem abc_w26 : wd abcBlock 26 = 3854317833 := by
  rw [wd_big (by decide), abc_w24, abc_w19, abc_w11, abc_w10]
  kernel_rfl
theorem abc_w27 : wd abcBlock 27 = 845560923 := by
  rw [wd_big (by decide), abc_w25, abc_w20, abc_w12, abc_w11]
  kernel_rfl
theorem abc_w28 : wd abcBlock 28 = 2636160359 := by
  rw [wd_big (by decide), abc_w26, abc_w21, abc_w13, abc_w12]
  kernel_rfl
theorem abc_w29 : wd abcBlock 29 = 3968280267 := by
  rw [wd_big (by decide), abc_w27, abc_w22, abc_w14, abc_w13]
  kernel_rfl
theorem abc_w30 : wd abcBlock 30 = 1881225380 := by
  rw [wd_big (by decide), abc_w28, abc_w23, abc_w15, abc_w14]
  kernel_rfl
theorem abc_w31 : wd abcBlock 31 = 3552024379 := by
  rw [wd_big (by decide), abc_w29, abc_w24, abc_w16, abc_w15]
  kernel_rfl
theorem abc_w32 : wd abcBlock 32 = 2482346367 := by
  rw [wd_big (by decide), abc_w30, abc_w25, abc_w17, abc_w16]
  kernel_rfl
theorem abc_w33 : wd abcBlock 33 = 996719219 := by
  rw [wd_big (by decide), abc_w31, abc_w26, abc_w18, abc_w17]
  kernel_rfl
theorem abc_w34 : wd abcBlock 34 = 2952069057 := by
  rw [wd_big (by decide), abc_w32, abc_w27, abc_w19, abc_w18]
  kernel_rfl
theorem abc_w35 : wd abcBlock 35 = 4043988066 := by
  rw [wd_big (by decide), abc_w33, abc_w28, abc_w20, abc_w19]
  kernel_rfl
theorem abc_w36 : wd abcBlock 36 = 176896406 := by
  rw [wd_big (by decide), abc_w34, abc_w29, abc_w21, abc_w20]
  kernel_rfl
theorem abc_w37 : wd abcBlock 37 = 1924104970 := by
  rw [wd_big (by decide), abc_w35, abc_w30, abc_w22, abc_w21]
  kernel_rfl
theorem abc_w38 : wd abcBlock 38 = 2483675966 := by
  rw [wd_big (by decide), abc_w36, abc_w31, abc_w23, abc_w22]
  kernel_rfl
theorem abc_w39 : wd abcBlock 39 = 610538786 := by
  rw [wd_big (by decide), abc_w37, abc_w32, abc_w24, abc_w23]
  kernel_rfl
theorem abc_w40 : wd abcBlock 40 = 2672279444 := by
  rw [wd_big (by decide), abc_w38, abc_w33, abc_w25, abc_w24]
  kernel_rfl
theorem abc_w41 : wd abcBlock 41 = 4037431130 := by
  rw [wd_big (by decide), abc_w39, abc_w34, abc_w26, abc_w25]
  kernel_rfl
theorem abc_w42 : wd abcBlock 42 = 1042573945 := by
  rw [wd_big (by decide), abc_w40, abc_w35, abc_w27, abc_w26]
  kernel_rfl
theorem abc_w43 : wd abcBlock 43 = 657669027 := by
  rw [wd_big (by decide), abc_w41, abc_w36, abc_w28, abc_w27]
  kernel_rfl
theorem abc_w44 : wd abcBlock 44 = 206005234 := by
  rw [wd_big (by decide), abc_w42, abc_w37, abc_w29, abc_w28]
  kernel_rfl
theorem abc_w45 : wd abcBlock 45 = 2215296807 := by
  rw [wd_big (by decide), abc_w43, abc_w38, abc_w30, abc_w29]
  kernel_rfl
theorem abc_w46 : wd abcBlock 46 = 2049510749 := by
  rw [wd_big (by decide), abc_w44, abc_w39, abc_w31, abc_w30]
  kernel_rfl
theorem abc_w47 : wd abcBlock 47 = 106709978 := by
  rw [wd_big (by decide), abc_w45, abc_w40, abc_w32, abc_w31]
  kernel_rfl
theorem abc_w48 : wd abcBlock 48 = 4215179723 := by
  rw [wd_big (by decide), abc_w46, abc_w41, abc_w33, abc_w32]
  kernel_rfl
theorem abc_w49 : wd abcBlock 49 = 3430291419 := by
  rw [wd_big (by decide), abc_w47, abc_w42, abc_w34, abc_w33]
  kernel_rfl
theorem abc_w50 : wd abcBlock 50 = 3118885940 := by
  rw [wd_big (by decide), abc_w48, abc_w43, abc_w35, abc_w34]
  kernel_rfl
theorem abc_w51 : wd abcBlock 51 = 2845390439 := by
  rw [wd_big (by decide), abc_w49, abc_w44, abc_w36, abc_w35]
  kernel_rfl
theorem abc_w52 : wd abcBlock 52 = 2226839261 := by
  rw [wd_big (by decide), abc_w50, abc_w45, abc_w37, abc_w36]
  kernel_rfl
theorem abc_w53 : wd abcBlock 53 = 3256115900 := by
  rw [wd_big (by decide), abc_w51, abc_w46, abc_w38, abc_w37]
  kernel_rfl
theorem abc_w54 : wd abcBlock 54 = 344409900 := by
  rw [wd_big (by decide), abc_w52, abc_w47, abc_w39, abc_w38]
  kernel_rfl
theorem abc_w55 : wd abcBlock 55 = 2987358873 := by
  rw [wd_big (by decide), abc_w53, abc_w48, abc_w40, abc_w39]
  kernel_rfl
theorem abc_w56 : wd abcBlock 56 = 4015503821 := by
  rw [wd_big (by decide), abc_w54, abc_w49, abc_w41, abc_w40]
  kernel_rfl
theorem abc_w57 : wd abcBlock 57 = 3957764664 := by
  rw [wd_big (by decide), abc_w55, abc_w50, abc_w42, abc_w41]
  kernel_rfl
theorem abc_w58 : wd abcBlock 58 = 2682456414 := by
  rw [wd_big (by decide), abc_w56, abc_w51, abc_w43, abc_w42]
  kernel_rfl
theorem abc_w59 : wd abcBlock 59 = 2025622859 := by
  rw [wd_big (by decide), abc_w57, abc_w52, abc_w44, abc_w43]
  kernel_rfl
theorem abc_w60 : wd abcBlock 60 = 2755645205 := by
  rw [wd_big (by decide), abc_w58, abc_w53, abc_w45, abc_w44]
  kernel_rfl
theorem abc_w61 : wd abcBlock 61 = 1720397816 := by
  rw [wd_big (by decide), abc_w59, abc_w54, abc_w46, abc_w45]
  kernel_rfl
theorem abc_w62 : wd abcBlock 62 = 4004225740 := by
  rw [wd_big (by decide), abc_w60, abc_w55, abc_w47, abc_w46]
  kernel_rfl
theorem abc_w63 : wd abcBlock 63 = 313650667 := by
  rw [wd_big (by decide), abc_w61, abc_w56, abc_w48, abc_w47]
  kernel_rfl
theorem abc_r0 : rounds abcBlock start 0 = ⟨1779033703, 3144134277, 1013904242, 2773480762, 1359893119, 2600822924, 528734635, 1541459225⟩ := rfl
theorem abc_r1 : rounds abcBlock start 1 = ⟨1567288269, 1779033703, 3144134277, 1013904242, 4197074466, 1359893119, 2600822924, 528734635⟩ := by
  show round (rounds abcBlock start 0) (key 0) (wd abcBlock 0) = _
  rw [abc_r0, abc_w0]
  kernel_rfl
theorem abc_r2 : rounds abcBlock start 2 = ⟨1516951981, 1567288269, 1779033703, 3144134277, 2026797449, 4197074466, 1359893119, 2600822924⟩ := by
  show round (rounds abcBlock start 1) (key 1) (wd abcBlock 1) = _
  rw [abc_r1, abc_w1]
  kernel_rfl
theorem abc_r3 : rounds abcBlock start 3 = ⟨3368241063, 1516951981, 1567288269, 1779033703, 4180228587, 2026797449, 4197074466, 1359893119⟩ := by
  show round (rounds abcBlock start 2) (key 2) (wd abcBlock 2) = _
  rw [abc_r2, abc_w2]
  kernel_rfl
theorem abc_r4 : rounds abcBlock start 4 = ⟨3578852966, 3368241063, 1516951981, 1567288269, 618661968, 4180228587, 2026797449, 4197074466⟩ := by
  show round (rounds abcBlock start 3) (key 3) (wd abcBlock 3) = _
  rw [abc_r3, abc_w3]
  kernel_rfl
theorem abc_r5 : rounds abcBlock start 5 = ⟨71342698, 3578852966, 3368241063, 1516951981, 1135452741, 618661968, 4180228587, 2026797449⟩ := by
  show round (rounds abcBlock start 4) (key 4) (wd abcBlock 4) = _
  rw [abc_r4, abc_w4]
  kernel_rfl
theorem abc_r6 : rounds abcBlock start 6 = ⟨725748213, 71342698, 3578852966, 3368241063, 1900175533, 1135452741, 618661968, 4180228587⟩ := by
  show round (rounds abcBlock start 5) (key 5) (wd abcBlock 5) = _
  rw [abc_r5, abc_w5]
  kernel_rfl
theorem abc_r7 : rounds abcBlock start 7 = ⟨3842179968, 725748213, 71342698, 3578852966, 2603066369, 1900175533, 1135452741, 618661968⟩ := by
  show round (rounds abcBlock start 6) (key 6) (wd abcBlock 6) = _
  rw [abc_r6, abc_w6]
  kernel_rfl
theorem abc_r8 : rounds abcBlock start 8 = ⟨2241887071, 3842179968, 725748213, 71342698, 207977081, 2603066369, 1900175533, 1135452741⟩ := by
  show round (rounds abcBlock start 7) (key 7) (wd abcBlock 7) = _
  rw [abc_r7, abc_w7]
  kernel_rfl
theorem abc_r9 : rounds abcBlock start 9 = ⟨2382687417, 2241887071, 3842179968, 725748213, 852110732, 207977081, 2603066369, 1900175533⟩ := by
  show round (rounds abcBlock start 8) (key 8) (wd abcBlock 8) = _
  rw [abc_r8, abc_w8]
  kernel_rfl
theorem abc_r10 : rounds abcBlock start 10 = ⟨2357671019, 2382687417, 2241887071, 3842179968, 482944406, 852110732, 207977081, 2603066369⟩ := by
  show round (rounds abcBlock start 9) (key 9) (wd abcBlock 9) = _
  rw [abc_r9, abc_w9]
  kernel_rfl
theorem abc_r11 : rounds abcBlock start 11 = ⟨1201185780, 2357671019, 2382687417, 2241887071, 1131095016, 482944406, 852110732, 207977081⟩ := by
  show round (rounds abcBlock start 10) (key 10) (wd abcBlock 10) = _
  rw [abc_r10, abc_w10]
  kernel_rfl
theorem abc_r12 : rounds abcBlock start 12 = ⟨4146054569, 1201185780, 2357671019, 2382687417, 2171590377, 1131095016, 482944406, 852110732⟩ := by
  show round (rounds abcBlock start 11) (key 11) (wd abcBlock 11) = _
  rw [abc_r11, abc_w11]
  kernel_rfl
theorem abc_r13 : rounds abcBlock start 13 = ⟨2274437520, 4146054569, 1201185780, 2357671019, 509051416, 2171590377, 1131095016, 482944406⟩ := by
  show round (rounds abcBlock start 12) (key 12) (wd abcBlock 12) = _
  rw [abc_r12, abc_w12]
  kernel_rfl
theorem abc_r14 : rounds abcBlock start 14 = ⟨3643992854, 2274437520, 4146054569, 1201185780, 1952073950, 509051416, 2171590377, 1131095016⟩ := by
  show round (rounds abcBlock start 13) (key 13) (wd abcBlock 13) = _
  rw [abc_r13, abc_w13]
  kernel_rfl
theorem abc_r15 : rounds abcBlock start 15 = ⟨3227803614, 3643992854, 2274437520, 4146054569, 194179596, 1952073950, 509051416, 2171590377⟩ := by
  show round (rounds abcBlock start 14) (key 14) (wd abcBlock 14) = _
  rw [abc_r14, abc_w14]
  kernel_rfl
theorem abc_r16 : rounds abcBlock start 16 = ⟨2969183118, 3227803614, 3643992854, 2274437520, 123276749, 194179596, 1952073950, 509051416⟩ := by
  show round (rounds abcBlock start 15) (key 15) (wd abcBlock 15) = _
  rw [abc_r15, abc_w15]
  kernel_rfl
theorem abc_r17 : rounds abcBlock start 17 = ⟨567974555, 2969183118, 3227803614, 3643992854, 2150900380, 123276749, 194179596, 1952073950⟩ := by
  show round (rounds abcBlock start 16) (key 16) (wd abcBlock 16) = _
  rw [abc_r16, abc_w16]
  kernel_rfl
theorem abc_r18 : rounds abcBlock start 18 = ⟨3271285201, 567974555, 2969183118, 3227803614, 2221859924, 2150900380, 123276749, 194179596⟩ := by
  show round (rounds abcBlock start 17) (key 17) (wd abcBlock 17) = _
  rw [abc_r17, abc_w17]
  kernel_rfl
theorem abc_r19 : rounds abcBlock start 19 = ⟨4269243327, 3271285201, 567974555, 2969183118, 3431569761, 2221859924, 2150900380, 123276749⟩ := by
  show round (rounds abcBlock start 18) (key 18) (wd abcBlock 18) = _
  rw [abc_r18, abc_w18]
  kernel_rfl
theorem abc_r20 : rounds abcBlock start 20 = ⟨3790736435, 4269243327, 3271285201, 567974555, 2959311225, 3431569761, 2221859924, 2150900380⟩ := by
  show round (rounds abcBlock start 19) (key 19) (wd abcBlock 19) = _
  rw [abc_r19, abc_w19]
  kernel_rfl
theorem abc_r21 : rounds abcBlock start 21 = ⟨2647034723, 3790736435, 4269243327, 3271285201, 2329577776, 2959311225, 3431569761, 2221859924⟩ := by
  show round (rounds abcBlock start 20) (key 20) (wd abcBlock 20) = _
  rw [abc_r20, abc_w20]
  kernel_rfl
theorem abc_r22 : rounds abcBlock start 22 = ⟨3261099373, 2647034723, 3790736435, 4269243327, 3777329520, 2329577776, 2959311225, 3431569761⟩ := by
  show round (rounds abcBlock start 21) (key 21) (wd abcBlock 21) = _
  rw [abc_r21, abc_w21]
  kernel_rfl
theorem abc_r23 : rounds abcBlock start 23 = ⟨2812502591, 3261099373, 2647034723, 3790736435, 1240797514, 3777329520, 2329577776, 2959311225⟩ := by
  show round (rounds abcBlock start 22) (key 22) (wd abcBlock 22) = _
  rw [abc_r22, abc_w22]
  kernel_rfl
theorem abc_r24 : rounds abcBlock start 24 = ⟨3319086477, 2812502591, 3261099373, 2647034723, 2856829767, 1240797514, 3777329520, 2329577776⟩ := by
  show round (rounds abcBlock start 23) (key 23) (wd abcBlock 23) = _
  rw [abc_r23, abc_w23]
  kernel_rfl
theorem abc_r25 : rounds abcBlock start 25 = ⟨472655928, 3319086477, 2812502591, 3261099373, 673443729, 2856829767, 1240797514, 3777329520⟩ := by
  show round (rounds abcBlock start 24) (key 24) (wd abcBlock 24) = _
  rw [abc_r24, abc_w24]
  kernel_rfl
theorem abc_r26 : rounds abcBlock start 26 = ⟨3454534525, 472655928, 3319086477, 2812502591, 339230094, 673443729, 2856829767, 1240797514⟩ := by
  show round (rounds abcBlock start 25) (key 25) (wd abcBlock 25) = _
  rw [abc_r25, abc_w25]
  kernel_rfl
theorem abc_r27 : rounds abcBlock start 27 = ⟨3056518332, 3454534525, 472655928, 3319086477, 3343672598, 339230094, 673443729, 2856829767⟩ := by
  show round (rounds abcBlock start 26) (key 26) (wd abcBlock 26) = _
  rw [abc_r26, abc_w26]
  kernel_rfl
theorem abc_r28 : rounds abcBlock start 28 = ⟨2010346792, 3056518332, 3454534525, 472655928, 3992961016, 3343672598, 339230094, 673443729⟩ := by
  show round (rounds abcBlock start 27) (key 27) (wd abcBlock 27) = _
  rw [abc_r27, abc_w27]
  kernel_rfl
theorem abc_r29 : rounds abcBlock start 29 = ⟨909411017, 2010346792, 3056518332, 3454534525, 1628611511, 3992961016, 3343672598, 339230094⟩ := by
  show round (rounds abcBlock start 28) (key 28) (wd abcBlock 28) = _
  rw [abc_r28, abc_w28]
  kernel_rfl
theorem abc_r30 : rounds abcBlock start 30 = ⟨2684750640, 909411017, 2010346792, 3056518332, 2917635127, 1628611511, 3992961016, 3343672598⟩ := by
  show round (rounds abcBlock start 29) (key 29) (wd abcBlock 29) = _
  rw [abc_r29, abc_w29]
  kernel_rfl
theorem abc_r31 : rounds abcBlock start 31 = ⟨3935906338, 2684750640, 909411017, 2010346792, 17410874, 2917635127, 1628611511, 3992961016⟩ := by
  show round (rounds abcBlock start 30) (key 30) (wd abcBlock 30) = _
  rw [abc_r30, abc_w30]
  kernel_rfl
theorem abc_r32 : rounds abcBlock start 32 = ⟨1941126133, 3935906338, 2684750640, 909411017, 3126399250, 17410874, 2917635127, 1628611511⟩ := by
  show round (rounds abcBlock start 31) (key 31) (wd abcBlock 31) = _
  rw [abc_r31, abc_w31]
  kernel_rfl
theorem abc_r33 : rounds abcBlock start 33 = ⟨2564891911, 1941126133, 3935906338, 2684750640, 2631529974, 3126399250, 17410874, 2917635127⟩ := by
  show round (rounds abcBlock start 32) (key 32) (wd abcBlock 32) = _
  rw [abc_r32, abc_w32]
  kernel_rfl
theorem abc_r34 : rounds abcBlock start 34 = ⟨4267724277, 2564891911, 1941126133, 3935906338, 1495571923, 2631529974, 3126399250, 17410874⟩ := by
  show round (rounds abcBlock start 33) (key 33) (wd abcBlock 33) = _
  rw [abc_r33, abc_w33]
  kernel_rfl
theorem abc_r35 : rounds abcBlock start 35 = ⟨2846323596, 4267724277, 2564891911, 1941126133, 140458035, 1495571923, 2631529974, 3126399250⟩ := by
  show round (rounds abcBlock start 34) (key 34) (wd abcBlock 34) = _
  rw [abc_r34, abc_w34]
  kernel_rfl
theorem abc_r36 : rounds abcBlock start 36 = ⟨1705037796, 2846323596, 4267724277, 2564891911, 4105175766, 140458035, 1495571923, 2631529974⟩ := by
  show round (rounds abcBlock start 35) (key 35) (wd abcBlock 35) = _
  rw [abc_r35, abc_w35]
  kernel_rfl
theorem abc_r37 : rounds abcBlock start 37 = ⟨1101421745, 1705037796, 2846323596, 4267724277, 124953195, 4105175766, 140458035, 1495571923⟩ := by
  show round (rounds abcBlock start 36) (key 36) (wd abcBlock 36) = _
  rw [abc_r36, abc_w36]
  kernel_rfl
theorem abc_r38 : rounds abcBlock start 38 = ⟨887035396, 1101421745, 1705037796, 2846323596, 2768741693, 124953195, 4105175766, 140458035⟩ := by
  show round (rounds abcBlock start 37) (key 37) (wd abcBlock 37) = _
  rw [abc_r37, abc_w37]
  kernel_rfl
theorem abc_r39 : rounds abcBlock start 39 = ⟨1841658506, 887035396, 1101421745, 1705037796, 4034403272, 2768741693, 124953195, 4105175766⟩ := by
  show round (rounds abcBlock start 38) (key 38) (wd abcBlock 38) = _
  rw [abc_r38, abc_w38]
  kernel_rfl
theorem abc_r40 : rounds abcBlock start 40 = ⟨2045405306, 1841658506, 887035396, 1101421745, 519815328, 4034403272, 2768741693, 124953195⟩ := by
  show round (rounds abcBlock start 39) (key 39) (wd abcBlock 39) = _
  rw [abc_r39, abc_w39]
  kernel_rfl
theorem abc_r41 : rounds abcBlock start 41 = ⟨3597076326, 2045405306, 1841658506, 887035396, 641019235, 519815328, 4034403272, 2768741693⟩ := by
  show round (rounds abcBlock start 40) (key 40) (wd abcBlock 40) = _
  rw [abc_r40, abc_w40]
  kernel_rfl
theorem abc_r42 : rounds abcBlock start 42 = ⟨3745932591, 3597076326, 2045405306, 1841658506, 2206934801, 641019235, 519815328, 4034403272⟩ := by
  show round (rounds abcBlock start 41) (key 41) (wd abcBlock 41) = _
  rw [abc_r41, abc_w41]
  kernel_rfl
theorem abc_r43 : rounds abcBlock start 43 = ⟨397020670, 3745932591, 3597076326, 2045405306, 3737995029, 2206934801, 641019235, 519815328⟩ := by
  show round (rounds abcBlock start 42) (key 42) (wd abcBlock 42) = _
  rw [abc_r42, abc_w42]
  kernel_rfl
theorem abc_r44 : rounds abcBlock start 44 = ⟨2638983059, 397020670, 3745932591, 3597076326, 4255271982, 3737995029, 2206934801, 641019235⟩ := by
  show round (rounds abcBlock start 43) (key 43) (wd abcBlock 43) = _
  rw [abc_r43, abc_w43]
  kernel_rfl
theorem abc_r45 : rounds abcBlock start 45 = ⟨643991573, 2638983059, 397020670, 3745932591, 2819559920, 4255271982, 3737995029, 2206934801⟩ := by
  show round (rounds abcBlock start 44) (key 44) (wd abcBlock 44) = _
  rw [abc_r44, abc_w44]
  kernel_rfl
theorem abc_r46 : rounds abcBlock start 46 = ⟨1923828625, 643991573, 2638983059, 397020670, 3077922209, 2819559920, 4255271982, 3737995029⟩ := by
  show round (rounds abcBlock start 45) (key 45) (wd abcBlock 45) = _
  rw [abc_r45, abc_w45]
  kernel_rfl
theorem abc_r47 : rounds abcBlock start 47 = ⟨2706117808, 1923828625, 643991573, 2638983059, 3581645993, 3077922209, 2819559920, 4255271982⟩ := by
  show round (rounds abcBlock start 46) (key 46) (wd abcBlock 46) = _
  rw [abc_r46, abc_w46]
  kernel_rfl
theorem abc_r48 : rounds abcBlock start 48 = ⟨1098003085, 2706117808, 1923828625, 643991573, 4274981830, 3581645993, 3077922209, 2819559920⟩ := by
  show round (rounds abcBlock start 47) (key 47) (wd abcBlock 47) = _
  rw [abc_r47, abc_w47]
  kernel_rfl
theorem abc_r49 : rounds abcBlock start 49 = ⟨91585771, 1098003085, 2706117808, 1923828625, 3178315832, 4274981830, 3581645993, 3077922209⟩ := by
  show round (rounds abcBlock start 48) (key 48) (wd abcBlock 48) = _
  rw [abc_r48, abc_w48]
  kernel_rfl
theorem abc_r50 : rounds abcBlock start 50 = ⟨4045142696, 91585771, 1098003085, 2706117808, 1851537676, 3178315832, 4274981830, 3581645993⟩ := by
  show round (rounds abcBlock start 49) (key 49) (wd abcBlock 49) = _
  rw [abc_r49, abc_w49]
  kernel_rfl
theorem abc_r51 : rounds abcBlock start 51 = ⟨2047150241, 4045142696, 91585771, 1098003085, 1391578359, 1851537676, 3178315832, 4274981830⟩ := by
  show round (rounds abcBlock start 50) (key 50) (wd abcBlock 50) = _
  rw [abc_r50, abc_w50]
  kernel_rfl
theorem abc_r52 : rounds abcBlock start 52 = ⟨2288941602, 2047150241, 4045142696, 91585771, 1227037726, 1391578359, 1851537676, 3178315832⟩ := by
  show round (rounds abcBlock start 51) (key 51) (wd abcBlock 51) = _
  rw [abc_r51, abc_w51]
  kernel_rfl
theorem abc_r53 : rounds abcBlock start 53 = ⟨270520975, 2288941602, 2047150241, 4045142696, 1386118400, 1227037726, 1391578359, 1851537676⟩ := by
  show round (rounds abcBlock start 52) (key 52) (wd abcBlock 52) = _
  rw [abc_r52, abc_w52]
  kernel_rfl
theorem abc_r54 : rounds abcBlock start 54 = ⟨4117770203, 270520975, 2288941602, 2047150241, 2672265155, 1386118400, 1227037726, 1391578359⟩ := by
  show round (rounds abcBlock start 53) (key 53) (wd abcBlock 53) = _
  rw [abc_r53, abc_w53]
  kernel_rfl
theorem abc_r55 : rounds abcBlock start 55 = ⟨1053056219, 4117770203, 270520975, 2288941602, 3842906959, 2672265155, 1386118400, 1227037726⟩ := by
  show round (rounds abcBlock start 54) (key 54) (wd abcBlock 54) = _
  rw [abc_r54, abc_w54]
  kernel_rfl
theorem abc_r56 : rounds abcBlock start 56 = ⟨952932627, 1053056219, 4117770203, 270520975, 1422599787, 3842906959, 2672265155, 1386118400⟩ := by
  show round (rounds abcBlock start 55) (key 55) (wd abcBlock 55) = _
  rw [abc_r55, abc_w55]
  kernel_rfl
theorem abc_r57 : rounds abcBlock start 57 = ⟨4241590395, 952932627, 1053056219, 4117770203, 2606665836, 1422599787, 3842906959, 2672265155⟩ := by
  show round (rounds abcBlock start 56) (key 56) (wd abcBlock 56) = _
  rw [abc_r56, abc_w56]
  kernel_rfl
theorem abc_r58 : rounds abcBlock start 58 = ⟨3227702383, 4241590395, 952932627, 1053056219, 2118385806, 2606665836, 1422599787, 3842906959⟩ := by
  show round (rounds abcBlock start 57) (key 57) (wd abcBlock 57) = _
  rw [abc_r57, abc_w57]
  kernel_rfl
theorem abc_r59 : rounds abcBlock start 59 = ⟨4290184306, 3227702383, 4241590395, 952932627, 1837350854, 2118385806, 2606665836, 1422599787⟩ := by
  show round (rounds abcBlock start 58) (key 58) (wd abcBlock 58) = _
  rw [abc_r58, abc_w58]
  kernel_rfl
theorem abc_r60 : rounds abcBlock start 60 = ⟨3064893439, 4290184306, 3227702383, 4241590395, 2988158269, 1837350854, 2118385806, 2606665836⟩ := by
  show round (rounds abcBlock start 59) (key 59) (wd abcBlock 59) = _
  rw [abc_r59, abc_w59]
  kernel_rfl
theorem abc_r61 : rounds abcBlock start 61 = ⟨3093179625, 3064893439, 4290184306, 3227702383, 2518632596, 2988158269, 1837350854, 2118385806⟩ := by
  show round (rounds abcBlock start 60) (key 60) (wd abcBlock 60) = _
  rw [abc_r60, abc_w60]
  kernel_rfl
theorem abc_r62 : rounds abcBlock start 62 = ⟨80891244, 3093179625, 3064893439, 4290184306, 2492278198, 2518632596, 2988158269, 1837350854⟩ := by
  show round (rounds abcBlock start 61) (key 61) (wd abcBlock 61) = _
  rw [abc_r61, abc_w61]
  kernel_rfl
theorem abc_r63 : rounds abcBlock start 63 = ⟨3550093669, 80891244, 3093179625, 3064893439, 4212265488, 2492278198, 2518632596, 2988158269⟩ := by
  show round (rounds abcBlock start 62) (key 62) (wd abcBlock 62) = _
  rw [abc_r62, abc_w62]
  kernel_rfl
theorem abc_r64 : rounds abcBlock start 64 = ⟨1349398616, 3550093669, 80891244, 3093179625, 1593118500, 4212265488, 2492278198, 2518632596⟩ := by
  show round (rounds abcBlock start 63) (key 63) (wd abcBlock 63) = _
  rw [abc_r63, abc_w63]
  kernel_rfl
theorem abc_press : press start abcBlock = ⟨3128432319, 2399260650, 1094795486, 1571693091, 2953011619, 2518121116, 3021012833, 4060091821⟩ := by
  unfold press
  rw [abc_r64]
  kernel_rfl
theorem abc_sum : hex (sum abc) = [98, 97, 55, 56, 49, 54, 98, 102, 56, 102, 48, 49, 99, 102, 101, 97, 52, 49, 52, 49, 52, 48, 100, 101, 53, 100, 97, 101, 50, 50, 50, 51, 98, 48, 48, 51, 54, 49, 97, 51, 57, 54, 49, 55, 55, 97, 57, 99, 98, 52, 49, 48, 102, 102, 54, 49, 102, 50, 48, 48, 49, 53, 97, 100] := by
  unfold sum
  rw [abc_count]
  show hex (outs (press start (blk (pad abc) 0)) 8) = _
  rw [abc_block, abc_press]
  decide +kernel
end Go.Proofs.YtpimdbnhpbjlkaaDoor.dg
/-! VtL1 -/
namespace Go.Proofs.YtpimdbnhpbjlkaaDoor.vt
set_option linter.unusedVariables false
open Go.RowKit
open fl (S S_size S_append S_inj)
open rw (Arr But below_box bnext below_drew below_drewN Fr Own)
open dk (Bs File Dk PD Step Nu Inv Live turn sync read fuse crash Right count strSh get used)

/-! ### Put, where there is room and power -/
theorem off_no {d : Dk} (h : d.fused = false) : dk.off d = false := by unfold dk.off; rw [h]; rfl
theorem spend_no {d : Dk} (h : d.fused = false) : dk.spend d = d := by unfold dk.spend; rw [if_neg (by rw [h]; decide)]
theorem sync_no {d : Dk} (h : d.fused = false) : sync d = (0, { d with lasts := d.seen, pend := [] }) := by
  unfold sync
  rw [if_neg (by rw [off_no h]; decide)]
  unfold dk.spend
  rw [if_neg (by show ¬ d.fused = true; rw [h]; decide)]
theorem putV_inv {j : Nat} {d : Dk} (h : Inv j d) (s : Bs) (hs : s.length ≤ 140737488355328) : Inv (j + 2) (putV d s).2.2 := by
  have h1 := dk.inv_turn h ⟨2, vname (dg.sum s), s⟩ hs
  have h2 := dk.inv_sync h1
  unfold putV
  split
  · exact h.mono (by omega)
  · split
    · exact h.mono (by omega)
    · split
      · exact h1.mono (by omega)
      · split
        · exact h2
        · exact h2
/-- What a Put makes. -/
structure Did (d d' : Dk) (s : Bs) : Prop where
  f : d'.fused = false
  c : d'.cap = d.cap
  seen : (d' = d ∧ get d.seen (vname (dg.sum s)) = some s) ∨ (d'.seen = dk.put d.seen (vname (dg.sum s), s) ∧ d'.lasts = d'.seen ∧ d'.pend = [])
theorem putV_did {d : Dk} (hd : Right d) (hf : d.fused = false) (s : Bs) (hs : s.length ≤ 4096) (hu : used d.seen + s.length ≤ d.cap) : ∃ d', putV d s = (dg.sum s, 0, d') ∧ Did d d' s := by
  have hn : dk.Named (vname (dg.sum s)) := vname_named (dg.sum_length s)
  have hup := dk.used_put hd.sorted (vname (dg.sum s), s)
  have ht := turn_put (off_no hf) hn (s := s) (by
    have : used (dk.put d.seen (vname (dg.sum s), s)) + ((get d.seen (vname (dg.sum s))).getD []).length = used d.seen + s.length := hup
    omega)
  by_cases hg : get d.seen (vname (dg.sum s)) = some s
  · refine ⟨d, ?_, hf, rfl, .inl ⟨rfl, hg⟩⟩
    unfold putV
    rw [rd_some (off_no hf) hg, if_neg (by omega), if_pos ⟨rfl, rfl⟩]
  · have hr : ¬ ((read d (vname (dg.sum s))).2 = 0 ∧ (read d (vname (dg.sum s))).1 = s) := by
      rintro ⟨h1, h2⟩
      cases hgg : get d.seen (vname (dg.sum s)) with
      | none => rw [rd_none (off_no hf) hgg] at h1; exact absurd h1 (by decide)
      | some t =>
        rw [rd_some (off_no hf) hgg] at h2
        exact hg (by rw [hgg]; exact congrArg some h2)
    rw [spend_no (d := { d with seen := dk.put d.seen (vname (dg.sum s), s), pend := d.pend ++ [⟨2, vname (dg.sum s), s⟩] }) hf] at ht
    have hsy := sync_no (d := { d with seen := dk.put d.seen (vname (dg.sum s), s), pend := d.pend ++ [⟨2, vname (dg.sum s), s⟩] }) hf
    refine ⟨{ d with lasts := dk.put d.seen (vname (dg.sum s), s), seen := dk.put d.seen (vname (dg.sum s), s), pend := [] }, ?_, hf, rfl, .inr ⟨rfl, rfl, rfl⟩⟩
    unfold putV
    rw [if_neg (by omega), if_neg hr, ht]
    simp only
    rw [if_neg (by decide), hsy]
    simp only
    rw [if_neg (by decide)]
section
variable {d d' : Dk} {s : Bs}
theorem Did.get (h : Did d d' s) (hd : Right d) : get d'.seen (vname (dg.sum s)) = some s := by
  rcases h.seen with ⟨rfl, hg⟩ | ⟨e, _⟩
  · exact hg
  · rw [e]; exact dk.get_put_same hd.sorted _ _
theorem Did.other (h : Did d d' s) (hd : Right d) {n : Bs} (hn : n ≠ vname (dg.sum s)) : dk.get d'.seen n = dk.get d.seen n := by
  rcases h.seen with ⟨rfl, hg⟩ | ⟨e, _⟩
  · rfl
  · rw [e]; exact dk.get_put_other hd.sorted _ hn
theorem Did.used (h : Did d d' s) (hd : Right d) : dk.used d'.seen ≤ dk.used d.seen + s.length := by
  rcases h.seen with ⟨rfl, hg⟩ | ⟨e, _⟩
  · omega
  · rw [e]
    have : dk.used (dk.put d.seen (vname (dg.sum s), s)) + ((dk.get d.seen (vname (dg.sum s))).getD []).length = dk.used d.seen + s.length := dk.used_put hd.sorted (vname (dg.sum s), s)
    omega
end

/-! ### few, long -/
set_option maxRecDepth 100000 in
theorem few_call (n : Nat) (w : World) : Calls Tryd.prog 24 #[.int .i64 (n : Nat)] w fun e w' => e = .returned (.int .i64 (min n 1048576 : Nat)) ∧ Below w.heap.size w w' := by
  go_enter Tryd.func24, Tryd.ntmps24
  go_wp2_with fail
  go_ret
  exact ⟨congrArg (fun z => Ending.returned (Value.int .i64 z)) (by show min (n : Int) 1048576 = _; omega), Below.refl _ _⟩
def lens (l : List Bs) : Nat := (l.map (·.length)).sum
def fews (l : List Bs) : Nat := (l.map fun s => min s.length 1048576).sum
theorem fews_succ (l : List Bs) (k : Nat) (h : k < l.length) : fews (l.take (k + 1)) = fews (l.take k) + min (l[k]'h).length 1048576 := by
  unfold fews
  rw [List.take_succ_eq_append_getElem h, List.map_append, List.sum_append]
  simp
theorem fews_le : ∀ l : List Bs, fews l ≤ l.length * 1048576
  | [] => by simp [fews]
  | a :: r => by
    have := fews_le r
    unfold fews at *
    simp only [List.map_cons, List.sum_cons, List.length_cons]
    omega
theorem fews_lens : ∀ l : List Bs, fews l < 1048576 → lens l = fews l
  | [], _ => rfl
  | a :: r, h => by
    unfold fews lens at *
    simp only [List.map_cons, List.sum_cons] at *
    have := fews_lens r (by unfold fews; omega)
    unfold fews lens at this
    omega
theorem lens_mem {l : List Bs} {s : Bs} (h : s ∈ l) : s.length ≤ lens l := by
  induction l with
  | nil => cases h
  | cons a r ih =>
    unfold lens at *
    simp only [List.map_cons, List.sum_cons]
    rcases List.mem_cons.1 h with rfl | h
    · omega
    · have := ih h; omega
/-- What long tells. -/
def LO (l : List Bs) (n : Nat) : Prop := n ≤ 32768 → l.length ≤ 40 ∧ lens l ≤ 32768
set_option maxHeartbeats 4000000 in
set_option maxRecDepth 100000 in
theorem long_call (v : Value) (l : List Bs) (w : World) (hv : rw.Sl strSh w v l) : Calls Tryd.prog 7 #[v] w fun e w' => ∃ n : Nat, e = .returned (.int .i64 (n : Nat)) ∧ n ≤ 1073741824 ∧ LO l n ∧ Below w.heap.size w w' := by
  obtain ⟨va, vc, rfl⟩ : ∃ a c, v = .slice a l.length c := by obtain ⟨a, c, e, _⟩ := hv; exact ⟨a, c, e⟩
  have HV := Lib.hid hv
  clear hv
  by_cases h40 : l.length ≤ 40
  · have hi40 : ¬ (l.length : Int) > 40 := by omega
    go_enter Tryd.func7, Tryd.ntmps7
    go_wp2_with fail
    go_loopw [3, 4] (fun n i wr => ∃ k t : Nat, i = .int .i64 (k : Nat) ∧ n = .int .i64 (t : Nat) ∧ k ≤ l.length ∧ t ≤ 40 + k * 1048576 ∧ Hid (t = l.length + fews (l.take k) ∧ Below w.heap.size w wr))
      (fun _ i _ => l.length - (intOf i).toNat)
    case atStart => exact ⟨0, l.length, rfl, rfl, Nat.zero_le _, by omega, by simp [fews], Below.refl _ _⟩
    case round =>
    obtain ⟨k, t, rfl, rfl, hk, ht, HI⟩ := hrel
    by_cases hlt : k < l.length
    · have hki : (k : Int) < (l.length : Int) := by omega
      obtain ⟨b, off, c, e, hc⟩ := texts_at (rw.Sl.later strSh HV.out HI.out.2) hlt
      injection e with e1 e2 e3
      subst e1 e3
      have hfs := fews_succ l k hlt
      generalize l[k]'hlt = x at *
      have hF := few_call x.length wr
      have hxs := S_size x
      obtain ⟨f2, hf2⟩ : ∃ f, min x.length 1048576 = f := ⟨_, rfl⟩
      rw [hf2] at hF hfs
      have hf3 : f2 ≤ 1048576 := by omega
      obtain ⟨z, hz⟩ : ∃ z, t + f2 = z := ⟨_, rfl⟩
      have q1 : IntKind.i64.wrap ((t : Int) + (f2 : Int)) = (z : Int) := by rw [IntWalk.i64_in _ (by omega)]; omega
      have HZ : Hid (z = l.length + fews (l.take (k + 1))) := Lib.hid (by rw [hfs, ← hz, HI.out.1]; omega)
      have hz2 : z ≤ 40 + (k + 1) * 1048576 := by omega
      have HB := Lib.hid HI.out.2
      clear HI e2 hf2 hz hfs ht hf3
      go_wp2_with fail
      refine hF.mono ?_
      clear hF hc
      rintro e w2 ⟨rfl, b2⟩
      have HB2 := Lib.hid (HB.out.trans (b2.mono HB.out.size))
      clear b2 HB
      go_wp2_with fail
      exact ⟨⟨k + 1, z, by rw [Int.natCast_add]; rfl, rfl, by omega, hz2, HZ.out, HB2.out⟩, by simp only [intOf]; omega⟩
    obtain rfl : k = l.length := by omega
    have hki : ¬ (l.length : Int) < (l.length : Int) := by omega
    have HE : Hid (LO l t ∧ Below w.heap.size w wr) := by
      refine ⟨fun h => ?_, HI.out.2⟩
      have h1 := HI.out.1
      rw [List.take_length] at h1
      have h2 := fews_lens l (by omega)
      omega
    have ht2 : t ≤ 1073741824 := by omega
    clear HI ht
    go_wp2_with fail
    go_ret
    exact ⟨t, rfl, ht2, HE.out.1, HE.out.2⟩
  · have hi40 : (l.length : Int) > 40 := by omega
    go_enter Tryd.func7, Tryd.ntmps7
    go_wp2_with fail
    go_ret
    exact ⟨1073741824, rfl, Nat.le_refl _, fun h => by omega, Below.refl _ _⟩

/-! ### clash -/
def NoClash (l : List Bs) : Prop := ∀ a ∈ l, ∀ b ∈ l, dg.sum a = dg.sum b → a = b
def Before (l : List Bs) (i k : Nat) : Prop := (∀ a (ha : a < l.length) b (hb : b < l.length), a < i → b < a → dg.sum l[a] = dg.sum l[b] → l[a] = l[b]) ∧ (∀ (hi : i < l.length) b (hb : b < l.length), b < k → dg.sum l[i] = dg.sum l[b] → l[i] = l[b])
theorem Before.all {l : List Bs} (h : Before l l.length 0) : NoClash l := by
  intro x hx y hy e
  obtain ⟨a, ha, rfl⟩ := List.mem_iff_getElem.1 hx
  obtain ⟨b, hb, rfl⟩ := List.mem_iff_getElem.1 hy
  rcases Nat.lt_trichotomy b a with h1 | h1 | h1
  · exact h.1 a ha b hb ha h1 e
  · subst h1; rfl
  · exact (h.1 b hb a ha hb h1 e.symm).symm
theorem Before.next {l : List Bs} {i k : Nat} (h : Before l i k) (hi : i < l.length) (hk : k < l.length) (hn : dg.sum l[i] = dg.sum l[k] → l[i] = l[k]) : Before l i (k + 1) := by
  refine ⟨h.1, fun _ b hb hbk => ?_⟩
  rcases Nat.lt_or_ge b k with h1 | h1
  · exact h.2 hi b hb h1
  · obtain rfl : b = k := by omega
    exact hn
theorem Before.turn {l : List Bs} {i : Nat} (h : Before l i i) : Before l (i + 1) 0 := by
  refine ⟨fun a ha b hb h1 h2 => ?_, fun _ b hb h => by omega⟩
  rcases Nat.lt_or_ge a i with h3 | h3
  · exact h.1 a ha b hb h3 h2
  · obtain rfl : a = i := by omega
    exact h.2 ha b hb h2
/-- What clash tells. -/
def CO (l : List Bs) (e : Ending) : Prop := ∃ r, e = .returned (.bool r) ∧ (r = false → NoClash l)
set_option maxHeartbeats 8000000 in
set_option maxRecDepth 100000 in
theorem clash_call (v : Value) (l : List Bs) (hl : ∀ s ∈ l, s.length ≤ 1099511627776) (hn : l.length ≤ 1000000) (w : World) (hK : dg.Keys w) (hv : rw.Sl strSh w v l) : Calls Tryd.prog 8 #[v] w fun e w' => CO l e ∧ Below w.heap.size w w' := by
  obtain ⟨va, vc, rfl⟩ : ∃ a c, v = .slice a l.length c := by obtain ⟨a, c, e, _⟩ := hv; exact ⟨a, c, e⟩
  have HV := Lib.hid (And.intro hv hK)
  have HL := Lib.hid hl
  clear hv hK hl
  go_enter Tryd.func8, Tryd.ntmps8
  go_wp2_with fail
  go_loopw [3] (fun i wr => ∃ k : Nat, i = .int .i64 (k : Nat) ∧ k ≤ l.length ∧ Hid (Before l k 0 ∧ Below w.heap.size w wr))
    (fun i _ => l.length - (intOf i).toNat)
  case atStart => exact ⟨0, rfl, Nat.zero_le _, ⟨fun a ha b hb h => by omega, fun _ b hb h => by omega⟩, Below.refl _ _⟩
  case round =>
  obtain ⟨i, rfl, hi, HI⟩ := hrel
  by_cases hlt : i < l.length
  · have hki : (i : Int) < (l.length : Int) := by omega
    rename World => w1
    go_wp2_with fail
    go_loopw [4] (fun kk wr => ∃ k : Nat, kk = .int .i64 (k : Nat) ∧ k ≤ i ∧ Hid (Before l i k ∧ Below w.heap.size w wr))
      (fun kk _ => i - (intOf kk).toNat)
    case atStart => exact ⟨0, rfl, Nat.zero_le _, HI.out⟩
    case round =>
    obtain ⟨k, rfl, hk, HI2⟩ := hrel
    by_cases hlk : k < i
    · have hkk : (k : Int) < (i : Int) := by omega
      have hkl : k < l.length := by omega
      have hkli : (k : Int) < (l.length : Int) := by omega
      have HB := Lib.hid HI2.out.2
      have HN : Hid ((dg.sum l[i] = dg.sum l[k] → l[i] = l[k]) → Before l i (k + 1)) := HI2.out.1.next hlt hkl
      have hsa := HL.out _ (List.getElem_mem hlt)
      have hsb := HL.out _ (List.getElem_mem hkl)
      have T1 := Lib.hid fun W (h : Below wr.heap.size wr W) => texts_at (rw.Sl.later strSh HV.out.1 (HB.out.trans (h.mono HB.out.size))) hlt
      have T2 := Lib.hid fun W (h : Below wr.heap.size wr W) => texts_at (rw.Sl.later strSh HV.out.1 (HB.out.trans (h.mono HB.out.size))) hkl
      generalize l[i] = xa at *
      generalize l[k] = xb at *
      obtain ⟨b, off, c, e, -⟩ := T1.out wr (Below.refl _ _)
      injection e with e1 e2 e3
      subst e1 e3
      have HC : Hid (∀ W, Below wr.heap.size wr W → W.cell? ⟨b, off + i, none⟩ = some (.string (S xa)) ∧ W.cell? ⟨b, off + k, none⟩ = some (.string (S xb))) := fun W h => by
        obtain ⟨b1, o1, c1, g1, h1⟩ := T1.out W h
        obtain ⟨b2, o2, c2, g2, h2⟩ := T2.out W h
        injection g1 with g11 g12 g13
        injection g11 with g11
        injection g11 with g14 g15
        injection g2 with g21 g22 g23
        injection g21 with g21
        injection g21 with g24 g25
        subst g14 g15 g24 g25
        exact ⟨h1, h2⟩
      clear T1 T2 HI2 e2
      have hq := S_beq xa xb
      go_wp2_with fail
      by_cases hab : xa = xb
      · have HE : Hid (∀ n, Before l i (k + 1) ∧ Below w.heap.size w (wr.drewN n)) := fun n => ⟨HN.out fun _ => hab, HB.out.trans (below_drewN (Below.refl _ _) n |>.mono HB.out.size)⟩
        rw [decide_eq_true hab] at hq
        have HC1 : Hid (∀ n, (wr.drewN n).cell? ⟨b, off + i, none⟩ = some (.string (S xa)) ∧ (wr.drewN n).cell? ⟨b, off + k, none⟩ = some (.string (S xb))) := fun n => HC.out _ (below_drewN (Below.refl _ _) n)
        obtain ⟨d1, d2⟩ := HC.out wr (Below.refl _ _)
        clear HC HN HB hsa hsb hab
        go_quiet (fail)
        clear d1 d2
        have HE2 := Lib.hid (HE.out nq)
        clear HE HC1
        go_wp2_with fail
        exact ⟨⟨k + 1, by rw [Int.natCast_add]; rfl, by omega, HE2⟩, by simp only [intOf]; omega⟩
      · rw [decide_eq_false hab] at hq
        obtain ⟨ya, hya⟩ : ∃ y, dg.sum xa = y := ⟨_, rfl⟩
        obtain ⟨yb, hyb⟩ : ∃ y, dg.sum xb = y := ⟨_, rfl⟩
        have HKy : Hid (∀ W, Below wr.heap.size wr W → dg.Keys W) := fun W h => HV.out.2.below (HB.out.trans (h.mono HB.out.size)) HV.out.2.pos
        have HSa : Hid (∀ W, Below wr.heap.size wr W → Calls Tryd.prog 12 #[.string (S xa)] W fun e w' => e = .returned (.string (S ya)) ∧ Below W.heap.size W w') := fun W h => by
          rw [← hya]; exact sum_call xa (by omega) W (HKy.out W h)
        have HSb : Hid (∀ W, Below wr.heap.size wr W → Calls Tryd.prog 12 #[.string (S xb)] W fun e w' => e = .returned (.string (S yb)) ∧ Below W.heap.size W w') := fun W h => by
          rw [← hyb]; exact sum_call xb (by omega) W (HKy.out W h)
        rw [hya, hyb] at HN
        have hq2 := S_beq ya yb
        obtain ⟨r, hr⟩ : ∃ r, decide (ya = yb) = r := ⟨_, rfl⟩
        rw [hr] at hq2
        have HE : Hid ((r = false → Before l i (k + 1)) ∧ ∀ W, Below wr.heap.size wr W → Below w.heap.size w W) := ⟨fun h => HN.out fun he => by rw [h] at hr; exact absurd he (of_decide_eq_false hr), fun W h => HB.out.trans (h.mono HB.out.size)⟩
        clear HN HB hya hyb hr HKy hsa hsb hab
        have X0 := Lib.hid (below_drew (Below.refl wr.heap.size wr))
        have kx := HC.out _ X0.out
        go_region_held3 (fun W => W.cell? ⟨b, off + i, none⟩ = some (.string (S xa)) ∧ W.cell? ⟨b, off + k, none⟩ = some (.string (S xb)))
          (first | (with_reducible exact kx) | go_keep)
          (first | (go_at_call 12; with_reducible refine (HSa.out _ X0.out).mono ?_; rintro e w5 ⟨rfl, b5⟩; replace X0 := Lib.hid (X0.out.trans (b5.mono X0.out.size)); clear kx b5; have kx := HC.out _ X0.out) | (go_at_call 12; with_reducible refine (HSb.out _ X0.out).mono ?_; rintro e w6 ⟨rfl, b6⟩; replace X0 := Lib.hid (X0.out.trans (b6.mono X0.out.size)); clear kx b6; have kx := HC.out _ X0.out))
        all_goals (
          have HX := Lib.hid (HE.out.2 _ X0.out)
          have HF := Lib.hid HE.out.1
          clear HE X0 kx HSa HSb HC
          cases r with
          | true =>
            go_wp2_with fail
            go_ret
            exact ⟨⟨true, rfl, fun h => by cases h⟩, HX.out⟩
          | false =>
            have HE2 := Lib.hid (And.intro (HF.out rfl) HX.out)
            clear HX HF
            go_wp2_with fail
            exact ⟨⟨k + 1, by rw [Int.natCast_add]; rfl, by omega, HE2⟩, by simp only [intOf]; omega⟩)
    obtain rfl : k = i := by omega
    have hkk : ¬ (k : Int) < (k : Int) := by omega
    have HE2 := Lib.hid (And.intro HI2.out.1.turn HI2.out.2)
    clear HI2 HI
    go_wp2_with fail
    exact ⟨⟨k + 1, by rw [Int.natCast_add]; rfl, by omega, HE2⟩, by simp only [intOf]; omega⟩
  obtain rfl : i = l.length := by omega
  have hki : ¬ (l.length : Int) < (l.length : Int) := by omega
  have HE : Hid (NoClash l ∧ Below w.heap.size w wr) := ⟨HI.out.1.all, HI.out.2⟩
  clear HI
  go_wp2_with fail
  go_ret
  exact ⟨⟨false, rfl, fun _ => HE.out.1⟩, HE.out.2⟩
end Go.Proofs.YtpimdbnhpbjlkaaDoor.vt
/-! VtL2 -/
namespace Go.Proofs.YtpimdbnhpbjlkaaDoor.vt
set_option linter.unusedVariables false
open Go.RowKit
open fl (S S_size S_append S_inj)
open rw (Arr But below_box bnext below_drew below_drewN Fr Own)
open dk (Bs File Dk PD Step Nu Inv Live turn sync read fuse crash Right count strSh get used)

theorem abc_hex : S (dg.hex (dg.sum dg.abc)) = ⟨#[98, 97, 55, 56, 49, 54, 98, 102, 56, 102, 48, 49, 99, 102, 101, 97, 52, 49, 52, 49, 52, 48, 100, 101, 53, 100, 97, 101, 50, 50, 50, 51, 98, 48, 48, 51, 54, 49, 97, 51, 57, 54, 49, 55, 55, 97, 57, 99, 98, 52, 49, 48, 102, 102, 54, 49, 102, 50, 48, 48, 49, 53, 97, 100]⟩ := by rw [dg.abc_sum]; rfl
theorem getV_small {d : Dk} (hd : Right d) (h : Bs) : (getV d h).1.length ≤ 1048576 := by
  unfold getV
  split
  · exact Nat.zero_le _
  · split
    · exact Nat.zero_le _
    · split
      · exact Nat.zero_le _
      · exact read_small hd _
theorem put_nil (f : File) : dk.put [] f = [f] := rfl
theorem alive_gen (s q : Bs) (hq : dg.sum s = q) (hs : s.length ≤ 90) : ∃ D1, putV (dk.fresh 100) s = (q, 0, D1) ∧ getV D1 q = (s, 0) ∧ (allV D1.seen).length = 1 ∧ Inv 2 D1 ∧ q.length = 32 := by
  have hi0 : Inv 0 (dk.fresh 100) := dk.inv_fresh (by decide)
  obtain ⟨D1, hP1, hD1⟩ := putV_did (d := dk.fresh 100) hi0.r rfl s (by omega) (by show 0 + s.length ≤ 100; omega)
  have hi1 : Inv 2 D1 := by
    have := putV_inv hi0 s (by omega)
    rw [hP1] at this
    exact this
  have hG1 : getV D1 (dg.sum s) = (s, 0) := getV_some (off_no hD1.f) (hD1.get hi0.r)
  have hl := dg.sum_length s
  have hsn := hD1.seen
  rw [hq] at hP1 hG1 hl hsn
  refine ⟨D1, hP1, hG1, ?_, hi1, hl⟩
  rcases hsn with ⟨rfl, hg⟩ | ⟨e, _⟩
  · cases hg
  · rw [e]
    show (allV [(vname q, s)]).length = 1
    unfold allV
    rw [List.filterMap_cons, fileDig_name hl]
    rfl
theorem alive_facts : ∃ q D1, putV (dk.fresh 100) dg.abc = (q, 0, D1) ∧ getV D1 q = (dg.abc, 0) ∧ (allV D1.seen).length = 1 ∧ Inv 2 D1 ∧ q.length = 32 ∧ S (dg.hex q) = ⟨#[98, 97, 55, 56, 49, 54, 98, 102, 56, 102, 48, 49, 99, 102, 101, 97, 52, 49, 52, 49, 52, 48, 100, 101, 53, 100, 97, 101, 50, 50, 50, 51, 98, 48, 48, 51, 54, 49, 97, 51, 57, 54, 49, 55, 55, 97, 57, 99, 98, 52, 49, 48, 102, 102, 54, 49, 102, 50, 48, 48, 49, 53, 97, 100]⟩ := by
  obtain ⟨q, hq⟩ : ∃ q, dg.sum dg.abc = q := ⟨_, rfl⟩
  have hh := abc_hex
  rw [hq] at hh
  obtain ⟨D1, h1, h2, h3, h4, h5⟩ := alive_gen dg.abc q hq (by decide)
  exact ⟨q, D1, h1, h2, h3, h4, h5, hh⟩
set_option maxHeartbeats 8000000 in
set_option maxRecDepth 100000 in
theorem alive_call (w : World) (hK : dg.Keys w) : Calls Tryd.prog 6 #[] w fun e w' => e = .returned (.bool true) ∧ Below w.heap.size w w' := by
  have hN := dk.pnew_any 100 w
  have hi0 : Inv 0 (dk.fresh 100) := dk.inv_fresh (by decide)
  obtain ⟨q, D1, hP1, hG1, hA1, hi1, hql, hh⟩ := alive_facts
  have hS : S dg.abc = ⟨#[97, 98, 99]⟩ := rfl
  have HP := Lib.hid fun vb p W (h : Vt w W vb p (dk.fresh 100)) => put_call dg.abc (hi0.mono (by decide)) h
  have HG := Lib.hid fun vb p W (h : Vt w W vb p D1) => get_call q hi1.r h
  have HH := Lib.hid fun W => hex_call q (by omega) W
  have HHs := Lib.hid fun vb p W (h : Vt w W vb p D1) => has_call q hi1.r h
  have HAl := Lib.hid fun vb p W (h : Vt w W vb p D1) => all_call (hi1.mono (by decide)) h
  rw [hP1, hS] at HP
  rw [hG1, hS] at HG
  rw [hG1] at HHs
  rw [hh] at HH
  have HKy := Lib.hid hK
  generalize allV D1.seen = al at *
  clear hi0 hi1 hP1 hG1 hS hh hK hql
  go_enter Tryd.func6, Tryd.ntmps6
  go_wp2_with fail
  refine hN.mono ?_
  clear hN
  rintro e w1 (⟨h, -, -⟩ | ⟨cap, hc, -, p, rfl, hp, hb⟩)
  · exfalso
    omega
  obtain rfl : cap = 100 := by omega
  have hO := vopen_call (Live.new (Below.refl _ _) hp hb) HKy.out
  clear hp hb hc
  go_wp2_with fail
  refine hO.mono ?_
  clear hO
  rintro e w2 ⟨vb, rfl, v2⟩
  have hPc := HP.out vb p w2 v2
  clear v2 HP
  go_wp2_with fail
  refine hPc.mono ?_
  clear hPc
  rintro e w3 ⟨rfl, v3⟩
  have V3 := Lib.hid v3
  have hGc := HG.out vb p w3 v3
  clear v3 HG
  go_wp2_with fail
  refine hGc.mono ?_
  clear hGc
  rintro e w4 ⟨rfl, b4⟩
  have V4 := Lib.hid (V3.out.below b4)
  have hHc := HH.out w4
  clear b4 V3 HH
  go_wp2_with fail
  refine hHc.mono ?_
  clear hHc
  rintro e w5 ⟨rfl, b5⟩
  have V5 := Lib.hid (V4.out.below b5)
  have hHc := HHs.out vb p w5 V5.out
  clear b5 V4 HHs
  go_wp2_with fail
  refine hHc.mono ?_
  clear hHc
  rintro e w6 ⟨rfl, b6⟩
  have V6 := Lib.hid (V5.out.below b6)
  have hAc := HAl.out vb p w6 V6.out
  clear b6 V5 HAl
  go_wp2_with fail
  refine hAc.mono ?_
  clear hAc
  rintro e w7 ⟨v, rfl, o7, b7⟩
  have B7 := Lib.hid (V6.out.below b7).since
  obtain ⟨va, vc, rfl⟩ : ∃ a c, v = .slice a al.length c := o7.form
  rw [hA1]
  clear b7 o7 V6
  go_wp2_with fail
  go_ret
  exact ⟨rfl, B7.out⟩
/-- What lies in a file named by a digest is told just if it has that digest. -/
theorem getV_file {d : Dk} (hf : d.fused = false) {h t : Bs} (hl : h.length = 32) (hg : get d.seen (vname h) = some t) : getV d h = if dg.sum t = h then (t, 0) else ([], 5) := by
  unfold getV
  rw [rd_some (off_no hf) hg, if_neg (by omega), if_neg (by simp)]
  by_cases hs : dg.sum t = h
  · rw [if_neg (fun h => h hs), if_pos hs]
  · rw [if_pos hs, if_neg hs]
end Go.Proofs.YtpimdbnhpbjlkaaDoor.vt
/-! VtK1 -/
namespace Go.Proofs.YtpimdbnhpbjlkaaDoor.vt
set_option linter.unusedVariables false
open Go.RowKit
open fl (S S_size S_append S_inj)
open rw (Arr But below_box bnext below_drew below_drewN Fr Own)
open dk (Bs File Dk PD Step Nu Inv Live turn sync read fuse crash Right count strSh)
open mp (Mp Turned kget kput kwithout KSorted)
variable {O : List (Value × List Bs)}

theorem keepL_append (ks : List Bs) : ∀ (a b : List Bs) (n : Nat) (d : Dk), keepL ks (a ++ b) n d = if (keepL ks a n d).2.1 ≠ 0 then keepL ks a n d else keepL ks b (keepL ks a n d).1 (keepL ks a n d).2.2
  | [], b, n, d => by
    show keepL ks b n d = if (0 : Nat) ≠ 0 then _ else keepL ks b n d
    rw [if_neg (by decide)]
  | h :: r, b, n, d => by
    rw [List.cons_append, keepL, keepL]
    split
    · exact keepL_append ks r b n d
    · split
      · next he => rfl
      · exact keepL_append ks r b _ _
theorem kget_put {l : List (Bs × Value)} (h : KSorted l) (n : Bs) (v : Value) (m : Bs) : kget (kput l (n, v)) m = if m = n then some v else kget l m := by
  have hs := mp.kput_sorted h (n, v)
  by_cases e : m = n
  · rw [if_pos e, e]
    exact mp.kget_of_mem hs (mp.mem_kput.2 (.inl rfl))
  · rw [if_neg e]
    cases hk : kget l m with
    | none =>
      refine mp.kget_eq_none fun f hf => ?_
      rcases mp.mem_kput.1 hf with rfl | ⟨hf, _⟩
      · exact fun h => e h.symm
      · exact mp.kget_none hk f hf
    | some u => exact mp.kget_of_mem hs (mp.mem_kput.2 (.inr ⟨mp.kget_some hk, e⟩))
/-- A map that holds just these keys. -/
structure KS (l : List (Bs × Value)) (ks : List Bs) : Prop where
  g : ∀ h, (kget l h).isSome = decide (h ∈ ks)
  v : ∀ f ∈ l, f.2 = .agg #[]
  n : l.length ≤ ks.length
theorem KS.nil : KS [] [] := ⟨fun h => rfl, fun f hf => (nomatch hf), Nat.le_refl _⟩
theorem KS.put {l : List (Bs × Value)} {ks : List Bs} (h : KS l ks) (hs : KSorted l) (k : Bs) : KS (kput l (k, .agg #[])) (ks ++ [k]) := by
  refine ⟨fun m => ?_, fun f hf => ?_, ?_⟩
  · rw [kget_put hs]
    by_cases e : m = k
    · rw [if_pos e]; simp [e]
    · rw [if_neg e, h.g]
      rw [Bool.eq_iff_iff, decide_eq_true_eq, decide_eq_true_eq, List.mem_append, List.mem_singleton]
      exact ⟨.inl, fun h => h.resolve_right e⟩
  · rcases mp.mem_kput.1 hf with rfl | ⟨hf, _⟩
    · rfl
    · exact h.v f hf
  · have h1 := mp.kput_length l (k, Value.agg #[])
    have h2 := h.n
    rw [List.length_append, List.length_singleton]
    omega
theorem KS.get {l : List (Bs × Value)} {ks : List Bs} (h : KS l ks) (m : Bs) : (kget l m).getD (.agg #[]) = .agg #[] := by
  cases hk : kget l m with
  | none => rfl
  | some u => exact h.v _ (mp.kget_some hk)
theorem und_m : Tryd.prog.underlying 62 = some (.map 9 63) := Tryd.underlying62
theorem zero_s (w : World) : (zeroValue 63).run Tryd.prog w = .ok (.agg #[]) w := by kernel_rfl

/-- What Keep's closure goes over. -/
structure Kt (O : List (Value × List Bs)) (w0 W : World) (vb p m kb xb nb : Nat) (kl : List (Bs × Value)) (d : Dk) (n : Nat) : Prop where
  d : ∃ F, PD W F p d ∧ (∀ k, F k → w0.heap.size ≤ k) ∧ ¬ F m
  b : Below w0.heap.size w0 W
  a : Arr W vb 56 #[.pointer (some ⟨p, 0, none⟩)]
  g : w0.heap.size ≤ vb
  k : dg.Keys w0
  mm : Mp W m kl
  ka : Arr W kb 62 #[.map (some m)]
  xa : Arr W xb 31 #[.pointer (some ⟨vb, 0, none⟩)]
  na : Arr W nb 3 #[.int .i64 (n : Nat)]
  nn : w0.heap.size ≤ nb
  o : ∀ x ∈ O, Own strSh W w0.heap.size x.1 x.2
section
variable {w0 W W' : World} {vb p m kb xb nb : Nat} {kl : List (Bs × Value)} {d d' : Dk} {n : Nat}
theorem Kt.below (h : Kt O w0 W vb p m kb xb nb kl d n) (k : Below W.heap.size W W') : Kt O w0 W' vb p m kb xb nb kl d n := by
  obtain ⟨F, h1, h2, h3⟩ := h.d
  exact ⟨⟨F, h1.below k, h2, h3⟩, h.b.trans (k.mono h.b.size), h.a.below k, h.g, h.k, h.mm.of (k.block m h.mm.lt), h.ka.below k, h.xa.below k, h.na.below k, h.nn, fun x hx => (h.o x hx).below strSh k⟩
theorem Kt.keys (h : Kt O w0 W vb p m kb xb nb kl d n) : dg.Keys W := h.k.below h.b h.k.pos
theorem Kt.vt (h : Kt O w0 W vb p m kb xb nb kl d n) : Vo O w0 W vb p d := by
  obtain ⟨F, h1, h2, h3⟩ := h.d
  exact ⟨⟨F, h1, h2, h.b⟩, h.a, h.g, h.k, h.o⟩
theorem Kt.step {F : Nat → Prop} (h : Kt O w0 W vb p m kb xb nb kl d n) (hp : PD W F p d) (hF : ∀ k, F k → w0.heap.size ≤ k) (hm : ¬ F m) (k : Step W F p d' W') : Kt O w0 W' vb p m kb xb nb kl d' n ∧ ∀ B v l, Own strSh W B v l → Own strSh W' B v l := by
  obtain ⟨F', h1, h2, h3⟩ := k
  have key : ∀ B v l, Own strSh W B v l → Own strSh W' B v l := fun B v l ho => own_fr ho h2 fun q hq hF2 => by
    obtain ⟨cs, hc⟩ := own_typed ho hq
    exact off_disk hp (by decide) (by decide) (by decide) hc hF2
  refine ⟨⟨⟨F', h1, fun i hi => ?_, fun hi => ?_⟩, h.b.trans (h2.below h.b.size hF), h2.arr h.a (off_disk hp (by decide) (by decide) (by decide) h.a), h.g, h.k, h.mm.of (h2.block m h.mm.lt hm), h2.arr h.ka (off_disk hp (by decide) (by decide) (by decide) h.ka), h2.arr h.xa (off_disk hp (by decide) (by decide) (by decide) h.xa), h2.arr h.na (off_disk hp (by decide) (by decide) (by decide) h.na), h.nn, fun x hx => key _ _ _ (h.o x hx)⟩, key⟩
  · rcases h3 i hi with h4 | h4
    · exact hF i h4
    · exact Nat.le_trans h.b.size h4
  · rcases h3 m hi with h4 | h4
    · exact hm h4
    · have := h.mm.lt; omega
/-- A store into the counter. -/
theorem Kt.count (h : Kt O w0 W vb p m kb xb nb kl d n) (n' : Nat) : Kt O w0 (W.setCell ⟨nb, 0, none⟩ (.int .i64 (n' : Nat))) vb p m kb xb nb kl d n' ∧ ∀ B v l, Own strSh W B v l → Own strSh (W.setCell ⟨nb, 0, none⟩ (.int .i64 (n' : Nat))) B v l := by
  have k : But nb W (W.setCell ⟨nb, 0, none⟩ (.int .i64 (n' : Nat))) := (But.refl nb W).set 0 _
  obtain ⟨F, h1, h2, h3⟩ := h.d
  have hnF : ¬ F nb := off_disk h1 (by decide) (by decide) (by decide) h.na
  have ne : ∀ {b : Nat} {t : TypeId} {cs : Array Value}, Arr W b t cs → t ≠ 3 → b ≠ nb := fun {b t cs} ha ht e => by
    have hn := h.na
    unfold Arr at ha hn
    rw [e, hn] at ha
    injection ha with g1
    injection g1 with _ g2 _
    exact ht g2.symm
  have hmn : m ≠ nb := fun e => by
    obtain ⟨es, c, hb⟩ := h.mm.block
    have hn := h.na
    unfold Arr at hn
    rw [e, hn] at hb
    cases hb
  refine ⟨⟨⟨F, h1.fr (Fr.but k (F := fun i => i = nb) rfl) (fun i hi e => hnF (e ▸ hi)) (fun i e s hs => ?_), h2, h3⟩, h.b.trans (k.below h.b.size h.nn), k.arr h.a (ne h.a (by decide)), h.g, h.k, h.mm.of (k.block m h.mm.lt hmn), k.arr h.ka (ne h.ka (by decide)), k.arr h.xa (ne h.xa (by decide)), h.na.set 0 _, h.nn, fun x hx => own_but (h.o x hx) h.na (by decide) k⟩, fun B v l ho => own_but ho h.na (by decide) k⟩
  have hn := h.na
  change W.heap[i]? = some (.cells #[.string (S s)] 9 (0, 0)) at hs
  unfold Arr at hn
  rw [e, hn] at hs
  injection hs with g1
  injection g1 with _ g2 _
  exact absurd g2 (by decide)
end
/-- What the closure makes: the error, how many, the disk. -/
def keep1 (ks : List Bs) (h : Bs) (n : Nat) (d : Dk) : Nat × Nat × Dk := if h ∈ ks then (0, n, d) else if (turn d ⟨3, vname h, []⟩).1 ≠ 0 then ((turn d ⟨3, vname h, []⟩).1, n, (turn d ⟨3, vname h, []⟩).2) else (0, n + 1, (turn d ⟨3, vname h, []⟩).2)
theorem keepL_one (ks : List Bs) (h : Bs) (r : List Bs) (n : Nat) (d : Dk) : keepL ks (h :: r) n d = if (keep1 ks h n d).1 ≠ 0 then ((keep1 ks h n d).2.1, (keep1 ks h n d).1, (keep1 ks h n d).2.2) else keepL ks r (keep1 ks h n d).2.1 (keep1 ks h n d).2.2 := by
  rw [keepL]
  unfold keep1
  by_cases h1 : h ∈ ks
  · rw [if_pos h1, if_pos h1, if_neg (by simp)]
  · rw [if_neg h1, if_neg h1]
    by_cases h2 : (turn d ⟨3, vname h, []⟩).1 ≠ 0
    · rw [if_pos h2, if_pos h2, if_pos h2]
    · rw [if_neg h2, if_neg h2, if_neg (by simp)]
set_option maxHeartbeats 8000000 in
set_option maxRecDepth 100000 in
theorem keep1_call {w0 W : World} {vb p m kb xb nb : Nat} {kl : List (Bs × Value)} {d : Dk} {n : Nat} (ks : List Bs) (h : Bs) (hl : h.length = 32) (hn : n ≤ 1000000) (hd : Inv 900 d) (hk : KS kl ks) (hK : Kt O w0 W vb p m kb xb nb kl d n) :
    Calls Tryd.prog 31 #[.string (S h), .pointer (some ⟨kb, 0, none⟩), .pointer (some ⟨xb, 0, none⟩), .pointer (some ⟨nb, 0, none⟩)] W fun e w' => e = .returned (.int .i64 ((keep1 ks h n d).1 : Nat)) ∧ Kt O w0 w' vb p m kb xb nb kl (keep1 ks h n d).2.2 (keep1 ks h n d).2.1 ∧ ∀ B v l, Own strSh W B v l → Own strSh w' B v l := by
  obtain ⟨R, hR⟩ : ∃ R, keep1 ks h n d = R := ⟨_, rfl⟩
  rw [hR]
  unfold keep1 at hR
  have hlk := hK.mm.lookok und_m (zero_s W) h (by unfold maxLen; omega)
  rw [hk.get, hk.g] at hlk
  have c0 : W.cell? ⟨kb, 0, none⟩ = some (.map (some m)) := hK.ka.cell rfl
  have kz := below_box W (.cells #[] 63)
  have K1 := Lib.hid (And.intro (hK.below kz) (fun B v l (ho : Own strSh W B v l) => ho.below strSh kz))
  clear kz hk
  by_cases hmem : h ∈ ks
  · rw [if_pos hmem] at hR
    rw [decide_eq_true hmem] at hlk
    have HR := Lib.hid hR
    clear hR hK hd
    go_enter Tryd.func31, Tryd.ntmps31
    go_wp2_with fail
    go_ret
    rw [← HR.out]
    exact ⟨rfl, K1.out.1, K1.out.2⟩
  · rw [if_neg hmem] at hR
    rw [decide_eq_false hmem] at hlk
    have HN := Lib.hid fun w => name_call h (by omega) w
    have HDr : Hid (∀ w, Kt O w0 w vb p m kb xb nb kl d n → Calls Tryd.prog 32 #[.pointer (some ⟨p, 0, none⟩), .string (S (vname h))] w fun e w' => e = .returned (.int .i64 ((turn d ⟨3, vname h, []⟩).1 : Nat)) ∧ Kt O w0 w' vb p m kb xb nb kl (turn d ⟨3, vname h, []⟩).2 n ∧ ∀ B v l, Own strSh w B v l → Own strSh w' B v l) := fun w hw => by
      obtain ⟨F, h1, h2, h3⟩ := hw.d
      refine (dk.pdrop_any F p d (vname h) (hd.rm (by decide)).room w h1).mono ?_
      rintro e w' ⟨rfl, s⟩
      exact ⟨rfl, hw.step h1 h2 h3 s⟩
    generalize turn d ⟨3, vname h, []⟩ = T at *
    obtain ⟨te, td⟩ := T
    simp only at hR HDr
    have HR := Lib.hid hR
    generalize vname h = nm at *
    clear hR hK hd hmem
    go_enter Tryd.func31, Tryd.ntmps31
    go_upto_region 4 with (fail)
    clear hlk c0
    generalize W.alloc (.cells #[] 63) = W1 at *
    have X1 : Hid (Kt O w0 W1.drew vb p m kb xb nb kl d n ∧ ∀ B v l, Own strSh W B v l → Own strSh W1.drew B v l) := by
      have k := below_drew (Below.refl W1.heap.size W1)
      exact ⟨K1.out.1.below k, fun B v l ho => (K1.out.2 B v l ho).below strSh k⟩
    clear K1
    have k0 : W1.drew.cell? ⟨xb, 0, none⟩ = some (.pointer (some ⟨vb, 0, none⟩)) ∧ W1.drew.cell? ⟨vb, 0, none⟩ = some (.pointer (some ⟨p, 0, none⟩)) := ⟨X1.out.1.xa.cell rfl, X1.out.1.a.cell rfl⟩
    go_region_held3 (fun W => W.cell? ⟨xb, 0, none⟩ = some (.pointer (some ⟨vb, 0, none⟩)) ∧ W.cell? ⟨vb, 0, none⟩ = some (.pointer (some ⟨p, 0, none⟩)))
      (first | (with_reducible exact k0) | go_keep)
      (first | (go_at_call 25; with_reducible refine (HN.out _).mono ?_; rintro e w2 ⟨rfl, b2⟩; replace X1 := Lib.hid (And.intro (X1.out.1.below b2) (fun B v l ho => (X1.out.2 B v l ho).below strSh b2)); clear k0 b2; have k0 : w2.cell? ⟨xb, 0, none⟩ = some (.pointer (some ⟨vb, 0, none⟩)) ∧ w2.cell? ⟨vb, 0, none⟩ = some (.pointer (some ⟨p, 0, none⟩)) := ⟨X1.out.1.xa.cell rfl, X1.out.1.a.cell rfl⟩) | (go_at_call 32; with_reducible refine (HDr.out _ X1.out.1).mono ?_; rintro e w3 ⟨rfl, g3, r3⟩; have X2 := Lib.hid (And.intro g3 (fun B v l ho => r3 B v l (X1.out.2 B v l ho))); clear k0 g3 r3; have k0 : w3.cell? ⟨xb, 0, none⟩ = some (.pointer (some ⟨vb, 0, none⟩)) ∧ w3.cell? ⟨vb, 0, none⟩ = some (.pointer (some ⟨p, 0, none⟩)) := ⟨X2.out.1.xa.cell rfl, X2.out.1.a.cell rfl⟩))
    all_goals (
      have X3 := X2
      clear k0 X2 X1 HN HDr
      by_cases h0 : te = 0
      · subst h0
        rw [if_neg (fun h => h rfl)] at HR
        have n0 : w3.cell? ⟨nb, 0, none⟩ = some (.int .i64 (n : Nat)) := X3.out.1.na.cell rfl
        have n1 : w3.frozen? ⟨nb, 0, none⟩ = false := X3.out.1.na.frozen 0
        obtain ⟨n', hn'⟩ : ∃ n', n + 1 = n' := ⟨_, rfl⟩
        have q1 : IntKind.i64.wrap ((n : Int) + 1) = (n' : Int) := by rw [IntWalk.i64_in _ (by omega)]; omega
        rw [hn'] at HR
        have HE : Hid (Kt O w0 (w3.setCell ⟨nb, 0, none⟩ (.int .i64 (n' : Nat))) vb p m kb xb nb kl td n' ∧ ∀ B v l, Own strSh W B v l → Own strSh (w3.setCell ⟨nb, 0, none⟩ (.int .i64 (n' : Nat))) B v l) := by
          obtain ⟨g1, g2⟩ := X3.out.1.count n'
          exact ⟨g1, fun B v l ho => g2 B v l (X3.out.2 B v l ho)⟩
        clear X3 hn'
        go_wp2_with fail
        go_ret
        rw [← HR.out]
        exact ⟨rfl, HE.out.1, HE.out.2⟩
      · have h0i : ¬ (te : Int) = 0 := by omega
        rw [if_pos h0] at HR
        go_wp2_with fail
        go_ret
        rw [← HR.out]
        exact ⟨rfl, X3.out.1, X3.out.2⟩)
end Go.Proofs.YtpimdbnhpbjlkaaDoor.vt
/-! VtK2 -/
namespace Go.Proofs.YtpimdbnhpbjlkaaDoor.vt
set_option linter.unusedVariables false
open Go.RowKit
open fl (S S_size S_append S_inj)
open rw (Arr But below_box bnext below_drew below_drewN Fr Own)
open dk (Bs File Dk PD Step Nu Inv Live turn sync read fuse crash Right count strSh)
open mp (Mp Turned kget kput kwithout KSorted)
variable {O : List (Value × List Bs)}

theorem keep1_inv {j : Nat} {d : Dk} (h : Inv j d) (ks : List Bs) (q : Bs) (n : Nat) : Inv (j + 1) (keep1 ks q n d).2.2 := by
  have h1 := dk.inv_turn h ⟨3, vname q, []⟩ (by show 0 ≤ _; omega)
  unfold keep1
  split
  · exact h.mono (by omega)
  · split
    · exact h1
    · exact h1
theorem keep1_le (ks : List Bs) (q : Bs) (n : Nat) (d : Dk) : (keep1 ks q n d).2.1 ≤ n + 1 := by
  unfold keep1
  split
  · exact Nat.le_succ n
  · split
    · exact Nat.le_succ n
    · exact Nat.le_refl _
/-- Keep's round: behind k names nothing was refused. -/
structure RK (O : List (Value × List Bs)) (w0 wr : World) (vb p m kb xb nb : Nat) (kl : List (Bs × Value)) (ks : List Bs) (B : Nat) (nv : Value) (ns : List Bs) (d0 : Dk) (j k : Nat) (n : Nat) (d : Dk) : Prop where
  t : Kt O w0 wr vb p m kb xb nb kl d n
  o : Own strSh wr B nv ns
  e : keepL ks (digs ns k) 0 d0 = (n, 0, d)
  i : Inv (j + k) d
  l : n ≤ k
set_option maxHeartbeats 8000000 in
set_option maxRecDepth 100000 in
theorem eachK_call {w0 w : World} {vb p m kb xb nb j : Nat} {kl : List (Bs × Value)} {d : Dk} (ks : List Bs) (hj : j ≤ 700) (hs : d.seen.length ≤ 100) (hd : Inv j d) (hk : KS kl ks) (hK : Kt O w0 w vb p m kb xb nb kl d 0) :
    Calls Tryd.prog 30 #[.pointer (some ⟨vb, 0, none⟩), .func (.func 31) #[] #[.pointer (some ⟨kb, 0, none⟩), .pointer (some ⟨xb, 0, none⟩), .pointer (some ⟨nb, 0, none⟩)]] w fun e w' => e = .returned (.int .i64 ((keepL ks (allV d.seen) 0 d).2.1 : Nat)) ∧ Kt O w0 w' vb p m kb xb nb kl (keepL ks (allV d.seen) 0 d).2.2 (keepL ks (allV d.seen) 0 d).1 := by
  have hrm := hd.rm (by omega)
  have hN := hK.vt.tell fun F hp => dk.names_any F p d (Nat.le_trans hrm.s (by decide)) (fun f hf => (hrm.r.named f hf).2) w hp
  have hns : ∀ n ∈ d.seen.map (·.1), n.length ≤ 80 := fun n hn => by
    obtain ⟨f, hf, rfl⟩ := List.mem_map.1 hn
    exact (hrm.r.named f hf).2
  have hnl : (d.seen.map (·.1)).length ≤ 100 := by rw [List.length_map]; exact hs
  have HD := Lib.hid (digs_all d.seen)
  generalize allV d.seen = av at *
  generalize d.seen.map (·.1) = ns at *
  have c0 : w.cell? ⟨vb, 0, none⟩ = some (.pointer (some ⟨p, 0, none⟩)) := hK.a.cell rfl
  have HK := Lib.hid (And.intro hK hd)
  have HNS := Lib.hid hns
  have HS := Lib.hid hk
  clear hd hrm hK hns hk hs
  obtain ⟨Z, hZ⟩ : ∃ Z, keepL ks av 0 d = Z := ⟨_, rfl⟩
  have HZ := Lib.hid hZ
  rw [hZ]
  clear hZ
  go_enter Tryd.func30, Tryd.ntmps30
  go_wp2_with fail
  refine hN.mono ?_
  clear hN c0
  rintro e w1 ⟨nv, rfl, on, b1⟩
  have R0 : Hid (RK O w0 w1 vb p m kb xb nb kl ks w.heap.size nv ns d j 0 0 d) := ⟨HK.out.1.below b1, on, rfl, HK.out.2, Nat.le_refl _⟩
  obtain ⟨na, nc, rfl⟩ : ∃ a c, nv = .slice a ns.length c := on.form
  clear on b1 HK
  go_wp2_with fail
  go_loopw [18] (fun i wr => ∃ k : Nat, i = .int .i64 (k : Nat) ∧ k ≤ ns.length ∧ Hid (∃ n d', RK O w0 wr vb p m kb xb nb kl ks w.heap.size (.slice na ns.length nc) ns d j k n d'))
    (fun i _ => ns.length - (intOf i).toNat)
  case atStart => exact ⟨0, rfl, Nat.zero_le _, _, _, R0.out⟩
  case round =>
  obtain ⟨k, rfl, hk, HI⟩ := hrel
  obtain ⟨n, d', HI⟩ := HI.out
  replace HI := Lib.hid HI
  by_cases hlt : k < ns.length
  · have hki : (k : Int) < (ns.length : Int) := by omega
    obtain ⟨b, off, c, e, hc⟩ := texts_at HI.out.o.sl hlt
    injection e with e1 e2 e3
    subst e1 e3
    have hds := digs_succ ns k hlt
    have HRest : Hid (∀ q, fileDig (ns[k]'hlt) = some q → ∃ rest, av = digs ns k ++ q :: rest) := fun q hq => by
      rw [← HD.out]
      refine ⟨(ns.drop (k + 1)).filterMap fileDig, ?_⟩
      unfold digs
      rw [List.take_length]
      conv => lhs; rw [← List.take_append_drop k ns, List.drop_eq_getElem_cons hlt]
      rw [List.filterMap_append, List.filterMap_cons, hq]
    have hnk := HNS.out _ (List.getElem_mem hlt)
    generalize ns[k]'hlt = nm at *
    have hF := dig_call nm (by omega) wr
    cases hfd : fileDig nm with
    | none =>
      rw [hfd] at hF hds
      simp only [Option.getD_none, Option.isSome_none, Option.toList_none, List.append_nil] at hF hds
      have HE : Hid (∀ W, Below wr.heap.size wr W → ∃ n d', RK O w0 W vb p m kb xb nb kl ks w.heap.size (.slice (some ⟨b, off, none⟩) ns.length nc) ns d j (k + 1) n d') := fun W kb => by
        obtain ⟨h1, h2, h3, h4, h5⟩ := HI.out
        exact ⟨n, d', h1.below kb, h2.below strSh kb, by rw [hds]; exact h3, h4.mono (by omega), by omega⟩
      clear HI hds hfd e2 HRest
      go_wp2_with fail
      refine hF.mono ?_
      clear hF hc
      rintro e w2 ⟨rfl, b2⟩
      have HE2 := Lib.hid (HE.out w2 b2)
      clear b2 HE
      go_wp2_with fail
      exact ⟨⟨k + 1, by rw [Int.natCast_add]; rfl, by omega, HE2⟩, by simp only [intOf]; omega⟩
    | some h =>
      rw [hfd] at hF hds
      simp only [Option.getD_some, Option.isSome_some, Option.toList_some] at hF hds
      obtain ⟨hnm, hhl⟩ := fileDig_some hfd
      obtain ⟨X, hX⟩ : ∃ X, keep1 ks h n d' = X := ⟨_, rfl⟩
      have HE : Hid (∀ W, Below wr.heap.size wr W → Calls Tryd.prog 31 #[.string (S h), .pointer (some ⟨kb, 0, none⟩), .pointer (some ⟨xb, 0, none⟩), .pointer (some ⟨nb, 0, none⟩)] W fun e w' => e = .returned (.int .i64 (X.1 : Nat)) ∧
          (X.1 = 0 → ∃ n d', RK O w0 w' vb p m kb xb nb kl ks w.heap.size (.slice (some ⟨b, off, none⟩) ns.length nc) ns d j (k + 1) n d') ∧ (X.1 ≠ 0 → (X.1 = Z.2.1 ∧ Kt O w0 w' vb p m kb xb nb kl Z.2.2 Z.1))) := fun W kw => by
        obtain ⟨h1, h2, h3, h4, h5⟩ := HI.out
        have hin := keep1_inv h4 ks h n
        have hle := keep1_le ks h n d'
        refine (keep1_call ks h hhl (by omega) (h4.mono (by omega)) HS.out (h1.below kw)).mono ?_
        rintro e w' ⟨rfl, g1, g2⟩
        rw [hX] at g1 hin hle ⊢
        refine ⟨rfl, fun h0 => ⟨X.2.1, X.2.2, g1, g2 _ _ _ (h2.below strSh kw), ?_, hin, by omega⟩, fun h0 => ?_⟩
        · rw [hds, keepL_append, h3, if_neg (by simp), keepL_one, hX, if_neg (by omega)]
          rfl
        · obtain ⟨rest, hr⟩ := HRest.out h hfd
          have hz := HZ.out
          rw [hr, keepL_append, h3, if_neg (by simp), keepL_one, hX, if_pos h0] at hz
          rw [← hz]
          exact ⟨rfl, g1⟩
      clear HI hds hfd e2 HRest hX hnm hhl
      go_wp2_with fail
      refine hF.mono ?_
      clear hF hc
      rintro e w2 ⟨rfl, b2⟩
      have hE := HE.out w2 b2
      clear b2 HE
      obtain ⟨xe, xn, xd⟩ := X
      simp only at hE
      go_wp2_with fail
      refine hE.mono ?_
      clear hE
      rintro e w3 ⟨rfl, r3, r4⟩
      by_cases h0 : xe = 0
      · subst h0
        have HE2 := Lib.hid (r3 rfl)
        clear r3 r4
        go_wp2_with fail
        exact ⟨⟨k + 1, by rw [Int.natCast_add]; rfl, by omega, HE2⟩, by simp only [intOf]; omega⟩
      · have h0i : ¬ (xe : Int) = 0 := by omega
        have HE2 := Lib.hid (r4 h0)
        clear r3 r4
        go_wp2_with fail
        go_ret
        exact ⟨by rw [← HE2.out.1]; rfl, HE2.out.2⟩
  obtain rfl : k = ns.length := by omega
  have hki : ¬ (ns.length : Int) < (ns.length : Int) := by omega
  have HE : Hid (Z.2.1 = 0 ∧ Kt O w0 wr vb p m kb xb nb kl Z.2.2 Z.1) := by
    obtain ⟨h1, h2, h3, h4, h5⟩ := HI.out
    rw [HD.out, HZ.out] at h3
    rw [h3]
    exact ⟨rfl, h1⟩
  clear HI R0
  go_wp2_with fail
  go_ret
  exact ⟨by rw [HE.out.1]; rfl, HE.out.2⟩
theorem keepL_inv {ks : List Bs} : ∀ (l : List Bs) {j n : Nat} {d : Dk}, Inv j d → Inv (j + l.length) (keepL ks l n d).2.2
  | [], j, n, d, h => h
  | q :: r, j, n, d, h => by
    rw [keepL_one]
    have h1 := keep1_inv h ks q n
    split
    · exact h1.mono (by simp)
    · exact (keepL_inv r h1).mono (by simp; omega)
theorem allV_len (l : List File) : (allV l).length ≤ l.length := List.length_filterMap_le _ _
theorem keepV_inv {ks : List Bs} {j : Nat} {d : Dk} (h : Inv j d) (hs : d.seen.length ≤ 100) : Inv (j + 101) (keepV d ks).2.2 := by
  have h1 := keepL_inv (ks := ks) (allV d.seen) (n := 0) h
  have h2 := allV_len d.seen
  unfold keepV
  split
  · exact (dk.inv_sync h1).mono (by omega)
  · exact h1.mono (by omega)
/-- The vault and the map, ahead of the counter. -/
structure KL (O : List (Value × List Bs)) (w0 w W : World) (vb p m kb xb : Nat) (kl : List (Bs × Value)) (d : Dk) (v : Value) (ks : List Bs) : Prop where
  d : ∃ F, PD W F p d ∧ (∀ k, F k → w0.heap.size ≤ k) ∧ ¬ F m
  b : Below w0.heap.size w0 W
  a : Arr W vb 56 #[.pointer (some ⟨p, 0, none⟩)]
  g : w0.heap.size ≤ vb
  k : dg.Keys w0
  mm : Mp W m kl
  ka : Arr W kb 62 #[.map (some m)]
  xa : Arr W xb 31 #[.pointer (some ⟨vb, 0, none⟩)]
  mg : w0.heap.size ≤ m
  of : rw.Off m v ks
  r : rw.Sl strSh W v ks
  o : ∀ x ∈ O, Own strSh W w0.heap.size x.1 x.2
section
variable {w0 w W W' : World} {vb p m kb xb nb : Nat} {kl kl' : List (Bs × Value)} {d d' : Dk} {n : Nat} {v : Value} {ks : List Bs}
theorem KL.turned (h : KL O w0 w W vb p m kb xb kl d v ks) (hm : Mp W' m kl') (t : Turned m W W') : KL O w0 w W' vb p m kb xb kl' d v ks := by
  have kb2 : But m W W' := ⟨t.os, t.tape, t.output, Nat.le_of_eq t.size.symm, fun k _ hk => t.block k hk⟩
  obtain ⟨F, h1, h2, h3⟩ := h.d
  have ne : ∀ {b : Nat} {t : TypeId} {cs : Array Value}, Arr W b t cs → b ≠ m := fun {b t cs} ha e => by
    obtain ⟨es, c, hb⟩ := h.mm.block
    unfold Arr at ha
    rw [e, hb] at ha
    cases ha
  refine ⟨⟨F, h1.fr (Fr.but kb2 (F := fun i => i = m) rfl) (fun i hi e => h3 (e ▸ hi)) (fun i e s hs => ?_), h2, h3⟩, h.b.trans (kb2.below h.b.size h.mg), kb2.arr h.a (ne h.a), h.g, h.k, hm, kb2.arr h.ka (ne h.ka), kb2.arr h.xa (ne h.xa), h.mg, h.of, rw.Sl.but strSh h.r kb2 h.of, fun x hx => own_of (h.o x hx) fun q hq => kb2.block q (own_lt (h.o x hx) hq) fun e => by
    obtain ⟨cs, hc⟩ := own_typed (h.o x hx) hq
    exact ne hc e⟩
  exact ne hs e
theorem KL.count (h : KL O w0 w W vb p m kb xb kl d v ks) : Kt O w0 (W.alloc (.cells #[.int .i64 0] 3)) vb p m kb xb W.heap.size kl d 0 := by
  have k := below_box W (.cells #[.int .i64 0] 3)
  obtain ⟨F, h1, h2, h3⟩ := h.d
  exact ⟨⟨F, h1.below k, h2, h3⟩, h.b.trans (k.mono h.b.size), h.a.below k, h.g, h.k, h.mm.of (k.block m h.mm.lt), h.ka.below k, h.xa.below k, Arr.new W _ _, h.b.size, fun x hx => (h.o x hx).below strSh k⟩
end
set_option maxHeartbeats 8000000 in
set_option maxRecDepth 100000 in
theorem keep_call {w0 w : World} {vb p j : Nat} {d : Dk} (v : Value) (ks : List Bs) (hkl : ks.length ≤ 1000) (hku : ∀ k ∈ ks, k.length ≤ 1000) (hj : j ≤ 700) (hs : d.seen.length ≤ 100) (hd : Inv j d) (hV : Vo O w0 w vb p d) (hv : rw.Sl strSh w v ks) :
    Calls Tryd.prog 14 #[.pointer (some ⟨vb, 0, none⟩), v] w fun e w' => e = .returned (.tuple #[.int .i64 ((keepV d ks).1 : Nat), .int .i64 ((keepV d ks).2.1 : Nat)]) ∧ Vo O w0 w' vb p (keepV d ks).2.2 := by
  obtain ⟨va, vc, rfl⟩ : ∃ a c, v = .slice a ks.length c := by obtain ⟨a, c, e, _⟩ := hv; exact ⟨a, c, e⟩
  obtain ⟨Z, hZ⟩ : ∃ Z, keepV d ks = Z := ⟨_, rfl⟩
  rw [hZ]
  unfold keepV at hZ
  have hIL := keepL_inv (ks := ks) (allV d.seen) (n := 0) hd
  have hAL := allV_len d.seen
  have L3 : Hid (KL O w0 w (((w.alloc (.cells #[.pointer (some ⟨vb, 0, none⟩)] 31)).alloc (.map #[] 0)).alloc (.cells #[.map (some (w.heap.size + 1))] 62)) vb p (w.heap.size + 1) (w.heap.size + 2) w.heap.size [] d (.slice va ks.length vc) ks) := by
    have k1 := below_box w (.cells #[.pointer (some ⟨vb, 0, none⟩)] 31)
    have a1 := Arr.new w 31 #[.pointer (some ⟨vb, 0, none⟩)]
    have s1 : (w.alloc (.cells #[.pointer (some ⟨vb, 0, none⟩)] 31)).heap.size = w.heap.size + 1 := by simp
    generalize w.alloc (.cells #[.pointer (some ⟨vb, 0, none⟩)] 31) = w1 at *
    have k2 := below_box w1 (.map #[] 0)
    have m2 := Mp.made w1
    have s2 : (w1.alloc (.map #[] 0)).heap.size = w1.heap.size + 1 := by simp
    rw [s1] at m2
    generalize w1.alloc (.map #[] 0) = w2 at *
    have k3 := below_box w2 (.cells #[.map (some (w.heap.size + 1))] 62)
    have a3 := Arr.new w2 62 #[.map (some (w.heap.size + 1))]
    rw [show w2.heap.size = w.heap.size + 2 by omega] at a3
    have kk : Below w.heap.size w (w2.alloc (.cells #[.map (some (w.heap.size + 1))] 62)) := (k1.trans (k2.mono k1.size)).trans (k3.mono (Nat.le_trans k1.size k2.size))
    obtain ⟨F, h1, h2, h3⟩ := hV.l
    have hw := h3.size
    exact ⟨⟨F, h1.below kk, h2, fun hF => by have := h1.lt hF; omega⟩, h3.trans (kk.mono h3.size), hV.a.below kk, hV.g, hV.k, m2.of (k3.block _ m2.lt), a3, ((a1.below k2).below k3), by omega, rw.Off.new strSh hv (by omega), rw.Sl.later strSh hv kk, fun x hx => (hV.o x hx).below strSh kk⟩
  have HI := Lib.hid (And.intro hku (And.intro hd (And.intro hIL hAL)))
  have HZ := Lib.hid hZ
  clear hV hd hv hku hIL hAL hZ
  obtain ⟨xb, hxb⟩ : ∃ xb, w.heap.size = xb := ⟨_, rfl⟩
  rw [hxb] at L3
  change Hid (KL O w0 w (((w.alloc (.cells #[.pointer (some ⟨vb, 0, none⟩)] 31)).alloc (.map #[] 0)).alloc (.cells #[.map (some (xb + 1))] 62)) vb p (xb + 1) (xb + 1 + 1) xb [] d (.slice va ks.length vc) ks) at L3
  have hmm := @run_makeMap Tryd.prog
  go_enter Tryd.func14, Tryd.ntmps14
  go_upto_region 2 with (fail)
  clear hmm hxb
  generalize ((w.alloc (.cells #[.pointer (some ⟨vb, 0, none⟩)] 31)).alloc (.map #[] 0)).alloc (.cells #[.map (some (xb + 1))] 62) = w3 at *
  generalize xb + 1 + 1 = kb at *
  generalize xb + 1 = m at *
  go_wp2_with fail
  go_loopw [14] (fun i wr => ∃ k : Nat, i = .int .i64 (k : Nat) ∧ k ≤ ks.length ∧ Hid (∃ kl, KL O w0 w wr vb p m kb xb kl d (.slice va ks.length vc) ks ∧ KS kl (ks.take k)))
    (fun i _ => ks.length - (intOf i).toNat)
  case atStart => exact ⟨0, rfl, Nat.zero_le _, [], L3.out, KS.nil⟩
  case round =>
  obtain ⟨k, rfl, hk, HI2⟩ := hrel
  obtain ⟨kl, HI2⟩ := HI2.out
  replace HI2 := Lib.hid HI2
  by_cases hlt : k < ks.length
  · have hki : (k : Int) < (ks.length : Int) := by omega
    obtain ⟨b, off, c, e, hc⟩ := texts_at HI2.out.1.r hlt
    injection e with e1 e2 e3
    subst e1 e3
    have hku := HI.out.1 _ (List.getElem_mem hlt)
    have htk : ks.take (k + 1) = ks.take k ++ [ks[k]'hlt] := List.take_succ_eq_append_getElem hlt
    generalize ks[k]'hlt = q at *
    have c1 : wr.cell? ⟨kb, 0, none⟩ = some (.map (some m)) := HI2.out.1.ka.cell rfl
    obtain ⟨w4, hup, hm4, ht⟩ := HI2.out.1.mm.store und_m q (by unfold maxLen; omega) (by have := HI2.out.2.n; rw [List.length_take] at this; unfold maxLen; omega) (.agg #[])
    have HE : Hid (∃ kl, KL O w0 w w4 vb p m kb xb kl d (.slice (some ⟨b, off, none⟩) ks.length vc) ks ∧ KS kl (ks.take (k + 1))) := ⟨_, HI2.out.1.turned hm4 ht, by rw [htk]; exact HI2.out.2.put HI2.out.1.mm.2 q⟩
    have HU := Lib.hid hup
    clear HI2 hm4 ht hup htk e2
    go_wp2_with (first | (refine dk.wpList_update_at _ _ _ _ rfl rfl _ _ _ _ rfl rfl rfl HU.out ?_) | fail)
    exact ⟨⟨k + 1, by rw [Int.natCast_add]; rfl, by omega, HE⟩, by simp only [intOf]; omega⟩
  obtain rfl : k = ks.length := by omega
  have hki : ¬ (ks.length : Int) < (ks.length : Int) := by omega
  have hKS := HI2.out.2
  rw [List.take_length] at hKS
  have HT := Lib.hid HI2.out.1.count
  have hE := eachK_call ks hj hs HI.out.2.1 hKS HT.out
  have HI3 : Hid (Inv 900 (keepL ks (allV d.seen) 0 d).2.2) := HI.out.2.2.1.mono (by have := HI.out.2.2.2; omega)
  have c1 : (wr.alloc (.cells #[.int .i64 0] 3)).cell? ⟨xb, 0, none⟩ = some (.pointer (some ⟨vb, 0, none⟩)) := HT.out.xa.cell rfl
  have HZ2 := HZ
  generalize keepL ks (allV d.seen) 0 d = X at *
  obtain ⟨xn, xe, xd⟩ := X
  simp only at hE HI3 HZ2
  clear HI2 hKS HT HZ HI L3
  obtain ⟨nb, hnb⟩ : ∃ nb, wr.heap.size = nb := ⟨_, rfl⟩
  rw [hnb] at hE
  go_wp2_with fail
  refine hE.mono ?_
  clear hE c1
  rintro e w5 ⟨rfl, t5⟩
  have T5 := Lib.hid t5
  have c2 : w5.cell? ⟨nb, 0, none⟩ = some (.int .i64 (xn : Nat)) := t5.na.cell rfl
  have c3 : w5.cell? ⟨xb, 0, none⟩ = some (.pointer (some ⟨vb, 0, none⟩)) := t5.xa.cell rfl
  have c4 : w5.cell? ⟨vb, 0, none⟩ = some (.pointer (some ⟨p, 0, none⟩)) := t5.a.cell rfl
  clear t5
  by_cases h1 : xe = 0
  · subst h1
    by_cases h2 : 0 < xn
    · have h2i : (xn : Int) > 0 := by omega
      have HZ3 := HZ2.out
      rw [if_pos ⟨rfl, h2⟩] at HZ3
      have HZ4 := Lib.hid HZ3
      have hS : Calls Tryd.prog 26 #[.pointer (some ⟨p, 0, none⟩)] w5 fun e w' => e = .returned (.int .i64 ((sync xd).1 : Nat)) ∧ (∃ kl, Kt O w0 w' vb p m kb xb nb kl (sync xd).2 xn) := by
        obtain ⟨F, f1, f2, f3⟩ := T5.out.d
        have hr := (HI3.out.mono (by decide : 900 ≤ 990)).rm (by decide)
        refine (dk.psync_any F p xd hr.r (Nat.le_trans hr.l (by decide)) (Nat.le_trans hr.p (by decide)) w5 f1).mono ?_
        rintro e w' ⟨rfl, s⟩
        exact ⟨rfl, kl, (T5.out.step f1 f2 f3 s).1⟩
      clear HZ2 HZ3 T5
      generalize sync xd = Y at *
      obtain ⟨ye, yd⟩ := Y
      simp only at hS HZ4
      go_wp2_with fail
      refine hS.mono ?_
      clear hS c2 c3 c4
      rintro e w6 ⟨rfl, kl6, t6⟩
      have T6 := Lib.hid t6
      have c2 : w6.cell? ⟨nb, 0, none⟩ = some (.int .i64 (xn : Nat)) := t6.na.cell rfl
      clear t6
      go_wp2_with fail
      go_ret2
      rw [← HZ4.out]
      exact ⟨rfl, T6.out.vt⟩
    · have h2i : ¬ (xn : Int) > 0 := by omega
      have HZ3 := HZ2.out
      rw [if_neg (fun h => h2 h.2)] at HZ3
      have HZ4 := Lib.hid HZ3
      clear HZ2 HZ3
      go_wp2_with fail
      go_ret2
      rw [← HZ4.out]
      exact ⟨rfl, T5.out.vt⟩
  · have h1i : ¬ (xe : Int) = 0 := by omega
    have HZ3 := HZ2.out
    rw [if_neg (fun h => h1 h.1)] at HZ3
    have HZ4 := Lib.hid HZ3
    clear HZ2 HZ3
    go_wp2_with fail
    go_ret2
    rw [← HZ4.out]
    exact ⟨rfl, T5.out.vt⟩
end Go.Proofs.YtpimdbnhpbjlkaaDoor.vt
/-! VtL4 -/
namespace Go.Proofs.YtpimdbnhpbjlkaaDoor.vt
set_option linter.unusedVariables false
open dk (Bs File Dk turn sync read fuse crash Right Sorted count get used without Inv)

theorem allV_without {l : List File} (h : Bs) : allV (without l (vname h)) = (allV l).filter (fun g => decide (g ≠ h)) := by
  unfold allV without
  rw [List.filterMap_filter, List.filter_filterMap]
  congr 1
  funext f
  by_cases e : f.1 = vname h
  · rw [if_neg (by simp [e])]
    cases hd : fileDig f.1 with
    | none => rfl
    | some g =>
      have hg : g = h := vname_inj ((fileDig_some hd).1.symm.trans e)
      simp [hg, Option.filter]
  · rw [if_pos (by simp [e])]
    cases hd : fileDig f.1 with
    | none => rfl
    | some g =>
      have hg : g ≠ h := fun e2 => e ((fileDig_some hd).1.trans (by rw [e2]))
      simp [Option.filter, hg]
theorem allV_nodup {l : List File} (h : Sorted l) : (allV l).Nodup := by
  unfold allV
  rw [List.Nodup, List.pairwise_filterMap]
  refine h.imp fun {a b} hab x hx y hy e => ?_
  subst e
  have h1 := (fileDig_some hx).1
  have h2 := (fileDig_some hy).1
  rw [h1, h2] at hab
  exact dk.lt_irr _ hab
theorem keepL_run (ks : List Bs) : ∀ (l : List Bs) (n : Nat) (d : Dk), Right d → d.fused = false → l.Nodup → (∀ h ∈ l, h ∈ allV d.seen) →
    ∃ d', keepL ks l n d = (n + (l.filter (fun h => decide (h ∉ ks))).length, 0, d') ∧ Right d' ∧ d'.fused = false ∧ d'.cap = d.cap ∧ allV d'.seen = (allV d.seen).filter (fun g => decide (¬ (g ∈ l ∧ g ∉ ks))) ∧ ∀ m, (∀ h ∈ l, h ∉ ks → m ≠ vname h) → get d'.seen m = get d.seen m
  | [], n, d, hd, hf, _, _ => ⟨d, rfl, hd, hf, rfl, (List.filter_eq_self.2 fun _ _ => by simp).symm, fun m _ => rfl⟩
  | h :: r, n, d, hd, hf, hn, ha => by
    obtain ⟨hn1, hn2⟩ := List.pairwise_cons.1 hn
    rw [keepL]
    by_cases hk : h ∈ ks
    · rw [if_pos hk]
      obtain ⟨d', e1, e2, e3, e4, e5, e6⟩ := keepL_run ks r n d hd hf hn2 (fun x hx => ha x (List.mem_cons_of_mem _ hx))
      refine ⟨d', ?_, e2, e3, e4, ?_, fun m hm => e6 m fun x hx => hm x (List.mem_cons_of_mem _ hx)⟩
      · rw [e1, List.filter_cons_of_neg (by simpa using hk)]
      · rw [e5]
        refine List.filter_congr fun g hg => ?_
        rw [decide_eq_decide]
        constructor
        · rintro h1 ⟨h2, h3⟩
          rcases List.mem_cons.1 h2 with rfl | h2
          · exact h3 hk
          · exact h1 ⟨h2, h3⟩
        · rintro h1 ⟨h2, h3⟩
          exact h1 ⟨List.mem_cons_of_mem _ h2, h3⟩
    · rw [if_neg hk]
      obtain ⟨hl, s, hs⟩ := allV_mem.1 (ha h List.mem_cons_self)
      have hg := dk.get_of_mem hd.sorted hs
      have ht := turn_drop hd (off_no hf) (vname_named hl) hg
      rw [spend_no (d := { d with seen := without d.seen (vname h), pend := d.pend ++ [⟨3, vname h, []⟩] }) hf] at ht
      have hd1 : Right { d with seen := without d.seen (vname h), pend := d.pend ++ [⟨3, vname h, []⟩] } := by
        have := dk.turn_right hd ⟨3, vname h, []⟩
        rw [ht] at this
        exact this
      rw [ht]
      simp only
      rw [if_neg (by decide)]
      have hal : allV (without d.seen (vname h)) = (allV d.seen).filter (fun g => decide (g ≠ h)) := allV_without h
      obtain ⟨d', e1, e2, e3, e4, e5, e6⟩ := keepL_run ks r (n + 1) { d with seen := without d.seen (vname h), pend := d.pend ++ [⟨3, vname h, []⟩] } hd1 hf hn2 (fun x hx => by
        show x ∈ allV (without d.seen (vname h))
        rw [hal, List.mem_filter]
        exact ⟨ha x (List.mem_cons_of_mem _ hx), by simpa using fun e => hn1 x hx e.symm⟩)
      refine ⟨d', ?_, e2, e3, e4, ?_, fun m hm => ?_⟩
      · rw [e1, List.filter_cons_of_pos (by simpa using hk), List.length_cons]
        congr 1
        omega
      · rw [e5]
        show (allV (without d.seen (vname h))).filter _ = _
        rw [hal, List.filter_filter]
        refine List.filter_congr fun g hg => ?_
        rw [← Bool.decide_and, decide_eq_decide]
        constructor
        · rintro ⟨h1, h2⟩ ⟨h3, h4⟩
          rcases List.mem_cons.1 h3 with rfl | h3
          · exact h2 rfl
          · exact h1 ⟨h3, h4⟩
        · intro h1
          exact ⟨fun ⟨h3, h4⟩ => h1 ⟨List.mem_cons_of_mem _ h3, h4⟩, fun e => h1 ⟨e ▸ List.mem_cons_self, e ▸ hk⟩⟩
      · rw [e6 m fun x hx => hm x (List.mem_cons_of_mem _ hx)]
        exact dk.get_without_other hd.sorted (hm h List.mem_cons_self hk)
/-- What Keep makes. -/
structure Kept (d d' : Dk) (ks : List Bs) : Prop where
  r : Right d'
  f : d'.fused = false
  a : allV d'.seen = (allV d.seen).filter (fun g => decide (g ∈ ks))
  s : ∀ m, (∀ h, h ∉ ks → m ≠ vname h) → get d'.seen m = get d.seen m
theorem keepV_run {d : Dk} (hd : Right d) (hf : d.fused = false) (ks : List Bs) : ∃ d', keepV d ks = (((allV d.seen).filter (fun h => decide (h ∉ ks))).length, 0, d') ∧ Kept d d' ks := by
  obtain ⟨d1, e1, e2, e3, e4, e5, e6⟩ := keepL_run ks (allV d.seen) 0 d hd hf (allV_nodup hd.sorted) (fun h hh => hh)
  rw [Nat.zero_add] at e1
  have ha : allV d1.seen = (allV d.seen).filter (fun g => decide (g ∈ ks)) := by
    rw [e5]
    refine List.filter_congr fun g hg => ?_
    rw [decide_eq_decide]
    exact ⟨fun h => Decidable.not_not.1 fun hk => h ⟨hg, hk⟩, fun h h2 => h2.2 h⟩
  have hs : ∀ m, (∀ h, h ∉ ks → m ≠ vname h) → get d1.seen m = get d.seen m := fun m hm => e6 m fun h _ hk => hm h hk
  unfold keepV
  rw [e1]
  simp only
  split
  · rw [sync_no e3]
    exact ⟨_, rfl, by have := dk.sync_right e2; rw [sync_no e3] at this; exact this, e3, ha, hs⟩
  · exact ⟨d1, rfl, e2, e3, ha, hs⟩
theorem split_len (l ks : List Bs) : (l.filter (fun g => decide (g ∈ ks))).length + (l.filter (fun h => decide (h ∉ ks))).length = l.length := by
  induction l with
  | nil => rfl
  | cons a r ih =>
    by_cases h : a ∈ ks
    · rw [List.filter_cons_of_pos (by simpa using h), List.filter_cons_of_neg (by simpa using h), List.length_cons, List.length_cons]; omega
    · rw [List.filter_cons_of_neg (by simpa using h), List.filter_cons_of_pos (by simpa using h), List.length_cons, List.length_cons]; omega
/-- Whether a body is there behind a Keep. -/
theorem kept_has {d d' : Dk} (hd : Right d) {ks : List Bs} (hk : Kept d d' ks) {b : Bs} (hg : get d.seen (vname (dg.sum b)) = some b) : (getV d' (dg.sum b)).2 = 0 ↔ dg.sum b ∈ ks := by
  by_cases hm : dg.sum b ∈ ks
  · have h1 := hk.s (vname (dg.sum b)) (fun h hh e => hh (vname_inj e ▸ hm))
    rw [hg] at h1
    rw [getV_some (off_no hk.f) h1]
    exact ⟨fun _ => hm, fun _ => rfl⟩
  · have h1 : get d'.seen (vname (dg.sum b)) = none := by
      cases hgg : get d'.seen (vname (dg.sum b)) with
      | none => rfl
      | some t =>
        exfalso
        have h2 : dg.sum b ∈ allV d'.seen := allV_mem.2 ⟨dg.sum_length b, t, dk.get_some hgg⟩
        rw [hk.a, List.mem_filter] at h2
        exact hm (of_decide_eq_true h2.2)
    constructor
    · intro h
      exfalso
      unfold getV at h
      rw [rd_none (off_no hk.f) h1, if_neg (by rw [dg.sum_length]; decide), if_pos (by decide)] at h
      exact absurd h (by decide)
    · exact fun h => absurd h hm

/-! ### Puts, one behind the other, on a disk with room and power -/
/-- Behind the first k bodies. -/
structure Pb (base : Nat) (d0 : Dk) (bs : List Bs) (k : Nat) (d : Dk) : Prop where
  i : Inv (base + 2 * k) d
  f : d.fused = false
  c : d.cap = 262144
  g : ∀ b ∈ bs.take k, get d.seen (vname (dg.sum b)) = some b
  o : ∀ m, (∀ b ∈ bs.take k, m ≠ vname (dg.sum b)) → get d.seen m = get d0.seen m
  u : used d.seen ≤ used d0.seen + lens (bs.take k)
  s : d.seen.length ≤ d0.seen.length + k
theorem lens_take (l : List Bs) (k : Nat) (h : k < l.length) : lens (l.take (k + 1)) = lens (l.take k) + (l[k]'h).length := by
  unfold lens
  rw [List.take_succ_eq_append_getElem h, List.map_append, List.sum_append]
  simp
theorem lens_take_le (l : List Bs) (k : Nat) : lens (l.take k) ≤ lens l := by
  unfold lens
  conv => rhs; rw [← List.take_append_drop k l, List.map_append, List.sum_append]
  omega
theorem put_length (l : List File) (f : File) : (dk.put l f).length ≤ l.length + 1 := by
  have h1 := mp.kput_length l f
  rw [dk.put_k] at h1
  exact h1
theorem Pb.next {base : Nat} {d0 d : Dk} {bs : List Bs} {k : Nat} (h : Pb base d0 bs k d) (hk : k < bs.length) (hl : (bs[k]'hk).length ≤ 4096) (hu : used d0.seen + lens bs ≤ 262144) (hn : NoClash bs) :
    ∃ d', putV d (bs[k]'hk) = (dg.sum (bs[k]'hk), 0, d') ∧ Pb base d0 bs (k + 1) d' := by
  have h1 := lens_take bs k hk
  have h2 := lens_take_le bs (k + 1)
  have hu2 := h.u
  have hc := h.c
  obtain ⟨d', e, hD⟩ := putV_did h.i.r h.f (bs[k]'hk) hl (by omega)
  have hi := putV_inv h.i (bs[k]'hk) (by omega)
  rw [e] at hi
  have hus := hD.used h.i.r
  refine ⟨d', e, hi, hD.f, hD.c.trans h.c, fun b hb => ?_, fun m hm => ?_, by omega, ?_⟩
  · rw [List.take_succ_eq_append_getElem hk] at hb
    rcases List.mem_append.1 hb with hb | hb
    · by_cases e2 : dg.sum b = dg.sum (bs[k]'hk)
      · have := hn b (List.mem_of_mem_take hb) _ (List.getElem_mem hk) e2
        subst this
        exact hD.get h.i.r
      · rw [hD.other h.i.r fun e3 => e2 (vname_inj e3)]
        exact h.g b hb
    · rw [List.mem_singleton.1 hb]
      exact hD.get h.i.r
  · rw [List.take_succ_eq_append_getElem hk] at hm
    rw [hD.other h.i.r (hm _ (List.mem_append.2 (.inr (List.mem_singleton.2 rfl))))]
    exact h.o m fun b hb => hm b (List.mem_append.2 (.inl hb))
  · rcases hD.seen with ⟨rfl, _⟩ | ⟨e2, _⟩
    · have := h.s; omega
    · rw [e2]
      have := put_length d.seen (vname (dg.sum (bs[k]'hk)), bs[k]'hk)
      have := h.s
      omega
end Go.Proofs.YtpimdbnhpbjlkaaDoor.vt
/-! VtL5 -/
namespace Go.Proofs.YtpimdbnhpbjlkaaDoor.vt
set_option linter.unusedVariables false
open Go.RowKit
open fl (S S_size S_append S_inj)
open rw (Arr But below_box bnext below_drew below_drewN Fr Own)
open dk (Bs File Dk PD Step Nu Inv Live turn sync read fuse crash Right count strSh)

set_option maxHeartbeats 4000000 in
set_option maxRecDepth 100000 in
theorem sums_call (v : Value) (l : List Bs) (hl : ∀ s ∈ l, s.length ≤ 1099511627776) (hn : l.length ≤ 1000000) (w : World) (hK : dg.Keys w) (hv : rw.Sl strSh w v l) : Calls Tryd.prog 15 #[v] w fun e w' => ∃ u, e = .returned u ∧ Own strSh w' w.heap.size u (l.map dg.sum) ∧ Below w.heap.size w w' := by
  obtain ⟨va, vc, rfl⟩ : ∃ a c, v = .slice a l.length c := by obtain ⟨a, c, e, _⟩ := hv; exact ⟨a, c, e⟩
  have HV := Lib.hid (And.intro hv hK)
  have HL := Lib.hid hl
  clear hv hK hl
  go_enter Tryd.func15, Tryd.ntmps15
  go_wp2_with fail
  go_loopw [3, 4] (fun u i wr => ∃ k : Nat, i = .int .i64 (k : Nat) ∧ k ≤ l.length ∧ (∃ a n c, u = .slice a n c) ∧ Hid (Own strSh wr w.heap.size u ((l.take k).map dg.sum) ∧ Below w.heap.size w wr))
    (fun _ i _ => l.length - (intOf i).toNat)
  case atStart => exact ⟨0, rfl, Nat.zero_le _, ⟨_, _, _, rfl⟩, rw.Own.nil strSh w w.heap.size, Below.refl _ _⟩
  case round =>
  obtain ⟨k, rfl, hk, ⟨ua, un, uc, rfl⟩, HI⟩ := hrel
  by_cases hlt : k < l.length
  · have hki : (k : Int) < (l.length : Int) := by omega
    obtain ⟨b, off, c, e, hc⟩ := texts_at (rw.Sl.later strSh HV.out.1 HI.out.2) hlt
    injection e with e1 e2 e3
    subst e1 e3
    have hs := HL.out _ (List.getElem_mem hlt)
    have htk : l.take (k + 1) = l.take k ++ [l[k]'hlt] := List.take_succ_eq_append_getElem hlt
    generalize l[k]'hlt = x at *
    have hS := sum_call x (by omega) wr (HV.out.2.below HI.out.2 HV.out.2.pos)
    have HT : Hid ((l.take (k + 1)).map dg.sum = (l.take k).map dg.sum ++ [dg.sum x]) := Lib.hid (by rw [htk, List.map_append]; rfl)
    generalize dg.sum x = y at *
    clear htk e2
    go_wp2_with fail
    refine hS.mono ?_
    clear hS hc
    rintro e w2 ⟨rfl, b2⟩
    obtain ⟨u', w3, g3, o3, b3⟩ := rw.append_one strSh w.heap.size (.slice ua un uc) _ y (by rw [List.length_map, List.length_take]; omega) w2 (HI.out.1.below strSh b2) (Nat.le_trans HI.out.2.size b2.size)
    have HR := Lib.hid g3
    have HE : Hid (Own strSh w3 w.heap.size u' ((l.take (k + 1)).map dg.sum) ∧ Below w.heap.size w w3) := ⟨by rw [HT.out]; exact o3, (HI.out.2.trans (b2.mono HI.out.2.size)).trans b3⟩
    have hf : ∃ a n c, u' = .slice a n c := by obtain ⟨a, c, e⟩ := o3.form; exact ⟨a, _, c, e⟩
    clear g3 o3 b3 b2 HI HT
    go_wp2_with (at_builtin; refine rw.wpList_append_at _ _ _ rfl rfl _ _ _ _ rfl rfl HR.out ?_)
    exact ⟨⟨k + 1, by rw [Int.natCast_add]; rfl, by omega, hf, HE⟩, by simp only [intOf]; omega⟩
  obtain rfl : k = l.length := by omega
  have hki : ¬ (l.length : Int) < (l.length : Int) := by omega
  have HE : Hid (Own strSh wr w.heap.size (.slice ua un uc) (l.map dg.sum) ∧ Below w.heap.size w wr) := by
    have h := HI.out.1
    rw [List.take_length] at h
    exact ⟨h, HI.out.2⟩
  clear HI
  go_wp2_with fail
  go_ret
  exact ⟨_, rfl, HE.out.1, HE.out.2⟩

/-! ### A vault that is none -/
set_option maxRecDepth 100000 in
theorem put_nilv (s : Bs) (w : World) : Calls Tryd.prog 11 #[.pointer none, .string (S s)] w fun e w' => e = .returned (.tuple #[.string ⟨#[]⟩, .int .i64 1]) ∧ Below w.heap.size w w' := by
  go_enter Tryd.func11, Tryd.ntmps11
  go_wp2_with fail
  go_ret2
  exact ⟨rfl, Below.refl _ _⟩
set_option maxRecDepth 100000 in
theorem get_nilv (s : Bs) (w : World) : Calls Tryd.prog 18 #[.pointer none, .string (S s)] w fun e w' => e = .returned (.tuple #[.string ⟨#[]⟩, .int .i64 1]) ∧ Below w.heap.size w w' := by
  go_enter Tryd.func18, Tryd.ntmps18
  go_wp2_with fail
  go_ret2
  exact ⟨rfl, Below.refl _ _⟩
set_option maxRecDepth 100000 in
theorem has_nilv (s : Bs) (w : World) : Calls Tryd.prog 22 #[.pointer none, .string (S s)] w fun e w' => e = .returned (.bool false) ∧ Below w.heap.size w w' := by
  have hG := get_nilv s w
  go_enter Tryd.func22, Tryd.ntmps22
  go_wp2_with fail
  refine hG.mono ?_
  clear hG
  rintro e w2 ⟨rfl, b2⟩
  have B2 := Lib.hid b2
  clear b2
  go_wp2_with fail
  go_ret
  exact ⟨rfl, B2.out⟩
set_option maxRecDepth 100000 in
theorem each_nilv (f : Value) (w : World) : Calls Tryd.prog 30 #[.pointer none, f] w fun e w' => e = .returned (.int .i64 1) ∧ w' = w := by
  go_enter Tryd.func30, Tryd.ntmps30
  go_wp2_with fail
  go_ret
  exact ⟨rfl, rfl⟩
set_option maxRecDepth 100000 in
theorem all_nilv (w : World) : Calls Tryd.prog 21 #[.pointer none] w fun e w' => e = .returned (.slice none 0 0) ∧ Below w.heap.size w w' := by
  have kb := below_box w (.cells #[.slice none 0 0] 22)
  have c0 : (w.alloc (.cells #[.slice none 0 0] 22)).cell? ⟨w.heap.size, 0, none⟩ = some (.slice none 0 0) := (Arr.new w 22 #[.slice none 0 0]).cell rfl
  have hE := each_nilv (.func (.func 44) #[] #[.pointer (some ⟨w.heap.size, 0, none⟩)]) (w.alloc (.cells #[.slice none 0 0] 22))
  have HK := Lib.hid kb
  clear kb
  go_enter Tryd.func21, Tryd.ntmps21
  go_wp2_with fail
  refine hE.mono ?_
  clear hE
  rintro e w2 ⟨rfl, rfl⟩
  go_wp2_with fail
  go_ret
  exact ⟨rfl, HK.out⟩
set_option maxHeartbeats 4000000 in
set_option maxRecDepth 100000 in
theorem keep_nilv (w : World) : Calls Tryd.prog 14 #[.pointer none, .slice none 0 0] w fun e w' => e = .returned (.tuple #[.int .i64 0, .int .i64 1]) ∧ Below w.heap.size w w' := by
  have hmm := @run_makeMap Tryd.prog
  have HE := Lib.hid fun f W => each_nilv f W
  have s1 : (w.alloc (.cells #[.pointer none] 31)).heap.size = w.heap.size + 1 := by simp
  have HW : Hid (Below w.heap.size w ((((w.alloc (.cells #[.pointer none] 31)).alloc (.map #[] 0)).alloc (.cells #[.map (some (w.heap.size + 1))] 62)).alloc (.cells #[.int .i64 0] 3)) ∧ ((((w.alloc (.cells #[.pointer none] 31)).alloc (.map #[] 0)).alloc (.cells #[.map (some (w.heap.size + 1))] 62)).alloc (.cells #[.int .i64 0] 3)).cell? ⟨w.heap.size, 0, none⟩ = some (.pointer none) ∧ ((((w.alloc (.cells #[.pointer none] 31)).alloc (.map #[] 0)).alloc (.cells #[.map (some (w.heap.size + 1))] 62)).alloc (.cells #[.int .i64 0] 3)).cell? ⟨w.heap.size + 1 + 1 + 1, 0, none⟩ = some (.int .i64 0)) := by
    have k1 := below_box w (.cells #[.pointer none] 31)
    have a1 := Arr.new w 31 #[.pointer none]
    generalize w.alloc (.cells #[.pointer none] 31) = w1 at *
    have k2 := below_box w1 (.map #[] 0)
    have s2 : (w1.alloc (.map #[] 0)).heap.size = w1.heap.size + 1 := by simp
    generalize w1.alloc (.map #[] 0) = w2 at *
    have k3 := below_box w2 (.cells #[.map (some (w.heap.size + 1))] 62)
    have s3 : (w2.alloc (.cells #[.map (some (w.heap.size + 1))] 62)).heap.size = w2.heap.size + 1 := by simp
    generalize w2.alloc (.cells #[.map (some (w.heap.size + 1))] 62) = w3 at *
    have k4 := below_box w3 (.cells #[.int .i64 0] 3)
    have a4 := Arr.new w3 3 #[.int .i64 0]
    rw [show w3.heap.size = w.heap.size + 1 + 1 + 1 by omega] at a4
    exact ⟨((k1.trans (k2.mono k1.size)).trans (k3.mono (Nat.le_trans k1.size k2.size))).trans (k4.mono (by omega)), (((a1.below k2).below k3).below k4).cell rfl, a4.cell rfl⟩
  obtain ⟨b, c0, c1⟩ := HW.out
  have HB := Lib.hid b
  obtain ⟨xb, hxb⟩ : ∃ xb, w.heap.size = xb := ⟨_, rfl⟩
  rw [hxb] at c0 c1
  clear HW b s1
  go_enter Tryd.func14, Tryd.ntmps14
  go_wp2_with fail
  go_loopw [14] (fun i wr => i = .int .i64 0 ∧ wr = ((w.alloc (.cells #[.pointer none] 31)).alloc (.map #[] 0)).alloc (.cells #[.map (some (xb + 1))] 62))
    (fun i _ => 0)
  case atStart => exact ⟨rfl, rfl⟩
  case round =>
  obtain ⟨rfl, rfl⟩ := hrel
  go_wp2_with fail
  refine (HE.out _ _).mono ?_
  rintro e w2 ⟨rfl, rfl⟩
  go_wp2_with fail
  go_ret2
  exact ⟨rfl, by subst hxb; exact HB.out⟩
end Go.Proofs.YtpimdbnhpbjlkaaDoor.vt
/-! VtKe -/
namespace Go.Proofs.YtpimdbnhpbjlkaaDoor.vt
set_option linter.unusedVariables false
open Go.RowKit
open fl (S S_size S_append S_inj)
open rw (Arr But below_box bnext below_drew below_drewN Fr Own)
open dk (Bs File Dk PD Step Nu Inv Live turn sync read fuse crash Right count strSh get used)

/-- A row of texts that came in. -/
structure Tx (W : World) (v : Value) (l : List Bs) : Prop where
  s : rw.Sl strSh W v l
  b : ∀ s ∈ l, s.length ≤ 281474976710000
theorem texts_all {W : World} {v : Value} {l : List Bs} (h : rw.Sl strSh W v l) {j : Nat} (hj : j < l.length) : ∃ b off c, v = .slice (some ⟨b, off, none⟩) l.length c ∧ ∀ w', Below W.heap.size W w' → w'.cell? ⟨b, off + j, none⟩ = some (.string (S (l[j]'hj))) := by
  obtain ⟨a, c, h1, h2, h3, h4⟩ := h
  obtain ⟨b, off, e, hb, hc⟩ := h3.at _ hj
  have hc0 := hc 0 (by decide)
  refine ⟨b, off, c, by rw [h1, e], fun w' k => (World.cell?_of_block (k.block b hb)).trans ?_⟩
  simpa [strSh] using hc0
/-- The law's disk behind the Put of its own file. -/
def DL : Dk := { dk.fresh 262144 with seen := [([108, 111, 103], [120])], pend := [⟨2, [108, 111, 103], [120]⟩] }
theorem dl_turn : turn (dk.fresh 262144) ⟨2, [108, 111, 103], [120]⟩ = (0, DL) := by rfl
theorem dl_inv : Inv 1 DL := by
  have h0 : Inv 0 (dk.fresh 262144) := dk.inv_fresh (by decide)
  have := dk.inv_turn h0 ⟨2, [108, 111, 103], [120]⟩ (by decide)
  rw [dl_turn] at this
  exact this
theorem dl_pb (l : List Bs) : Pb 1 DL l 0 DL := ⟨dl_inv, rfl, rfl, fun b hb => by simp at hb, fun _ _ => rfl, Nat.le_add_right _ _, Nat.le_refl _⟩
theorem noclash_left {a b : List Bs} (h : NoClash (a ++ b)) : NoClash a := fun x hx y hy => h x (List.mem_append.2 (.inl hx)) y (List.mem_append.2 (.inl hy))
theorem stays_iff {a b : List Bs} (h : NoClash (a ++ b)) {x : Bs} (hx : x ∈ a) : dg.sum x ∈ b.map dg.sum ↔ x ∈ b := by
  rw [List.mem_map]
  constructor
  · rintro ⟨y, hy, e⟩
    rw [h x (List.mem_append.2 (.inl hx)) y (List.mem_append.2 (.inr hy)) e.symm]
    exact hy
  · exact fun hb => ⟨x, hb, rfl⟩
/-- Behind the Puts and the Keep. -/
structure Ke (l0 l1 : List Bs) (d2 : Dk) : Prop where
  i : Inv 400 d2
  h : ∀ x ∈ l0, decide ((getV d2 (dg.sum x)).2 = 0) = decide (x ∈ l1)
  r : read d2 [108, 111, 103] = ([120], 0)
theorem ke_of {l0 l1 : List Bs} {d : Dk} (h : Pb 1 DL l0 l0.length d) (h0 : l0.length ≤ 40) (hn : NoClash (l0 ++ l1)) : ∃ n d2, keepV d (l1.map dg.sum) = (n, 0, d2) ∧ Ke l0 l1 d2 ∧ n ≤ (allV d.seen).length ∧ (allV d2.seen).length = (allV d.seen).length - n ∧ (allV d.seen).length ≤ 1000 := by
  obtain ⟨d2, e, hk⟩ := keepV_run h.i.r h.f (l1.map dg.sum)
  have hsp := split_len (allV d.seen) (l1.map dg.sum)
  rw [← hk.a] at hsp
  have hsl : d.seen.length ≤ 41 := by have := h.s; have e : DL.seen.length = 1 := rfl; omega
  have hi := keepV_inv (ks := l1.map dg.sum) h.i (by omega)
  rw [e] at hi
  refine ⟨_, d2, e, ⟨hi.mono (by omega), fun x hx => ?_, ?_⟩, by omega, by omega, Nat.le_trans (allV_len _) (by omega)⟩
  · rw [decide_eq_decide, kept_has h.i.r hk (h.g x (by rw [List.take_length]; exact hx))]
    exact stays_iff hn hx
  · refine rd_some (off_no hk.f) ?_
    rw [hk.s _ (fun q _ e => absurd (congrArg List.head? e) (by show ¬ some (108 : UInt8) = some 98; decide)), h.o _ (fun b _ e => absurd (congrArg List.head? e) (by show ¬ some (108 : UInt8) = some 98; decide))]
    rfl
theorem mem_take_succ {l : List Bs} {j : Nat} (h : j < l.length) (x : Bs) : decide (x ∈ l.take (j + 1)) = (decide (x ∈ l.take j) || decide (l[j] = x)) := by
  rw [List.take_succ_eq_append_getElem h, Bool.eq_iff_iff, decide_eq_true_eq, Bool.or_eq_true, decide_eq_true_eq, decide_eq_true_eq, List.mem_append, List.mem_singleton]
  exact ⟨fun h => h.imp id Eq.symm, fun h => h.imp id Eq.symm⟩
set_option maxHeartbeats 16000000 in
set_option maxRecDepth 100000 in
theorem keeps_any (v0 v1 : Value) (l0 l1 : List Bs) (W : World) (hK : dg.Keys W) (h0 : Tx W v0 l0) (h1 : Tx W v1 l1) :
    Calls Tryd.prog 5 #[v0, v1] W fun e w' => e = .returned (.bool true) ∧ Below W.heap.size W w' := by
  obtain ⟨va, vc, rfl⟩ : ∃ a c, v0 = .slice a l0.length c := by obtain ⟨a, c, e, _⟩ := h0.s; exact ⟨a, c, e⟩
  obtain ⟨ua, uc, rfl⟩ : ∃ a c, v1 = .slice a l1.length c := by obtain ⟨a, c, e, _⟩ := h1.s; exact ⟨a, c, e⟩
  have HAl := Lib.hid fun w (b : Below W.heap.size W w) => alive_call w (hK.below b hK.pos)
  have HK := Lib.hid hK
  have HT := Lib.hid (And.intro h0 h1)
  clear hK h0 h1
  have hAl := HAl.out W (Below.refl _ _)
  go_enter Tryd.func5, Tryd.ntmps5
  go_wp2_with fail
  refine hAl.mono ?_
  clear hAl
  rintro e w1 ⟨rfl, b1⟩
  have B1 := Lib.hid b1
  have hL := long_call _ l0 w1 (HT.out.1.s.later strSh b1)
  clear b1
  go_wp2_with fail
  refine hL.mono ?_
  clear hL
  rintro e w2 ⟨n0, rfl, hn0, ho0, b2⟩
  have B2 := Lib.hid (B1.out.trans (b2.mono B1.out.size))
  clear b2 B1
  by_cases c0 : n0 ≤ 32768
  rotate_left
  · have c0i : (n0 : Int) > 32768 := by omega
    have hAl := HAl.out w2 B2.out
    clear ho0
    go_wp2_with fail
    refine hAl.mono ?_
    clear hAl
    rintro e w3 ⟨rfl, b3⟩
    have B3 := Lib.hid (B2.out.trans (b3.mono B2.out.size))
    clear b3
    go_wp2_with fail
    go_ret
    exact ⟨rfl, B3.out⟩
  have c0i : decide ((32768 : Int) < (n0 : Int)) = false := decide_eq_false (by omega)
  have HO0 := Lib.hid (ho0 c0)
  have hL := long_call _ l1 w2 (HT.out.2.s.later strSh B2.out)
  clear ho0
  go_wp2_with fail
  refine hL.mono ?_
  clear hL
  rintro e w3 ⟨n1, rfl, hn1, ho1, b3⟩
  have B3 := Lib.hid (B2.out.trans (b3.mono B2.out.size))
  clear b3 B2
  by_cases c1 : n1 ≤ 32768
  rotate_left
  · have c1i : (n1 : Int) > 32768 := by omega
    have hAl := HAl.out w3 B3.out
    clear ho1
    go_wp2_with fail
    refine hAl.mono ?_
    clear hAl
    rintro e w4 ⟨rfl, b4⟩
    have B4 := Lib.hid (B3.out.trans (b4.mono B3.out.size))
    clear b4
    go_wp2_with fail
    go_ret
    exact ⟨rfl, B4.out⟩
  have c1i : decide ((32768 : Int) < (n1 : Int)) = false := decide_eq_false (by omega)
  have HO1 := Lib.hid (ho1 c1)
  clear ho1 c0 c1 hn0 hn1
  obtain ⟨ov, w4, g4, o4, b4⟩ := rw.append_none strSh (.slice va l0.length vc) l0 (by have := HO0.out.1; omega) w3 (HT.out.1.s.later strSh B3.out)
  obtain ⟨pv, w5, g5, o5, b5, -⟩ := rw.append_own strSh w3.heap.size ov l0 l1 (.slice ua l1.length uc) (by have := HO0.out.1; have := HO1.out.1; omega) w4 o4 b4.size (HT.out.2.s.later strSh (B3.out.trans (b4.mono B3.out.size)))
  have B5 := Lib.hid (B3.out.trans ((b4.trans b5).mono B3.out.size))
  have hC := clash_call pv (l0 ++ l1) (fun s hs => by
    rcases List.mem_append.1 hs with h | h
    · have := lens_mem h; have := HO0.out.2; omega
    · have := lens_mem h; have := HO1.out.2; omega) (by have := HO0.out.1; have := HO1.out.1; rw [List.length_append]; omega) w5 (HK.out.below B5.out HK.out.pos) o5.sl
  have HR1 := Lib.hid g4
  have HR2 := Lib.hid g5
  clear g4 g5 o4 o5 b4 b5
  go_wp2_with (at_builtin; first | (refine rw.wpList_append_at _ _ _ rfl rfl _ _ _ _ rfl rfl HR1.out ?_; clear HR1) | (refine rw.wpList_append_at _ _ _ rfl rfl _ _ _ _ rfl rfl HR2.out ?_; clear HR2))
  refine hC.mono ?_
  clear hC
  rintro e w6 ⟨⟨r, rfl, hr⟩, b6⟩
  have B6 := Lib.hid (B5.out.trans (b6.mono B5.out.size))
  clear b6 B5 B3
  cases r with
  | true =>
    have hAl := HAl.out w6 B6.out
    clear hr
    go_wp2_with fail
    refine hAl.mono ?_
    clear hAl
    rintro e w7 ⟨rfl, b7⟩
    have B7 := Lib.hid (B6.out.trans (b7.mono B6.out.size))
    clear b7
    go_wp2_with fail
    go_ret
    exact ⟨rfl, B7.out⟩
  | false =>
  have HN := Lib.hid (hr rfl)
  have hl0 := HO0.out.1
  have hl1 := HO1.out.1
  clear hr c0i c1i HAl
  have hN := dk.pnew_any 262144 w6
  go_wp2_with fail
  refine hN.mono ?_
  clear hN
  rintro e w7 (⟨h, -, -⟩ | ⟨cap, hc, -, p, rfl, hp, hbb⟩)
  · exfalso
    omega
  obtain rfl : cap = 262144 := by omega
  have hO := vopen_call (Live.new (Below.refl w6.heap.size w6) hp hbb) (HK.out.below B6.out HK.out.pos)
  clear hp hbb hc
  go_wp2_with fail
  refine hO.mono ?_
  clear hO
  rintro e w8 ⟨vb, rfl, v8⟩
  have hP := vput_call [108, 111, 103] [120] ((dk.inv_fresh (by decide)).mono (by decide)) (by decide) v8
  rw [dl_turn] at hP
  change Calls _ _ #[.pointer (some ⟨p, 0, none⟩), .string ⟨#[108, 111, 103]⟩, .string ⟨#[120]⟩] w8 _ at hP
  clear v8
  go_wp2_with fail
  refine hP.mono ?_
  clear hP
  rintro e w9 ⟨rfl, v9⟩
  have V9 := Lib.hid v9
  clear v9
  go_wp2_with fail
  go_loopw [8] (fun i wr => ∃ k : Nat, i = .int .i64 (k : Nat) ∧ k ≤ l0.length ∧ Hid (∃ d, Pb 1 DL l0 k d ∧ Vt w6 wr vb p d))
    (fun i _ => l0.length - (intOf i).toNat)
  case atStart => exact ⟨0, rfl, Nat.zero_le _, DL, dl_pb l0, V9.out⟩
  case round =>
  obtain ⟨k, rfl, hk, HI⟩ := hrel
  obtain ⟨d, HI⟩ := HI.out
  replace HI := Lib.hid HI
  by_cases hlt : k < l0.length
  · have hki : (k : Int) < (l0.length : Int) := by omega
    obtain ⟨b, off, c, e, hc⟩ := texts_all HT.out.1.s hlt
    injection e with e1 e2 e3
    subst e1 e3
    have c0 := hc wr (B6.out.trans (HI.out.2.since.mono B6.out.size))
    have HNx : Hid ((l0[k]'hlt).length ≤ 1024 → ∃ d', putV d (l0[k]'hlt) = (dg.sum (l0[k]'hlt), 0, d') ∧ Pb 1 DL l0 (k + 1) d') := fun h => HI.out.1.next hlt (by omega) (by have := HO0.out.2; have : used DL.seen = 1 := rfl; omega) (noclash_left HN.out)
    generalize l0[k]'hlt = x at *
    have hx := S_size x
    clear e2 hc
    by_cases h1024 : x.length ≤ 1024
    · obtain ⟨d', e, hPb⟩ := HNx.out h1024
      have hP := put_call x (HI.out.1.i.mono (by have := HO0.out.1; omega)) HI.out.2
      rw [e] at hP
      have HP := Lib.hid hPb
      have hxi : ¬ ((S x).size : Int) > 1024 := by omega
      clear e hPb HNx HI h1024 hx
      go_wp2_with fail
      refine hP.mono ?_
      clear hP c0
      rintro e w2 ⟨rfl, v2⟩
      have HE : Hid (∃ d, Pb 1 DL l0 (k + 1) d ∧ Vt w6 w2 vb p d) := ⟨d', HP.out, v2⟩
      clear v2
      go_wp2_with fail
      exact ⟨⟨k + 1, by rw [Int.natCast_add]; rfl, by omega, HE⟩, by simp only [intOf]; omega⟩
    · have hxi : ((S x).size : Int) > 1024 := by omega
      have HE := Lib.hid (B6.out.trans (HI.out.2.since.mono B6.out.size))
      clear HI HNx h1024 hx
      go_wp2_with fail
      go_ret
      exact ⟨rfl, HE.out⟩
  obtain rfl : k = l0.length := by omega
  have hki : ¬ (l0.length : Int) < (l0.length : Int) := by omega
  obtain ⟨nk, d2, hKV, hKe, hnk, hA2, hA1⟩ := ke_of (l1 := l1) HI.out.1 HO0.out.1 HN.out
  have HKe := Lib.hid hKe
  have hA := all_call (HI.out.1.i.mono (by have := HO0.out.1; omega)) HI.out.2
  have V1 := Lib.hid HI.out.2
  have HKC : Hid (∀ w v, Vt w6 w vb p d → rw.Sl strSh w v (l1.map dg.sum) → Calls Tryd.prog 14 #[.pointer (some ⟨vb, 0, none⟩), v] w fun e w' => e = .returned (.tuple #[.int .i64 (nk : Nat), .int .i64 (0 : Nat)]) ∧ Vt w6 w' vb p d2) := fun w v hv hs => by
    have hh := keep_call (w := w) v (l1.map dg.sum) (by rw [List.length_map]; have := HO1.out.1; omega) (fun q hq => by
      obtain ⟨y, _, rfl⟩ := List.mem_map.1 hq
      rw [dg.sum_length]; decide) (j := 1 + 2 * l0.length) (by have := HO0.out.1; omega) (by have := HI.out.1.s; have e : DL.seen.length = 1 := rfl; have := HO0.out.1; omega) HI.out.1.i hv hs
    rw [hKV] at hh
    exact hh
  have hA2c := Lib.hid fun w (hv : Vt w6 w vb p d2) => all_call (hKe.i.mono (by decide)) hv
  generalize allV d.seen = a1 at *
  generalize allV d2.seen = a2 at *
  clear hKe HI hKV hlt hk
  go_wp2_with fail
  refine hA.mono ?_
  clear hA
  rintro e w10 ⟨av, rfl, oa, ba⟩
  have V2 := Lib.hid (V1.out.below ba)
  obtain ⟨aa, ac, rfl⟩ : ∃ a c, av = .slice a a1.length c := oa.form
  have hS := sums_call _ l1 (fun s hs => by have := lens_mem hs; have := HO1.out.2; omega) (by have := HO1.out.1; omega) w10 (HK.out.below (B6.out.trans (V2.out.since.mono B6.out.size)) HK.out.pos) (HT.out.2.s.later strSh (B6.out.trans (V2.out.since.mono B6.out.size)))
  clear oa ba V1
  go_wp2_with fail
  refine hS.mono ?_
  clear hS
  rintro e w11 ⟨sv, rfl, os, bs⟩
  have hKc := HKC.out w11 sv (V2.out.below bs) os.sl
  clear os bs V2 HKC
  go_wp2_with fail
  refine hKc.mono ?_
  clear hKc
  rintro e w12 ⟨rfl, v12⟩
  have V12 := Lib.hid v12
  have hA := hA2c.out w12 v12
  clear v12 hA2c
  go_wp2_with fail
  refine hA.mono ?_
  clear hA
  rintro e w13 ⟨av2, rfl, oa, ba⟩
  have V13 := Lib.hid (V12.out.below ba)
  obtain ⟨aa2, ac2, rfl⟩ : ∃ a c, av2 = .slice a a2.length c := oa.form
  obtain ⟨z, hz⟩ : ∃ z, a2.length = z := ⟨_, rfl⟩
  have q1 : IntKind.i64.wrap ((a1.length : Int) - (nk : Int)) = (z : Int) := by rw [IntWalk.i64_in _ (by omega)]; omega
  rw [hz]
  clear oa ba V12 hz hA2
  go_wp2_with fail
  go_loopw [12] (fun i wr => ∃ k : Nat, i = .int .i64 (k : Nat) ∧ k ≤ l0.length ∧ Hid (Vt w6 wr vb p d2))
    (fun i _ => l0.length - (intOf i).toNat)
  case atStart => exact ⟨0, rfl, Nat.zero_le _, V13.out⟩
  case round =>
  obtain ⟨i, rfl, hi, HI⟩ := hrel
  by_cases hlt : i < l0.length
  · have hki : (i : Int) < (l0.length : Int) := by omega
    obtain ⟨b, off, c, e, hc⟩ := texts_all HT.out.1.s hlt
    injection e with e1 e2 e3
    subst e1 e3
    have hmem := List.getElem_mem hlt
    have hhas := HKe.out.h _ hmem
    have hxl := lens_mem hmem
    generalize l0[i]'hlt = x at *
    have HC := Lib.hid hc
    clear e2 hc hmem
    go_wp2_with fail
    go_loopw [13, 14] (fun s jj wr => ∃ (k : Nat) (m : Bool), jj = .int .i64 (k : Nat) ∧ s = .bool m ∧ k ≤ l1.length ∧ Hid (m = decide (x ∈ l1.take k) ∧ Vt w6 wr vb p d2))
      (fun _ jj _ => l1.length - (intOf jj).toNat)
    case atStart => exact ⟨0, false, rfl, rfl, Nat.zero_le _, by simp, HI.out⟩
    case round =>
    obtain ⟨j, m, rfl, rfl, hj, HJ⟩ := hrel
    by_cases hlj : j < l1.length
    · have hkj : (j : Int) < (l1.length : Int) := by omega
      obtain ⟨b2, off2, c2, e, hc2⟩ := texts_all HT.out.2.s hlj
      injection e with e1 e2 e3
      subst e1 e3
      have hms := mem_take_succ hlj x
      generalize l1[j]'hlj = y at *
      have hB := B6.out.trans (HJ.out.2.since.mono B6.out.size)
      have k1 := HC.out wr hB
      have k2 := hc2 wr hB
      have HCn : Hid (∀ n, (wr.drewN n).cell? ⟨b, off + i, none⟩ = some (.string (S x)) ∧ (wr.drewN n).cell? ⟨b2, off2 + j, none⟩ = some (.string (S y))) := fun n => ⟨HC.out _ (below_drewN hB n), hc2 _ (below_drewN hB n)⟩
      have hq := S_beq y x
      obtain ⟨r, hr⟩ : ∃ r, decide (y = x) = r := ⟨_, rfl⟩
      rw [hr] at hq
      have HE : Hid (∀ n, ((m || r) = decide (x ∈ l1.take (j + 1)) ∧ Vt w6 (wr.drewN n) vb p d2)) := fun n => ⟨by rw [hms, hr, HJ.out.1], HJ.out.2.below (below_drewN (Below.refl _ _) n)⟩
      clear HJ hB hc2 hr hms e2
      cases m with
      | true =>
        clear k1 k2 HCn hq
        go_wp2_with fail
        go_quiet (fail)
        have HE2 := Lib.hid (HE.out nq)
        clear HE
        go_wp2_with fail
        exact ⟨⟨j + 1, true, by rw [Int.natCast_add]; rfl, rfl, by omega, HE2.out⟩, by simp only [intOf]; omega⟩
      | false =>
        go_wp2_with fail
        go_quiet (fail)
        clear k1 k2
        have HE2 := Lib.hid (HE.out nq)
        clear HE HCn
        go_wp2_with fail
        exact ⟨⟨j + 1, r, by rw [Int.natCast_add]; rfl, rfl, by omega, HE2.out⟩, by simp only [intOf]; omega⟩
    obtain rfl : j = l1.length := by omega
    have hkj : ¬ (l1.length : Int) < (l1.length : Int) := by omega
    have HM : Hid (m = decide (x ∈ l1) ∧ Vt w6 wr vb p d2) := by
      have h := HJ.out
      rw [List.take_length] at h
      exact h
    have hS := sum_call x (by have := HO0.out.2; omega) wr HM.out.2.keys
    have k1 := HC.out wr (B6.out.trans (HM.out.2.since.mono B6.out.size))
    have HHs := Lib.hid fun w (hv : Vt w6 w vb p d2) => has_call (dg.sum x) HKe.out.i.r hv
    rw [hhas, ← HM.out.1] at HHs
    generalize dg.sum x = y at *
    clear HJ hhas hlj hj
    go_wp2_with fail
    refine hS.mono ?_
    clear hS
    rintro e w14 ⟨rfl, b14⟩
    have V14 := Lib.hid (HM.out.2.below b14)
    have hH := HHs.out w14 V14.out
    clear b14 HM HHs k1
    go_wp2_with fail
    refine hH.mono ?_
    clear hH
    rintro e w15 ⟨rfl, b15⟩
    have V15 := Lib.hid (V14.out.below b15)
    clear b15 V14
    cases m <;> (
      go_wp2_with fail
      exact ⟨⟨i + 1, by rw [Int.natCast_add]; rfl, by omega, V15.out⟩, by simp only [intOf]; omega⟩)
  obtain rfl : i = l0.length := by omega
  have hki : ¬ (l0.length : Int) < (l0.length : Int) := by omega
  have hP := put_nilv [120] wr
  have HSx : Hid (∀ w, Vt w6 w vb p d2 → Calls Tryd.prog 12 #[.string ⟨#[120]⟩] w fun e w' => e = .returned (.string (S (dg.sum [120]))) ∧ Below w.heap.size w w') := fun w hv => sum_call [120] (by decide) w hv.keys
  generalize dg.sum [120] = qx at *
  change Calls _ _ #[.pointer none, .string ⟨#[120]⟩] wr _ at hP
  clear hlt hi
  go_wp2_with fail
  refine hP.mono ?_
  clear hP
  rintro e w20 ⟨rfl, b20⟩
  have V20 := Lib.hid (HI.out.below b20)
  have hS := HSx.out w20 V20.out
  clear b20 HI
  go_wp2_with fail
  refine hS.mono ?_
  clear hS
  rintro e w21 ⟨rfl, b21⟩
  have V21 := Lib.hid (V20.out.below b21)
  have hG := get_nilv qx w21
  clear b21 V20
  go_wp2_with fail
  refine hG.mono ?_
  clear hG
  rintro e w22 ⟨rfl, b22⟩
  have V22 := Lib.hid (V21.out.below b22)
  have hG := keep_nilv w22
  clear b22 V21
  go_wp2_with fail
  refine hG.mono ?_
  clear hG
  rintro e w23 ⟨rfl, b23⟩
  have V23 := Lib.hid (V22.out.below b23)
  have hR := vread_call [108, 111, 103] (by decide) V23.out
  rw [HKe.out.r] at hR
  change Calls _ _ #[.pointer (some ⟨p, 0, none⟩), .string ⟨#[108, 111, 103]⟩] w23 (fun e w' => e = .returned (.tuple #[.string ⟨#[120]⟩, .int .i64 0]) ∧ _) at hR
  clear b23 V22
  go_wp2_with fail
  refine hR.mono ?_
  clear hR
  rintro e w24 ⟨rfl, b24⟩
  have V24 := Lib.hid (V23.out.below b24)
  have hO := open_nil w24
  clear b24 V23
  go_wp2_with fail
  refine hO.mono ?_
  clear hO
  rintro e w25 ⟨rfl, rfl⟩
  have hS := HSx.out w25 V24.out
  go_wp2_with fail
  refine hS.mono ?_
  clear hS
  rintro e w26 ⟨rfl, b26⟩
  have V26 := Lib.hid (V24.out.below b26)
  have hH := has_nilv qx w26
  clear b26 V24
  go_wp2_with fail
  refine hH.mono ?_
  clear hH
  rintro e w27 ⟨rfl, b27⟩
  have V27 := Lib.hid (V26.out.below b27)
  have hH := all_nilv w27
  clear b27 V26
  go_wp2_with fail
  refine hH.mono ?_
  clear hH
  rintro e w28 ⟨rfl, b28⟩
  have HE := Lib.hid (B6.out.trans ((V27.out.below b28).since.mono B6.out.size))
  clear b28 V27
  go_wp2_with fail
  go_ret
  exact ⟨rfl, HE.out⟩
end Go.Proofs.YtpimdbnhpbjlkaaDoor.vt
/-! VtRows -/
namespace Go.Proofs.YtpimdbnhpbjlkaaDoor.vt
open Go.ChangeShapes Go.WideShapes Go.ChangeAt Go.RowKit
open fl (S S_of)
open rw (addr_add)
open dk (Bs strSh)
set_option linter.unusedVariables false

def Lite {H : Type} (d : DataW H) (t : TypeId) : Prop := ∀ n ∈ d.weights Tryd.prog t, n ≤ reachBytes
theorem weights_in {H : Type} {e : TypeId} {n : Nat} : ∀ {es : List (DataW H)} {d : DataW H}, d ∈ es → n ∈ d.weights Tryd.prog e → n ∈ DataW.weightsAll Tryd.prog e es
  | x :: r, d, h, hn => by
    rw [DataW.weightsAll, List.mem_append]
    rcases List.mem_cons.1 h with rfl | h
    · exact .inl hn
    · exact .inr (weights_in h hn)
theorem lite_slice {H : Type} {t e : TypeId} {es sp : List (DataW H)} (ht : Tryd.prog.underlying t = some (.slice e)) (h : Lite (.slice es sp) t) : ∀ d ∈ es, Lite d e := by
  unfold Lite at *
  simp only [DataW.weights, ht] at h
  exact fun d hd n hn => h n (List.mem_cons_of_mem _ (List.mem_append.2 (.inl (weights_in hd hn))))
theorem lite_arg {H : Type} {ts : List TypeId} {ds : List (DataW H)} (h : (DataW.weightsEach Tryd.prog ts ds).all (· ≤ reachBytes) = true) {j : Nat} {t : TypeId} {d : DataW H} (ht : ts[j]? = some t) (hd : ds[j]? = some d) : Lite d t := fun n hn => by
  have := List.all_eq_true.1 h _ (DataW.weights_mem_each ht hd n hn)
  simpa using this
section
variable {H : Type} {enc : TypeId × Value → H} {W : World}
theorem str_of {fuel : Nat} {cs : List Value} {x : DataW H × List MemPlace} (h : DataW.trod enc Tryd.prog W 0 (fun _ => true) true fuel 9 cs = some x) (hw : Lite x.1 9) : ∃ l : List UInt8, cs = [.string (S l)] ∧ l.length ≤ reachBytes := by
  obtain ⟨s, rfl, d0, _⟩ := DataW.trod_string Tryd.underlying9 h
  refine ⟨s.data.toList, by rw [S_of], ?_⟩
  subst d0
  exact hw _ (by simp [DataW.weights])
theorem reach48 : reachBytes ≤ 281474976710000 := by decide
set_option maxRecDepth 100000 in
theorem texts_of {a : Option Addr} {len cap : Nat} {d : DataW H} {p : List MemPlace} (h : DataW.Trod enc Tryd.prog W 0 (fun _ => true) true 22 (.slice a len cap) d p) (hw : Lite d 22) : ∃ l, Tx W (.slice a len cap) l := by
  obtain ⟨fuel, hf⟩ := h
  rcases Deep.open_slice Tryd.underlying22 hf with ⟨hcs, hx⟩ | ⟨x, l', c', m, n, D, Pl, hcs, _, hl, hm, hmm, hx, hcell⟩
  · simp [Value.cells] at hcs
    obtain ⟨rfl, rfl, rfl⟩ := hcs
    exact ⟨[], rw.Sl.nil strSh W, fun e he => by cases he⟩
  · simp only [if_true] at hmm
    simp only [Prod.mk.injEq] at hx
    obtain ⟨rfl, _⟩ := hx
    have e1 : Tryd.prog.cellsOf 9 = 1 := by kernel_rfl
    rw [e1] at hcell
    have hls := lite_slice Tryd.underlying22 hw
    have liteI : ∀ i, i < l' → Lite (D i) 9 := fun i hi => hls _ (List.mem_map.2 ⟨i, List.mem_range.2 hi, rfl⟩)
    have key : ∀ i, i < l' → ∃ k : Bs, W.cell? (x.add i) = some (.string (S k)) ∧ k.length ≤ reachBytes := fun i hi => by
      obtain ⟨cs', h1, h2⟩ := hcell i (by omega)
      obtain ⟨k, rfl, hk⟩ := str_of h2 (liteI i hi)
      obtain ⟨_, _, hc⟩ := World.cells?_some h1
      have := hc 0 (by decide)
      rw [Deep.add_add] at this
      exact ⟨k, by simpa using this, hk⟩
    obtain ⟨f, hfr⟩ := Deep.choose_lt key
    simp [Value.cells] at hcs
    obtain ⟨rfl, rfl, rfl⟩ := hcs
    refine ⟨(List.range len).map f, ⟨some x, cap, by simp, by simpa using hl, ?_, fun e => by cases e⟩, ?_⟩
    · by_cases h0 : len = 0
      · subst h0
        exact .inl (by simp)
      · obtain ⟨b, off, spot⟩ := x
        have h00 := (hfr 0 (by omega)).1
        have hspot : spot = none := by simpa [Addr.add] using World.cell?_spot h00
        subst hspot
        refine .inr ⟨b, off, rfl, by have := World.block_lt_of_cell? W _ h00; rw [addr_add] at this; exact this, fun j hj i hi => ?_⟩
        have hj' : j < len := by simpa using hj
        have h1 := (hfr j hj').1
        rw [addr_add] at h1
        simp only [List.getElem_map, List.getElem_range]
        have hi0 : i = 0 := by have : i < 1 := hi; omega
        subst hi0
        simpa [strSh] using h1
    · intro k hk
      obtain ⟨i, hi, rfl⟩ := List.mem_map.1 hk
      rw [List.mem_range] at hi
      exact Nat.le_trans (hfr i hi).2 reach48
set_option maxRecDepth 100000 in
/-- An array of two ints that came in. -/
theorem cut_of {v : Value} {d : DataW H} {p : List MemPlace}
    (h : DataW.Trod enc Tryd.prog W 0 (fun _ => true) true 23 v d p) :
    ∃ x y : Int, v = .agg #[.int .i64 x, .int .i64 y] ∧ (x ≤ 9223372036854775807 ∧ -9223372036854775808 ≤ x) ∧ (y ≤ 9223372036854775807 ∧ -9223372036854775808 ≤ y) := by
  obtain ⟨fuel, hf⟩ := h
  obtain ⟨xs, m1, rfl, hx1, hlen, hn3, hel⟩ := DataW.trod_array Tryd.underlying23 hf
  have c1 : Tryd.prog.cellsOf 3 = 1 := by kernel_rfl
  have c2 : Tryd.prog.cellsOf 23 = 2 := by kernel_rfl
  rw [c2] at hlen
  have e0 := hel 0 (by decide)
  have e1 := hel 1 (by decide)
  rw [c1] at e0 e1
  cases v with
  | agg cs =>
    obtain ⟨l⟩ := cs
    change l.length = 2 at hlen
    obtain ⟨a, b, rfl⟩ : ∃ a b, l = [a, b] := by
      match l, hlen with
      | [a, b], _ => exact ⟨a, b, rfl⟩
    have h0 : DataW.trod enc Tryd.prog W 0 (fun _ => true) true m1 3 [a] = xs[0]? := e0
    have h1 : DataW.trod enc Tryd.prog W 0 (fun _ => true) true m1 3 [b] = xs[1]? := e1
    rw [List.getElem?_eq_getElem (by omega)] at h0 h1
    obtain ⟨p0, q0, _, w0⟩ := DataW.trod_int Tryd.underlying3 h0
    obtain ⟨p1, q1, _, w1⟩ := DataW.trod_int Tryd.underlying3 h1
    have b0 : -9223372036854775808 ≤ p0 ∧ p0 ≤ 9223372036854775807 := by simpa [Lit.wf, IntKind.min, IntKind.max, IntKind.signed, IntKind.bits] using w0
    have b1 : -9223372036854775808 ≤ p1 ∧ p1 ≤ 9223372036854775807 := by simpa [Lit.wf, IntKind.min, IntKind.max, IntKind.signed, IntKind.bits] using w1
    simp only [List.cons.injEq, and_true] at q0 q1
    subst q0 q1
    exact ⟨p0, p1, rfl, ⟨b0.2, b0.1⟩, ⟨b1.2, b1.1⟩⟩
  | _ => exact absurd hlen (by simp [Value.cells])
end
end Go.Proofs.YtpimdbnhpbjlkaaDoor.vt
/-! VtL6 -/
namespace Go.Proofs.YtpimdbnhpbjlkaaDoor.vt
set_option linter.unusedVariables false
open dk (Bs File Dk turn sync read fuse crash Right Sorted count get used without Inv Named)

/-- What is kept of a body's file. -/
structure Sf (b : Bs) (d : Dk) : Prop where
  l : get d.lasts (vname (dg.sum b)) = some b
  s : get d.seen (vname (dg.sum b)) = some b
  p : ∀ c ∈ d.pend, c.name ≠ vname (dg.sum b)
section
variable {b : Bs} {d : Dk}
theorem Sf.turn (h : Sf b d) (hd : Right d) (c : dk.Call) (hc : c.name ≠ vname (dg.sum b)) : Sf b (turn d c).2 := by
  rcases dk.turn_cases d c with e | ⟨_, _, _, e⟩
  · rw [e]; exact h
  · rw [e]
    obtain ⟨e1, e2, e3, e4, e5⟩ := dk.spend_parts { d with seen := dk.done d.seen c (dk.steps c), pend := d.pend ++ [c] }
    refine ⟨?_, ?_, fun x hx => ?_⟩
    · rw [e3]; exact h.l
    · rw [e2]; exact (dk.get_done_other hd.sorted c _ hc.symm).trans h.s
    · rw [e4] at hx
      rcases List.mem_append.1 hx with hx | hx
      · exact h.p x hx
      · rw [List.mem_singleton.1 hx]; exact hc
theorem Sf.sync (h : Sf b d) : Sf b (sync d).2 := by
  unfold dk.sync
  split
  · exact h
  · obtain ⟨e1, e2, e3, e4, e5⟩ := dk.spend_parts { d with lasts := d.seen, pend := [] }
    refine ⟨?_, ?_, fun c hc => ?_⟩
    · show get (dk.spend { d with lasts := d.seen, pend := [] }).lasts _ = _
      rw [e3]; exact h.s
    · show get (dk.spend { d with lasts := d.seen, pend := [] }).seen _ = _
      rw [e2]; exact h.s
    · have hc' : c ∈ (dk.spend { d with lasts := d.seen, pend := [] }).pend := hc
      rw [e4] at hc'
      cases hc'
theorem Sf.crash (h : Sf b d) (hd : Right d) (k : Int) : Sf b (crash d k).2 := by
  unfold dk.crash
  split
  · exact h
  · have := (dk.again_get hd.so d.pend k.toNat h.p).trans h.l
    exact ⟨this, this, fun c hc => by cases hc⟩
theorem Sf.fuse (h : Sf b d) (n : Int) : Sf b (fuse d n) := ⟨h.l, h.s, h.p⟩
theorem turn_off {c : dk.Call} (ho : dk.off d = true) (hn : Named c.name) : turn d c = (8, d) := by
  obtain ⟨h1, h2⟩ := hn
  unfold dk.turn
  rw [if_neg (by omega), if_pos ho]
theorem Sf.putV (h : Sf b d) (hd : Right d) (s : Bs) (hn : dg.sum s = dg.sum b → s = b) : Sf b (putV d s).2.2 := by
  by_cases e : dg.sum s = dg.sum b
  · have e2 := hn e
    subst e2
    have : (vt.putV d s).2.2 = d := by
      unfold vt.putV
      split
      · rfl
      · split
        · rfl
        · next hr =>
          by_cases ho : dk.off d = true
          · rw [turn_off ho (vname_named (dg.sum_length s)), if_pos (show (8 : Nat) ≠ 0 by decide)]
          · have ho2 : dk.off d = false := by simpa using ho
            exact absurd (by rw [rd_some ho2 h.s]; exact ⟨rfl, rfl⟩) hr
    rw [this]; exact h
  · have h1 := h.turn hd ⟨2, vname (dg.sum s), s⟩ (fun e2 => e (vname_inj e2))
    unfold vt.putV
    split
    · exact h
    · split
      · exact h
      · split
        · exact h1
        · split
          · exact h1.sync
          · exact h1.sync
theorem Sf.keepL {ks : List Bs} (hb : dg.sum b ∈ ks) : ∀ (l : List Bs) (n : Nat) {d : Dk}, Right d → Sf b d → Sf b (keepL ks l n d).2.2
  | [], _, _, _, h => h
  | q :: r, n, d, hd, h => by
    rw [vt.keepL]
    split
    · exact Sf.keepL hb r n hd h
    · next hk =>
      have h1 := h.turn hd ⟨3, vname q, []⟩ (fun e => hk (vname_inj e ▸ hb))
      split
      · exact h1
      · exact Sf.keepL hb r _ (dk.turn_right hd _) h1
theorem Sf.keepV (h : Sf b d) (hd : Right d) {ks : List Bs} (hb : dg.sum b ∈ ks) : Sf b (keepV d ks).2.2 := by
  have h1 := Sf.keepL hb (allV d.seen) 0 hd h
  unfold vt.keepV
  split
  · exact h1.sync
  · exact h1
end
theorem putV_seen (d : Dk) (s : Bs) : (putV d s).2.2.seen.length ≤ d.seen.length + 1 := by
  have ht : (turn d ⟨2, vname (dg.sum s), s⟩).2.seen.length ≤ d.seen.length + 1 := by
    rcases dk.turn_cases d ⟨2, vname (dg.sum s), s⟩ with e | ⟨_, _, _, e⟩
    · rw [e]; omega
    · rw [e, (dk.spend_parts _).2.1]
      have h := dk.done_le d.seen ⟨2, vname (dg.sum s), s⟩ (dk.steps ⟨2, vname (dg.sum s), s⟩)
      simp only
      exact h
  have hs : ∀ d : Dk, (sync d).2.seen = d.seen := fun d => by
    unfold dk.sync
    split
    · rfl
    · exact (dk.spend_parts { d with lasts := d.seen, pend := [] }).2.1
  unfold putV
  split
  · exact Nat.le_succ _
  · split
    · exact Nat.le_succ _
    · split
      · exact ht
      · split
        · rw [hs]; exact ht
        · rw [hs]; exact ht
/-- Behind j later Puts. -/
structure Pk (K : List Bs) (j : Nat) (d : Dk) : Prop where
  i : Inv (2 * K.length + 2 * j) d
  s : ∀ b ∈ K, Sf b d
  n : d.seen.length ≤ K.length + j
theorem Pk.next {K : List Bs} {j : Nat} {d : Dk} (h : Pk K j d) (x : Bs) (hx : x.length ≤ 140737488355328) (hn : ∀ b ∈ K, dg.sum x = dg.sum b → x = b) : Pk K (j + 1) (putV d x).2.2 :=
  ⟨putV_inv h.i x hx, fun b hb => (h.s b hb).putV h.i.r x (hn b hb), by have := putV_seen d x; have := h.n; omega⟩
theorem Pk.fuse {K : List Bs} {j : Nat} {d : Dk} (h : Pk K j d) (n : Int) (hn : n ≤ 9223372036854775807) : Pk K j (fuse d n) := ⟨dk.inv_fuse h.i n hn, fun b hb => (h.s b hb).fuse n, h.n⟩
theorem NoClash.mono {a b : List Bs} (h : NoClash a) (k : ∀ x ∈ b, x ∈ a) : NoClash b := fun x hx y hy => h x (k x hx) y (k y hy)
theorem lens_append (a b : List Bs) : lens (a ++ b) = lens a + lens b := by unfold lens; rw [List.map_append, List.sum_append]
/-- Behind the Puts of these bodies, one behind the other, with power. -/
structure P1 (K : List Bs) (d : Dk) : Prop where
  k : Pk K 0 d
  f : d.fused = false
  c : d.cap = 262144
  p : d.pend = []
  e : d.lasts = d.seen
  u : used d.seen ≤ lens K
theorem p1_nil : P1 [] (dk.fresh 262144) := ⟨⟨dk.inv_fresh (by decide), fun b hb => (by cases hb), Nat.le_refl _⟩, rfl, rfl, rfl, rfl, Nat.le_refl _⟩
theorem P1.next {K : List Bs} {d : Dk} (h : P1 K d) (x : Bs) (hx : x.length ≤ 4096) (hu : lens (K ++ [x]) ≤ 262144) (hn : NoClash (K ++ [x])) : ∃ d', putV d x = (dg.sum x, 0, d') ∧ P1 (K ++ [x]) d' := by
  have h1 : lens (K ++ [x]) = lens K + x.length := by rw [lens_append]; simp [lens]
  have hu2 := h.u
  have hc := h.c
  obtain ⟨d', e, hD⟩ := putV_did h.k.i.r h.f x hx (by omega)
  have hP := h.k.next x (by omega) (fun b hb => hn x (List.mem_append.2 (.inr (List.mem_singleton.2 rfl))) b (List.mem_append.2 (.inl hb)))
  rw [e] at hP
  have hus := hD.used h.k.i.r
  have hpe : d'.pend = [] ∧ d'.lasts = d'.seen := by
    rcases hD.seen with ⟨rfl, _⟩ | ⟨_, e2, e3⟩
    · exact ⟨h.p, h.e⟩
    · exact ⟨e3, e2⟩
  have hg := hD.get h.k.i.r
  refine ⟨d', e, ⟨hP.i.mono (by rw [List.length_append, List.length_singleton]; omega), fun b hb => ?_, by rw [List.length_append, List.length_singleton]; exact hP.n⟩, hD.f, hD.c.trans h.c, hpe.1, hpe.2, by omega⟩
  rcases List.mem_append.1 hb with hb | hb
  · exact hP.s b hb
  · rw [List.mem_singleton.1 hb]
    exact ⟨by rw [hpe.2]; exact hg, hg, fun c hc => by rw [hpe.1] at hc; cases hc⟩
/-- The bodies that a Put takes, of the first k. -/
def shorts (l : List Bs) (k : Nat) : List Bs := (l.take k).filter fun s => decide (s.length ≤ 4096)
theorem shorts_yes {l : List Bs} {k : Nat} (h : k < l.length) (hs : (l[k]'h).length ≤ 4096) : shorts l (k + 1) = shorts l k ++ [l[k]'h] := by
  unfold shorts
  rw [List.take_succ_eq_append_getElem h, List.filter_append, List.filter_cons_of_pos (by simpa using hs), List.filter_nil]
theorem shorts_no {l : List Bs} {k : Nat} (h : k < l.length) (hs : ¬ (l[k]'h).length ≤ 4096) : shorts l (k + 1) = shorts l k := by
  unfold shorts
  rw [List.take_succ_eq_append_getElem h, List.filter_append, List.filter_cons_of_neg (by simpa using hs), List.filter_nil, List.append_nil]
theorem shorts_mem {l : List Bs} {k : Nat} {x : Bs} (h : x ∈ shorts l k) : x ∈ l := List.mem_of_mem_take (List.mem_filter.1 h).1
theorem shorts_len (l : List Bs) (k : Nat) : (shorts l k).length ≤ l.length := Nat.le_trans (List.length_filter_le _ _) (by rw [List.length_take]; omega)
theorem lens_filter (p : Bs → Bool) : ∀ l : List Bs, lens (l.filter p) ≤ lens l
  | [] => Nat.le_refl _
  | a :: r => by
    have ih := lens_filter p r
    have h : ∀ t : List Bs, lens (a :: t) = a.length + lens t := fun t => by simp [lens]
    by_cases hp : p a = true
    · rw [List.filter_cons_of_pos hp, h, h]; omega
    · rw [List.filter_cons_of_neg hp, h]; omega
theorem shorts_lens (l : List Bs) (k : Nat) : lens (shorts l k) ≤ lens l := Nat.le_trans (lens_filter _ _) (lens_take_le l k)
/-- Behind the Keep and the crash. -/
theorem pk_end {K : List Bs} {j : Nat} {d : Dk} (h : Pk K j d) (hK : K.length ≤ 40) (hj : j ≤ 40) : Inv 261 (keepV d (K.map dg.sum)).2.2 ∧ ∀ b ∈ K, Sf b (keepV d (K.map dg.sum)).2.2 := by
  have hn := h.n
  exact ⟨(keepV_inv h.i (by omega)).mono (by omega), fun b hb => (h.s b hb).keepV h.i.r (List.mem_map.2 ⟨b, hb, rfl⟩)⟩
theorem crash_end {K : List Bs} {d : Dk} (hi : Inv 261 d) (hs : ∀ b ∈ K, Sf b d) {r : Nat} (hr : r ≤ count d.pend) : ∃ d2, crash d (r : Int) = (0, d2) ∧ Inv 262 d2 ∧ ∀ b ∈ K, getV d2 (dg.sum b) = (b, 0) := by
  refine ⟨_, dk.crash_ok hr, ?_, fun b hb => ?_⟩
  · have := dk.inv_crash hi (r : Int)
    rw [dk.crash_ok hr] at this
    exact this
  · have h := (hs b hb).crash hi.r (r : Int)
    rw [dk.crash_ok hr] at h
    exact getV_some (off_no rfl) h.s
/-- A count of steps that an argument names. -/
theorem step_of (k : Int) (n : Nat) (hn : n ≤ 1048576000) : ∃ r : Nat, r ≤ n ∧ (IntKind.u64.wrap k).tmod ((n : Int) + 1) = (r : Int) ∧ IntKind.i64.wrap ((n : Int) + 1) = (n : Int) + 1 ∧ IntKind.u64.wrap ((n : Int) + 1) = (n : Int) + 1 ∧ IntKind.u64.wrap (r : Int) = (r : Int) ∧ IntKind.i64.wrap (r : Int) = (r : Int) := by
  have hU : 0 ≤ IntKind.u64.wrap k := by
    simp only [IntKind.wrap, IntKind.bits, IntKind.signed]
    simp
    omega
  obtain ⟨r, hr⟩ : ∃ r : Nat, IntKind.u64.wrap k % ((n : Int) + 1) = (r : Int) := ⟨_, (Int.toNat_of_nonneg (Int.emod_nonneg _ (by omega))).symm⟩
  have hrl := Int.emod_lt_of_pos (IntKind.u64.wrap k) (b := (n : Int) + 1) (by omega)
  exact ⟨r, by omega, by rw [Int.tmod_eq_emod_of_nonneg hU, hr], IntWalk.i64_in _ (by omega), IntWalk.u64_in _ (by omega), IntWalk.u64_in _ (by omega), IntWalk.i64_in _ (by omega)⟩
theorem count_small {j : Nat} {d : Dk} (h : Inv j d) (hj : j ≤ 1000) : count d.pend ≤ 1048576000 := by
  have := dk.count_bound h.r
  have := (h.rm hj).p
  omega
end Go.Proofs.YtpimdbnhpbjlkaaDoor.vt
/-! VtKp -/
namespace Go.Proofs.YtpimdbnhpbjlkaaDoor.vt
set_option linter.unusedVariables false
open Go.RowKit
open fl (S S_size S_append S_inj)
open rw (Arr But below_box bnext below_drew below_drewN Fr Own)
open dk (Bs File Dk PD Step Nu Inv Live turn sync read fuse crash Right count strSh get used)

theorem Vo.text {K : List Bs} {b off kc : Nat} {w0 w : World} {vb p : Nat} {d : Dk} (h : Vo [(.slice (some ⟨b, off, none⟩) K.length kc, K)] w0 w vb p d) {j : Nat} (hj : j < K.length) : w.cell? ⟨b, off + j, none⟩ = some (.string (S (K[j]'hj))) := by
  obtain ⟨b', off', c', e, hc⟩ := texts_at (rw.Own.sl strSh (h.o _ (List.mem_singleton.2 rfl))) hj
  injection e with e1 e2 e3
  injection e1 with e1
  injection e1 with e4 e5
  subst e4 e5
  exact hc
set_option maxHeartbeats 16000000 in
set_option maxRecDepth 100000 in
theorem kept_any (v0 v1 : Value) (l0 l1 : List Bs) (x y : Int) (W : World) (hK : dg.Keys W) (h0 : Tx W v0 l0) (h1 : Tx W v1 l1) (hx : x ≤ 9223372036854775807 ∧ -9223372036854775808 ≤ x) (hy : y ≤ 9223372036854775807 ∧ -9223372036854775808 ≤ y) :
    Calls Tryd.prog 3 #[v0, v1, .agg #[.int .i64 x, .int .i64 y]] W fun e w' => e = .returned (.bool true) ∧ Below W.heap.size W w' := by
  obtain ⟨va, vc, rfl⟩ : ∃ a c, v0 = .slice a l0.length c := by obtain ⟨a, c, e, _⟩ := h0.s; exact ⟨a, c, e⟩
  obtain ⟨ua, uc, rfl⟩ : ∃ a c, v1 = .slice a l1.length c := by obtain ⟨a, c, e, _⟩ := h1.s; exact ⟨a, c, e⟩
  have HW : Hid (Below W.heap.size W (W.alloc (.cells #[.int .i64 x, .int .i64 y] 23)) ∧ Arr (W.alloc (.cells #[.int .i64 x, .int .i64 y] 23)) W.heap.size 23 #[.int .i64 x, .int .i64 y] ∧ dg.Keys (W.alloc (.cells #[.int .i64 x, .int .i64 y] 23)) ∧
      Tx (W.alloc (.cells #[.int .i64 x, .int .i64 y] 23)) (.slice va l0.length vc) l0 ∧ Tx (W.alloc (.cells #[.int .i64 x, .int .i64 y] 23)) (.slice ua l1.length uc) l1) := by
    have kb := below_box W (.cells #[.int .i64 x, .int .i64 y] 23)
    exact ⟨kb, Arr.new _ _ _, hK.below kb hK.pos, ⟨h0.s.later strSh kb, h0.b⟩, ⟨h1.s.later strSh kb, h1.b⟩⟩
  have hAl := alive_call _ HW.out.2.2.1
  clear hK h0 h1 hx hy
  obtain ⟨cb, hcb⟩ : ∃ cb, W.heap.size = cb := ⟨_, rfl⟩
  have HA : Hid (Arr (W.alloc (.cells #[.int .i64 x, .int .i64 y] 23)) cb 23 #[.int .i64 x, .int .i64 y]) := hcb ▸ HW.out.2.1
  go_enter Tryd.func3, Tryd.ntmps3
  go_wp2_with fail
  clear hcb
  generalize W.alloc (.cells #[.int .i64 x, .int .i64 y] 23) = W1 at *
  refine hAl.mono ?_
  clear hAl
  rintro e w1 ⟨rfl, b1⟩
  have B1 := Lib.hid b1
  have hL := long_call _ l0 w1 (HW.out.2.2.2.1.s.later strSh b1)
  clear b1
  go_wp2_with fail
  refine hL.mono ?_
  clear hL
  rintro e w2 ⟨n0, rfl, hn0, ho0, b2⟩
  have B2 := Lib.hid (B1.out.trans (b2.mono B1.out.size))
  clear b2 B1
  by_cases c0 : n0 ≤ 32768
  rotate_left
  · have c0i : (n0 : Int) > 32768 := by omega
    have HE := Lib.hid (HW.out.1.trans (B2.out.mono HW.out.1.size))
    clear ho0
    go_wp2_with fail
    go_ret
    exact ⟨rfl, HE.out⟩
  have c0i : decide ((32768 : Int) < (n0 : Int)) = false := decide_eq_false (by omega)
  have HO0 := Lib.hid (ho0 c0)
  have hL := long_call _ l1 w2 (HW.out.2.2.2.2.s.later strSh B2.out)
  clear ho0
  go_wp2_with fail
  refine hL.mono ?_
  clear hL
  rintro e w3 ⟨n1, rfl, hn1, ho1, b3⟩
  have B3 := Lib.hid (B2.out.trans (b3.mono B2.out.size))
  clear b3 B2
  by_cases c1 : n1 ≤ 32768
  rotate_left
  · have c1i : (n1 : Int) > 32768 := by omega
    have HE := Lib.hid (HW.out.1.trans (B3.out.mono HW.out.1.size))
    clear ho1
    go_wp2_with fail
    go_ret
    exact ⟨rfl, HE.out⟩
  have c1i : decide ((32768 : Int) < (n1 : Int)) = false := decide_eq_false (by omega)
  have HO1 := Lib.hid (ho1 c1)
  clear ho1 c0 c1 hn0 hn1
  obtain ⟨ov, w4, g4, o4, b4⟩ := rw.append_none strSh (.slice va l0.length vc) l0 (by have := HO0.out.1; omega) w3 (HW.out.2.2.2.1.s.later strSh B3.out)
  obtain ⟨pv, w5, g5, o5, b5, -⟩ := rw.append_own strSh w3.heap.size ov l0 l1 (.slice ua l1.length uc) (by have := HO0.out.1; have := HO1.out.1; omega) w4 o4 b4.size (HW.out.2.2.2.2.s.later strSh (B3.out.trans (b4.mono B3.out.size)))
  have B5 := Lib.hid (B3.out.trans ((b4.trans b5).mono B3.out.size))
  have hC := clash_call pv (l0 ++ l1) (fun s hs => by
    rcases List.mem_append.1 hs with h | h
    · have := lens_mem h; have := HO0.out.2; omega
    · have := lens_mem h; have := HO1.out.2; omega) (by have := HO0.out.1; have := HO1.out.1; rw [List.length_append]; omega) w5 (HW.out.2.2.1.below B5.out HW.out.2.2.1.pos) o5.sl
  have HR1 := Lib.hid g4
  have HR2 := Lib.hid g5
  clear g4 g5 o4 o5 b4 b5
  go_wp2_with (at_builtin; first | (refine rw.wpList_append_at _ _ _ rfl rfl _ _ _ _ rfl rfl HR1.out ?_; clear HR1) | (refine rw.wpList_append_at _ _ _ rfl rfl _ _ _ _ rfl rfl HR2.out ?_; clear HR2))
  refine hC.mono ?_
  clear hC
  rintro e w6 ⟨⟨r, rfl, hr⟩, b6⟩
  have B6 := Lib.hid (B5.out.trans (b6.mono B5.out.size))
  clear b6 B5 B3
  cases r with
  | true =>
    have HE := Lib.hid (HW.out.1.trans (B6.out.mono HW.out.1.size))
    clear hr
    go_wp2_with fail
    go_ret
    exact ⟨rfl, HE.out⟩
  | false =>
  have HN := Lib.hid (hr rfl)
  have hl0 := HO0.out.1
  have hl1 := HO1.out.1
  clear hr c0i c1i
  have hN := dk.pnew_any 262144 w6
  go_wp2_with fail
  refine hN.mono ?_
  clear hN
  rintro e w7 (⟨h, -, -⟩ | ⟨cap, hc, -, p, rfl, hp, hbb⟩)
  · exfalso
    omega
  obtain rfl : cap = 262144 := by omega
  have hO := vopen_call (Live.new (Below.refl w6.heap.size w6) hp hbb) (HW.out.2.2.1.below B6.out HW.out.2.2.1.pos)
  clear hp hbb hc
  go_wp2_with fail
  refine hO.mono ?_
  clear hO
  rintro e w8 ⟨vb, rfl, v8⟩
  have V8 := Lib.hid v8
  clear v8
  go_wp2_with fail
  go_loopw [10, 11] (fun kv i wr => ∃ k : Nat, i = .int .i64 (k : Nat) ∧ k ≤ l0.length ∧ (∃ a n c, kv = .slice a n c) ∧ Hid (∃ d, P1 (shorts l0 k) d ∧ Vo [(kv, shorts l0 k)] w6 wr vb p d ∧ (shorts l0 k = [] → kv = .slice none 0 0)))
    (fun _ i _ => l0.length - (intOf i).toNat)
  case atStart => exact ⟨0, rfl, Nat.zero_le _, ⟨_, _, _, rfl⟩, dk.fresh 262144, p1_nil, V8.out.with fun x hx => (by
    rw [List.mem_singleton.1 hx]; exact rw.Own.nil strSh _ _), fun _ => rfl⟩
  case round =>
  obtain ⟨k, rfl, hk, ⟨ka, kn, kc, rfl⟩, HI⟩ := hrel
  obtain ⟨d, HI⟩ := HI.out
  replace HI := Lib.hid HI
  by_cases hlt : k < l0.length
  · have hki : (k : Int) < (l0.length : Int) := by omega
    obtain ⟨b, off, c, e, hc⟩ := texts_all HW.out.2.2.2.1.s hlt
    injection e with e1 e2 e3
    subst e1 e3
    have HC := Lib.hid hc
    have c0 := hc wr (B6.out.trans (HI.out.2.1.since.mono B6.out.size))
    have hmem := List.getElem_mem hlt
    have hyes := shorts_yes hlt
    have hno := shorts_no hlt
    have hxl := lens_mem hmem
    generalize l0[k]'hlt = s at *
    have hs := S_size s
    have hxl2 : s.length ≤ 32768 := by have := HO0.out.2; omega
    have hP := put_call s (HI.out.1.k.i.mono (by have := shorts_len l0 k; omega)) HI.out.2.1
    have HKn := Lib.hid HI.out.2.2
    clear e2 hc hxl
    by_cases h4 : s.length ≤ 4096
    · have hsi : ¬ ((S s).size : Int) > 4096 := by omega
      have hsh := hyes h4
      obtain ⟨d', e, hPb⟩ := HI.out.1.next s h4 (by rw [← hsh]; have := shorts_lens l0 (k + 1); have := HO0.out.2; omega) (HN.out.mono fun z hz => by
        rw [← hsh] at hz
        exact List.mem_append.2 (.inl (shorts_mem hz)))
      rw [e] at hP
      have HP := Lib.hid hPb
      have HSh := Lib.hid hsh
      have HS : Hid (∀ w, Below W1.heap.size W1 w → Calls Tryd.prog 12 #[.string (S s)] w fun e w' => e = .returned (.string (S (dg.sum s))) ∧ Below w.heap.size w w') := fun w hw => sum_call s (by omega) w (HW.out.2.2.1.below hw HW.out.2.2.1.pos)
      have HBI := Lib.hid (B6.out.trans (HI.out.2.1.since.mono B6.out.size))
      generalize dg.sum s = q at *
      clear e hPb hyes hno h4 hs hsh HI
      go_wp2_with fail
      refine hP.mono ?_
      clear hP c0
      rintro e w2 ⟨rfl, v2⟩
      have V2 := Lib.hid v2
      have B2 := Lib.hid (B6.out.trans (v2.since.mono B6.out.size))
      have c0 := HC.out w2 B2.out
      have hS := HS.out w2 B2.out
      clear v2 HS HBI
      go_wp2_with fail
      refine hS.mono ?_
      clear hS c0
      rintro e w3 ⟨rfl, b3⟩
      have V3 := Lib.hid (V2.out.below b3)
      have c0 := HC.out w3 (B2.out.trans (b3.mono B2.out.size))
      clear b3 V2 B2
      obtain ⟨u', w4, g4, v4, hf⟩ := V3.out.push HKn.out (by have := shorts_len l0 k; omega) s
      have HR := Lib.hid g4
      have HE : Hid (∃ d, P1 (shorts l0 (k + 1)) d ∧ Vo [(u', shorts l0 (k + 1))] w6 w4 vb p d ∧ (shorts l0 (k + 1) = [] → u' = .slice none 0 0)) := by
        rw [HSh.out]
        exact ⟨d', HP.out, v4, fun h => by simp at h⟩
      clear g4 v4 V3 HP HSh HC HKn
      go_wp2_with (at_builtin; refine rw.wpList_append_at _ _ _ rfl rfl _ _ _ _ rfl rfl HR.out ?_)
      exact ⟨⟨k + 1, by rw [Int.natCast_add]; rfl, by omega, hf, HE⟩, by simp only [intOf]; omega⟩
    · have hsi : ((S s).size : Int) > 4096 := by omega
      have hsh := hno h4
      have e : putV d s = ([], 2, d) := by unfold putV; rw [if_pos (by omega)]
      rw [e] at hP
      change Calls _ _ _ _ (fun e w' => e = .returned (.tuple #[.string ⟨#[]⟩, .int .i64 2]) ∧ Vo [(.slice ka kn kc, shorts l0 k)] w6 w' vb p d) at hP
      have HP := Lib.hid HI.out.1
      clear e hyes hno h4 hs HI
      go_wp2_with fail
      refine hP.mono ?_
      clear hP c0
      rintro e w2 ⟨rfl, v2⟩
      have c0 := HC.out w2 (B6.out.trans (v2.since.mono B6.out.size))
      have HE : Hid (∃ d, P1 (shorts l0 (k + 1)) d ∧ Vo [(.slice ka kn kc, shorts l0 (k + 1))] w6 w2 vb p d ∧ (shorts l0 (k + 1) = [] → (Value.slice ka kn kc) = .slice none 0 0)) := by rw [hsh]; exact ⟨d, HP.out, v2, HKn.out⟩
      clear v2 HP hsh HC HKn
      go_wp2_with fail
      exact ⟨⟨k + 1, by rw [Int.natCast_add]; rfl, by omega, ⟨_, _, _, rfl⟩, HE⟩, by simp only [intOf]; omega⟩
  obtain rfl : k = l0.length := by omega
  have hki : ¬ (l0.length : Int) < (l0.length : Int) := by omega
  obtain ⟨K, hKd⟩ : ∃ K, shorts l0 l0.length = K := ⟨_, rfl⟩
  have HKm : Hid (K.length ≤ 40 ∧ ∀ z ∈ K, z ∈ l0) := ⟨by rw [← hKd]; have := shorts_len l0 l0.length; omega, fun z hz => shorts_mem (hKd ▸ hz)⟩
  rw [hKd] at HI
  obtain ⟨f, hf, hfq⟩ : ∃ f : Nat, f ≤ 6 ∧ (IntKind.u64.wrap x).tmod 7 = (f : Int) := by
    obtain ⟨r, h1, h2, _⟩ := step_of x 6 (by decide)
    exact ⟨r, h1, h2⟩
  have q1 : IntKind.i64.wrap (f : Int) = (f : Int) := IntWalk.i64_in _ (by omega)
  have hFu := vfuse_call (f : Int) (by omega) HI.out.2.1
  have HP := Lib.hid (HI.out.1.k.fuse (f : Int) (by omega))
  have k0 : wr.cell? ⟨cb, 0, none⟩ = some (.int .i64 x) := (HA.out.below (B6.out.trans (HI.out.2.1.since.mono B6.out.size))).cell rfl
  generalize fuse d (f : Int) = d1 at *
  clear HI hKd hlt hk
  go_wp2_with fail
  refine hFu.mono ?_
  clear hFu k0 hfq q1 hf
  rintro e w9 ⟨rfl, v9⟩
  have V9 := Lib.hid v9
  clear v9
  go_wp2_with fail
  go_loopw [14] (fun i wr => ∃ k : Nat, i = .int .i64 (k : Nat) ∧ k ≤ l1.length ∧ Hid (∃ d, Pk K k d ∧ Vo [(.slice ka kn kc, K)] w6 wr vb p d))
    (fun i _ => l1.length - (intOf i).toNat)
  case atStart => exact ⟨0, rfl, Nat.zero_le _, d1, HP.out, V9.out⟩
  case round =>
  obtain ⟨k, rfl, hk, HI⟩ := hrel
  obtain ⟨d, HI⟩ := HI.out
  replace HI := Lib.hid HI
  by_cases hlt : k < l1.length
  · have hki : (k : Int) < (l1.length : Int) := by omega
    obtain ⟨b, off, c, e, hc⟩ := texts_all HW.out.2.2.2.2.s hlt
    injection e with e1 e2 e3
    subst e1 e3
    have c0 := hc wr (B6.out.trans (HI.out.2.since.mono B6.out.size))
    have hmem := List.getElem_mem hlt
    have hxl := lens_mem hmem
    generalize l1[k]'hlt = s at *
    have hP := put_call s (HI.out.1.i.mono (by have := HKm.out.1; omega)) HI.out.2
    have HN2 := Lib.hid (HI.out.1.next s (by have := HO1.out.2; omega) fun z hz he => HN.out s (List.mem_append.2 (.inr hmem)) z (List.mem_append.2 (.inl (HKm.out.2 z hz))) he)
    generalize putV d s = Z at *
    obtain ⟨zs, ze, zd⟩ := Z
    simp only at hP HN2
    clear HI e2 hc hxl hmem
    go_wp2_with fail
    refine hP.mono ?_
    clear hP c0
    rintro e w2 ⟨rfl, v2⟩
    have HE : Hid (∃ d, Pk K (k + 1) d ∧ Vo [(.slice ka kn kc, K)] w6 w2 vb p d) := ⟨zd, HN2.out, v2⟩
    clear v2 HN2
    go_wp2_with fail
    exact ⟨⟨k + 1, by rw [Int.natCast_add]; rfl, by omega, HE⟩, by simp only [intOf]; omega⟩
  obtain rfl : k = l1.length := by omega
  have hki : ¬ (l1.length : Int) < (l1.length : Int) := by omega
  have HEnd := Lib.hid (pk_end HI.out.1 HKm.out.1 hl1)
  have hKL := HKm.out.1
  have HKC : Hid (∀ w v, Vo [(.slice ka kn kc, K)] w6 w vb p d → rw.Sl strSh w v (K.map dg.sum) → Calls Tryd.prog 14 #[.pointer (some ⟨vb, 0, none⟩), v] w fun e w' => e = .returned (.tuple #[.int .i64 ((keepV d (K.map dg.sum)).1 : Nat), .int .i64 ((keepV d (K.map dg.sum)).2.1 : Nat)]) ∧ Vo [(.slice ka kn kc, K)] w6 w' vb p (keepV d (K.map dg.sum)).2.2) := fun w v hv hs =>
    keep_call (w := w) v (K.map dg.sum) (by rw [List.length_map]; omega) (fun q hq => by
      obtain ⟨z, _, rfl⟩ := List.mem_map.1 hq
      rw [dg.sum_length]; decide) (j := 2 * K.length + 2 * l1.length) (by omega) (by have := HI.out.1.n; omega) HI.out.1.i hv hs
  generalize keepV d (K.map dg.sum) = Z at *
  obtain ⟨zn, ze, zd⟩ := Z
  simp only at HEnd HKC
  have hS := sums_call (.slice ka kn kc) K (fun z hz => by have := lens_mem (HKm.out.2 z hz); have := HO0.out.2; omega) (by omega) wr (HW.out.2.2.1.below (B6.out.trans (HI.out.2.since.mono B6.out.size)) HW.out.2.2.1.pos) (Own.sl strSh (HI.out.2.o (.slice ka kn kc, K) (List.mem_singleton.2 rfl)))
  have V10 := Lib.hid HI.out.2
  clear HI hlt hk
  go_wp2_with fail
  refine hS.mono ?_
  clear hS
  rintro e w11 ⟨sv, rfl, os, bs⟩
  have hKc := HKC.out w11 sv (V10.out.below bs) os.sl
  clear os bs V10 HKC
  go_wp2_with fail
  refine hKc.mono ?_
  clear hKc
  rintro e w12 ⟨rfl, v12⟩
  have V12 := Lib.hid v12
  clear v12
  obtain ⟨n, hn⟩ : ∃ n, count zd.pend = n := ⟨_, rfl⟩
  obtain ⟨r, hr, q1, q2, q3, q4, q5⟩ := step_of y n (by rw [← hn]; exact count_small HEnd.out.1 (by decide))
  obtain ⟨z, hz⟩ : ∃ z : Nat, n + 1 = z := ⟨_, rfl⟩
  have hzi : (n : Int) + 1 = (z : Int) := by omega
  have hz0 : ¬ z = 0 := by omega
  rw [hzi] at q1
  obtain ⟨d2, hcr, hi2, hg2⟩ := crash_end HEnd.out.1 HEnd.out.2 (r := r) (by omega)
  have HCr : Hid (∀ w, Vo [(.slice ka kn kc, K)] w6 w vb p zd → Calls Tryd.prog 16 #[.pointer (some ⟨p, 0, none⟩), .int .i64 (r : Nat)] w fun e w' => e = .returned (.int .i64 0) ∧ Vo [(.slice ka kn kc, K)] w6 w' vb p d2) := fun w hv => by
    have hh := vcrash_call (r : Int) (HEnd.out.1.mono (by decide)) hv
    rw [hcr] at hh
    exact hh
  have HPe : Hid (∀ w, Vo [(.slice ka kn kc, K)] w6 w vb p zd → Calls Tryd.prog 17 #[.pointer (some ⟨p, 0, none⟩)] w fun e w' => e = .returned (.int .i64 (n : Nat)) ∧ w' = w) := fun w hv => by
    rw [← hn]; exact vpending_call hv
  have HG := Lib.hid (And.intro hi2 hg2)
  have hrn : r ≤ n := hr
  have hnn : n ≤ 1048576000 := by rw [← hn]; exact count_small HEnd.out.1 (by decide)
  have HCe : Hid (∀ w, Vo [(.slice ka kn kc, K)] w6 w vb p zd → w.cell? ⟨cb, 1, none⟩ = some (.int .i64 y)) := fun w hv => (HA.out.below (B6.out.trans (hv.since.mono B6.out.size))).cell rfl
  have HCe2 : Hid (∀ w, Vo [(.slice ka kn kc, K)] w6 w vb p d2 → w.cell? ⟨cb, 1, none⟩ = some (.int .i64 y)) := fun w hv => (HA.out.below (B6.out.trans (hv.since.mono B6.out.size))).cell rfl
  have q2' : IntKind.i64.wrap ((n : Int) + 1) = (z : Int) := by rw [IntWalk.i64_in _ (by omega)]; exact hzi
  have q3' : IntKind.u64.wrap (z : Int) = (z : Int) := IntWalk.u64_in _ (by omega)
  clear hcr hi2 hg2 hn HEnd hr hz hzi q2 q3
  go_wp2_with fail
  have X1 := Lib.hid (V12.out.below (below_drew (Below.refl w12.heap.size w12)))
  have k0 := HCe.out _ X1.out
  clear V12
  go_region_held3 (fun w => w.cell? ⟨cb, 1, none⟩ = some (.int .i64 y))
    (first | (with_reducible exact k0) | go_keep)
    (first | (go_at_call 17; with_reducible refine (HPe.out _ X1.out).mono ?_; rintro e w13 ⟨rfl, rfl⟩) | (go_at_call 16; with_reducible refine (HCr.out _ X1.out).mono ?_; rintro e w14 ⟨rfl, v14⟩; have V14 := Lib.hid v14; clear k0; have k0 := HCe2.out _ v14; clear v14))
  all_goals (
    have V15 := V14
    clear k0 V14 X1 HPe HCr HCe HCe2 q1 q2' q3' q4 q5
    have hO := vopen_again V15.out
    clear V15
    go_wp2_with fail
    refine hO.mono ?_
    clear hO
    rintro e w16 ⟨vb2, rfl, v16⟩
    have V16 := Lib.hid v16
    obtain rfl : kn = K.length := by
      obtain ⟨a, c, e⟩ := (v16.o (.slice ka kn kc, K) (List.mem_singleton.2 rfl)).form
      injection e
    clear v16
    go_wp2_with fail
    go_loopw [15] (fun i wr => ∃ k : Nat, i = .int .i64 (k : Nat) ∧ k ≤ K.length ∧ Hid (Vo [(.slice ka K.length kc, K)] w6 wr vb2 p d2))
      (fun i _ => K.length - (intOf i).toNat)
    case atStart => exact ⟨0, rfl, Nat.zero_le _, V16.out⟩
    case round =>
    obtain ⟨k, rfl, hk, HI⟩ := hrel
    by_cases hlt : k < K.length
    · have hki : (k : Int) < (K.length : Int) := by omega
      obtain ⟨b, off, c, e, hc⟩ := texts_at (rw.Own.sl strSh (HI.out.o _ (List.mem_singleton.2 rfl))) hlt
      injection e with e1 e2 e3
      subst e1 e3
      have HC : Hid (∀ w, Vo [(.slice (some ⟨b, off, none⟩) K.length kc, K)] w6 w vb2 p d2 → w.cell? ⟨b, off + k, none⟩ = some (.string (S (K[k]'hlt)))) := fun w hv => hv.text hlt
      have hgs := HG.out.2 _ (List.getElem_mem hlt)
      have hml := lens_mem (HKm.out.2 _ (List.getElem_mem hlt))
      generalize K[k]'hlt = s at *
      have hS := sum_call s (by have := HO0.out.2; omega) wr HI.out.keys
      have HGt := Lib.hid fun w (hv : Vo [(.slice (some ⟨b, off, none⟩) K.length kc, K)] w6 w vb2 p d2) => get_call (dg.sum s) HG.out.1.r hv
      rw [hgs] at HGt
      generalize dg.sum s = q at *
      clear hgs hml e2
      go_wp2_with fail
      refine hS.mono ?_
      clear hS hc
      rintro e w17 ⟨rfl, b17⟩
      have V17 := Lib.hid (HI.out.below b17)
      have hG := HGt.out w17 V17.out
      clear b17 HI HGt
      go_wp2_with fail
      refine hG.mono ?_
      clear hG
      rintro e w18 ⟨rfl, b18⟩
      have V18 := Lib.hid (V17.out.below b18)
      have c18 := HC.out w18 V18.out
      clear b18 V17 HC
      go_wp2_with fail
      exact ⟨⟨k + 1, by rw [Int.natCast_add]; rfl, by omega, V18.out⟩, by simp only [intOf]; omega⟩
    obtain rfl : k = K.length := by omega
    have hki : ¬ (K.length : Int) < (K.length : Int) := by omega
    have HE := Lib.hid (HW.out.1.trans ((B6.out.trans (HI.out.since.mono B6.out.size)).mono HW.out.1.size))
    clear HI V16
    go_wp2_with fail
    go_ret
    exact ⟨rfl, HE.out⟩)
end Go.Proofs.YtpimdbnhpbjlkaaDoor.vt
