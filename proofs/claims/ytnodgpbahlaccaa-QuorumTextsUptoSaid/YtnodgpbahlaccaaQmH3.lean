/-
  The library's heap: up.
-/
import Derived.Test.YtnodgpbahlaccaaQmH2
namespace Go.Proofs.Ytnodgpbahlaccaa.qm
set_option linter.unusedVariables false
open Go.RowKit
open rw (Arr But Own bnext below_box below_drew below_drewN)

theorem loadVar_one {ty : TypeId} {d : TypeDesc} (hu : Try.prog.underlying ty = some d) (hd : (match d with | .struct _ | .array _ _ => true | _ => false) = false) (w : World) (a : Addr) (v : Value) (hc : w.cell? a = some v) :
    (loadVar ty a).run Try.prog w = .ok v w := by
  have hagg : (isAgg ty).run Try.prog w = .ok false w := by
    unfold isAgg
    rw [Sem.run_bind, run_underlying hu w]
    cases d <;> simp_all
  simp [loadVar, Sem.run_bind, hagg, hc]
theorem load_hp {w : World} {hb : Nat} {v : Value} (h : Arr w hb 65 #[v]) : (loadVar 65 ⟨hb, 0, none⟩).run Try.prog w = .ok v w :=
  loadVar_one Try.underlying65 rfl w _ v (h.cell rfl)
theorem m_len0 (a : Addr) (w : World) : (method 206 49 (.pointer (some a)) "Len").run Try.prog w = (loadVar 65 a >>= fun v => pure ((31 : FuncId), v)).run Try.prog w := by kernel_rfl
theorem m_less0 (a : Addr) (w : World) : (method 206 49 (.pointer (some a)) "Less").run Try.prog w = (loadVar 65 a >>= fun v => pure ((75 : FuncId), v)).run Try.prog w := by kernel_rfl
theorem m_swap0 (a : Addr) (w : World) : (method 206 49 (.pointer (some a)) "Swap").run Try.prog w = (loadVar 65 a >>= fun v => pure ((78 : FuncId), v)).run Try.prog w := by kernel_rfl
theorem m_len {w : World} {hb : Nat} {v : Value} (h : Arr w hb 65 #[v]) : (method 206 49 (.pointer (some ⟨hb, 0, none⟩)) "Len").run Try.prog w = .ok (31, v) w := by
  rw [m_len0, Sem.run_bind, load_hp h]; rfl
theorem m_less {w : World} {hb : Nat} {v : Value} (h : Arr w hb 65 #[v]) : (method 206 49 (.pointer (some ⟨hb, 0, none⟩)) "Less").run Try.prog w = .ok (75, v) w := by
  rw [m_less0, Sem.run_bind, load_hp h]; rfl
theorem m_swap {w : World} {hb : Nat} {v : Value} (h : Arr w hb 65 #[v]) : (method 206 49 (.pointer (some ⟨hb, 0, none⟩)) "Swap").run Try.prog w = .ok (78, v) w := by
  rw [m_swap0, Sem.run_bind, load_hp h]; rfl
theorem m_push (a : Addr) (w : World) : (method 206 49 (.pointer (some a)) "Push").run Try.prog w = .ok (77, .pointer (some a)) w := by kernel_rfl
theorem m_pop (a : Addr) (w : World) : (method 206 49 (.pointer (some a)) "Pop").run Try.prog w = .ok (76, .pointer (some a)) w := by kernel_rfl

/-- All but the box and the row's block is as it was. -/
structure Mh (hb : Nat) (o : Option Nat) (w w' : World) : Prop where
  os : w'.os = w.os
  tape : w'.tape = w.tape
  output : w'.output = w.output
  size : w.heap.size ≤ w'.heap.size
  block : ∀ k, k < w.heap.size → k ≠ hb → o ≠ some k → w'.heap[k]? = w.heap[k]?
theorem Mh.refl (hb : Nat) (o : Option Nat) (w : World) : Mh hb o w w := ⟨rfl, rfl, rfl, Nat.le_refl _, fun _ _ _ _ => rfl⟩
theorem Mh.trans {hb : Nat} {o : Option Nat} {a b c : World} (h : Mh hb o a b) (k : Mh hb o b c) : Mh hb o a c :=
  ⟨k.os.trans h.os, k.tape.trans h.tape, k.output.trans h.output, Nat.le_trans h.size k.size, fun i hi h1 h2 => (k.block i (Nat.lt_of_lt_of_le hi h.size) h1 h2).trans (h.block i hi h1 h2)⟩
theorem Mh.of_below {hb : Nat} {o : Option Nat} {w w' : World} (h : Below w.heap.size w w') : Mh hb o w w' := ⟨h.os, h.tape, h.output, h.size, fun k hk _ _ => h.block k hk⟩
theorem Mh.of_bv {hb B : Nat} {v : Value} {w w' : World} (h : Bv B v w w') : Mh hb v.ownBlock w w' := by
  obtain ⟨h1, g, h2, h3⟩ := h
  exact ⟨h3.os, h3.tape, h3.output, h3.size, fun k hk _ h5 => h3.block k hk (fun e => h5 (by rw [h2, e]))⟩
theorem Mh.of_but {hb : Nat} {o : Option Nat} {w w' : World} (h : But hb w w') : Mh hb o w w' := ⟨h.os, h.tape, h.output, h.size, fun k hk h4 _ => h.block k hk h4⟩
theorem Mh.below {hb B : Nat} {o : Option Nat} {w w' : World} (h : Mh hb o w w') (h1 : B ≤ w.heap.size) (h2 : B ≤ hb) (h3 : ∀ k, o = some k → B ≤ k) : Below B w w' :=
  ⟨h.os, h.tape, h.output, h.size, fun k hk => h.block k (by omega) (by omega) (fun e => by have := h3 k e; omega)⟩
/-- A heap under way: the box hb holds the slice v, whose row is m. -/
structure Hp (w W : World) (hb : Nat) (v : Value) (m : List Ix) : Prop where
  box : Arr W hb 65 #[v]
  own : Own hpSh W (hb + 1) v m
  b : Mh hb v.ownBlock w W
theorem Hp.below {w W W' : World} {hb : Nat} {v : Value} {m : List Ix} (h : Hp w W hb v m) (k : Below W.heap.size W W') : Hp w W' hb v m :=
  ⟨h.box.below k, h.own.below _ k, h.b.trans (Mh.of_below k)⟩
theorem Hp.turn {w W W' : World} {hb : Nat} {v : Value} {m m' : List Ix} (h : Hp w W hb v m) (o : Own hpSh W' (hb + 1) v m') (k : Bv (hb + 1) v W W') : Hp w W' hb v m' :=
  ⟨h.box.of (k.1.block hb (by omega)), o, h.b.trans (Mh.of_bv k)⟩

set_option maxHeartbeats 1000000 in
set_option maxRecDepth 100000 in
theorem up_any (hb : Nat) (v : Value) (l : List Ix) (j : Nat) (hl : l.length ≤ 1000000) (w : World) (h : Hp w w hb v l) (hj : UpI l j) :
    Calls Try.prog 55 #[.iface 49 (.pointer (some ⟨hb, 0, none⟩)), .int .i64 j] w fun e w' => e = .returned (.tuple #[]) ∧ ∃ m, Hp w w' hb v m ∧ m.Perm l ∧ Heap m m.length := by
  have hjl := hj.lt
  obtain ⟨n, hn⟩ : ∃ n, l.length = n := ⟨_, rfl⟩
  rw [hn] at hjl hl
  have HN := Lib.hid hn
  have H0 : Hid (UpI l j ∧ l.Perm l ∧ Hp w w hb v l) := ⟨hj, .refl _, h⟩
  clear h hj hn
  go_enter Try.func55, Try.ntmps55
  go_wp2
  go_loopw [1, 4] (fun jv _ wr => ∃ (k : Nat) (m : List Ix), jv = .int .i64 k ∧ k < n ∧ Hid (UpI m k ∧ m.Perm l ∧ Hp w wr hb v m))
    (fun jv _ _ => (intOf jv).toNat)
  case atStart => exact ⟨j, l, rfl, hjl, H0⟩
  case round =>
    obtain ⟨k, m, rfl, hk, HI⟩ := hrel
    rcases Nat.eq_zero_or_pos k with h0 | h0
    · have HT : Hid (∃ m, Hp w wr hb v m ∧ m.Perm l ∧ Heap m m.length) := ⟨m, HI.out.2.2, HI.out.2.1, HI.out.1.done (.inl h0)⟩
      have hki : (k : Int) = 0 := by omega
      subst h0
      clear HI hki
      go_wp2
      exact bodyPost_end (results_none rfl _ _ _) rfl ⟨rfl, HT.out⟩
    · obtain ⟨q, hkq⟩ : ∃ q, k = q + 1 := ⟨k - 1, by omega⟩
      obtain ⟨p, hp⟩ : ∃ p, q / 2 = p := ⟨_, rfl⟩
      have hpq : (k - 1) / 2 = p := by omega
      have hpk : p < k := by omega
      have HM : Hid (m.length = n) := HI.out.2.1.length_eq.trans HN.out
      have hkl : k < m.length := by rw [HM.out]; exact hk
      have hpl : p < m.length := by omega
      have f1 : IntKind.i64.wrap ((k : Int) - 1) = (q : Int) := by
        have : (k : Int) - 1 = (q : Int) := by omega
        rw [this]; exact IntWalk.i64_in _ (by omega)
      have f2 : IntKind.i64.wrap (Int.tdiv (q : Int) 2) = (p : Int) := by
        have : Int.tdiv (q : Int) 2 = (p : Int) := by rw [Int.tdiv_eq_ediv_of_nonneg (by omega)]; omega
        rw [this]; exact IntWalk.i64_in _ (by omega)
      have f3 : ((p : Int) == (k : Int)) = false := beq_eq_false_iff_ne.2 (by omega)
      have f4 : ¬ p = k := by omega
      have f5 : (q : Int) / 2 = (p : Int) := by omega
      have hm1 := m_less HI.out.2.2.box
      have hL := less_any v m k p hkl hpl (by rw [HM.out]; exact hl) wr (hb + 1) HI.out.2.2.own
      have HU : Hid (UpI m k ∧ m.Perm l) := ⟨HI.out.1, HI.out.2.1⟩
      have HH : Hid (Hp w wr hb v m) := HI.out.2.2
      by_cases hlt : key m p < key m k
      · rw [decide_eq_true hlt] at hL
        have hU := HU.out.1.step (by omega) (by rw [hpq]; exact hlt)
        rw [hpq] at hU
        have HU2 : Hid (UpI (sw m p k) p ∧ (sw m p k).Perm l) := ⟨hU, (sw_perm m hpl hkl).trans HU.out.2⟩
        have HSw := Lib.hid fun W h => swap_any v m p k hpl hkl (by omega) (by rw [HM.out]; exact hl) W (hb + 1) h
        have hpn : p < n := by omega
        have HP := Lib.hid hpk
        clear HI HU hlt hkl hpl hpq hp HM hU h0 hkq hpk
        go_wp2_with fail
        with_reducible refine hL.mono ?_
        clear hL hm1
        rintro e w2 ⟨rfl, b2⟩
        have H2 := Lib.hid (HH.out.below b2)
        clear HH b2
        have hm2 := m_swap H2.out.box
        have hS := HSw.out w2 H2.out.own
        go_wp2_with fail
        with_reducible refine hS.mono ?_
        clear hS hm2
        rintro e w3 ⟨rfl, o3, b3⟩
        have H3 := Lib.hid (H2.out.turn o3 b3)
        clear H2 o3 b3
        go_wp2_with fail
        exact ⟨⟨p, _, rfl, hpn, HU2.out.1, HU2.out.2, H3.out⟩, by have := HP.out; simp only [intOf]; omega⟩
      · rw [decide_eq_false hlt] at hL
        have hpn : p < n := by omega
        have HD : Hid (Heap m m.length ∧ m.Perm l) := ⟨HU.out.1.done (.inr (by rw [hpq]; omega)), HU.out.2⟩
        clear HI HU hlt hkl hpl hpq hp HM h0 hkq hpk
        go_wp2_with fail
        with_reducible refine hL.mono ?_
        clear hL hm1
        rintro e w2 ⟨rfl, b2⟩
        have H2 := Lib.hid (HH.out.below b2)
        clear HH b2
        go_wp2_with fail
        exact bodyPost_end (results_none rfl _ _ _) rfl ⟨rfl, m, H2.out, HD.out.2, HD.out.1⟩
end Go.Proofs.Ytnodgpbahlaccaa.qm
