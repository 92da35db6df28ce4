/-
  The heap: the library's Pop, take.
-/
import Derived.Test.YtnodgpbahlaccaaQmH5
namespace Go.Proofs.Ytnodgpbahlaccaa.qm
set_option linter.unusedVariables false
open Go.RowKit
open rw (Arr But Own bnext below_box below_drew below_drewN)

theorem own_but {α : Type} {s : rw.Sh α} {q B : Nat} {w w' : World} {v : Value} {l : List α} (h : Own s w B v l) (k : But q w w') (hv : v.ownBlock ≠ some q) : Own s w' B v l := by
  obtain ⟨h1, h2 | ⟨g, cap, cur, h3, h4, h5, h6⟩⟩ := h
  · exact ⟨h1, .inl h2⟩
  · refine ⟨h1, .inr ⟨g, cap, cur, h3, h4, (k.block g (Array.getElem?_eq_some_iff.1 h5).1 (fun e => hv ?_)).trans h5, h6⟩⟩
    rw [h3, e]; simp [Value.ownBlock]
theorem Mh.then_new {hb q : Nat} {o : Option Nat} {a b c : World} (h : Mh hb o a b) (k : But q b c) (hq : a.heap.size ≤ q) : Mh hb o a c :=
  ⟨k.os.trans h.os, k.tape.trans h.tape, k.output.trans h.output, Nat.le_trans h.size k.size, fun i hi h1 h2 => (k.block i (Nat.lt_of_lt_of_le hi h.size) (by omega)).trans (h.block i hi h1 h2)⟩
theorem assert_at (n i : Int) (w : World) : (Instr.typeAssert (.iface 31 (.agg #[.int .i64 n, .int .u64 i])) 20 31 false).run Try.prog w = .ok (.agg #[.int .i64 n, .int .u64 i]) w := by kernel_rfl
theorem assert_ok (n i : Int) (w : World) : (Instr.typeAssert (.iface 31 (.agg #[.int .i64 n, .int .u64 i])) 20 31 true).run Try.prog w = .ok (.tuple #[.agg #[.int .i64 n, .int .u64 i], .bool true]) w := by kernel_rfl
/-- What a pop leaves: x told, R left. -/
def Popped (w0 w' : World) (hb : Nat) (v : Value) (l : List Ix) (x : Ix) : Prop := ∃ v' R, Hp w0 w' hb v' R ∧ v'.ownBlock = v.ownBlock ∧ l.Perm (x :: R) ∧ (∀ r ∈ l, r.idx ≤ x.idx) ∧ Heap R R.length
theorem Popped.below {w0 w W : World} {hb : Nat} {v : Value} {l : List Ix} {x : Ix} (h : Popped w0 w hb v l x) (b : Below w.heap.size w W) : Popped w0 W hb v l x := by
  obtain ⟨v', R, h1, h2⟩ := h
  exact ⟨v', R, h1.below b, h2⟩
set_option maxHeartbeats 2000000 in
set_option maxRecDepth 100000 in
theorem pop_any (hb : Nat) (v : Value) (l : List Ix) (n : Nat) (hn : l.length = n + 1) (hl : l.length ≤ 1000000) (w0 w : World) (h : Hp w0 w hb v l) (hh : Heap l l.length) :
    Calls Try.prog 44 #[.iface 49 (.pointer (some ⟨hb, 0, none⟩))] w fun e w' => ∃ x : Ix, e = .returned (.iface 31 (.agg #[.int .i64 x.node, .int .u64 x.idx])) ∧ Popped w0 w' hb v l x := by
  have hm1 := m_len h.box
  obtain ⟨N, hN⟩ : ∃ N, l.length = N := ⟨_, rfl⟩
  obtain ⟨ad, cap, rfl⟩ := h.own.form
  have hL := len_any ad N cap w
  have hm2 := m_swap h.box
  have HSW : Hid (Calls Try.prog 78 #[.slice ad N cap, .int .i64 0, .int .i64 n] w fun e w' => e = .returned (.tuple #[]) ∧ Hp w0 w' hb (.slice ad N cap) (sw l 0 n)) := by
    rw [hN] at h
    have hh2 := h
    rcases Nat.eq_zero_or_pos n with h0 | h0
    · subst h0
      refine (swap_same (.slice ad N cap) l 0 (by omega) hl w (hb + 1) h.own).mono ?_
      rintro e w' ⟨rfl, o, b⟩
      exact ⟨rfl, h.turn o b⟩
    · refine (swap_any (.slice ad N cap) l 0 n (by omega) (by omega) (by omega) hl w (hb + 1) h.own).mono ?_
      rintro e w' ⟨rfl, o, b⟩
      exact ⟨rfl, h.turn o b⟩
  have HD := Lib.hid (DnI.pop hn hh)
  have HH := Lib.hid hh
  have HL := Lib.hid (And.intro hn (hN ▸ hl))
  have f1 : IntKind.i64.wrap ((N : Int) - 1) = (n : Int) := by
    have : (N : Int) - 1 = (n : Int) := by omega
    rw [this]; exact IntWalk.i64_in _ (by omega)
  have HN := Lib.hid hN
  rw [hN] at hm1 hm2
  clear h hh hl hn hN
  go_enter Try.func44, Try.ntmps44
  go_wp2_with fail
  with_reducible refine hL.mono ?_
  clear hL hm1
  rintro e w1 ⟨rfl, rfl⟩
  go_wp2_with fail
  with_reducible refine HSW.out.mono ?_
  clear hm2 HSW
  rintro e w2 ⟨rfl, h2⟩
  have hsl : (sw l 0 n).length = n + 1 := by rw [sw_len]; exact HL.out.1
  have hD := down_any hb (.slice ad N cap) (sw l 0 n) n (by rw [hsl]; have := HL.out; have := HN.out; omega) w2 ⟨h2.box, h2.own, Mh.refl _ _ _⟩ HD.out
  have HB := Lib.hid h2.b
  clear h2 hsl
  go_wp2_with fail
  with_reducible refine hD.mono ?_
  clear hD
  rintro e w3 ⟨⟨rv, rfl⟩, m, h3, hp, hc, hhm⟩
  have h4 : Hp w0 w3 hb (.slice ad N cap) m := ⟨h3.box, h3.own, HB.out.trans h3.b⟩
  have hml : m.length = n + 1 := by rw [hp.length_eq, sw_len]; exact HL.out.1
  have hpop := hpop_any hb (.slice ad N cap) m n hml (by rw [hml]; have := HL.out; have := HN.out; omega) w0 w3 h4
  have hs := pop_spec HL.out.1 HH.out hp hc hhm
  have HS := Lib.hid hs
  clear h3 h4 hp hc hhm hml hs HB HD HH
  have hm3 := m_pop ⟨hb, 0, none⟩ w3
  generalize m.getD n z0 = x at *
  go_wp2_with fail
  with_reducible refine hpop.mono ?_
  clear hpop hm3
  rintro e w5 ⟨rfl, v', h5, hv5⟩
  have H5 : Hid (Popped w0 w5 hb (.slice ad N cap) l x) := ⟨v', _, h5, hv5, HS.out⟩
  clear h5 HS hv5
  go_wp2_with fail
  go_ret
  exact ⟨x, rfl, by rw [HN.out]; exact H5.out⟩
set_option maxHeartbeats 2000000 in
set_option maxRecDepth 100000 in
theorem take_any (hb : Nat) (v : Value) (l : List Ix) (n : Nat) (hn : l.length = n + 1) (hl : l.length ≤ 1000000) (w0 w : World) (h : Hp w0 w hb v l) (hh : Heap l l.length) :
    Calls Try.prog 32 #[.pointer (some ⟨hb, 0, none⟩)] w fun e w' => ∃ x : Ix, e = .returned (.agg #[.int .i64 x.node, .int .u64 x.idx]) ∧ Popped w0 w' hb v l x := by
  have k1 := below_box w (.cells #[.int .i64 0, .int .u64 0] 31)
  have h1 := h.below k1
  have x1 := Arr.new w 31 #[.int .i64 0, .int .u64 0]
  have hP := pop_any hb v l n hn hl _ _ ⟨h1.box, h1.own, Mh.refl _ _ _⟩ hh
  obtain ⟨q, hq⟩ : ∃ q, w.heap.size = q := ⟨_, rfl⟩
  have hbq : q ≠ hb := by have := h.box.lt; omega
  have hvq : v.ownBlock ≠ some q := fun e => by have := (h.own.lt _ e).2; omega
  have HX := Lib.hid (And.intro x1 h1.b)
  have HQ : Hid (w0.heap.size ≤ q) := by show _ ≤ _; have := h.b.size; omega
  rw [hq] at HX
  clear h hh h1 x1
  go_enter Try.func32, Try.ntmps32
  go_wp2_with fail
  with_reducible refine hP.mono ?_
  clear hP
  generalize w.alloc (.cells #[.int .i64 0, .int .u64 0] 31) = W1 at *
  rintro e w2 ⟨x, rfl, v', R, hp, hv', hr⟩
  have x2 : Arr w2 q 31 #[.int .i64 0, .int .u64 0] := HX.out.1.of (hp.b.block q HX.out.1.lt hbq (by rw [hv']; exact hvq))
  obtain ⟨x0, x1, g0, g1⟩ : w2.cell? ⟨q, 0, none⟩ = some (.int .i64 0) ∧ w2.cell? ⟨q, 1, none⟩ = some (.int .u64 0) ∧ w2.frozen? ⟨q, 0, none⟩ = false ∧ w2.frozen? ⟨q, 1, none⟩ = false := ⟨x2.cell rfl, x2.cell rfl, x2.frozen 0, x2.frozen 1⟩
  obtain ⟨xn, xi⟩ := x
  have HY : Hid (Popped w0 ((w2.setCell ⟨q, 0, none⟩ (.int .i64 xn)).setCell ⟨q, 1, none⟩ (.int .u64 xi)) hb v l ⟨xn, xi⟩ ∧ Arr ((w2.setCell ⟨q, 0, none⟩ (.int .i64 xn)).setCell ⟨q, 1, none⟩ (.int .u64 xi)) q 31 #[.int .i64 xn, .int .u64 xi]) := by
    have kb : But q w2 ((w2.setCell ⟨q, 0, none⟩ (.int .i64 xn)).setCell ⟨q, 1, none⟩ (.int .u64 xi)) := ((But.refl q w2).set _ _).set _ _
    refine ⟨⟨v', R, ⟨kb.arr hp.box (Ne.symm hbq), own_but hp.own kb (by rw [hv']; exact hvq), ?_⟩, hv', hr⟩, (x2.set 0 _).set 1 _⟩
    have hpb := hp.b
    rw [hv'] at hpb ⊢
    exact (HX.out.2.trans hpb).then_new kb HQ.out
  have hta := assert_at xn xi
  clear hp hr x2 HX hv'
  go_wp2
  generalize (w2.setCell ⟨q, 0, none⟩ (.int .i64 xn)).setCell ⟨q, 1, none⟩ (.int .u64 xi) = W3 at *
  refine bodyPost_ret (v := .agg #[.int .i64 xn, .int .u64 xi]) (results_cell_row rfl _ _ q 31 _ (0, 0) _ rfl HY.out.2 Try.underlying31 rfl (by kernel_rfl)) rfl ?_
  exact ⟨⟨xn, xi⟩, rfl, HY.out.1⟩
end Go.Proofs.Ytnodgpbahlaccaa.qm
