/-
  The program's New, Crash, Twin.
-/
import Derived.Test.YtpimdbnhpbjlkaaGreatDoorDkPB
namespace Go.Proofs.YtpimdbnhpbjlkaaGreatDoor.dk
set_option linter.unusedVariables false
open Go.RowKit
open fl (S S_size S_append S_inj str_eq str_ne)
open rw (Arr But Row Own bnext below_box below_drew below_drewN addr_add Fr RowB)
open mp (Mp Turned kget kput kwithout kmap KSorted Ranging)

/-- What is made anew. -/
def PNew (w w' : World) (p : Nat) (d : Dk) : Prop := ∃ F', PD w' F' p d ∧ ∀ k, F' k → w.heap.size ≤ k
theorem FM.made (w : World) : FM (w.alloc (.map #[] 0)) (fun k => k = w.heap.size) w.heap.size [] :=
  ⟨[], ⟨Mp.made w, fun f hf => (by cases hf), fun f hf => (by cases hf), fun f hf => (by cases hf)⟩, rfl, fun k => ⟨fun e => .inl e, fun h => by
    rcases h with e | ⟨f, hf, _⟩
    · exact e
    · cases hf⟩⟩
/-- What New answers. -/
def NewOut (n : Int) (w : World) (e : Ending) (w' : World) : Prop :=
  ((n < 0 ∨ 1048576 < n) ∧ e = .returned (.tuple #[.pointer none, .int .i64 1]) ∧ w' = w) ∨
  (∃ cap : Nat, n = cap ∧ cap ≤ 1048576 ∧ ∃ p, e = .returned (.tuple #[.pointer (some ⟨p, 0, none⟩), .int .i64 0]) ∧ PNew w w' p (fresh cap) ∧ Below w.heap.size w w')
set_option maxHeartbeats 1000000 in
set_option maxRecDepth 100000 in
theorem pnew_any (n : Int) (w : World) :
    Calls Tryz.prog 6 #[.int .i64 n] w fun e w' => NewOut n w e w' := by
  by_cases h : n < 0 ∨ 1048576 < n
  · rcases h with h | h
    · go_enter Tryz.func6, Tryz.ntmps6
      go_wp2_with fail
      go_ret2
      exact .inl ⟨.inl h, rfl, rfl⟩
    · have h0 : ¬ n < 0 := by omega
      have hg : n > 1048576 := h
      go_enter Tryz.func6, Tryz.ntmps6
      go_wp2_with fail
      go_ret2
      exact .inl ⟨.inr h, rfl, rfl⟩
  · obtain ⟨cap, rfl⟩ : ∃ cap : Nat, n = cap := ⟨n.toNat, by omega⟩
    have h0 : ¬ (cap : Int) < 0 := by omega
    have hg : ¬ (cap : Int) > 1048576 := by omega
    have hmm := @run_makeMap Tryz.prog
    have HP : Hid (∃ W, (((w.alloc (.map #[] 0)).alloc (.map #[] 0)).alloc (.cells #[.int .i64 (cap : Nat), .map (some w.heap.size), .int .i64 0, .map (some (w.heap.size + 1)), .slice none 0 0, .int .i64 0, .int .i64 (-1)] 57)) = W ∧ PNew w W (w.heap.size + 2) (fresh cap) ∧ Below w.heap.size w W) := by
      have b1 := below_box w (.map #[] 0)
      have z1 : (w.alloc (.map #[] 0)).heap.size = w.heap.size + 1 := rw.size_1 _ _
      have b2 := below_box (w.alloc (.map #[] 0)) (.map #[] 0)
      have z2 : ((w.alloc (.map #[] 0)).alloc (.map #[] 0)).heap.size = w.heap.size + 2 := by rw [rw.size_1, z1]
      have b3 := below_box ((w.alloc (.map #[] 0)).alloc (.map #[] 0)) (.cells #[.int .i64 (cap : Nat), .map (some w.heap.size), .int .i64 0, .map (some (w.heap.size + 1)), .slice none 0 0, .int .i64 0, .int .i64 (-1)] 57)
      have m1 := ((FM.made w).below b2).below b3
      have m2 := FM.made (w.alloc (.map #[] 0))
      rw [z1] at m2
      have m2 := m2.below b3
      have A := Arr.new ((w.alloc (.map #[] 0)).alloc (.map #[] 0)) 57 #[.int .i64 (cap : Nat), .map (some w.heap.size), .int .i64 0, .map (some (w.heap.size + 1)), .slice none 0 0, .int .i64 0, .int .i64 (-1)]
      rw [z2] at A
      refine ⟨_, rfl, ⟨_, PD.of_pc (d := fresh cap) (fz := -1) (ts := []) (bs := w.heap.size) (bl := w.heap.size + 1) (pv := .slice none 0 0) ⟨A, m1, m2, rw.Own.nil turnSh _ _, fun x hx => (by cases hx), fun k h1 h2 => by omega⟩ rfl rfl (.inr ⟨rfl, by decide, by decide⟩), fun k hk => ?_⟩, (b1.trans (b2.mono (by omega))).trans (b3.mono (by omega))⟩
      rcases hk with hk | hk | hk | hk
      · omega
      · omega
      · omega
      · cases hk
    obtain ⟨W, hW, hP⟩ := HP.out
    have HP2 := Lib.hid hP
    clear hP HP
    go_enter Tryz.func6, Tryz.ntmps6
    go_wp2_with fail
    go_ret2
    exact .inr ⟨cap, rfl, by omega, _, rfl, HP2.out⟩

/-- Another map is what is seen. -/
theorem Pc.seen' {w : World} {p : Nat} {cs : Array Value} {bs bl b2 : Nat} {Fs Fl F2 : Nat → Prop} {seen lasts seen2 : List File} {pv : Value} {ts : List TC} (h : Pc w p cs bs bl Fs Fl seen lasts pv ts) (h2 : FM w F2 b2 seen2) (hd : ∀ k, F2 k → ¬ Fl k) : Pc w p cs b2 bl F2 Fl seen2 lasts pv ts :=
  ⟨h.a, h2, h.l, h.o, h.does, hd⟩
set_option maxHeartbeats 2000000 in
set_option maxRecDepth 100000 in
theorem pcrash_any (F : Nat → Prop) (p : Nat) (d : Dk) (k : Int) (hd : Right d) (hl : d.lasts.length ≤ 100000) (hp : d.pend.length ≤ 100000) (w : World) (h : PD w F p d) :
    Calls Tryz.prog 35 #[.pointer (some ⟨p, 0, none⟩), .int .i64 k] w fun e w' => e = .returned (.int .i64 ((crash d k).1 : Nat)) ∧ Step w F p (crash d k).2 w' := by
  have c5 : w.cell? ⟨p, 5, none⟩ = some (.int .i64 (count d.pend : Nat)) := by
    obtain ⟨bs, bl, Fs, Fl, pv, ts, fz, h1, _⟩ := h
    exact h1.cell rfl
  unfold crash
  by_cases hk : k < 0 ∨ (count d.pend : Int) < k
  · rw [if_pos hk]
    have HS : Hid (Step w F p d w) := Step.same h (Below.refl _ _)
    generalize count d.pend = cp at *
    clear h hd hl hp
    rcases hk with hk | hk
    · go_enter Tryz.func35, Tryz.ntmps35
      go_wp2_with fail
      go_ret
      exact ⟨rfl, HS.out⟩
    · have h0 : ¬ k < 0 := by omega
      have hg : k > (cp : Int) := hk
      go_enter Tryz.func35, Tryz.ntmps35
      go_wp2_with fail
      go_ret
      exact ⟨rfl, HS.out⟩
  rw [if_neg hk]
  obtain ⟨K, rfl⟩ : ∃ K : Nat, k = K := ⟨k.toNat, by omega⟩
  rw [Int.toNat_natCast]
  have hK : K ≤ count d.pend := by omega
  have hS := settle_any F p d K hd hl hp hK w h
  have hroom := again_room d.lasts d.pend K hd.so hd.room
  have hcap := hd.cap
  have hlen := again_length d.lasts d.pend K
  obtain ⟨L, hL⟩ : ∃ L, again d.lasts d.pend K = L := ⟨_, rfl⟩
  rw [hL] at hS hroom hlen ⊢
  have HL : Hid (used L ≤ 1048576 ∧ L.length ≤ 1000000) := ⟨by omega, by omega⟩
  have h0 : ¬ (K : Int) < 0 := by omega
  have hg : ¬ (K : Int) > (count d.pend : Int) := by omega
  have HP := Lib.hid h.own
  clear h hd hl hp hk hroom hcap hlen hL hK
  generalize count d.pend = cp at *
  go_enter Tryz.func35, Tryz.ntmps35
  go_wp2_with fail
  refine hS.mono ?_
  rintro e w1 ⟨rfl, F1, ⟨bs, bl, Fs, Fl, pv, ts, fz, p1, p2, p3, pF⟩, f1, n1⟩
  have c3 := p1.cell (j := 3) (v := .map (some bl)) rfl
  have hT := ftwin_any Fl bl L HL.out.1 HL.out.2 w1 p1.l
  have H1 : Hid (Pc w1 p (dkCells { d with lasts := L, pend := [] } bs bl pv fz) bs bl Fs Fl d.seen L pv ts ∧ ts.map (·.2) = [] ∧ (∀ k, F1 k ↔ fo p Fs Fl pv k) ∧ Fr F w w1 ∧ Nu w F F1) := ⟨p1, p2, pF, f1, n1⟩
  clear hS p1 p2 p3 pF f1 n1 c5
  go_wp2_with fail
  refine hT.mono ?_
  rintro e w2 ⟨b2, rfl, ⟨F2, m2, x2⟩, k2⟩
  have P2 := (H1.out.1.below k2).seen' m2 (fun k hk hl => by have := x2 k hk; have := H1.out.1.l.lt hl; omega)
  have c1 : w2.cell? ⟨p, 1, none⟩ = some (.map (some bs)) := P2.cell rfl
  have f1 := P2.a.frozen 1
  have P3 := P2.set 1 (.map (some b2))
  have q1 : Hid (But p w2 (w2.setCell ⟨p, 1, none⟩ (.map (some b2)))) := (But.refl p w2).set 1 _
  obtain ⟨W3, hW3⟩ : ∃ W3, w2.setCell ⟨p, 1, none⟩ (.map (some b2)) = W3 := ⟨_, rfl⟩
  rw [hW3] at P3 q1
  have c1' : W3.cell? ⟨p, 1, none⟩ = some (.map (some b2)) := P3.cell rfl
  have hU := sum_any F2 b2 L HL.out.1 W3 P3.s
  have H3 : Hid (Pc W3 p ((dkCells { d with lasts := L, pend := [] } bs bl pv fz).setIfInBounds 1 (.map (some b2))) b2 bl F2 Fl L L pv ts ∧ Fr F w W3 ∧ ∀ k, fo p F2 Fl pv k → F k ∨ w.heap.size ≤ k) := by
    have hpF := HP.out
    refine ⟨P3, (H1.out.2.2.2.1.then_below k2).trans (G := fun i => i = p) (Fr.but q1.out rfl) fun i _ e => e ▸ hpF, fun k hk => ?_⟩
    rcases hk with hk | hk | hk | hk
    · exact .inl (hk ▸ hpF)
    · exact .inr (Nat.le_trans H1.out.2.2.2.1.size (x2 k hk))
    · exact H1.out.2.2.2.2 k ((H1.out.2.2.1 k).2 (.inr (.inr (.inl hk))))
    · exact H1.out.2.2.2.2 k ((H1.out.2.2.1 k).2 (.inr (.inr (.inr hk))))
  clear hT m2 x2 k2 P2 P3 q1
  go_upto_region 5 with (fail)
  clear hW3 c1 f1
  go_wp2_with fail
  refine hU.mono ?_
  rintro e w4 ⟨rfl, b4⟩
  have P4 := H3.out.1.below b4
  have c2 : w4.cell? ⟨p, 2, none⟩ = some (.int .i64 (used d.seen : Nat)) := P4.cell rfl
  have f2 := P4.a.frozen 2
  have P5 := P4.set 2 (.int .i64 (used L : Nat))
  have c6 : (w4.setCell ⟨p, 2, none⟩ (.int .i64 (used L : Nat))).cell? ⟨p, 6, none⟩ = some (.int .i64 fz) := P5.cell rfl
  have f6 := P5.a.frozen 6
  have P6 := P5.set 6 (.int .i64 (-1))
  have HS : Hid (Step w F p { d with seen := L, lasts := L, pend := [], fused := false } ((w4.setCell ⟨p, 2, none⟩ (.int .i64 (used L : Nat))).setCell ⟨p, 6, none⟩ (.int .i64 (-1)))) := by
    have k1 := (But.refl p w4).set 2 (.int .i64 (used L : Nat))
    have k2 := (But.refl p (w4.setCell ⟨p, 2, none⟩ (.int .i64 (used L : Nat)))).set 6 (.int .i64 (-1))
    have hpF := HP.out
    refine ⟨_, PD.of_pc (d := { d with seen := L, lasts := L, pend := [], fused := false }) (fz := -1) (bs := b2) (bl := bl) P6 rfl H1.out.2.1 (.inr ⟨rfl, by decide, by decide⟩), ?_, H3.out.2.2⟩
    exact ((H3.out.2.1.then_below b4).trans (G := fun i => i = p) (Fr.but k1 rfl) fun i _ e => e ▸ hpF).trans (G := fun i => i = p) (Fr.but k2 rfl) fun i _ e => e ▸ hpF
  generalize used d.seen = ud at *
  generalize used L = uL at *
  clear hU b4 P4 P5 P6 H1 H3 c1' c3
  go_wp2_with fail
  go_ret
  exact ⟨rfl, HS.out⟩
end Go.Proofs.YtpimdbnhpbjlkaaGreatDoor.dk
