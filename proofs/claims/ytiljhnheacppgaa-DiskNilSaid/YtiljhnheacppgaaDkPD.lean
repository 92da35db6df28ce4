/-
  The program's Twin.
-/
import Derived.Test.YtiljhnheacppgaaDkPC
import Derived.Laws.EntriesVeiled
namespace Go.Proofs.Ytiljhnheacppgaa.dk
set_option linter.unusedVariables false
open Go.RowKit
open fl (S S_size S_append S_inj str_eq str_ne)
open rw (Arr But Row Own bnext below_box below_drew below_drewN addr_add Fr RowB)
open mp (Mp Turned kget kput kwithout kmap KSorted Ranging)

set_option maxHeartbeats 2000000 in
set_option maxRecDepth 100000 in
theorem ptwin_any (F : Nat → Prop) (p : Nat) (d : Dk) (hd : Right d) (hs : d.seen.length ≤ 1000000) (hl : d.lasts.length ≤ 1000000) (hp : d.pend.length < 1000000) (w : World) (h : PD w F p d) :
    Calls Try.prog 11 #[.pointer (some ⟨p, 0, none⟩)] w fun e w' => ∃ p2, e = .returned (.pointer (some ⟨p2, 0, none⟩)) ∧ PNew w w' p2 d ∧ Below w.heap.size w w' := by
  obtain ⟨bs, bl, Fs, Fl, pv, ts, fz, h1, h2, h3, hF⟩ := h
  obtain ⟨pa, pc, rfl⟩ := h1.o.form
  have us := hd.used
  have ul : used d.lasts ≤ d.cap := by have := hd.room 0; simpa [full] using this
  have hcap := hd.cap
  have c0 := h1.cell (j := 0) (v := .int .i64 (d.cap : Nat)) rfl
  have c1 := h1.cell (j := 1) (v := .map (some bs)) rfl
  have c2 := h1.cell (j := 2) (v := .int .i64 (used d.seen : Nat)) rfl
  have c3 := h1.cell (j := 3) (v := .map (some bl)) rfl
  have c4 := h1.cell (j := 4) (v := .slice pa ts.length pc) rfl
  have c5 := h1.cell (j := 5) (v := .int .i64 (count d.pend : Nat)) rfl
  have c6 := h1.cell (j := 6) (v := .int .i64 fz) rfl
  have htl : ts.length < 1000000 := by have : ts.length = d.pend.length := by rw [← h2, List.length_map]
                                       omega
  have H1 : Hid (Pc w p (dkCells d bs bl (.slice pa ts.length pc) fz) bs bl Fs Fl d.seen d.lasts (.slice pa ts.length pc) ts ∧ ts.map (·.2) = d.pend ∧ FuseOk d fz ∧ used d.seen ≤ 1048576 ∧ used d.lasts ≤ 1048576 ∧ d.seen.length ≤ 1000000 ∧ d.lasts.length ≤ 1000000 ∧ ts.length < 1000000) :=
    ⟨h1, h2, h3, by omega, by omega, hs, hl, htl⟩
  clear h1 h2 h3 hF hd hs hl hp us ul hcap htl
  obtain ⟨cp, hcp⟩ : ∃ cp, d.cap = cp := ⟨_, rfl⟩
  obtain ⟨us, hus⟩ : ∃ us, used d.seen = us := ⟨_, rfl⟩
  obtain ⟨cn, hcn⟩ : ∃ cn, count d.pend = cn := ⟨_, rfl⟩
  obtain ⟨tl, htl⟩ : ∃ tl, ts.length = tl := ⟨_, rfl⟩
  rw [hcp] at c0
  rw [hus] at c2
  rw [hcn] at c5
  rw [htl] at c4
  have HC : Hid (d.cap = cp ∧ used d.seen = us ∧ count d.pend = cn ∧ ts.length = tl) := ⟨hcp, hus, hcn, htl⟩
  clear hcp hus hcn htl
  obtain ⟨W1, hW1⟩ : ∃ W1, w.alloc (.cells #[.int .i64 (cp : Nat), .map (some bs), .int .i64 (us : Nat), .map (some bl), .slice pa tl pc, .int .i64 (cn : Nat), .int .i64 fz] 60) = W1 := ⟨_, rfl⟩
  have b1 : Below w.heap.size w W1 := hW1 ▸ below_box w _
  have z1 : W1.heap.size = w.heap.size + 1 := hW1 ▸ rw.size_1 _ _
  have A1 : Arr W1 w.heap.size 60 #[.int .i64 (cp : Nat), .map (some bs), .int .i64 (us : Nat), .map (some bl), .slice pa tl pc, .int .i64 (cn : Nat), .int .i64 fz] := hW1 ▸ Arr.new _ _ _
  have P1 := H1.out.1.below b1
  have hT1 := ftwin_any Fs bs d.seen H1.out.2.2.2.1 H1.out.2.2.2.2.2.1 W1.drew (P1.s.below (below_drew (Below.refl _ _)))
  have HT2 : Hid (∀ W, Below W1.heap.size W1 W → Calls Try.prog 28 #[.map (some bl)] W fun e w' => ∃ b2, e = .returned (.map (some b2)) ∧ FNew W w' b2 d.lasts ∧ Below W.heap.size W w') :=
    fun W k => ftwin_any Fl bl d.lasts H1.out.2.2.2.2.1 H1.out.2.2.2.2.2.2.1 W (P1.l.below k)
  have k1 : W1.drew.cell? ⟨p, 1, none⟩ = some (.map (some bs)) := P1.cell rfl
  have k3 : W1.drew.cell? ⟨p, 3, none⟩ = some (.map (some bl)) := P1.cell rfl
  have HP3 : Hid (∀ W, Below W1.heap.size W1 W → W.cell? ⟨p, 3, none⟩ = some (.map (some bl))) := fun W k => (P1.below k).cell rfl
  have HA : Hid (∀ W b2, Below W1.heap.size W1 W → W.cell? ⟨w.heap.size, 1, none⟩ = some (.map (some bs)) ∧ W.frozen? ⟨w.heap.size, 1, none⟩ = false ∧ (W.setCell ⟨w.heap.size, 1, none⟩ (.map (some b2))).cell? ⟨w.heap.size, 3, none⟩ = some (.map (some bl)) ∧ (W.setCell ⟨w.heap.size, 1, none⟩ (.map (some b2))).frozen? ⟨w.heap.size, 3, none⟩ = false) := by
    intro W b2 k
    have a1 := A1.below k
    have a2 := a1.set 1 (.map (some b2))
    exact ⟨a1.cell rfl, a1.frozen 1, a2.cell rfl, a2.frozen 3⟩
  have HE : Hid (∀ w2 w3 b2 b3, FNew W1.drew w2 b2 d.seen → Below W1.drew.heap.size W1.drew w2 → FNew w2 w3 b3 d.lasts → Below w2.heap.size w2 w3 →
      ∃ F2 F3, FM ((w3.setCell ⟨w.heap.size, 1, none⟩ (.map (some b2))).setCell ⟨w.heap.size, 3, none⟩ (.map (some b3))) F2 b2 d.seen ∧ FM ((w3.setCell ⟨w.heap.size, 1, none⟩ (.map (some b2))).setCell ⟨w.heap.size, 3, none⟩ (.map (some b3))) F3 b3 d.lasts ∧ (∀ k, F2 k → w.heap.size < k) ∧ (∀ k, F3 k → w.heap.size < k) ∧ (∀ k, F2 k → ¬ F3 k) ∧
        Arr ((w3.setCell ⟨w.heap.size, 1, none⟩ (.map (some b2))).setCell ⟨w.heap.size, 3, none⟩ (.map (some b3))) w.heap.size 60 #[.int .i64 (cp : Nat), .map (some b2), .int .i64 (us : Nat), .map (some b3), .slice pa tl pc, .int .i64 (cn : Nat), .int .i64 fz] ∧ Below w.heap.size w ((w3.setCell ⟨w.heap.size, 1, none⟩ (.map (some b2))).setCell ⟨w.heap.size, 3, none⟩ (.map (some b3)))) := by
    rintro w2 w3 b2 b3 ⟨F2, m2, x2⟩ k2 ⟨F3, m3, x3⟩ k3
    have k0 : Below W1.heap.size W1 w2 := (below_drew (Below.refl _ _)).trans k2
    have k4 := k0.trans (k3.mono k0.size)
    have q1 := (But.refl w.heap.size w3).set 1 (.map (some b2))
    have q2 := (But.refl w.heap.size (w3.setCell ⟨w.heap.size, 1, none⟩ (.map (some b2)))).set 3 (.map (some b3))
    have q := q1.trans q2
    have hx2 : ∀ k, F2 k → w.heap.size < k := fun k hk => by have h1 : W1.heap.size ≤ k := x2 k hk; omega
    have hx3 : ∀ k, F3 k → w.heap.size < k := fun k hk => by have := x3 k hk; have := k0.size; omega
    refine ⟨F2, F3, ((m2.below k3).fr (Fr.but (F := fun i => i = w.heap.size) q rfl) fun i hi e => by have := hx2 i hi; omega), m3.fr (Fr.but (F := fun i => i = w.heap.size) q rfl) (fun i hi e => by have := hx3 i hi; omega), hx2, hx3, fun k h2 h3 => ?_, ?_, ?_⟩
    · have := m2.lt h2
      have := x3 k h3
      omega
    · exact ((A1.below k4).set 1 (.map (some b2))).set 3 (.map (some b3))
    · exact (b1.trans (k4.mono b1.size)).trans (q.below (Nat.le_trans b1.size k4.size) (Nat.le_refl _))
  clear P1 A1
  go_enter Try.func11, Try.ntmps11
  go_upto_region 4 with (fail)
  clear hW1 c0 c1 c2 c3 c4 c5 c6
  go_cut [] from 9 to 20 (fun wx => ∃ b2 b3 F2 F3, Hid (FM wx F2 b2 d.seen ∧ FM wx F3 b3 d.lasts ∧ (∀ k, F2 k → w.heap.size < k) ∧ (∀ k, F3 k → w.heap.size < k) ∧ (∀ k, F2 k → ¬ F3 k) ∧
        Arr wx w.heap.size 60 #[.int .i64 (cp : Nat), .map (some b2), .int .i64 (us : Nat), .map (some b3), .slice pa tl pc, .int .i64 (cn : Nat), .int .i64 fz] ∧ Below w.heap.size w wx))
  case first =>
    clear H1 HC b1 z1
    go_region_with ((first
      | (go_at_call 28; with_reducible refine hT1.mono ?_; rintro e w2 ⟨b2, rfl, m2, x2⟩
         have y2 := (below_drew (Below.refl W1.heap.size W1)).trans x2
         have l2 := HP3.out w2 y2)
      | (go_at_call 28; with_reducible refine (HT2.out w2 y2).mono ?_; rintro e w3 ⟨b3, rfl, m3, x3⟩
         have y3 := y2.trans (x3.mono y2.size)
         obtain ⟨v1, v2, v3, v4⟩ := HA.out w3 b2 y3)))
    all_goals (
      have hfin := HE.out w2 w3 b2 b3 m2 x2 m3 x3
      clear v1 v2 v3 v4 y3 l2 y2 m2 x2 m3 x3 HE HA HP3 HT2 hT1 k1 k3
      go_wp2_with fail
      go_meet
      case rel => exact ⟨b2, b3, hfin⟩)
  case rest =>
    obtain ⟨b2, b3, F2, F3, H5⟩ := hcut
    clear HT2 hT1 k1 k3 HP3 HA HE b1 z1
    have hB := H5.out.2.2.2.2.2.2
    have P5 := H1.out.1.below hB
    have k4 : wc.cell? ⟨p, 4, none⟩ = some (.slice pa tl pc) := by rw [← HC.out.2.2.2]; exact P5.cell rfl
    have hC := cloneT_any (.slice pa ts.length pc) ts H1.out.2.2.2.2.2.2.2 wc P5.o
    rw [HC.out.2.2.2] at hC
    have HF : Hid (∀ v' w', Own turnSh w' wc.heap.size v' ts → Below wc.heap.size wc w' → w'.cell? ⟨w.heap.size, 4, none⟩ = some (.slice pa tl pc) ∧ w'.frozen? ⟨w.heap.size, 4, none⟩ = false ∧
        PNew w (w'.setCell ⟨w.heap.size, 4, none⟩ v') w.heap.size d ∧ Below w.heap.size w (w'.setCell ⟨w.heap.size, 4, none⟩ v')) := by
      intro v' w' o k
      have A := H5.out.2.2.2.2.2.1.below k
      have q := (But.refl w.heap.size w').set 4 v'
      have b6 : Below w.heap.size w w' := hB.trans (k.mono hB.size)
      have hv : ∀ i, v'.ownBlock = some i → w.heap.size < i := fun i hi => by
        have := (own_ge turnSh o hi).1
        have := H5.out.2.2.2.2.2.1.lt
        omega
      have P6 : Pc w' w.heap.size #[.int .i64 (cp : Nat), .map (some b2), .int .i64 (us : Nat), .map (some b3), .slice pa tl pc, .int .i64 (cn : Nat), .int .i64 fz] b2 b3 F2 F3 d.seen d.lasts v' ts :=
        ⟨A, H5.out.1.below k, H5.out.2.1.below k, own_base turnSh o (Nat.zero_le _), fun x hx => (P5.does x hx).below k, H5.out.2.2.2.2.1⟩
      refine ⟨A.cell rfl, A.frozen 4, ⟨_, PD.of_pc (d := d) (P6.set 4 v') ?_ H1.out.2.1 H1.out.2.2.1, fun i hi => ?_⟩, b6.trans (q.below b6.size (Nat.le_refl _))⟩
      · show _ = #[_, _, _, _, _, _, _]
        rw [HC.out.1, HC.out.2.1, HC.out.2.2.1]
        rfl
      · rcases hi with hi | hi | hi | hi
        · omega
        · have := H5.out.2.2.1 i hi; omega
        · have := H5.out.2.2.2.1 i hi; omega
        · have := hv i hi; omega
    clear P5 hB H1 HC H5
    go_wp2_with fail
    refine hC.mono ?_
    rintro e w6 ⟨v', rfl, o6, k6⟩
    obtain ⟨x1, x2, x3⟩ := HF.out v' w6 o6 k6
    have HS := Lib.hid x3
    obtain ⟨a6, c6, rfl⟩ := o6.form
    generalize ts.length = tm at *
    clear hC HF o6 k6 x3
    go_wp2_with fail
    go_ret
    exact ⟨_, rfl, HS.out⟩
end Go.Proofs.Ytiljhnheacppgaa.dk
