/-
  What the reference's Turn answers: Put.
-/
import Derived.Test.YtpimdbnhpbjlkaaGreatDoorDkRef6
namespace Go.Proofs.YtpimdbnhpbjlkaaGreatDoor.dk
set_option linter.unusedVariables false
open Go.RowKit
open fl (S S_size S_append S_inj str_eq str_ne)
open rw (Arr But Row Own bnext below_box below_drew below_drewN addr_add)

set_option maxHeartbeats 4000000 in
set_option maxRecDepth 100000 in
theorem turn_2 (xb : Nat) (d : Dk) (name s : Bs) (hf : Fit d) (w : World) (h : RefD w xb d) (hA : ¬ (name.length < 1 ∨ 80 < name.length)) (ho : off d = false)  (hsl : s.length ≤ 140737488355328) (hgl : ((get d.seen name).getD []).length ≤ 140737488355328) (hu : used (after d.seen ⟨2, name, s⟩) ≤ 4611686018427387904) :
    Calls Tryz.prog 32 #[.pointer (some ⟨xb, 0, none⟩), callV ⟨2, name, s⟩] w (TurnP xb w (if d.cap < used (after d.seen ⟨2, name, s⟩) then (7, d) else (0, spend { d with seen := after d.seen ⟨2, name, s⟩, pend := d.pend ++ [⟨2, name, s⟩] }))) := by
  have HD0 := Lib.hid (fun v W h => refdone_any v d.seen ⟨2, name, s⟩ (steps ⟨2, name, s⟩) (by have := hf.n.1; omega) (Nat.le_refl _) hgl hsl W h)
  have hst0 := Lib.hid (fun W => refsteps_any ⟨2, name, s⟩ W)
  replace hu := Lib.hid hu
  have HXB : Hid (xb < w.heap.size) := h.lt
  clear hsl hgl
  generalize hP : (if d.cap < used (after d.seen ⟨2, name, s⟩) then (7, d) else (0, spend { d with seen := after d.seen ⟨2, name, s⟩, pend := d.pend ++ [⟨2, name, s⟩] })) = P
  replace hP := Lib.hid hP
  have b0 := below_box w (.cells #[.int .i64 ((2 : Nat) : Int), .string (S name), .string (S s)] 70)
  have HR : Hid (RefD (boxed w ⟨2, name, s⟩) xb d ∧ But xb w (boxed w ⟨2, name, s⟩) ∧ Below w.heap.size w (boxed w ⟨2, name, s⟩)) := ⟨h.below b0, But.of_below b0, b0⟩
  have HA := Lib.hid (Arr.new w 70 #[.int .i64 ((2 : Nat) : Int), .string (S name), .string (S s)])
  have hO := refoff_any xb d _ HR.out.1
  rw [ho] at hO
  obtain ⟨sv, lv, pv, ha, h1, _, _, o1, _, _⟩ := HR.out.1.a
  obtain ⟨c0, c1, c2, c3, c4, c5⟩ := RefD.cells ha
  obtain ⟨a, cap, rfl, hcap, hr, hnil⟩ := h1
  have HG := Lib.hid (fun W h => refget_any a cap d.seen name (by have := hf.n.1; omega) W h)
  obtain ⟨gg, hgg⟩ : ∃ g, (get d.seen name).getD [] = g := ⟨_, rfl⟩
  obtain ⟨gs, hgs⟩ : ∃ g, (get d.seen name).isSome = g := ⟨_, rfl⟩
  rw [hgg, hgs] at HG
  clear hgg hgs
  have HSV : Hid (SlF (boxed w ⟨2, name, s⟩) (.slice a d.seen.length cap) d.seen ∧ rw.Off xb (.slice a d.seen.length cap) d.seen ∧ Row fileSh (boxed w ⟨2, name, s⟩) a d.seen) := ⟨⟨a, cap, rfl, hcap, hr, hnil⟩, o1, hr⟩
  have hz := S_size name
  unfold callV
  unfold boxed at *
  obtain ⟨n, hn⟩ : ∃ n, name.length = n := ⟨_, rfl⟩
  rw [hn] at hA hz
  have hi : ¬ (n : Int) < 1 := by omega
  have hi2 : ¬ (n : Int) > 80 := by omega
  clear h b0 hn ho hA ha hr o1 hcap hnil c0 c2 c3 c4 c5
  go_enter Tryz.func32, Tryz.ntmps32
  go_wp2_with fail
  refine hO.mono ?_
  rintro e w1 ⟨rfl, rfl⟩
  clear hO
  go_upto_region 5 with (fail)
  generalize w.alloc (.cells #[.int .i64 2, .string (S name), .string (S s)] 70) = W0 at *
  have e1 : W0.drew.cell? ⟨xb, 1, none⟩ = some (.slice a d.seen.length cap) := c1
  have d1 : W0.drew.cell? ⟨w.heap.size, 1, none⟩ = some (.string (S name)) := HA.out.cell rfl
  have hG := HG.out W0.drew (HSV.out.2.2.keep _ (Nat.le_refl _) (fun _ _ _ _ => rfl))
  clear HG c1
  go_region_held3 (fun W => W.cell? ⟨xb, 1, none⟩ = some (.slice a d.seen.length cap) ∧ W.cell? ⟨w.heap.size, 1, none⟩ = some (.string (S name))) (first | (with_reducible exact ⟨e1, d1⟩) | go_keep)
    ((go_at_call 61; refine hG.mono ?_; rintro e w2 ⟨rfl, rfl⟩))
  have HA1 := Lib.hid (HA.out.below (below_drew (Below.refl _ _)))
  have HR1 : Hid (RefD W0.drew xb d ∧ But xb w W0.drew ∧ Below w.heap.size w W0.drew) := ⟨HR.out.1.below (below_drew (Below.refl _ _)), HR.out.2.1.drew, below_drew HR.out.2.2⟩
  have HS1 : Hid (SlF W0.drew (.slice a d.seen.length cap) d.seen ∧ rw.Off xb (.slice a d.seen.length cap) d.seen) := ⟨HSV.out.1.later _ (below_drew (Below.refl _ _)), HSV.out.2.1⟩
  have d0 : W0.drew.cell? ⟨w.heap.size, 0, none⟩ = some (.int .i64 2) := HA.out.cell rfl
  have d2 : W0.drew.cell? ⟨w.heap.size, 2, none⟩ = some (.string (S s)) := HA.out.cell rfl
  clear HR HSV HA hG
  generalize W0.drew = W1 at *
  obtain ⟨L, hL⟩ : ∃ L, done d.seen ⟨2, name, s⟩ (steps ⟨2, name, s⟩) = L := ⟨_, rfl⟩
  rw [hL] at HD0
  have HAf : Hid (after d.seen ⟨2, name, s⟩ = L) := by
    show _ = _
    rw [← hL]
    rfl
  have HLn : Hid (L.length ≤ d.seen.length + 1) := hL ▸ done_le _ _ _
  have HPut : Hid (put d.seen (name, s) = L) := by
    show _ = _
    rw [← hL]
    rfl
  replace hL := Lib.hid hL
  obtain ⟨sx, hsx⟩ : ∃ x, steps ⟨2, name, s⟩ = x := ⟨_, rfl⟩
  rw [hsx] at HD0 hst0
  clear hsx
  go_upto_region 10 with (fail)
  have e1' : W1.drew.cell? ⟨xb, 1, none⟩ = some (.slice a d.seen.length cap) := e1
  have d0' : W1.drew.cell? ⟨w.heap.size, 0, none⟩ = some (.int .i64 2) := d0
  have d1' : W1.drew.cell? ⟨w.heap.size, 1, none⟩ = some (.string (S name)) := d1
  have d2' : W1.drew.cell? ⟨w.heap.size, 2, none⟩ = some (.string (S s)) := d2
  have hx : xb < W1.drew.heap.size := HR1.out.1.lt
  have hb : w.heap.size < W1.drew.heap.size := HA1.out.lt
  have hst := hst0.out W1.drew
  have hS1 : SlF W1.drew (.slice a d.seen.length cap) d.seen := HS1.out.1.later _ (below_drew (Below.refl _ _))
  unfold callV at hst HD0
  clear hst0 e1 d0 d1 d2
  go_region_held3 (fun W => W.cell? ⟨xb, 1, none⟩ = some (.slice a d.seen.length cap) ∧ W.cell? ⟨w.heap.size, 0, none⟩ = some (.int .i64 2) ∧ W.cell? ⟨w.heap.size, 1, none⟩ = some (.string (S name)) ∧ W.cell? ⟨w.heap.size, 2, none⟩ = some (.string (S s)))
    (first | (with_reducible exact ⟨e1', d0', d1', d2'⟩) | exact ⟨(b2.cell (p := ⟨xb, 1, none⟩) hx).trans e1', (b2.cell (p := ⟨w.heap.size, 0, none⟩) hb).trans d0', (b2.cell (p := ⟨w.heap.size, 1, none⟩) hb).trans d1', (b2.cell (p := ⟨w.heap.size, 2, none⟩) hb).trans d2'⟩ | exact ⟨(b3.cell (p := ⟨xb, 1, none⟩) (Nat.lt_of_lt_of_le hx b2.size)).trans ((b2.cell (p := ⟨xb, 1, none⟩) hx).trans e1'), (b3.cell (p := ⟨w.heap.size, 0, none⟩) (Nat.lt_of_lt_of_le hb b2.size)).trans ((b2.cell (p := ⟨w.heap.size, 0, none⟩) hb).trans d0'), (b3.cell (p := ⟨w.heap.size, 1, none⟩) (Nat.lt_of_lt_of_le hb b2.size)).trans ((b2.cell (p := ⟨w.heap.size, 1, none⟩) hb).trans d1'), (b3.cell (p := ⟨w.heap.size, 2, none⟩) (Nat.lt_of_lt_of_le hb b2.size)).trans ((b2.cell (p := ⟨w.heap.size, 2, none⟩) hb).trans d2')⟩ | go_keep)
    ((first
      | (go_at_call 37; refine hst.mono ?_; rintro e w2 ⟨rfl, b2⟩)
      | (go_at_call 62; refine (HD0.out _ _ (hS1.later _ b2)).mono ?_; rintro e w3 ⟨⟨u, rfl, hu3, ho3⟩, b3⟩)))
  have B3 : Below W1.drew.heap.size W1.drew w3 := b2.trans (b3.mono b2.size)
  have hO3 : rw.Off xb u L := by
    rcases ho3 with rfl | o
    · intro hne
      refine HS1.out.2 fun h0 => hne ?_
      obtain ⟨a8, c8, e8, _⟩ := hu3
      have hl7 : (d.seen.length : Nat) = L.length := by injection e8
      exact List.eq_nil_of_length_eq_zero (by rw [← hl7, h0]; rfl)
    · exact o.off _ (Nat.lt_of_lt_of_le hx b2.size)
  have HL : Hid (RefD w3 xb d ∧ But xb w w3 ∧ SlF w3 u L ∧ rw.Off xb u L ∧ Arr w3 w.heap.size 70 #[.int .i64 ((2 : Nat) : Int), .string (S name), .string (S s)]) :=
    ⟨(HR1.out.1.below (below_drew (Below.refl _ _))).below B3, HR1.out.2.1.drew.then_below B3, hu3, hO3, (HA1.out.below (below_drew (Below.refl _ _))).below B3⟩
  clear B3 hO3 hu3 ho3 b2 b3 hS1 hst hx hb e1' d0' d1' d2' HA1 HR1 HS1 HD0
  obtain ⟨ub, ud, rfl, _⟩ := id HL.out.2.2.1
  go_upto_region 12 with (fail)
  obtain ⟨svx, lvx, pvx, hax, hsx, _⟩ := HL.out.1.a
  obtain ⟨xa, xc, rfl, _⟩ := id hsx
  have hW := refwith_any (.slice xa d.seen.length xc) d.seen name s (by have := hf.n.1; omega) w3.drew (hsx.later _ (below_drew (Below.refl _ _)))
  have e1 : w3.drew.cell? ⟨xb, 1, none⟩ = some (.slice xa d.seen.length xc) := hax.cell rfl
  have d1 : w3.drew.cell? ⟨w.heap.size, 1, none⟩ = some (.string (S name)) := HL.out.2.2.2.2.cell rfl
  have d2 : w3.drew.cell? ⟨w.heap.size, 2, none⟩ = some (.string (S s)) := HL.out.2.2.2.2.cell rfl
  have hx : xb < w3.drew.heap.size := HL.out.1.lt
  have hb : w.heap.size < w3.drew.heap.size := HL.out.2.2.2.2.lt
  clear hax hsx
  go_region_held3 (fun W => W.cell? ⟨xb, 1, none⟩ = some (.slice xa d.seen.length xc) ∧ W.cell? ⟨w.heap.size, 1, none⟩ = some (.string (S name)) ∧ W.cell? ⟨w.heap.size, 2, none⟩ = some (.string (S s))) (first | (with_reducible exact ⟨e1, d1, d2⟩) | exact ⟨(b4.cell (p := ⟨xb, 1, none⟩) hx).trans e1, (b4.cell (p := ⟨w.heap.size, 1, none⟩) hb).trans d1, (b4.cell (p := ⟨w.heap.size, 2, none⟩) hb).trans d2⟩ | go_keep)
    ((go_at_call 63; refine hW.mono ?_; rintro e w4 ⟨⟨u2, rfl, o4⟩, b4⟩))
  rw [HPut.out] at o4
  have HL2 : Hid (RefD w4 xb d ∧ But xb w w4 ∧ SlF w4 u2 L ∧ rw.Off xb u2 L ∧ Arr w4 w.heap.size 70 #[.int .i64 ((2 : Nat) : Int), .string (S name), .string (S s)]) :=
    ⟨(HL.out.1.below (below_drew (Below.refl _ _))).below b4, HL.out.2.1.drew.then_below b4, o4.sl, o4.off _ hx, (HL.out.2.2.2.2.below (below_drew (Below.refl _ _))).below b4⟩
  clear HL hW e1 d1 d2 hx hb o4 b4 HPut
  obtain ⟨ua, uc, rfl, _⟩ := id HL2.out.2.2.1
  go_upto_region 13 with (fail)
  obtain ⟨sv3, lv3, pv3, ha3, _, s2, s3, _, o2, o3⟩ := HL2.out.1.a
  have e0 : w4.drew.cell? ⟨xb, 0, none⟩ = some (.int .i64 (d.cap : Nat)) := ha3.cell rfl
  have hU := refused_any (.slice ua L.length uc) L (by have := hf.n.1; have := HLn.out; omega) (HAf.out ▸ hu.out) w4.drew (HL2.out.2.2.1.later _ (below_drew (Below.refl _ _)))
  go_region_held3 (fun W => W.cell? ⟨xb, 0, none⟩ = some (.int .i64 (d.cap : Nat))) (first | (with_reducible exact e0) | go_keep)
    ((go_at_call 11; refine hU.mono ?_; rintro e wv ⟨rfl, rfl⟩))
  clear hU e0
  by_cases hc : d.cap < used L
  · have hci : ((used L : Nat) : Int) > (d.cap : Int) := by omega
    have HP : Hid (P = (7, d)) := by
      show P = _
      rw [← hP.out, HAf.out, if_pos hc]
    have HE : Hid (RefD w4.drew xb d ∧ But xb w w4.drew) := ⟨HL2.out.1.below (below_drew (Below.refl _ _)), HL2.out.2.1.drew⟩
    clear hc ha3 HL2
    generalize used L = ul at *
    generalize w4.drew = W4 at *
    go_wp2_with fail
    go_ret
    rw [HP.out]
    exact ⟨rfl, HE.out.1, HE.out.2⟩
  have hci : ¬ ((used L : Nat) : Int) > (d.cap : Int) := by omega
  have HP : Hid (P = (0, spend { d with seen := L, pend := d.pend ++ [⟨2, name, s⟩] })) := by
    show P = _
    rw [← hP.out, HAf.out, if_neg hc]
  have G4 : Hid (Arr w4.drew xb 42 (diskCells d sv3 lv3 pv3) ∧ SlF w4.drew (.slice ua L.length uc) L ∧ rw.Off xb (.slice ua L.length uc) L ∧ SlF w4.drew lv3 d.lasts ∧ rw.Off xb lv3 d.lasts ∧ SlC w4.drew pv3 d.pend ∧ rw.Off xb pv3 d.pend ∧ But xb w w4.drew ∧ Arr w4.drew w.heap.size 70 #[.int .i64 ((2 : Nat) : Int), .string (S name), .string (S s)]) :=
    have r := below_drew (Below.refl w4.heap.size w4)
    ⟨ha3.below r, HL2.out.2.2.1.later _ r, HL2.out.2.2.2.1, s2.later _ r, o2, s3.later _ r, o3, HL2.out.2.1.drew, HL2.out.2.2.2.2.below r⟩
  clear ha3 s2 s3 o2 o3 HL2 hc hP HAf hL HLn
  generalize used L = ul at *
  generalize w4.drew = W4 at *
  have q1 : W4.cell? ⟨xb, 1, none⟩ = some sv3 := G4.out.1.cell rfl
  have f1 := G4.out.1.frozen 1
  go_upto_region 16 with (fail)
  obtain ⟨W5, hW5⟩ : ∃ W, W4.setCell ⟨xb, 1, none⟩ (.slice ua L.length uc) = W := ⟨_, rfl⟩
  rw [hW5]
  obtain ⟨pa, pc, rfl, hpc, hpr, hpn⟩ := G4.out.2.2.2.2.2.1
  have G5 : Hid (Arr W5 xb 42 (diskCells { d with seen := L } (.slice ua L.length uc) lv3 (.slice pa d.pend.length pc)) ∧ SlF W5 (.slice ua L.length uc) L ∧ rw.Off xb (.slice ua L.length uc) L ∧ SlF W5 lv3 d.lasts ∧ rw.Off xb lv3 d.lasts ∧ SlC W5 (.slice pa d.pend.length pc) d.pend ∧ But xb w W5 ∧ Arr W5 w.heap.size 70 #[.int .i64 ((2 : Nat) : Int), .string (S name), .string (S s)]) := by
    rw [← hW5]
    have k := (But.refl xb W4).set 1 (.slice ua L.length uc)
    exact ⟨G4.out.1.set 1 _, G4.out.2.1.but _ k G4.out.2.2.1, G4.out.2.2.1, G4.out.2.2.2.1.but _ k G4.out.2.2.2.2.1, G4.out.2.2.2.2.1, G4.out.2.2.2.2.2.1.but _ k G4.out.2.2.2.2.2.2.1, G4.out.2.2.2.2.2.2.2.1.set 1 _, k.arr G4.out.2.2.2.2.2.2.2.2 (Nat.ne_of_gt HXB.out)⟩
  clear hW5 G4 q1 f1 hpc hpr hpn
  have HS : Hid (∀ W, Below W5.drew.heap.size W5.drew W → W.cell? ⟨xb, 3, none⟩ = some (.slice pa d.pend.length pc) ∧ W.frozen? ⟨xb, 3, none⟩ = false ∧ W.cell? ⟨w.heap.size, 0, none⟩ = some (.int .i64 2) ∧ W.cell? ⟨w.heap.size, 1, none⟩ = some (.string (S name)) ∧ W.cell? ⟨w.heap.size, 2, none⟩ = some (.string (S s))) := fun W hb => by
    have a1 := (G5.out.1.below (below_drew (Below.refl _ _))).below hb
    have a2 := (G5.out.2.2.2.2.2.2.2.below (below_drew (Below.refl _ _))).below hb
    exact ⟨a1.cell rfl, a1.frozen 3, a2.cell rfl, a2.cell rfl, a2.cell rfl⟩
  have HPd : Hid (∀ W, Below W5.drew.heap.size W5.drew W → SlC W (.slice pa d.pend.length pc) d.pend) := fun W hb => (G5.out.2.2.2.2.2.1.later _ (below_drew (Below.refl _ _))).later _ hb
  have hpl : d.pend.length + 1 ≤ 34359738368 := by have := hf.n; omega
  obtain ⟨c, hcc⟩ : ∃ c : Call, c = ⟨2, name, s⟩ := ⟨_, rfl⟩
  have hbE : Hid (Below W5.drew.heap.size W5.drew (W5.drew.alloc noObj)) := below_box _ _
  have hbC : Hid (Below W5.drew.heap.size W5.drew (W5.drew.alloc (callObj ⟨2, name, s⟩))) := below_box _ _
  have hbEC : Hid (Below W5.drew.heap.size W5.drew ((W5.drew.alloc noObj).alloc (callObj ⟨2, name, s⟩))) := bb hbE.out _ hbE.out.size
  have hbCE : Hid (Below W5.drew.heap.size W5.drew ((W5.drew.alloc (callObj ⟨2, name, s⟩)).alloc noObj)) := bb hbC.out _ hbC.out.size
  have oE : Hid (Own callSh (W5.drew.alloc noObj) W5.drew.heap.size (.slice (some ⟨W5.drew.heap.size, 0, none⟩) 0 0) []) := made _ _ (Nat.le_refl _)
  have oEC : Hid (Own callSh ((W5.drew.alloc noObj).alloc (callObj ⟨2, name, s⟩)) W5.drew.heap.size (.slice (some ⟨W5.drew.heap.size, 0, none⟩) 0 0) []) := oE.out.below _ (below_box _ _)
  have oCE : Hid (Own callSh ((W5.drew.alloc (callObj ⟨2, name, s⟩)).alloc noObj) W5.drew.heap.size (.slice (some ⟨W5.drew.heap.size + 1, 0, none⟩) 0 0) []) := by
    have := made (W5.drew.alloc (callObj ⟨2, name, s⟩)) W5.drew.heap.size hbC.out.size
    rwa [alloc_size] at this
  have lEC : Hid (SlC ((W5.drew.alloc noObj).alloc (callObj ⟨2, name, s⟩)) (.slice (some ⟨W5.drew.heap.size + 1, 0, none⟩) 1 1) [⟨2, name, s⟩]) := by
    have := lit (W5.drew.alloc noObj) ⟨2, name, s⟩
    rwa [alloc_size] at this
  have lCE : Hid (SlC ((W5.drew.alloc (callObj ⟨2, name, s⟩)).alloc noObj) (.slice (some ⟨W5.drew.heap.size, 0, none⟩) 1 1) [⟨2, name, s⟩]) := (lit W5.drew ⟨2, name, s⟩).later _ (below_box _ _)
  clear hcc c
  have y0 : W5.drew.cell? ⟨xb, 3, none⟩ = some (.slice pa d.pend.length pc) := (HS.out _ (Below.refl _ _)).1
  have yE : (W5.alloc (.cells #[] 70)).drew.cell? ⟨xb, 3, none⟩ = some (.slice pa d.pend.length pc) := (HS.out _ hbE.out).1
  have yC : (W5.alloc (.cells #[.int .i64 2, .string (S name), .string (S s)] 70)).drew.cell? ⟨xb, 3, none⟩ = some (.slice pa d.pend.length pc) := (HS.out _ hbC.out).1
  have yEC : ((W5.alloc (.cells #[] 70)).alloc (.cells #[.int .i64 2, .string (S name), .string (S s)] 70)).drew.cell? ⟨xb, 3, none⟩ = some (.slice pa d.pend.length pc) := (HS.out _ hbEC.out).1
  have yCE : ((W5.alloc (.cells #[.int .i64 2, .string (S name), .string (S s)] 70)).alloc (.cells #[] 70)).drew.cell? ⟨xb, 3, none⟩ = some (.slice pa d.pend.length pc) := (HS.out _ hbCE.out).1
  have x00 : W5.drew.cell? ⟨w.heap.size, 0, none⟩ = some (.int .i64 2) := (HS.out _ (Below.refl _ _)).2.2.1
  have x0E : (W5.alloc (.cells #[] 70)).drew.cell? ⟨w.heap.size, 0, none⟩ = some (.int .i64 2) := (HS.out _ hbE.out).2.2.1
  have x10 : W5.drew.cell? ⟨w.heap.size, 1, none⟩ = some (.string (S name)) := (HS.out _ (Below.refl _ _)).2.2.2.1
  have x1E : (W5.alloc (.cells #[] 70)).drew.cell? ⟨w.heap.size, 1, none⟩ = some (.string (S name)) := (HS.out _ hbE.out).2.2.2.1
  have x20 : W5.drew.cell? ⟨w.heap.size, 2, none⟩ = some (.string (S s)) := (HS.out _ (Below.refl _ _)).2.2.2.2
  have x2E : (W5.alloc (.cells #[] 70)).drew.cell? ⟨w.heap.size, 2, none⟩ = some (.string (S s)) := (HS.out _ hbE.out).2.2.2.2
  go_region_law
    ((first
      | (refine step_grow callSh rfl _ _ rfl rfl W5.drew.heap.size _ (.slice pa d.pend.length pc) [] d.pend rfl rfl (by show 0 + _ ≤ _; omega) (by first | exact oE.out | exact oEC.out | exact oCE.out) (by first | exact hbE.out.size | exact hbEC.out.size | exact hbCE.out.size) (by first | exact HPd.out _ hbE.out | exact HPd.out _ hbEC.out | exact HPd.out _ hbCE.out) ?_
         intro a7 c7 w7 O7 b7 g7
         have B7 : Below W5.drew.heap.size W5.drew w7 := by first | exact hbE.out.trans b7 | exact hbEC.out.trans b7 | exact hbCE.out.trans b7
         have x07 : w7.cell? ⟨w.heap.size, 0, none⟩ = some (.int .i64 2) := (HS.out _ B7).2.2.1
         have x17 : w7.cell? ⟨w.heap.size, 1, none⟩ = some (.string (S name)) := (HS.out _ B7).2.2.2.1
         have x27 : w7.cell? ⟨w.heap.size, 2, none⟩ = some (.string (S s)) := (HS.out _ B7).2.2.2.2)
      | (refine step_grow callSh rfl _ _ rfl rfl W5.drew.heap.size _ _ ([] ++ d.pend) [⟨2, name, s⟩] rfl rfl (by show (List.length d.pend) + 1 ≤ _; omega) (by first | exact O7 | exact O7.below _ (below_box _ _)) (by first | exact B7.size | exact (bb B7 _ B7.size).size) (by first | exact lit _ _ | exact lit_grown (r := some W5.drew.heap.size) lEC.out g7 (by simp) g7.size | exact lit_grown (r := some (W5.drew.heap.size + 1)) lCE.out g7 (by simp) g7.size) ?_
         intro a8 c8 w8 O8 b8 g8
         have B8 : Below W5.drew.heap.size W5.drew w8 := by first | exact B7.trans b8 | exact (bb B7 _ B7.size).trans b8
         have z1 : w8.cell? ⟨xb, 3, none⟩ = some (.slice pa d.pend.length pc) := (HS.out _ B8).1
         have z2 : w8.frozen? ⟨xb, 3, none⟩ = false := (HS.out _ B8).2.1)))
  all_goals (
    have X9 : Hid (RefD (w8.setCell ⟨xb, 3, none⟩ (.slice a8 (d.pend.length + 1) c8)) xb { d with seen := L, pend := d.pend ++ [⟨2, name, s⟩] } ∧ But xb w (w8.setCell ⟨xb, 3, none⟩ (.slice a8 (d.pend.length + 1) c8))) := by
      have h9 := O8.sl
      have f9 := O8.off _ (show xb < W5.drew.heap.size from G5.out.1.lt)
      rw [List.nil_append, List.length_append] at h9 f9
      have r := (below_drew (Below.refl W5.heap.size W5)).trans B8
      exact ⟨RefD.store (G5.out.1.below r) 3 _ rfl (G5.out.2.1.later _ r) (G5.out.2.2.2.1.later _ r) h9 G5.out.2.2.1 G5.out.2.2.2.2.1 f9, (G5.out.2.2.2.2.2.2.1.then_below r).set 3 _⟩
    have hS9 := refspend_any xb { d with seen := L, pend := d.pend ++ [⟨2, name, s⟩] } hf.l _ X9.out.1
    clear z1 z2 O8 b8 g8 B8 O7 b7 g7 B7 y0 yE yC yEC yCE x00 x0E x10 x1E x20 x2E x07 x17 x27 HS HPd hbE hbC hbEC hbCE oE oEC oCE lEC lCE G5
    go_wp2_with fail
    refine hS9.mono ?_
    rintro e w9 ⟨rfl, r9, b9⟩
    have Y9 := Lib.hid (And.intro r9 (X9.out.2.trans b9))
    clear hS9 X9 r9 b9
    go_wp2_with fail
    go_ret
    rw [HP.out]
    exact ⟨rfl, Y9.out.1, Y9.out.2⟩)
end Go.Proofs.YtpimdbnhpbjlkaaGreatDoor.dk
