/-
  What the program's Concat, changes, Change answer.
-/
import Derived.Test.YtiaggnpkmigbhaaDoorFlagProg2
import Derived.Deep.WholeRow
namespace Go.Proofs.YtiaggnpkmigbhaaDoor.fl
open Go.RowKit Go.Shelf

set_option maxHeartbeats 2000000 in
set_option maxRecDepth 100000 in
theorem concat_any (u u' : Value) (l m : List (List UInt8)) (vb c : Nat) (hl : l.length ≤ 1000) (hm : m.length ≤ 1000) (w : World) (hu : Sl w u l) (hu' : Sl w u' m)
    (h0 : w.cell? ⟨vb, 0, none⟩ = some u) (h1 : w.cell? ⟨vb, 1, none⟩ = some u') :
    Calls Tryd.prog 66 #[.slice (some ⟨vb, 0, none⟩) 2 c] w fun e w' => (∃ v, e = .returned v ∧ Sl w' v (l ++ m)) ∧ Below w.heap.size w w' := by
  have hvb := Lib.lt_of_cell h0
  have HU := Lib.hid (And.intro hu hu')
  obtain ⟨a, ca, rfl, _⟩ := hu
  obtain ⟨a', ca', rfl, _⟩ := hu'
  have hgr := Lib.hid (fun W => grow_any (l.length + m.length) (by omega) W)
  have hs1 : IntKind.i64.wrap ((l.length : Int)) = (l.length : Int) := by rw [IntKind.wrap_i64]; omega
  have hs2 : IntKind.i64.wrap ((l.length : Int) + (m.length : Int)) = ((l.length + m.length : Nat) : Int) := by rw [IntKind.wrap_i64]; omega
  have hp1 : ¬ ((l.length : Int) < 0) := by omega
  have hp2 : ¬ (((l.length + m.length : Nat) : Int) < 0) := by omega
  go_enter Tryd.func66, Tryd.ntmps66
  go_wp2
  refine wp_loop_rounds 3 ?_
  rw [rounds_succ]
  go_wp2
  rw [rounds_succ]
  go_wp2
  rw [rounds_succ]
  have hg2 := hgr.out w
  go_wp2_with fail
  refine hg2.mono ?_
  rintro e w1 ⟨⟨v, rfl, hown⟩, b1⟩
  have h0' := (b1.cell (p := ⟨vb, 0, none⟩) hvb).trans h0
  have h1' := (b1.cell (p := ⟨vb, 1, none⟩) hvb).trans h1
  obtain ⟨v2, w2, hr2, ho2, hg2'⟩ := append_row 50 Tryd.underlying50 w.heap.size v [] l _ (by simp; omega) w1 hown b1.size (HU.out.1.later b1)
  have hb2 : Below w.heap.size w1 w2 := below_own hg2' hown (Nat.le_refl _) b1.size
  have h1'' := (hb2.cell (p := ⟨vb, 1, none⟩) hvb).trans h1'
  have hB2 := b1.trans hb2
  obtain ⟨v3, w3, hr3, ho3, hg3⟩ := append_row 50 Tryd.underlying50 w.heap.size v2 ([] ++ l) m _ (by simp; omega) w2 ho2 hB2.size (HU.out.2.later hB2)
  have hB3 := hB2.trans (below_own hg3 ho2 (Nat.le_refl _) hB2.size)
  have hsl := sl_own ho3
  rw [List.nil_append] at hsl
  have HS := Lib.hid hsl
  clear hsl ho3 ho2 hg3 hb2 hg2' hown hgr hg2 b1 hB2 h0 h1
  go_wp2
  refine wp_loop_rounds 3 ?_
  rw [rounds_succ]
  go_wp2_with (at_builtin; refine Lib.wpList_append_run _ rfl _ _ _ _ rfl _ _ rfl rfl _ _ (hr2 _) ?_)
  rw [rounds_succ]
  go_wp2_with (at_builtin; refine Lib.wpList_append_run _ rfl _ _ _ _ rfl _ _ rfl rfl _ _ (hr3 _) ?_)
  rw [rounds_succ]
  go_wp2
  go_ret
  exact ⟨⟨_, rfl, HS.out⟩, hB3⟩

set_option maxRecDepth 100000 in
theorem add_any (u u' : Value) (l m : List (List UInt8)) (hl : l.length ≤ 1000) (hm : m.length ≤ 1000) (w : World) (hu : Sl w u l) (hu' : Sl w u' m) :
    Calls Tryd.prog 51 #[u, u'] w fun e w' => (∃ v, e = .returned v ∧ Sl w' v (l ++ m)) ∧ Below w.heap.size w w' := by
  have hb : Below w.heap.size w (w.alloc (.cells #[u, u'] 50)) := (Below.refl _ w).alloc (Nat.le_refl _) _
  have hc := concat_any u u' l m w.heap.size 2 hl hm (w.alloc (.cells #[u, u'] 50)) (hu.later hb) (hu'.later hb) (by rw [World.cell?_alloc_at _ _ _ _ rfl]; rfl) (by rw [World.cell?_alloc_at _ _ _ _ rfl]; rfl)
  obtain ⟨a, ca, rfl, _⟩ := hu
  obtain ⟨a', ca', rfl, _⟩ := hu'
  have HB := Lib.hid hb
  clear hb
  go_enter Tryd.func51, Tryd.ntmps51
  go_wp2_with fail
  refine hc.mono ?_
  rintro e w1 ⟨⟨v, rfl, a2, c2, rfl, h3⟩, b1⟩
  have HH := Lib.hid (And.intro h3 (HB.out.trans (b1.mono HB.out.size)))
  clear hc h3 b1
  go_wp2_with fail
  go_ret
  exact ⟨⟨_, rfl, a2, c2, by rw [List.length_append]; rfl, HH.out.1⟩, HH.out.2⟩

/-- What may be done to a set, as it lies. -/
def doneC : Array Value := #[.func (.func 50) #[] #[], .func (.func 51) #[] #[], .func (.func 52) #[] #[]]
theorem doneC_one : doneC.all (·.oneCell') = true := by simp [doneC, Value.oneCell']
set_option maxRecDepth 100000 in
theorem changes_any (w : World) :
    Calls Tryd.prog 38 #[] w fun e w' => e = .returned (.agg doneC) ∧ Below w.heap.size w w' := by
  go_enter Tryd.func38, Tryd.ntmps38
  go_wp2_with (refine wpList_store_row rfl 58 (.tmp 0) (.tmp 1) rfl w.heap.size doneC rfl rfl 58 _ (heap_alloc_new w _) (by kernel_rfl) (by kernel_rfl) doneC_one ?_; rw [World.setRow_alloc_new])
  refine bodyPost_ret (results_cell_row rfl _ _ w.heap.size 58 doneC (0, 0) _ rfl (heap_alloc_new w _) Tryd.underlying58 rfl (by kernel_rfl)) rfl ?_
  exact ⟨rfl, (Below.refl _ w).alloc (Nat.le_refl _) _⟩
set_option maxHeartbeats 4000000 in
set_option maxRecDepth 100000 in
theorem change_any (a a' : Option Addr) (cap cap' : Nat) (l bs : List (List UInt8)) (how : Int) (hl : l.length ≤ 140737488355328) (hb' : bs.length ≤ 140737488355328) (hx : Short l) (hy : Short bs) (w : World)
    (hu : Sl w (.slice a l.length cap) l) (hu' : Sl w (.slice a' bs.length cap') bs) (hS : Sys w) :
    Calls Tryd.prog 20 #[.slice a l.length cap, .int .i64 how, .slice a' bs.length cap'] w fun e w' => (∃ v, e = .returned (.tuple #[v, .int .i64 ((change l how bs).2 : Nat)]) ∧ Sl w' v (change l how bs).1) ∧ Below w.heap.size w w' := by
  have hl1 := right_any a cap l hl hx
  have hl2 := right_any a' cap' bs hb' hy
  have hrl : RowS w a l := by
    obtain ⟨_, _, he, h, _⟩ := hu
    cases he; exact h
  have hrb : RowS w a' bs := by
    obtain ⟨_, _, he, h, _⟩ := hu'
    cases he; exact h
  have HU := Lib.hid (And.intro hrl hrb)
  have HSL := Lib.hid (And.intro hu hu')
  have HS := Lib.hid hS
  clear hu hu' hS hrl hrb hx hy
  unfold right at hl1 hl2
  by_cases hrl : IsRight l
  · by_cases hrb : IsRight bs
    · rw [decide_eq_true hrl] at hl1
      rw [decide_eq_true hrb] at hl2
      have hln := hrl.n
      have hbn := hrb.n
      have HRL := Lib.hid hrl
      have HRB := Lib.hid hrb
      clear hrl hrb
      by_cases h0 : how = 0
      · subst h0
        have hch := change_make HRL.out HRB.out (how := 0) (by omega) (by omega)
        have HBY := body_right HRL.out HRB.out 0
        have HP : Hid (change l 0 bs = make (body 0 l bs)) := Lib.hid hch
        have HSH : Hid (Short (body 0 l bs)) := Lib.hid (fun x hx => by have := (canon_form (HBY x hx)).1; omega)
        have HBD : Hid (body 0 l bs = bs) := Lib.hid (by unfold body; rw [if_pos rfl])
        clear hch HBY
        go_enter Tryd.func20, Tryd.ntmps20
        go_wp2_with fail
        refine (changes_any _).mono ?_
        rintro e w1 ⟨rfl, b1⟩
        have HD : Hid ((w1.alloc (.cells doneC 58)).heap[w1.heap.size]? = some (.cells doneC 58 (0, 0)) ∧ Below w.heap.size w (w1.alloc (.cells doneC 58))) := Lib.hid ⟨heap_alloc_new w1 _, b1.trans ((Below.refl _ w1).alloc b1.size _)⟩
        go_wp2_with (refine wpList_store_row rfl 58 (.tmp 8) (.tmp 9) rfl w1.heap.size doneC rfl rfl 58 _ (heap_alloc_new w1 _) (by kernel_rfl) (by kernel_rfl) doneC_one ?_; rw [World.setRow_alloc_new])
        obtain ⟨D, hDn⟩ : ∃ D, w1.heap.size = D := ⟨_, rfl⟩
        rw [hDn] at HD
        have hDs : (w1.alloc (.cells doneC 58)).heap.size = D + 1 := by rw [heap_alloc_size, hDn]
        rw [hDn]
        clear hDn
        generalize w1.alloc (.cells doneC 58) = w2 at *
        refine (hl1 _ (HU.out.1.later HD.out.2) (HS.out.next HD.out.2)).mono ?_
        rintro e w3 ⟨rfl, b3⟩
        have HB3 := Lib.hid (HD.out.2.trans (b3.mono HD.out.2.size))
        go_wp2_with fail
        refine (hl2 _ (HU.out.2.later HB3.out) (HS.out.next HB3.out)).mono ?_
        rintro e w4 ⟨rfl, b4⟩
        have HB4 := Lib.hid (HB3.out.trans (b4.mono HB3.out.size))
        have hcell : w4.cell? ⟨D, 0, none⟩ = some (.func (.func 50) #[] #[]) := by
          rw [cell_of_row w4 D 0 doneC 58 (0, 0) ((b4.block D (by have := b3.size; omega)).trans ((b3.block D (by omega)).trans HD.out.1))]; rfl
        clear hl1 hl2 b1 b3 b4
        go_wp2_with fail
        refine (become_any _ _ _).mono ?_
        rintro e w5 ⟨rfl, rfl⟩
        have HB5 := HB4
        have hmk := make_any a' cap' bs (by omega) (by have := HSH.out; rwa [HBD.out] at this) w5 (HU.out.2.later HB4.out) (HS.out.next HB4.out)
        go_wp2_with fail
        refine hmk.mono ?_
        rintro e w6 ⟨⟨v6, rfl, a6, c6, rfl, h6⟩, b6⟩
        have HH := Lib.hid (And.intro h6 (HB5.out.trans (b6.mono HB5.out.size)))
        clear hmk h6 b6
        go_wp2_with fail
        refine bodyPost_ret (results_tmp2 rfl _ _ _) rfl ?_
        rw [HP.out, HBD.out]
        exact ⟨⟨_, rfl, a6, c6, rfl, HH.out.1⟩, HH.out.2⟩
      · by_cases h1 : how = 1
        · subst h1
          have hch := change_make HRL.out HRB.out (how := 1) (by omega) (by omega)
          have HBY := body_right HRL.out HRB.out 1
          have HP : Hid (change l 1 bs = make (body 1 l bs)) := Lib.hid hch
          have HSH : Hid (Short (body 1 l bs)) := Lib.hid (fun x hx => by have := (canon_form (HBY x hx)).1; omega)
          have HBD : Hid (body 1 l bs = l ++ bs) := Lib.hid (by unfold body; rw [if_neg (by omega), if_pos rfl])
          clear hch HBY
          go_enter Tryd.func20, Tryd.ntmps20
          go_wp2_with fail
          refine (changes_any _).mono ?_
          rintro e w1 ⟨rfl, b1⟩
          have HD : Hid ((w1.alloc (.cells doneC 58)).heap[w1.heap.size]? = some (.cells doneC 58 (0, 0)) ∧ Below w.heap.size w (w1.alloc (.cells doneC 58))) := Lib.hid ⟨heap_alloc_new w1 _, b1.trans ((Below.refl _ w1).alloc b1.size _)⟩
          go_wp2_with (refine wpList_store_row rfl 58 (.tmp 8) (.tmp 9) rfl w1.heap.size doneC rfl rfl 58 _ (heap_alloc_new w1 _) (by kernel_rfl) (by kernel_rfl) doneC_one ?_; rw [World.setRow_alloc_new])
          obtain ⟨D, hDn⟩ : ∃ D, w1.heap.size = D := ⟨_, rfl⟩
          rw [hDn] at HD
          have hDs : (w1.alloc (.cells doneC 58)).heap.size = D + 1 := by rw [heap_alloc_size, hDn]
          rw [hDn]
          clear hDn
          generalize w1.alloc (.cells doneC 58) = w2 at *
          refine (hl1 _ (HU.out.1.later HD.out.2) (HS.out.next HD.out.2)).mono ?_
          rintro e w3 ⟨rfl, b3⟩
          have HB3 := Lib.hid (HD.out.2.trans (b3.mono HD.out.2.size))
          go_wp2_with fail
          refine (hl2 _ (HU.out.2.later HB3.out) (HS.out.next HB3.out)).mono ?_
          rintro e w4 ⟨rfl, b4⟩
          have HB4 := Lib.hid (HB3.out.trans (b4.mono HB3.out.size))
          have hcell : w4.cell? ⟨D, 1, none⟩ = some (.func (.func 51) #[] #[]) := by
            rw [cell_of_row w4 D 1 doneC 58 (0, 0) ((b4.block D (by have := b3.size; omega)).trans ((b3.block D (by omega)).trans HD.out.1))]; rfl
          clear hl1 hl2 b1 b3 b4
          go_wp2_with fail
          refine (add_any (.slice a l.length cap) (.slice a' bs.length cap') l bs (by omega) (by omega) w4 (HSL.out.1.later HB4.out) (HSL.out.2.later HB4.out)).mono ?_
          rintro e w5 ⟨⟨v5, rfl, a5, c5, rfl, hr5, _⟩, b5⟩
          have HB5 := Lib.hid (HB4.out.trans (b5.mono HB4.out.size))
          have hbl : (l ++ bs).length ≤ 1000 := by rw [List.length_append]; omega
          have hmk := make_any a5 c5 (l ++ bs) (by omega) (by have := HSH.out; rwa [HBD.out] at this) w5 hr5 (HS.out.next HB5.out)
          clear hr5 b5 hbl
          generalize (l ++ bs) = Y at *
          go_wp2_with fail
          refine hmk.mono ?_
          rintro e w6 ⟨⟨v6, rfl, a6, c6, rfl, h6⟩, b6⟩
          have HH := Lib.hid (And.intro h6 (HB5.out.trans (b6.mono HB5.out.size)))
          clear hmk h6 b6
          go_wp2_with fail
          refine bodyPost_ret (results_tmp2 rfl _ _ _) rfl ?_
          rw [HP.out, HBD.out]
          exact ⟨⟨_, rfl, a6, c6, rfl, HH.out.1⟩, HH.out.2⟩
        · by_cases h2 : how = 2
          · subst h2
            have hch := change_make HRL.out HRB.out (how := 2) (by omega) (by omega)
            have HBY := body_right HRL.out HRB.out 2
            have HP : Hid (change l 2 bs = make (body 2 l bs)) := Lib.hid hch
            have HSH : Hid (Short (body 2 l bs)) := Lib.hid (fun x hx => by have := (canon_form (HBY x hx)).1; omega)
            have HBD : Hid (body 2 l bs = l.filter fun x => decide (x ∉ bs)) := Lib.hid (by unfold body; rw [if_neg (by omega), if_neg (by omega)])
            clear hch HBY
            go_enter Tryd.func20, Tryd.ntmps20
            go_wp2_with fail
            refine (changes_any _).mono ?_
            rintro e w1 ⟨rfl, b1⟩
            have HD : Hid ((w1.alloc (.cells doneC 58)).heap[w1.heap.size]? = some (.cells doneC 58 (0, 0)) ∧ Below w.heap.size w (w1.alloc (.cells doneC 58))) := Lib.hid ⟨heap_alloc_new w1 _, b1.trans ((Below.refl _ w1).alloc b1.size _)⟩
            go_wp2_with (refine wpList_store_row rfl 58 (.tmp 8) (.tmp 9) rfl w1.heap.size doneC rfl rfl 58 _ (heap_alloc_new w1 _) (by kernel_rfl) (by kernel_rfl) doneC_one ?_; rw [World.setRow_alloc_new])
            obtain ⟨D, hDn⟩ : ∃ D, w1.heap.size = D := ⟨_, rfl⟩
            rw [hDn] at HD
            have hDs : (w1.alloc (.cells doneC 58)).heap.size = D + 1 := by rw [heap_alloc_size, hDn]
            rw [hDn]
            clear hDn
            generalize w1.alloc (.cells doneC 58) = w2 at *
            refine (hl1 _ (HU.out.1.later HD.out.2) (HS.out.next HD.out.2)).mono ?_
            rintro e w3 ⟨rfl, b3⟩
            have HB3 := Lib.hid (HD.out.2.trans (b3.mono HD.out.2.size))
            go_wp2_with fail
            refine (hl2 _ (HU.out.2.later HB3.out) (HS.out.next HB3.out)).mono ?_
            rintro e w4 ⟨rfl, b4⟩
            have HB4 := Lib.hid (HB3.out.trans (b4.mono HB3.out.size))
            have hcell : w4.cell? ⟨D, 2, none⟩ = some (.func (.func 52) #[] #[]) := by
              rw [cell_of_row w4 D 2 doneC 58 (0, 0) ((b4.block D (by have := b3.size; omega)).trans ((b3.block D (by omega)).trans HD.out.1))]; rfl
            clear hl1 hl2 b1 b3 b4
            go_wp2_with fail
            refine (take_any (.slice a l.length cap) (.slice a' bs.length cap') l bs (by omega) (by omega) w4 (HSL.out.1.later HB4.out) (HSL.out.2.later HB4.out)).mono ?_
            rintro e w5 ⟨⟨v5, rfl, a5, c5, rfl, hr5, _⟩, b5⟩
            have HB5 := Lib.hid (HB4.out.trans (b5.mono HB4.out.size))
            have hbl : (l.filter fun x => decide (x ∉ bs)).length ≤ 1000 := by have := List.length_filter_le (fun x => decide (x ∉ bs)) l; omega
            have hmk := make_any a5 c5 (l.filter fun x => decide (x ∉ bs)) (by omega) (by have := HSH.out; rwa [HBD.out] at this) w5 hr5 (HS.out.next HB5.out)
            clear hr5 b5 hbl
            generalize (l.filter fun x => decide (x ∉ bs)) = Y at *
            go_wp2_with fail
            refine hmk.mono ?_
            rintro e w6 ⟨⟨v6, rfl, a6, c6, rfl, h6⟩, b6⟩
            have HH := Lib.hid (And.intro h6 (HB5.out.trans (b6.mono HB5.out.size)))
            clear hmk h6 b6
            go_wp2_with fail
            refine bodyPost_ret (results_tmp2 rfl _ _ _) rfl ?_
            rw [HP.out, HBD.out]
            exact ⟨⟨_, rfl, a6, c6, rfl, HH.out.1⟩, HH.out.2⟩
          · have HP : Hid (change l how bs = ([], 1)) := Lib.hid (if_neg (fun h => by omega))
            by_cases hneg : how < 0
            · skip
              go_enter Tryd.func20, Tryd.ntmps20
              go_wp2_with fail
              refine (changes_any _).mono ?_
              rintro e w1 ⟨rfl, b1⟩
              have HD : Hid ((w1.alloc (.cells doneC 58)).heap[w1.heap.size]? = some (.cells doneC 58 (0, 0)) ∧ Below w.heap.size w (w1.alloc (.cells doneC 58))) := Lib.hid ⟨heap_alloc_new w1 _, b1.trans ((Below.refl _ w1).alloc b1.size _)⟩
              go_wp2_with (refine wpList_store_row rfl 58 (.tmp 8) (.tmp 9) rfl w1.heap.size doneC rfl rfl 58 _ (heap_alloc_new w1 _) (by kernel_rfl) (by kernel_rfl) doneC_one ?_; rw [World.setRow_alloc_new])
              obtain ⟨D, hDn⟩ : ∃ D, w1.heap.size = D := ⟨_, rfl⟩
              rw [hDn] at HD
              have hDs : (w1.alloc (.cells doneC 58)).heap.size = D + 1 := by rw [heap_alloc_size, hDn]
              rw [hDn]
              clear hDn
              generalize w1.alloc (.cells doneC 58) = w2 at *
              refine (hl1 _ (HU.out.1.later HD.out.2) (HS.out.next HD.out.2)).mono ?_
              rintro e w3 ⟨rfl, b3⟩
              have HB3 := Lib.hid (HD.out.2.trans (b3.mono HD.out.2.size))
              go_wp2_with fail
              refine (hl2 _ (HU.out.2.later HB3.out) (HS.out.next HB3.out)).mono ?_
              rintro e w4 ⟨rfl, b4⟩
              have HB4 := Lib.hid (HB3.out.trans (b4.mono HB3.out.size))
              have HBB := HB4
              go_wp2_with fail
              refine bodyPost_ret (results_tmp2 rfl _ _ _) rfl ?_
              rw [HP.out]
              exact ⟨⟨_, rfl, none, 0, rfl, .inl rfl, by simp, fun _ => rfl⟩, HBB.out⟩
            · have hbig : how ≥ 3 := by omega
              go_enter Tryd.func20, Tryd.ntmps20
              go_wp2_with fail
              refine (changes_any _).mono ?_
              rintro e w1 ⟨rfl, b1⟩
              have HD : Hid ((w1.alloc (.cells doneC 58)).heap[w1.heap.size]? = some (.cells doneC 58 (0, 0)) ∧ Below w.heap.size w (w1.alloc (.cells doneC 58))) := Lib.hid ⟨heap_alloc_new w1 _, b1.trans ((Below.refl _ w1).alloc b1.size _)⟩
              go_wp2_with (refine wpList_store_row rfl 58 (.tmp 8) (.tmp 9) rfl w1.heap.size doneC rfl rfl 58 _ (heap_alloc_new w1 _) (by kernel_rfl) (by kernel_rfl) doneC_one ?_; rw [World.setRow_alloc_new])
              obtain ⟨D, hDn⟩ : ∃ D, w1.heap.size = D := ⟨_, rfl⟩
              rw [hDn] at HD
              have hDs : (w1.alloc (.cells doneC 58)).heap.size = D + 1 := by rw [heap_alloc_size, hDn]
              rw [hDn]
              clear hDn
              generalize w1.alloc (.cells doneC 58) = w2 at *
              refine (hl1 _ (HU.out.1.later HD.out.2) (HS.out.next HD.out.2)).mono ?_
              rintro e w3 ⟨rfl, b3⟩
              have HB3 := Lib.hid (HD.out.2.trans (b3.mono HD.out.2.size))
              go_wp2_with fail
              refine (hl2 _ (HU.out.2.later HB3.out) (HS.out.next HB3.out)).mono ?_
              rintro e w4 ⟨rfl, b4⟩
              have HB4 := Lib.hid (HB3.out.trans (b4.mono HB3.out.size))
              have HBB := HB4
              go_wp2_with fail
              refine bodyPost_ret (results_tmp2 rfl _ _ _) rfl ?_
              rw [HP.out]
              exact ⟨⟨_, rfl, none, 0, rfl, .inl rfl, by simp, fun _ => rfl⟩, HBB.out⟩
    · have HP : Hid (change l how bs = ([], 1)) := Lib.hid (if_neg (fun h => hrb h.2.1))
      rw [decide_eq_true hrl] at hl1
      rw [decide_eq_false hrb] at hl2
      go_enter Tryd.func20, Tryd.ntmps20
      go_wp2_with fail
      refine (changes_any _).mono ?_
      rintro e w1 ⟨rfl, b1⟩
      have HD : Hid ((w1.alloc (.cells doneC 58)).heap[w1.heap.size]? = some (.cells doneC 58 (0, 0)) ∧ Below w.heap.size w (w1.alloc (.cells doneC 58))) := Lib.hid ⟨heap_alloc_new w1 _, b1.trans ((Below.refl _ w1).alloc b1.size _)⟩
      go_wp2_with (refine wpList_store_row rfl 58 (.tmp 8) (.tmp 9) rfl w1.heap.size doneC rfl rfl 58 _ (heap_alloc_new w1 _) (by kernel_rfl) (by kernel_rfl) doneC_one ?_; rw [World.setRow_alloc_new])
      obtain ⟨D, hDn⟩ : ∃ D, w1.heap.size = D := ⟨_, rfl⟩
      rw [hDn] at HD
      have hDs : (w1.alloc (.cells doneC 58)).heap.size = D + 1 := by rw [heap_alloc_size, hDn]
      rw [hDn]
      clear hDn
      generalize w1.alloc (.cells doneC 58) = w2 at *
      refine (hl1 _ (HU.out.1.later HD.out.2) (HS.out.next HD.out.2)).mono ?_
      rintro e w3 ⟨rfl, b3⟩
      have HB3 := Lib.hid (HD.out.2.trans (b3.mono HD.out.2.size))
      go_wp2_with fail
      refine (hl2 _ (HU.out.2.later HB3.out) (HS.out.next HB3.out)).mono ?_
      rintro e w4 ⟨rfl, b4⟩
      have HB4 := Lib.hid (HB3.out.trans (b4.mono HB3.out.size))
      have HBB := HB4
      go_wp2_with fail
      refine bodyPost_ret (results_tmp2 rfl _ _ _) rfl ?_
      rw [HP.out]
      exact ⟨⟨_, rfl, none, 0, rfl, .inl rfl, by simp, fun _ => rfl⟩, HBB.out⟩
  · have HP : Hid (change l how bs = ([], 1)) := Lib.hid (if_neg (fun h => hrl h.1))
    rw [decide_eq_false hrl] at hl1
    go_enter Tryd.func20, Tryd.ntmps20
    go_wp2_with fail
    refine (changes_any _).mono ?_
    rintro e w1 ⟨rfl, b1⟩
    have HD : Hid ((w1.alloc (.cells doneC 58)).heap[w1.heap.size]? = some (.cells doneC 58 (0, 0)) ∧ Below w.heap.size w (w1.alloc (.cells doneC 58))) := Lib.hid ⟨heap_alloc_new w1 _, b1.trans ((Below.refl _ w1).alloc b1.size _)⟩
    go_wp2_with (refine wpList_store_row rfl 58 (.tmp 8) (.tmp 9) rfl w1.heap.size doneC rfl rfl 58 _ (heap_alloc_new w1 _) (by kernel_rfl) (by kernel_rfl) doneC_one ?_; rw [World.setRow_alloc_new])
    obtain ⟨D, hDn⟩ : ∃ D, w1.heap.size = D := ⟨_, rfl⟩
    rw [hDn] at HD
    have hDs : (w1.alloc (.cells doneC 58)).heap.size = D + 1 := by rw [heap_alloc_size, hDn]
    rw [hDn]
    clear hDn
    generalize w1.alloc (.cells doneC 58) = w2 at *
    refine (hl1 _ (HU.out.1.later HD.out.2) (HS.out.next HD.out.2)).mono ?_
    rintro e w3 ⟨rfl, b3⟩
    have HB3 := Lib.hid (HD.out.2.trans (b3.mono HD.out.2.size))
    have HBB := HB3
    go_wp2_with fail
    refine bodyPost_ret (results_tmp2 rfl _ _ _) rfl ?_
    rw [HP.out]
    exact ⟨⟨_, rfl, none, 0, rfl, .inl rfl, by simp, fun _ => rfl⟩, HBB.out⟩
end Go.Proofs.YtiaggnpkmigbhaaDoor.fl
