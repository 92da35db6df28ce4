/-
  The law's stands.
-/
import Derived.Test.YtiljhnheacppgaaDkL2
namespace Go.Proofs.Ytiljhnheacppgaa.dk
set_option linter.unusedVariables false
open Go.RowKit
open fl (S S_size S_append S_inj str_eq str_ne)
open rw (Arr But Row Own bnext below_box below_drew below_drewN addr_add Fr RowB)
open mp (Mp Turned kget kput kwithout kmap KSorted Ranging)

/-- What is asked of a disk that is played with the document's beside it. -/
structure Both (d : Dk) : Prop where
  rm : Rm d
  s : ∀ c ∈ d.pend, c.s.length ≤ 140737488355328
  f : d.fused = true → -9000000000000000000 ≤ d.left ∧ d.left ≤ 9223372036854775807
theorem Both.fit {d : Dk} (h : Both d) : Fit d := ⟨⟨Nat.le_trans h.rm.s (by decide), Nat.le_trans h.rm.l (by decide), Nat.le_trans h.rm.p (by decide)⟩, h.s, h.f⟩

/-- The block of a row of names. -/
theorem names_arr {w : World} {B : Nat} {a : Option Addr} {n c : Nat} {l : List Bs} (h : Own strSh w B (.slice a n c) l) (hn : 0 < n) : ∃ b cs, a = some ⟨b, 0, none⟩ ∧ B ≤ b ∧ Arr w b 9 cs ∧ ∀ j (hj : j < l.length), cs[j]? = some (.string (S l[j])) := by
  obtain ⟨_, ⟨e3, h0⟩ | ⟨g, cap, cur, e3, h4, h5, h6, h7, h8, h9⟩⟩ := h
  · cases e3; omega
  · injection e3 with e1 e2 e3
    refine ⟨g, cur, e1, h4, h5, fun j hj => ?_⟩
    rw [cells_str] at h9
    have e : cur[j]? = (cur.toList.take (l.length * strSh.k))[j]? := by rw [List.getElem?_take_of_lt (by show j < l.length * 1; omega)]; simp
    rw [e, h9]
    simp [hj, encStr, S]
set_option maxHeartbeats 4000000 in
set_option maxRecDepth 100000 in
theorem stands_any (F : Nat → Prop) (p xb : Nat) (d : Dk) (hd : Both d) (w : World) (h : PD w F p d) (hx : RefD w xb d) :
    Calls Try.prog 14 #[.pointer (some ⟨p, 0, none⟩), .pointer (some ⟨xb, 0, none⟩)] w fun e w' => e = .returned (.bool true) ∧ Below w.heap.size w w' := by
  have hN := names_any F p d (Nat.le_trans hd.rm.s (by decide)) (fun f hf => (hd.rm.r.named f hf).2) w h
  obtain ⟨sv, lv, pv, ha, hsl, _, _, _, _, _⟩ := id hx.a
  obtain ⟨sa, sc, rfl, hsc, hsr, hsn⟩ := hsl
  have H := Lib.hid (And.intro h (And.intro hx (And.intro hd (And.intro ha (show SlF w (.slice sa d.seen.length sc) d.seen from ⟨sa, sc, rfl, hsc, hsr, hsn⟩)))))
  have hus : used d.seen ≤ 1048576 := Nat.le_trans hd.rm.r.used hd.rm.r.cap
  have HUp : Hid (∀ W, Below w.heap.size w W → Calls Try.prog 19 #[.pointer (some ⟨p, 0, none⟩)] W fun e w' => e = .returned (.int .i64 (used d.seen : Nat)) ∧ w' = W) := fun W k => used_any F p d W (h.below k)
  have HUr : Hid (∀ W, Below w.heap.size w W → Calls Try.prog 42 #[.slice sa d.seen.length sc] W fun e w' => e = .returned (.int .i64 (used d.seen : Nat)) ∧ w' = W) :=
    fun W k => refused_any (.slice sa d.seen.length sc) d.seen (by have := hd.rm.s; omega) (by omega) W (H.out.2.2.2.2.later _ k)
  have HPe : Hid (∀ W, Below w.heap.size w W → Calls Try.prog 17 #[.pointer (some ⟨p, 0, none⟩)] W fun e w' => e = .returned (.int .i64 (count d.pend : Nat)) ∧ w' = W) := fun W k => pending_any F p d W (h.below k)
  have HCo : Hid (∀ W, Below w.heap.size w W → Calls Try.prog 43 #[.pointer (some ⟨xb, 0, none⟩)] W fun e w' => e = .returned (.int .i64 (count d.pend : Nat)) ∧ Below W.heap.size W w') :=
    fun W k => refcount_any xb d hd.rm.p hd.s W (hx.below k)
  have HOp : Hid (∀ W, Below w.heap.size w W → Calls Try.prog 27 #[.pointer (some ⟨p, 0, none⟩)] W fun e w' => e = .returned (.bool (off d)) ∧ w' = W) := fun W k => off_any F p d W (h.below k)
  have HOr : Hid (∀ W, Below w.heap.size w W → Calls Try.prog 44 #[.pointer (some ⟨xb, 0, none⟩)] W fun e w' => e = .returned (.bool (off d)) ∧ w' = W) := fun W k => refoff_any xb d W (hx.below k)
  have HS1 : Hid (∀ W, Below w.heap.size w W → W.cell? ⟨xb, 1, none⟩ = some (.slice sa d.seen.length sc)) := fun W k => (ha.below k).cell rfl
  clear h hx hd ha hsc hsr hsn hus
  go_enter Try.func14, Try.ntmps14
  go_wp2_with fail
  refine hN.mono ?_
  rintro e w1 ⟨v, rfl, o1, b1⟩
  have HO := Lib.hid o1
  have HB := Lib.hid b1
  obtain ⟨a1, c1, rfl⟩ := o1.form
  rw [List.length_map] at HO ⊢
  clear hN o1 b1
  have hb1 : Hid (Below w.heap.size w w1.drew) := below_drew HB.out
  have s1 := HS1.out _ hb1.out
  have hUp := HUp.out _ hb1.out
  have hUr := HUr.out _ hb1.out
  have hPe := HPe.out _ hb1.out
  have hCo := HCo.out _ hb1.out
  go_upto_region 2 with (fail)
  generalize used d.seen = du at *
  generalize count d.pend = dc at *
  go_region_held3 (fun W => W.cell? ⟨xb, 1, none⟩ = some (.slice sa d.seen.length sc))
    (first | (with_reducible exact s1) | (with_reducible exact s5) | go_keep)
    ((first
      | (go_at_call 19; with_reducible refine hUp.mono ?_; rintro e w2 ⟨rfl, rfl⟩)
      | (go_at_call 42; with_reducible refine hUr.mono ?_; rintro e w2 ⟨rfl, rfl⟩)
      | (go_at_call 17; with_reducible refine hPe.mono ?_; rintro e w2 ⟨rfl, rfl⟩)
      | (go_at_call 43; with_reducible refine hCo.mono ?_; rintro e w5 ⟨rfl, b5⟩
         have hb5 := hb1.out.trans (b5.mono hb1.out.size)
         have s5 := HS1.out _ hb5
         have hOp := HOp.out _ hb5
         have hOr := HOr.out _ hb5)
      | (go_at_call 27; with_reducible refine hOp.mono ?_; rintro e w2 ⟨rfl, rfl⟩)
      | (go_at_call 44; with_reducible refine hOr.mono ?_; rintro e w2 ⟨rfl, rfl⟩)))
  have hA : Hid (0 < d.seen.length → ∃ b cs, a1 = some ⟨b, 0, none⟩ ∧ w.heap.size ≤ b ∧ Arr w2 b 9 cs ∧ ∀ j (hj : j < d.seen.length), 0 ≤ j → cs[j]? = some (.string (S d.seen[j].1))) := by
    intro h0
    obtain ⟨b, cs, x1, x2, x3, x4⟩ := names_arr HO.out h0
    refine ⟨b, cs, x1, x2, x3.below (below_drew (Below.refl _ _) |>.trans b5), fun j hj _ => ?_⟩
    have := x4 j (by rw [List.length_map]; exact hj)
    rwa [List.getElem_map] at this
  have HB5 := Lib.hid hb5
  clear hUp hUr hPe hCo hOp hOr s1 s5 hb5 b5 HUp HUr HPe HCo HO HB hb1
  go_wp2_with fail
  go_loopw [6] (fun i wr => ∃ k : Nat, i = .int .i64 k ∧ k ≤ d.seen.length ∧ Hid ((0 < d.seen.length → ∃ b cs, a1 = some ⟨b, 0, none⟩ ∧ w.heap.size ≤ b ∧ Arr wr b 9 cs ∧ ∀ j (hj : j < d.seen.length), k ≤ j → cs[j]? = some (.string (S d.seen[j].1))) ∧ Below w.heap.size w wr))
    (fun i _ => d.seen.length - (intOf i).toNat)
  case atStart => exact ⟨0, rfl, Nat.zero_le _, hA.out, HB5.out⟩
  case round =>
    obtain ⟨k, rfl, hk, HI⟩ := hrel
    by_cases hlt : k < d.seen.length
    · have hki : (k : Int) < (d.seen.length : Int) := by omega
      obtain ⟨b, cs, rfl, hbge, A, hcs⟩ := HI.out.1 (by omega)
      have hB := HI.out.2
      have q0 : wr.cell? ⟨b, k, none⟩ = some (.string (S (d.seen[k]'hlt).1)) := A.cell (hcs k hlt (Nat.le_refl _))
      have f0 := A.frozen k
      have q1 := HS1.out _ hB
      have hsl2 := H.out.2.2.2.2.later _ hB
      obtain ⟨sa', sc', e', _, hsr, _⟩ := hsl2
      cases e'
      obtain ⟨b2, off, rfl, _, q2, _⟩ := slF_at hsr hlt
      have hdl2 : (d.seen.length : Int) ≤ 1000 := by have := H.out.2.2.1.rm.s; omega
      have hne : ((S (d.seen[k]'hlt).1).toList != (S (d.seen[k]'hlt).1).toList) = false := by simp
      have HN : Hid (∀ W, Below wr.heap.size wr W → (0 < d.seen.length → ∃ b' cs', (some ⟨b, 0, none⟩ : Option Addr) = some ⟨b', 0, none⟩ ∧ w.heap.size ≤ b' ∧ Arr (W.setCell ⟨b, k, none⟩ (.string ⟨#[63]⟩)) b' 9 cs' ∧ ∀ j (hj : j < d.seen.length), k + 1 ≤ j → cs'[j]? = some (.string (S d.seen[j].1))) ∧ Below w.heap.size w (W.setCell ⟨b, k, none⟩ (.string ⟨#[63]⟩))) := by
        intro W k2
        have A2 := (A.below k2).set k (.string ⟨#[63]⟩)
        have q := (But.refl b W).set k (.string ⟨#[63]⟩)
        have b3 : Below w.heap.size w W := hB.trans (k2.mono hB.size)
        refine ⟨fun _ => ⟨b, _, rfl, hbge, A2, fun j hj hkj => ?_⟩, b3.trans (q.below b3.size hbge)⟩
        rw [Array.getElem?_setIfInBounds_ne (by omega)]
        exact hcs j hj (by omega)
      have hwi : IntKind.i64.wrap ((k : Int) + 1) = ((k + 1 : Nat) : Int) := by rw [IntWalk.i64_in _ (by omega)]; omega
      clear HI hbge A hcs hB hsr
      generalize (d.seen[k]'hlt).1 = nm at *
      go_upto_region 7 with (fail)
      go_quiet (fail)
      have q0' : (wr.drewN nq).cell? ⟨b, k, none⟩ = some (.string (S nm)) := q0
      have f0' : (wr.drewN nq).frozen? ⟨b, k, none⟩ = false := f0
      have HN2 := Lib.hid (HN.out _ (below_drewN (Below.refl _ _) nq))
      clear HN
      go_wp2_with fail
      go_roundw
      case rel => exact ⟨k + 1, rfl, by omega, HN2.out⟩
      case measure => simp [intOf]; omega
    · obtain rfl : k = d.seen.length := by omega
      have hB : Hid (Below w.heap.size w wr) := HI.out.2
      have hd0 : Hid (Below w.heap.size w wr.drew) := below_drew HI.out.2
      clear HI hk hA HB5
      cases ho : off d with
      | true =>
        rw [ho] at HOr
        have hOr := fun n => HOr.out _ (below_drewN hB.out n)
        clear ho HOp HOr HS1
        go_upto_region 10 with (fail)
        go_quiet (first | (go_at_call 44; refine Calls.quiet_of_same (hOr _)))
        go_wp2_with fail
        go_ret
        exact ⟨rfl, below_drewN hB.out nq⟩
      | false =>
        rw [ho] at HOr
        have hOr := HOr.out _ hd0.out
        have hF := files_any F p d H.out.2.2.1.rm ho wr.drew (H.out.1.below hd0.out)
        have s1 := HS1.out _ hd0.out
        have HSm : Hid (∀ v W, Own fileSh W wr.drew.heap.size v d.seen → Below wr.drew.heap.size wr.drew W → Calls Try.prog 21 #[v, .slice sa d.seen.length sc] W fun e w' => e = .returned (.bool (decide (d.seen = d.seen))) ∧ Below W.heap.size W w') :=
          fun v W o k => refsame_any v (.slice sa d.seen.length sc) d.seen d.seen (by have := H.out.2.2.1.rm.s; omega) (by have := H.out.2.2.1.rm.s; omega) W (rw.Own.sl fileSh o) (H.out.2.2.2.2.later _ (hd0.out.trans (k.mono hd0.out.size)))
        rw [decide_eq_true rfl] at HSm
        clear ho HOp HOr hB
        go_upto_region 10 with (fail)
        go_region_held3 (fun W => W.cell? ⟨xb, 1, none⟩ = some (.slice sa d.seen.length sc))
          (first | (with_reducible exact s1) | (with_reducible exact s3) | (with_reducible exact s4) | go_keep)
          ((first
            | (go_at_call 44; with_reducible refine hOr.mono ?_; rintro e w2 ⟨rfl, rfl⟩)
            | (go_at_call 22; with_reducible refine hF.mono ?_; rintro e w3 ⟨v3, rfl, o3, b3⟩
               have h3 := hd0.out.trans (b3.mono hd0.out.size)
               have s3 := HS1.out _ h3
               have hSm := HSm.out v3 w3 o3 b3
               obtain ⟨a3, c3, rfl⟩ := o3.form)
            | (go_at_call 21; with_reducible refine hSm.mono ?_; rintro e w4 ⟨rfl, b4⟩
               have h4 := h3.trans (b4.mono h3.size)
               have s4 := HS1.out _ h4)))
        have H4 := Lib.hid h4
        clear hF hSm o3 b3 b4 h3 s3 s4 h4 s1 hOr HSm
        go_wp2_with fail
        go_ret
        exact ⟨rfl, H4.out⟩
end Go.Proofs.Ytiljhnheacppgaa.dk
