/-
  The walks of SeqsetReads and SeqsetBack.
-/
import Derived.Test.YtbaeillecojilaaDoorSeqAlive
namespace Go.Proofs.YtbaeillecojilaaDoor.sq
open Go.RowKit

set_option maxHeartbeats 2000000 in
set_option maxRecDepth 100000 in
theorem seqsetreads_any (l : List UInt8) (hl : l.length ≤ 8796093022000) (w : World) (hL : Laid w) :
    Calls Tryd.prog 3 #[.string (S l)] w fun e w' => e = .returned (.bool true) ∧ Below w.heap.size w w' := by
  have h1 := parse_any l (by omega) w hL.e
  have HLD := Lib.hid hL
  clear hL
  have h2 := refparse_any l hl
  obtain ⟨p, hp⟩ : ∃ p, p = parseOf l := ⟨_, rfl⟩
  have hpl : p.length ≤ 64 := by
    rw [hp]; unfold parseOf
    split
    · next h =>
      unfold parseOk at h
      simp only [Bool.and_eq_true, decide_eq_true_eq] at h
      simpa using h.1
    · simp
  rw [← hp] at h1 h2
  clear hp
  generalize parseOk l = q at *
  go_enter Tryd.func3, Tryd.ntmps3
  go_wp2_with fail
  refine h1.mono ?_
  rintro e w1 ⟨⟨a1, c1, rfl, hr1⟩, hb1⟩
  have HR1 := Lib.hid hr1
  clear h1 hr1
  go_wp2_with fail
  refine (h2 w1).mono ?_
  rintro e w2 ⟨⟨a2, c2, rfl, hr2⟩, hb2⟩
  have HR2 := Lib.hid hr2
  have HB2 := hb1.trans (hb2.mono hb1.size)
  have HR12 := Lib.hid (HR1.out.later hb2)
  clear h2 hr2 hb1 hb2 HR1
  go_wp2_with fail
  refine (alive_any w2 (HLD.out.later HB2)).mono ?_
  rintro e w3 ⟨rfl, hb3⟩
  have HB3 := HB2.trans (hb3.mono HB2.size)
  have h3 := refsame_any a1 a2 c1 c2 p p (by omega) w3 (HR12.out.later hb3) (HR2.out.later hb3)
  clear HB2 hb3 HR12 HR2
  rw [decide_eq_true rfl] at h3
  go_wp2_with fail
  refine h3.mono ?_
  rintro e w4 ⟨rfl, hb4⟩
  have HB4 := HB3.trans (hb4.mono HB3.size)
  clear h3 hb4 HB3
  have hq : (q == q) = true := by simp
  go_wp2
  go_ret
  exact ⟨rfl, HB4⟩

theorem printOf_length (l : List (Nat × Nat)) : (printOf l).length ≤ 2688 := by
  unfold printOf
  split
  · next h =>
    unfold printOk at h
    simp only [Bool.and_eq_true, decide_eq_true_eq] at h
    have := text_length l.length l (Nat.le_refl _) (fun j hj _ => List.all_eq_true.1 h.2 _ (List.getElem_mem hj))
    rw [List.take_length] at this
    omega
  · simp

set_option maxHeartbeats 4000000 in
set_option maxRecDepth 100000 in
theorem seqsetback_any (a : Option Addr) (cap : Nat) (l : List (Nat × Nat)) (hll : l.length ≤ 140737488355328) (s : List UInt8) (hl : s.length ≤ 140737488355328) (w : World) (hr : RowR w a l) (hL : Laid w) :
    Calls Tryd.prog 7 #[.slice a l.length cap, .string (S s)] w fun e w' => e = .returned (.bool true) ∧ Below w.heap.size w w' := by
  have HLD := Lib.hid hL
  have h3 := fun W (hb : Below w.heap.size w W) => parse_any s hl W (HLD.out.later hb).e
  clear hL
  have HR := Lib.hid hr
  clear hr
  -- what follows once the first half is done
  have half : ∀ W, Below w.heap.size w W → True := fun _ _ => trivial
  clear half
  have hs1 : Hid (parseOk s = true → printOk (parseOf s) = true ∧ (text (parseOf s)).length ≤ s.length ∧ parseOk (text (parseOf s)) = true ∧ parseOf (text (parseOf s)) = parseOf s ∧ printOf (parseOf s) = text (parseOf s)) := fun h => by
    have k := print_parse h
    have k2 := parse_print k.1
    exact ⟨k.1, k.2, k2.1, k2.2, by unfold printOf; rw [if_pos k.1]⟩
  have hs2 : Hid (parseOk s = false → parseOf s = []) := parse_bad_nil
  go_enter Tryd.func7, Tryd.ntmps7
  go_wp2_with fail
  refine (alive_any w HLD.out).mono ?_
  rintro e w1 ⟨rfl, hb1⟩
  have hp := print_any a cap l hll w1 (HR.out.later hb1) (HLD.out.later hb1).t
  by_cases hok : printOk l = true
  · have ht : printOf l = text l := by unfold printOf; rw [if_pos hok]
    have h2 := fun W (hb : Below w.heap.size w W) => parse_any (printOf l) (by have := printOf_length l; omega) W (HLD.out.later hb).e
    rw [ht, (parse_print hok).1, (parse_print hok).2] at h2
    rw [ht, hok] at hp
    clear ht hok
    have HT := Lib.hid h2
    clear h2
    generalize text l = t at *
    go_wp2_with fail
    refine hp.mono ?_
    rintro e w2 ⟨rfl, hb2⟩
    clear hp
    have HB2 := hb1.trans (hb2.mono hb1.size)
    clear hb1 hb2
    go_wp2_with fail
    refine (HT.out w2 HB2).mono ?_
    rintro e w3 ⟨⟨a3, c3, rfl, hr3⟩, hb3⟩
    have HR3 := Lib.hid hr3
    have HB3 := HB2.trans (hb3.mono HB2.size)
    have hsame := refsame_any a3 a c3 cap l l hll w3 HR3.out (HR.out.later HB3)
    rw [decide_eq_true rfl] at hsame
    clear HB2 hb3 hr3 HT
    go_wp2_with fail
    refine hsame.mono ?_
    rintro e w4 ⟨rfl, hb4⟩
    have HB4 := HB3.trans (hb4.mono HB3.size)
    clear hsame hb4 HB3 HR3
    go_wp2_with fail
    refine (h3 w4 HB4).mono ?_
    rintro e w5 ⟨⟨a5, c5, rfl, hr5⟩, hb5⟩
    have HR5 := Lib.hid hr5
    have HB5 := HB4.trans (hb5.mono HB4.size)
    clear hr5 HB4 hb5 h3 HR
    by_cases hy : parseOk s = true
    · obtain ⟨y1, y2, y3, y4, y5⟩ := hs1.out hy
      have hpl : (parseOf s).length ≤ 64 := by
        unfold printOk at y1
        simp only [Bool.and_eq_true, decide_eq_true_eq] at y1
        exact y1.1.2
      have hpr := print_any a5 c5 (parseOf s) (by omega) w5 HR5.out (HLD.out.later HB5).t
      have hpa := fun W (hb : Below w.heap.size w W) => parse_any (text (parseOf s)) (by omega) W (HLD.out.later hb).e
      rw [y1, y5] at hpr
      rw [y3, y4] at hpa
      rw [hy]
      clear y1 y3 y4 y5 hs1 hs2 hy
      generalize parseOf s = p at *
      obtain ⟨u, hu⟩ : ∃ u, u = text p := ⟨_, rfl⟩
      rw [← hu] at hpr hpa y2
      have HY := Lib.hid y2
      clear hu y2
      have HPA := Lib.hid hpa
      clear hpa
      go_wp2_with fail
      refine hpr.mono ?_
      rintro e w6 ⟨rfl, hb6⟩
      have HR6 := Lib.hid (HR5.out.later hb6)
      have HB6 := HB5.trans (hb6.mono HB5.size)
      clear hpr HR5 hb6 HB5
      go_wp2_with fail
      refine (HPA.out w6 HB6).mono ?_
      rintro e w7 ⟨⟨a7, c7, rfl, hr7⟩, hb7⟩
      have hsm := refsame_any a7 a5 c7 c5 p p (by omega) w7 hr7 (HR6.out.later hb7)
      rw [decide_eq_true rfl] at hsm
      have HB7 := HB6.trans (hb7.mono HB6.size)
      have hle : (S u).size ≤ (S s).size := HY.out
      clear hr7 HR6 hb7 HB6 HPA HY
      go_wp2_with fail
      refine hsm.mono ?_
      rintro e w8 ⟨rfl, hb8⟩
      have HB8 := HB7.trans (hb8.mono HB7.size)
      clear hsm hb8 HB7
      go_wp2
      go_ret
      exact ⟨rfl, HB8⟩
    · have hy' : parseOk s = false := by simpa using hy
      rw [hs2.out hy', hy']
      clear hs1 hs2 hy hy' HR5
      go_wp2
      go_ret
      exact ⟨rfl, HB5⟩
  · have hok' : printOk l = false := by simpa using hok
    have h2 := fun W (hb : Below w.heap.size w W) => parse_any [] (by simp) W (HLD.out.later hb).e
    rw [parse_bad_nil parse_nothing, parse_nothing] at h2
    rw [print_bad_nil hok', hok'] at hp
    change ∀ W, Below w.heap.size w W → Calls Tryd.prog 10 #[.string ⟨#[]⟩] W fun e w' => (∃ a2 c2, e = .returned (.tuple #[.slice a2 0 c2, .bool false]) ∧ RowR w' a2 []) ∧ Below W.heap.size W w' at h2
    change Calls Tryd.prog 14 #[.slice a l.length cap] w1 fun e w' => e = .returned (.tuple #[.string ⟨#[]⟩, .bool false]) ∧ Below w1.heap.size w1 w' at hp
    clear hok hok'
    go_wp2_with fail
    refine hp.mono ?_
    rintro e w2 ⟨rfl, hb2⟩
    have HB2 := hb1.trans (hb2.mono hb1.size)
    clear hb1 hb2 hp
    go_wp2_with fail
    refine (h2 w2 HB2).mono ?_
    rintro e w4 ⟨⟨a3, c3, rfl, _⟩, hb3⟩
    have HB4 := HB2.trans (hb3.mono HB2.size)
    clear hb3 HB2 h2
    go_wp2_with fail
    refine (h3 w4 HB4).mono ?_
    rintro e w5 ⟨⟨a5, c5, rfl, hr5⟩, hb5⟩
    have HR5 := Lib.hid hr5
    have HB5 := HB4.trans (hb5.mono HB4.size)
    clear hr5 HB4 hb5 h3 HR
    by_cases hy : parseOk s = true
    · obtain ⟨y1, y2, y3, y4, y5⟩ := hs1.out hy
      have hpl : (parseOf s).length ≤ 64 := by
        unfold printOk at y1
        simp only [Bool.and_eq_true, decide_eq_true_eq] at y1
        exact y1.1.2
      have hpr := print_any a5 c5 (parseOf s) (by omega) w5 HR5.out (HLD.out.later HB5).t
      have hpa := fun W (hb : Below w.heap.size w W) => parse_any (text (parseOf s)) (by omega) W (HLD.out.later hb).e
      rw [y1, y5] at hpr
      rw [y3, y4] at hpa
      rw [hy]
      clear y1 y3 y4 y5 hs1 hs2 hy
      generalize parseOf s = p at *
      obtain ⟨u, hu⟩ : ∃ u, u = text p := ⟨_, rfl⟩
      rw [← hu] at hpr hpa y2
      have HY := Lib.hid y2
      clear hu y2
      have HPA := Lib.hid hpa
      clear hpa
      go_wp2_with fail
      refine hpr.mono ?_
      rintro e w6 ⟨rfl, hb6⟩
      have HR6 := Lib.hid (HR5.out.later hb6)
      have HB6 := HB5.trans (hb6.mono HB5.size)
      clear hpr HR5 hb6 HB5
      go_wp2_with fail
      refine (HPA.out w6 HB6).mono ?_
      rintro e w7 ⟨⟨a7, c7, rfl, hr7⟩, hb7⟩
      have hsm := refsame_any a7 a5 c7 c5 p p (by omega) w7 hr7 (HR6.out.later hb7)
      rw [decide_eq_true rfl] at hsm
      have HB7 := HB6.trans (hb7.mono HB6.size)
      have hle : (S u).size ≤ (S s).size := HY.out
      clear hr7 HR6 hb7 HB6 HPA HY
      go_wp2_with fail
      refine hsm.mono ?_
      rintro e w8 ⟨rfl, hb8⟩
      have HB8 := HB7.trans (hb8.mono HB7.size)
      clear hsm hb8 HB7
      go_wp2
      go_ret
      exact ⟨rfl, HB8⟩
    · have hy' : parseOk s = false := by simpa using hy
      rw [hs2.out hy', hy']
      clear hs1 hs2 hy hy' HR5
      go_wp2
      go_ret
      exact ⟨rfl, HB5⟩
end Go.Proofs.YtbaeillecojilaaDoor.sq
