/-
  What the program's Make, Right, Has answer.
-/
import Derived.Test.YtiaggnpkmigbhaaDoorFlagGather
import Derived.Test.YtiaggnpkmigbhaaDoorFlagRef1
import Derived.Lib.SlicesS
namespace Go.Proofs.YtiaggnpkmigbhaaDoor.fl
open Go.RowKit Go.Shelf

/-- The longest text. -/
def Short (l : List (List UInt8)) : Prop := ∀ x ∈ l, x.length ≤ 140737488355328
theorem short_right {l : List (List UInt8)} (h : IsRight l) : Short l := fun x hx => by have := (canon_form (h.c x hx)).1; omega

/-- A slice that holds a list of texts. -/
def Sl (w : World) (v : Value) (m : List (List UInt8)) : Prop := ∃ a c, v = .slice a m.length c ∧ RowS w a m ∧ m.length ≤ c ∧ (a = none → c = 0)
theorem Sl.later {w w' : World} {v : Value} {m : List (List UInt8)} (h : Sl w v m) (k : Below w.heap.size w w') : Sl w' v m := by
  obtain ⟨a, c, h1, h2, h3⟩ := h
  exact ⟨a, c, h1, h2.later k, h3⟩
theorem sl_own {w : World} {B : Nat} {v : Value} {m : List (List UInt8)} (h : w.ownsRow B 9 1 v m.length (cellsS m)) : Sl w v m := by
  have h2 := h
  rcases h.2 with ⟨rfl, h0⟩ | ⟨g, cap, cur, rfl, hg, hh, hn, hcap, hsz, htake⟩
  · have : m = [] := List.length_eq_zero_iff.1 h0
    subst this
    exact ⟨none, 0, rfl, .inl rfl, by simp, fun _ => rfl⟩
  · obtain ⟨a', c', he, hr⟩ := rowS_of_own rfl h2
    cases he
    exact ⟨_, _, rfl, hr, hn, fun e => by cases e⟩
set_option maxRecDepth 100000 in
set_option maxHeartbeats 1000000 in
theorem make_any (a : Option Addr) (cap : Nat) (l : List (List UInt8)) (hl : l.length ≤ 140737488355328) (hx : Short l) (w : World) (hr : RowS w a l) (hS : Sys w) :
    Calls Tryd.prog 17 #[.slice a l.length cap] w fun e w' => (∃ v, e = .returned (.tuple #[v, .int .i64 ((make l).2 : Nat)]) ∧ Sl w' v (make l).1) ∧ Below w.heap.size w w' := by
  have hv := values_any a l.length cap w
  have hb1 : Below w.heap.size w (w.alloc (.cells #[.slice a l.length cap] 22)) := (Below.refl _ w).alloc (Nat.le_refl _) _
  have hseq := values_seq 4 (by omega) w.heap.size (w.heap.size + 1) a cap l hl (w.alloc (.cells #[.slice a l.length cap] 22)) (by omega) (by simp) (by rw [World.cell?_alloc_at _ _ _ _ rfl]; rfl)
    (by
      rcases hr.later hb1 with h | ⟨rb, off, h1, h2, h3⟩
      · exact .inl h
      · exact .inr ⟨rb, off, h1, by simpa using h2, h3⟩)
  have hg := gather_in 49 #[.pointer (some ⟨w.heap.size, 0, none⟩)] w.heap.size w.heap.size l hx (w.alloc (.cells #[.slice a l.length cap] 22)) (hS.next hb1) (enters_of Tryd.func49 (by kernel_rfl) rfl) (by rw [World.size_alloc]; exact hseq) hS.lt (Nat.le_refl _) (by simp)
  have hgc := (callsIn_wide (n := 5)).1 hg
  clear hg hseq hr hS
  go_enter Tryd.func17, Tryd.ntmps17
  go_wp2_with fail
  refine hv.mono ?_
  rintro e w1 ⟨rfl, rfl⟩
  go_wp2_with fail
  refine hgc.mono ?_
  rintro e w2 ⟨⟨v, rfl, ho⟩, b2⟩
  have hsl := sl_own ho
  obtain ⟨a2, c2, hv2, h3⟩ := hsl
  subst hv2
  have HH := Lib.hid (And.intro h3 (hb1.trans b2))
  clear hgc hv ho h3 b2 hb1
  go_wp2_with fail
  refine bodyPost_ret (results_tmp2 rfl _ _ _) rfl ?_
  exact ⟨⟨_, rfl, a2, c2, rfl, HH.out.1⟩, HH.out.2⟩

set_option maxHeartbeats 1000000 in
set_option maxRecDepth 100000 in
theorem equal_any (a a' : Option Addr) (cap cap' : Nat) (l m : List (List UInt8)) (hl : l.length ≤ 140737488355328) (w : World) (hr : RowS w a l) (hs : RowS w a' m) :
    Calls Tryd.prog 32 #[.slice a l.length cap, .slice a' m.length cap'] w fun e w' => e = .returned (.bool (decide (l = m))) ∧ Below w.heap.size w w' := by
  go_enter Tryd.func32, Tryd.ntmps32
  by_cases hne : l.length = m.length
  · have hi : ((l.length : Int) != (m.length : Int)) = false := by simp; omega
    go_wp2
    go_loopw [13] (fun i wr => ∃ k : Nat, i = .int .i64 k ∧ k ≤ l.length ∧ Hid (∀ j (h : j < l.length) (h' : j < m.length), j < k → l[j] = m[j]) ∧ Below w.heap.size w wr)
      (fun i _ => l.length - (intOf i).toNat)
    case atStart => exact ⟨0, rfl, Nat.zero_le _, Lib.hid (fun j _ _ h => absurd h (by omega)), Below.refl _ _⟩
    case round =>
      obtain ⟨k, rfl, hk, HN, hB⟩ := hrel
      by_cases hlt : k < l.length
      · have hlt' : k < m.length := by omega
        rcases hr.later hB with h0 | ⟨b, off, rfl, hb, hc⟩
        · rw [h0] at hlt; simp at hlt
        rcases hs.later hB with h0 | ⟨b', off', rfl, hb', hc'⟩
        · rw [h0] at hlt'; simp at hlt'
        have c1 := hc k hlt
        have c2 := hc' k hlt'
        have hki : (k : Int) < (l.length : Int) := by omega
        have hki' : (k : Int) < (m.length : Int) := by omega
        obtain ⟨x, hx⟩ : ∃ x, l[k]'hlt = x := ⟨_, rfl⟩
        obtain ⟨y, hy⟩ : ∃ y, m[k]'hlt' = y := ⟨_, rfl⟩
        rw [hx] at c1
        rw [hy] at c2
        by_cases he : x = y
        · have hq : ((S x).toList == (S y).toList) = true := str_eq (by rw [he])
          have HNN : Hid (∀ j (h : j < l.length) (h' : j < m.length), j < k + 1 → l[j] = m[j]) := fun j h h' hj => by
            by_cases h2 : j < k
            · exact HN.out j h h' h2
            · obtain rfl : j = k := by omega
              rw [hx, hy]; exact he
          clear hc hc' hx hy HN hr hs he
          go_wp2
          go_quiet (fail)
          have hBq := below_drewN hB nq
          clear hB c1 c2
          generalize wr.drewN nq = w2 at *
          go_wp2
          go_roundw
          case rel => exact ⟨k + 1, by go_num, by omega, HNN, hBq⟩
          case measure => simp [intOf]; omega
        · have HM := Lib.hid (lists_ne k hlt hlt' (by rw [hx, hy]; exact he))
          have hq : ((S x).toList == (S y).toList) = false := str_ne (S_ne he)
          clear hc hc' hx hy HN hr hs he
          go_wp2
          go_quiet (fail)
          have hBq := below_drewN hB nq
          clear hB c1 c2
          generalize wr.drewN nq = w2 at *
          go_wp2
          go_ret
          exact ⟨by rw [HM.out]; rfl, hBq⟩
      · obtain rfl : k = l.length := by omega
        have HM := Lib.hid (lists_eq hne HN.out)
        clear HN hr hs
        go_wp2
        go_ret
        exact ⟨by rw [HM.out]; rfl, hB⟩
  · have hi : ((l.length : Int) != (m.length : Int)) = true := by simp; omega
    have HM : Hid (decide (l = m) = false) := Lib.hid (decide_eq_false (fun e => hne (by rw [e])))
    clear hne
    go_wp2
    go_ret
    exact ⟨by rw [HM.out]; rfl, Below.refl _ _⟩

set_option maxRecDepth 100000 in
set_option maxHeartbeats 1000000 in
theorem right_any (a : Option Addr) (cap : Nat) (l : List (List UInt8)) (hl : l.length ≤ 140737488355328) (hx : Short l) (w : World) (hr : RowS w a l) (hS : Sys w) :
    Calls Tryd.prog 13 #[.slice a l.length cap] w fun e w' => e = .returned (.bool (right l)) ∧ Below w.heap.size w w' := by
  have hm := make_any a cap l hl hx w hr hS
  have HD : Hid (right l = decide (make l = (l, 0))) := Lib.hid (by unfold right; rw [decide_eq_decide]; exact right_iff l)
  have HE := Lib.hid (fun a2 c2 m W h1 h2 => equal_any a2 a c2 cap m l h1 W h2)
  have HML : Hid ((make l).1.length ≤ 16) := Lib.hid (by
    unfold make
    split
    · unfold full; split
      · simp
      · simp; omega
    · simp)
  cases hk : make l with
  | mk m k =>
    rw [hk] at hm HD HML
    by_cases h0 : k = 0
    · subst h0
      have HD2 : Hid (right l = decide (m = l)) := Lib.hid (by rw [HD.out, decide_eq_decide]; simp)
      have hr2 := Lib.hid hr
      clear HD hk hS hr
      go_enter Tryd.func13, Tryd.ntmps13
      go_wp2_with fail
      refine hm.mono ?_
      rintro e w1 ⟨⟨v1, rfl, a2, c2, rfl, hrow, _⟩, b1⟩
      have heq := HE.out a2 c2 m w1 (Nat.le_trans HML.out (by omega)) hrow (hr2.out.later b1)
      clear hm hrow HE
      go_wp2_with fail
      refine heq.mono ?_
      rintro e w2 ⟨rfl, b2⟩
      go_wp2_with fail
      go_ret
      exact ⟨by rw [HD2.out]; rfl, b1.trans (b2.mono b1.size)⟩
    · have hq : ((k : Int) == 0) = false := by rw [beq_eq_false_iff_ne]; omega
      have HD2 : Hid (right l = false) := Lib.hid (by rw [HD.out]; exact decide_eq_false (fun e => h0 (by cases e; rfl)))
      clear HD hk hS hr h0
      go_enter Tryd.func13, Tryd.ntmps13
      go_wp2_with fail
      refine hm.mono ?_
      rintro e w1 ⟨⟨v1, rfl, a2, c2, rfl, hrow, _⟩, b1⟩
      clear hm hrow HE
      go_wp2_with fail
      go_ret
      exact ⟨by rw [HD2.out]; rfl, b1⟩

theorem row_getD {w : World} {b off : Nat} {l : List (List UInt8)} (hc : ∀ j (h : j < l.length), w.cell? ⟨b, off + j, none⟩ = some (.string (S l[j]))) : ∀ j, j < (l.map S).length → w.cell? ⟨b, off + j, none⟩ = some (.string ((l.map S).getD j ByteArray.empty)) := fun j hj => by
  rw [List.length_map] at hj
  rw [hc j hj]
  simp [hj]
theorem contains_eq (l : List (List UInt8)) (f : List UInt8) : Lib.containsS ((l.map S).take l.length) (S f) = decide (f ∈ l) := by
  rw [List.take_of_length_le (by simp), Bool.eq_iff_iff, Lib.containsS_iff, decide_eq_true_eq, List.mem_map]
  exact ⟨fun ⟨x, hx, e⟩ => S_inj e ▸ hx, fun h => ⟨f, h, rfl⟩⟩
set_option maxRecDepth 100000 in
theorem has_any (a : Option Addr) (cap : Nat) (l : List (List UInt8)) (f : List UInt8) (hl : l.length ≤ 140737488355328) (w : World) (hr : RowS w a l) :
    Calls Tryd.prog 15 #[.slice a l.length cap, .string (S f)] w fun e w' => e = .returned (.bool (decide (f ∈ l))) ∧ w' = w := by
  rcases hr with rfl | ⟨b, off, rfl, hb, hc⟩
  · have h := Tryd.slices_Contains_string_empty a cap (S f) w
    go_enter Tryd.func15, Tryd.ntmps15
    go_wp2_with fail
    refine h.mono ?_
    rintro e w1 ⟨rfl, rfl⟩
    go_wp2_with fail
    go_ret
    exact ⟨by simp, rfl⟩
  · have h := Tryd.slices_Contains_string b off l.length cap (l.map S) (S f) w (by simp) (by omega) (row_getD hc)
    rw [contains_eq] at h
    generalize decide (f ∈ l) = r at *
    clear hc
    go_enter Tryd.func15, Tryd.ntmps15
    go_wp2_with fail
    refine h.mono ?_
    rintro e w1 ⟨rfl, rfl⟩
    go_wp2_with fail
    go_ret
    exact ⟨rfl, rfl⟩
end Go.Proofs.YtiaggnpkmigbhaaDoor.fl
