/-
  What the reference's system, place, less, Has, Same answer.
-/
import Derived.Test.YtiaggnpkmigbhaaDoorFlagMem
import Derived.Deep.QuietTactic
import Derived.BigQuiet
namespace Go.Proofs.YtiaggnpkmigbhaaDoor.fl
open Go.RowKit

/-- The flag of the system at a place. -/
def sysAt (k : Nat) : List UInt8 := sysL[k]?.getD []
theorem sysAt_mem {k : Nat} (h : k < 5) : sysAt k ∈ sysL := by
  match k, h with
  | 0, _ => decide
  | 1, _ => decide
  | 2, _ => decide
  | 3, _ => decide
  | 4, _ => decide
theorem sysAt_len {k : Nat} (h : k < 5) : (sysAt k).length ≤ 9 := by
  match k, h with
  | 0, _ => decide
  | 1, _ => decide
  | 2, _ => decide
  | 3, _ => decide
  | 4, _ => decide

set_option maxRecDepth 100000 in
theorem refsystem_any (k : Nat) (hk : k < 5) (w : World) :
    Calls Tryd.prog 30 #[.int .i64 (k : Nat)] w fun e w' => e = .returned (.string (S (sysAt k))) ∧ w' = w := by
  match k, hk with
  | 0, _ => go_enter Tryd.func30, Tryd.ntmps30; go_wp2; go_ret; exact ⟨rfl, rfl⟩
  | 1, _ => go_enter Tryd.func30, Tryd.ntmps30; go_wp2; go_ret; exact ⟨rfl, rfl⟩
  | 2, _ => go_enter Tryd.func30, Tryd.ntmps30; go_wp2; go_ret; exact ⟨rfl, rfl⟩
  | 3, _ => go_enter Tryd.func30, Tryd.ntmps30; go_wp2; go_ret; exact ⟨rfl, rfl⟩
  | 4, _ => go_enter Tryd.func30, Tryd.ntmps30; go_wp2; go_ret; exact ⟨rfl, rfl⟩

theorem place_cases (f : List UInt8) : (f = fAns ∧ place f = 0) ∨ (f = fFla ∧ place f = 1) ∨ (f = fDel ∧ place f = 2) ∨ (f = fSee ∧ place f = 3) ∨ (f = fDra ∧ place f = 4) ∨ (f ∉ sysL ∧ place f = 5) := by
  by_cases h : f ∈ sysL
  · simp only [sysL, List.mem_cons, List.not_mem_nil, or_false] at h
    rcases h with rfl | rfl | rfl | rfl | rfl
    · exact .inl ⟨rfl, by decide⟩
    · exact .inr (.inl ⟨rfl, by decide⟩)
    · exact .inr (.inr (.inl ⟨rfl, by decide⟩))
    · exact .inr (.inr (.inr (.inl ⟨rfl, by decide⟩)))
    · exact .inr (.inr (.inr (.inr (.inl ⟨rfl, by decide⟩))))
  · exact .inr (.inr (.inr (.inr (.inr ⟨h, by unfold place; exact List.idxOf_eq_length h⟩))))
theorem place_at {f : List UInt8} {k : Nat} (hk : k < 5) (h : sysAt k = f) : place f = k := by
  subst h
  match k, hk with
  | 0, _ => decide
  | 1, _ => decide
  | 2, _ => decide
  | 3, _ => decide
  | 4, _ => decide
theorem place_none {f : List UInt8} (h : ∀ j, j < 5 → sysAt j ≠ f) : place f = 5 := by
  rcases place_cases f with ⟨rfl, _⟩ | ⟨rfl, _⟩ | ⟨rfl, _⟩ | ⟨rfl, _⟩ | ⟨rfl, _⟩ | ⟨_, h5⟩
  · exact absurd rfl (h 0 (by omega))
  · exact absurd rfl (h 1 (by omega))
  · exact absurd rfl (h 2 (by omega))
  · exact absurd rfl (h 3 (by omega))
  · exact absurd rfl (h 4 (by omega))
  · exact h5
theorem S_ne {a b : List UInt8} (h : a ≠ b) : S a ≠ S b := fun e => h (S_inj e)
theorem less_bytes (x : List UInt8) : ∀ y, Op.bytesLess x y = decide (x < y) := by
  induction x with
  | nil => intro y; cases y <;> simp [Op.bytesLess]
  | cons a x ih =>
    intro y
    cases y with
    | nil => simp [Op.bytesLess]
    | cons b y =>
      unfold Op.bytesLess
      rw [ih y, Bool.eq_iff_iff]
      simp [List.cons_lt_cons_iff]
theorem S_toList (l : List UInt8) : (S l).toList = l := by rw [ByteArray.toList_eq, S_data]

set_option maxRecDepth 100000 in
theorem refplace_any (f : List UInt8) (w : World) :
    Calls Tryd.prog 46 #[.string (S f)] w fun e w' => e = .returned (.int .i64 (place f : Nat)) ∧ w' = w := by
  have hsys := Lib.hid refsystem_any
  go_enter Tryd.func46, Tryd.ntmps46
  go_wp2
  go_loopw [3] (fun i wr => ∃ k : Nat, i = .int .i64 k ∧ k ≤ 5 ∧ Hid (∀ j, j < k → sysAt j ≠ f) ∧ wr = w)
    (fun i _ => 5 - (intOf i).toNat)
  case atStart => exact ⟨0, rfl, Nat.zero_le _, Lib.hid (fun j h => absurd h (by omega)), rfl⟩
  case round =>
    obtain ⟨k, rfl, hk, HN, rfl⟩ := hrel
    by_cases hlt : k < 5
    · have hki : (k : Int) < 5 := by omega
      have hs := hsys.out k hlt
      by_cases he : sysAt k = f
      · have HP := Lib.hid (place_at hlt he)
        have hq : ((S (sysAt k)).toList == (S f).toList) = true := str_eq (by rw [he])
        clear he HN
        generalize sysAt k = g at *
        go_wp2_with fail
        refine (hs _).mono ?_
        rintro e w1 ⟨rfl, rfl⟩
        go_wp2_with fail
        go_ret
        exact ⟨by rw [HP.out]; rfl, rfl⟩
      · have hq : ((S (sysAt k)).toList == (S f).toList) = false := str_ne (S_ne he)
        have HNN : Hid (∀ j, j < k + 1 → sysAt j ≠ f) := fun j hj => by
          by_cases h2 : j < k
          · exact HN.out j h2
          · obtain rfl : j = k := by omega
            exact he
        clear he HN
        generalize sysAt k = g at *
        go_wp2_with fail
        refine (hs _).mono ?_
        rintro e w1 ⟨rfl, rfl⟩
        go_wp2_with fail
        go_roundw
        case rel => exact ⟨k + 1, by go_num, by omega, HNN, trivial⟩
        case measure => simp [intOf]; omega
    · obtain rfl : k = 5 := by omega
      have HP := Lib.hid (place_none HN.out)
      clear HN
      go_wp2_with fail
      go_ret
      exact ⟨by rw [HP.out]; rfl, rfl⟩

set_option maxRecDepth 100000 in
theorem refless_any (a b : List UInt8) (w : World) :
    Calls Tryd.prog 33 #[.string (S a), .string (S b)] w fun e w' => e = .returned (.bool (less a b)) ∧ w' = w := by
  have ha := refplace_any a
  have hb := refplace_any b
  have hd : Hid (less a b = if place a ≠ place b then decide (place a < place b) else decide (a < b)) := rfl
  have hlt : Op.bytesLess (S a).toList (S b).toList = decide (a < b) := by rw [S_toList, S_toList]; exact less_bytes a b
  generalize place a = p at *
  generalize place b = q at *
  go_enter Tryd.func33, Tryd.ntmps33
  by_cases he : p = q
  · have hne : ((p : Int) != (q : Int)) = false := by simp; omega
    rw [he] at hd
    generalize decide (a < b) = r at *
    go_wp2_with fail
    refine (ha _).mono ?_
    rintro e w1 ⟨rfl, rfl⟩
    go_wp2_with fail
    refine (hb _).mono ?_
    rintro e w1 ⟨rfl, rfl⟩
    go_wp2_with fail
    go_ret
    exact ⟨by rw [hd.out, if_neg (by simp)]; rfl, rfl⟩
  · have hne : ((p : Int) != (q : Int)) = true := by simp; omega
    have hdl : decide (p < q) = decide ((p : Int) < (q : Int)) := by rw [decide_eq_decide]; omega
    rw [if_pos he, hdl] at hd
    have HD := Lib.hid hd.out
    clear hd
    go_wp2_with fail
    refine (ha _).mono ?_
    rintro e w1 ⟨rfl, rfl⟩
    go_wp2_with fail
    refine (hb _).mono ?_
    rintro e w1 ⟨rfl, rfl⟩
    go_wp2_with fail
    refine (ha _).mono ?_
    rintro e w1 ⟨rfl, rfl⟩
    go_wp2_with fail
    refine (hb _).mono ?_
    rintro e w1 ⟨rfl, rfl⟩
    go_wp2_with fail
    go_ret
    exact ⟨by rw [HD.out]; rfl, rfl⟩

set_option maxRecDepth 100000 in
theorem refhas_any (a : Option Addr) (cap : Nat) (l : List (List UInt8)) (f : List UInt8) (hl : l.length ≤ 140737488355328) (w : World) (hr : RowS w a l) :
    Calls Tryd.prog 16 #[.slice a l.length cap, .string (S f)] w fun e w' => e = .returned (.bool (decide (f ∈ l))) ∧ Below w.heap.size w w' := by
  go_enter Tryd.func16, Tryd.ntmps16
  go_wp2
  go_loopw [5] (fun i wr => ∃ k : Nat, i = .int .i64 k ∧ k ≤ l.length ∧ Hid (∀ j (h : j < l.length), j < k → l[j] ≠ f) ∧ Below w.heap.size w wr)
    (fun i _ => l.length - (intOf i).toNat)
  case atStart => exact ⟨0, rfl, Nat.zero_le _, Lib.hid (fun j _ h => absurd h (by omega)), Below.refl _ _⟩
  case round =>
    obtain ⟨k, rfl, hk, HN, hB⟩ := hrel
    by_cases hlt : k < l.length
    · rcases hr.later hB with h0 | ⟨b, off, rfl, hb, hc⟩
      · rw [h0] at hlt; simp at hlt
      · have hcell := hc k hlt
        have hki : (k : Int) < (l.length : Int) := by omega
        obtain ⟨x, hx⟩ : ∃ x, l[k]'hlt = x := ⟨_, rfl⟩
        rw [hx] at hcell
        by_cases he : x = f
        · have HM : Hid (decide (f ∈ l) = true) := Lib.hid (decide_eq_true (by rw [← he, ← hx]; exact List.getElem_mem hlt))
          have hq : ((S x).toList == (S f).toList) = true := str_eq (by rw [he])
          clear hc hx HN hr he
          go_wp2
          go_ret
          exact ⟨by rw [HM.out]; rfl, hB⟩
        · have hq : ((S x).toList == (S f).toList) = false := str_ne (S_ne he)
          have HNN : Hid (∀ j (h : j < l.length), j < k + 1 → l[j] ≠ f) := fun j h hj => by
            by_cases h2 : j < k
            · exact HN.out j h h2
            · obtain rfl : j = k := by omega
              rw [hx]; exact he
          clear hc hx HN hr he
          go_wp2
          go_roundw
          case rel => exact ⟨k + 1, by go_num, by omega, HNN, hB⟩
          case measure => simp [intOf]; omega
    · obtain rfl : k = l.length := by omega
      have HM : Hid (decide (f ∈ l) = false) := Lib.hid (decide_eq_false (fun h => by
        obtain ⟨j, hj, e⟩ := List.getElem_of_mem h
        exact HN.out j hj hj e))
      clear HN hr
      go_wp2
      go_ret
      exact ⟨by rw [HM.out]; rfl, hB⟩

set_option maxHeartbeats 1000000 in
set_option maxRecDepth 100000 in
theorem refsame_any (a a' : Option Addr) (cap cap' : Nat) (l m : List (List UInt8)) (hl : l.length ≤ 140737488355328) (w : World) (hr : RowS w a l) (hs : RowS w a' m) :
    Calls Tryd.prog 19 #[.slice a l.length cap, .slice a' m.length cap'] w fun e w' => e = .returned (.bool (decide (l = m))) ∧ Below w.heap.size w w' := by
  go_enter Tryd.func19, Tryd.ntmps19
  by_cases hne : l.length = m.length
  · have hi : ((l.length : Int) != (m.length : Int)) = false := by simp; omega
    go_wp2
    go_loopw [5] (fun i wr => ∃ k : Nat, i = .int .i64 k ∧ k ≤ l.length ∧ Hid (∀ j (h : j < l.length) (h' : j < m.length), j < k → l[j] = m[j]) ∧ Below w.heap.size w wr)
      (fun i _ => l.length - (intOf i).toNat)
    case atStart => exact ⟨0, rfl, Nat.zero_le _, Lib.hid (fun j _ _ h => absurd h (by omega)), Below.refl _ _⟩
    case round =>
      obtain ⟨k, rfl, hk, HN, hB⟩ := hrel
      by_cases hlt : k < l.length
      · have hlt' : k < m.length := by omega
        rcases hr.later hB with h0 | ⟨b, off, rfl, hb, hc⟩
        · rw [h0] at hlt; simp at hlt
        rcases hs.later hB with h0 | ⟨b', off', rfl, hb', hc'⟩
        · rw [h0] at hlt'; simp at hlt'
        have c1 := hc k hlt
        have c2 := hc' k hlt'
        have hki : (k : Int) < (l.length : Int) := by omega
        have hki' : (k : Int) < (m.length : Int) := by omega
        obtain ⟨x, hx⟩ : ∃ x, l[k]'hlt = x := ⟨_, rfl⟩
        obtain ⟨y, hy⟩ : ∃ y, m[k]'hlt' = y := ⟨_, rfl⟩
        rw [hx] at c1
        rw [hy] at c2
        by_cases he : x = y
        · have hq : ((S x).toList == (S y).toList) = true := str_eq (by rw [he])
          have HNN : Hid (∀ j (h : j < l.length) (h' : j < m.length), j < k + 1 → l[j] = m[j]) := fun j h h' hj => by
            by_cases h2 : j < k
            · exact HN.out j h h' h2
            · obtain rfl : j = k := by omega
              rw [hx, hy]; exact he
          clear hc hc' hx hy HN hr hs he
          go_wp2
          go_quiet (fail)
          have hBq := below_drewN hB nq
          clear hB c1 c2
          generalize wr.drewN nq = w2 at *
          go_wp2
          go_roundw
          case rel => exact ⟨k + 1, by go_num, by omega, HNN, hBq⟩
          case measure => simp [intOf]; omega
        · have HM := Lib.hid (lists_ne k hlt hlt' (by rw [hx, hy]; exact he))
          have hq : ((S x).toList == (S y).toList) = false := str_ne (S_ne he)
          clear hc hc' hx hy HN hr hs he
          go_wp2
          go_quiet (fail)
          have hBq := below_drewN hB nq
          clear hB c1 c2
          generalize wr.drewN nq = w2 at *
          go_wp2
          go_ret
          exact ⟨by rw [HM.out]; rfl, hBq⟩
      · obtain rfl : k = l.length := by omega
        have HM := Lib.hid (lists_eq hne HN.out)
        clear HN hr hs
        go_wp2
        go_ret
        exact ⟨by rw [HM.out]; rfl, hB⟩
  · have hi : ((l.length : Int) != (m.length : Int)) = true := by simp; omega
    have HM : Hid (decide (l = m) = false) := Lib.hid (decide_eq_false (fun e => hne (by rw [e])))
    clear hne
    go_wp2
    go_ret
    exact ⟨by rw [HM.out]; rfl, Below.refl _ _⟩
end Go.Proofs.YtiaggnpkmigbhaaDoor.fl
