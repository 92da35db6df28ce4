/-
  A heap's two moves, as plain mathematics: up and down keep what is there, and make it a heap. No walk.
-/
import Derived.Test.YtmgmhnohocamfaaGreatQmMath
namespace Go.Proofs.YtmgmhnohocamfaaGreat.qm
set_option linter.unusedVariables false

def z0 : Ix := ⟨0, 0⟩
def key (l : List Ix) (k : Nat) : Int := (l.getD k z0).idx
/-- Two places change. -/
def sw (l : List Ix) (i j : Nat) : List Ix := (l.set i (l.getD j z0)).set j (l.getD i z0)
theorem sw_len (l : List Ix) (i j : Nat) : (sw l i j).length = l.length := by simp [sw]
theorem sw_get (l : List Ix) {i j : Nat} (hi : i < l.length) (hj : j < l.length) (k : Nat) : (sw l i j).getD k z0 = if k = j then l.getD i z0 else if k = i then l.getD j z0 else l.getD k z0 := by
  simp only [sw, List.getD_eq_getElem?_getD, List.getElem?_set, List.length_set]
  by_cases h1 : k = j
  · subst h1; simp [hj]
  · rw [if_neg (fun e => h1 e.symm), if_neg h1]
    by_cases h2 : k = i
    · subst h2; simp [hi]
    · rw [if_neg (fun e => h2 e.symm), if_neg h2]
theorem key_sw (l : List Ix) {i j : Nat} (hi : i < l.length) (hj : j < l.length) (k : Nat) : key (sw l i j) k = if k = j then key l i else if k = i then key l j else key l k := by
  unfold key
  rw [sw_get l hi hj]
  by_cases h1 : k = j
  · rw [if_pos h1, if_pos h1]
  · rw [if_neg h1, if_neg h1]
    by_cases h2 : k = i
    · rw [if_pos h2, if_pos h2]
    · rw [if_neg h2, if_neg h2]
theorem sw_perm (l : List Ix) {i j : Nat} (hi : i < l.length) (hj : j < l.length) : (sw l i j).Perm l := by
  have h := Array.swap_perm (xs := l.toArray) (i := i) (j := j) (by simpa using hi) (by simpa using hj)
  rw [Array.perm_iff_toList_perm] at h
  have e : sw l i j = (l.toArray.swap i j (by simpa using hi) (by simpa using hj)).toList := by
    simp [sw, Array.swap_def, List.getD_eq_getElem?_getD, hi, hj]
  rw [e]
  simpa using h

/-- A heap up to n. -/
def Heap (l : List Ix) (n : Nat) : Prop := ∀ k, 0 < k → k < n → key l k ≤ key l ((k - 1) / 2)
theorem Heap.top {l : List Ix} {n : Nat} (h : Heap l n) : ∀ k, k < n → key l k ≤ key l 0 := by
  intro k
  induction k using Nat.strongRecOn with
  | _ k ih =>
    intro hk
    rcases Nat.eq_zero_or_pos k with rfl | h0
    · exact Int.le_refl _
    · have := h k h0 hk
      have := ih ((k - 1) / 2) (by omega) (by omega)
      omega
/-- .. but for the place j, which may be too great. -/
structure UpI (l : List Ix) (j : Nat) : Prop where
  lt : j < l.length
  one : ∀ k, 0 < k → k < l.length → k ≠ j → key l k ≤ key l ((k - 1) / 2)
  two : ∀ k, 0 < k → k < l.length → (k - 1) / 2 = j → 0 < j → key l k ≤ key l ((j - 1) / 2)
theorem UpI.done {l : List Ix} {j : Nat} (h : UpI l j) (k : j = 0 ∨ key l j ≤ key l ((j - 1) / 2)) : Heap l l.length := by
  intro i h0 hi
  by_cases e : i = j
  · subst e
    rcases k with k | k
    · omega
    · exact k
  · exact h.one i h0 hi e
theorem UpI.step {l : List Ix} {j : Nat} (h : UpI l j) (h0 : 0 < j) (hk : key l ((j - 1) / 2) < key l j) : UpI (sw l ((j - 1) / 2) j) ((j - 1) / 2) := by
  have hj := h.lt
  have hi : (j - 1) / 2 < l.length := by omega
  have hij : (j - 1) / 2 ≠ j := by omega
  refine ⟨by rw [sw_len]; exact hi, fun k k0 kl kn => ?_, fun k k0 kl kp i0 => ?_⟩
  · rw [sw_len] at kl
    rw [key_sw l hi hj, key_sw l hi hj]
    by_cases c : k = j
    · subst c; simp [hij]; omega
    · have c1 := h.one k k0 kl c
      rw [if_neg c, if_neg kn]
      by_cases p : (k - 1) / 2 = j
      · rw [if_pos p]; exact h.two k k0 kl p h0
      · rw [if_neg p]
        by_cases q : (k - 1) / 2 = (j - 1) / 2
        · rw [if_pos q]; rw [q] at c1; omega
        · rw [if_neg q]; exact c1
  · rw [sw_len] at kl
    rw [key_sw l hi hj, key_sw l hi hj]
    have hp : ((j - 1) / 2 - 1) / 2 ≠ j := by omega
    have hp2 : ((j - 1) / 2 - 1) / 2 ≠ (j - 1) / 2 := by omega
    have up := h.one ((j - 1) / 2) i0 hi hij
    rw [if_neg hp, if_neg hp2]
    by_cases c : k = j
    · rw [if_pos c]; exact up
    · have c1 := h.one k k0 kl c
      rw [if_neg c, if_neg (by omega)]
      rw [kp] at c1; omega
theorem UpI.push {l : List Ix} (h : Heap l l.length) (x : Ix) : UpI (l ++ [x]) l.length := by
  have hk : ∀ k, k < l.length → key (l ++ [x]) k = key l k := fun k hk => by
    simp [key, List.getD_eq_getElem?_getD, List.getElem?_append_left hk]
  refine ⟨by simp, fun k k0 kl kn => ?_, fun k k0 kl kp _ => ?_⟩
  · simp at kl
    rw [hk k (by omega), hk _ (by omega)]
    exact h k k0 (by omega)
  · simp at kl; omega
/-- .. but for the place i, which may be too small. -/
structure DnI (l : List Ix) (i n : Nat) : Prop where
  len : n ≤ l.length
  one : ∀ k, 0 < k → k < n → (k - 1) / 2 ≠ i → key l k ≤ key l ((k - 1) / 2)
  two : ∀ k, 0 < k → k < n → (k - 1) / 2 = i → 0 < i → key l k ≤ key l ((i - 1) / 2)
theorem DnI.done {l : List Ix} {i n : Nat} (h : DnI l i n) (k : ∀ j, 0 < j → j < n → (j - 1) / 2 = i → key l j ≤ key l i) : Heap l n := by
  intro j h0 hj
  by_cases e : (j - 1) / 2 = i
  · rw [e]; exact k j h0 hj e
  · exact h.one j h0 hj e
theorem DnI.step {l : List Ix} {i j n : Nat} (h : DnI l i n) (h0 : 0 < j) (hj : j < n) (hp : (j - 1) / 2 = i) (hk : key l i < key l j) (ho : ∀ k, 0 < k → k < n → (k - 1) / 2 = i → key l k ≤ key l j) : DnI (sw l i j) j n := by
  have hl := h.len
  have hjl : j < l.length := by omega
  have hi : i < l.length := by omega
  have hij : i ≠ j := by omega
  refine ⟨by rw [sw_len]; exact hl, fun k k0 kl kn => ?_, fun k k0 kl kp _ => ?_⟩
  · rw [key_sw l hi hjl, key_sw l hi hjl]
    rw [if_neg kn]
    by_cases p : (k - 1) / 2 = i
    · rw [if_pos p]
      by_cases c : k = j
      · rw [if_pos c]; omega
      · rw [if_neg c, if_neg (by omega)]; exact ho k k0 kl p
    · rw [if_neg p]
      have c1 := h.one k k0 kl p
      by_cases c : k = j
      · exact absurd (c ▸ hp) p
      · rw [if_neg c]
        by_cases c2 : k = i
        · rw [if_pos c2]
          subst c2
          have := h.two j h0 hj hp k0
          exact this
        · rw [if_neg c2]; exact c1
  · rw [key_sw l hi hjl, key_sw l hi hjl]
    have c1 := h.one k k0 kl (by omega)
    rw [kp] at c1
    rw [if_neg (by omega), if_neg (by omega), hp, if_neg hij, if_pos rfl]
    exact c1
theorem DnI.pop {l : List Ix} {n : Nat} (hl : l.length = n + 1) (h : Heap l l.length) : DnI (sw l 0 n) 0 n := by
  refine ⟨by rw [sw_len]; omega, fun k k0 kl kn => ?_, fun k k0 kl kp h0 => by omega⟩
  rw [key_sw l (by omega) (by omega), key_sw l (by omega) (by omega)]
  rw [if_neg (by omega), if_neg (by omega), if_neg (by omega), if_neg (by omega)]
  exact h k k0 (by omega)
/-- What a pop tells, and leaves. -/
theorem pop_spec {l m : List Ix} {n : Nat} (hl : l.length = n + 1) (h : Heap l l.length) (hp : m.Perm (sw l 0 n)) (hn : m.getD n z0 = (sw l 0 n).getD n z0) (hm : Heap m n) :
    l.Perm (m.getD n z0 :: m.take n) ∧ (∀ r ∈ l, r.idx ≤ (m.getD n z0).idx) ∧ Heap (m.take n) (m.take n).length := by
  have h0 : 0 < l.length := by omega
  have hnl : n < l.length := by omega
  have hml : m.length = n + 1 := by rw [hp.length_eq, sw_len, hl]
  have e : m.getD n z0 = l.getD 0 z0 := by rw [hn, sw_get l h0 hnl, if_pos rfl]
  refine ⟨?_, fun r hr => ?_, ?_⟩
  · have h1 : m = m.take n ++ [m.getD n z0] := by
      have h2 : m.getD n z0 = m[n]'(by omega) := by simp [List.getD_eq_getElem?_getD, List.getElem?_eq_getElem (show n < m.length by omega)]
      rw [h2]
      have := List.take_append_drop n m
      rw [List.drop_eq_getElem_cons (by omega : n < m.length), List.drop_eq_nil_of_le (by omega)] at this
      exact this.symm
    refine (sw_perm l h0 hnl).symm.trans (hp.symm.trans ?_)
    have h3 : (m.take n ++ [m.getD n z0]).Perm (m.getD n z0 :: m.take n) := List.perm_append_comm
    generalize m.getD n z0 = c at *
    rw [h1]
    have h4 : (m.take n ++ [c]).take n = m.take n := by rw [List.take_append_of_le_length (by rw [List.length_take]; omega), List.take_take, Nat.min_self]
    rw [h4]; exact h3
  · obtain ⟨k, hk, rfl⟩ := List.mem_iff_getElem.1 hr
    have := h.top k hk
    simp only [key, List.getD_eq_getElem?_getD, List.getElem?_eq_getElem hk, Option.getD_some] at this
    rw [e]
    exact this
  · have hk : ∀ k, k < n → key (m.take n) k = key m k := fun k hk => by
      simp [key, List.getD_eq_getElem?_getD, hk]
    intro k k0 kl
    simp at kl
    rw [hk k (by omega), hk _ (by omega)]
    exact hm k k0 (by omega)
end Go.Proofs.YtmgmhnohocamfaaGreat.qm
