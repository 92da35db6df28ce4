/-
  What is found of a row of frames that was cut off somewhere. No walk.
-/
import Derived.Test.YtpeogcjakojjhaaSealRow
namespace Go.Proofs.Ytpeogcjakojjhaa.sl
open Go.RowKit

/-- A part of a frame is no frame. -/
theorem cut_part (b r : List UInt8) (hb : b.length ≤ 65536) (a : Nat) (ha : a < 8 + b.length) : cut ((frame b ++ r).take a) = ([], 0, 3) := by
  have hf := frame_length b
  have hl : ((frame b ++ r).take a).length = a := by rw [List.length_take, List.length_append]; omega
  by_cases h8 : a < 8
  · exact cut_short (by omega)
  · have h4 : ((frame b ++ r).take a).take 4 = four b.length := by
      rw [List.take_take, Nat.min_eq_left (by omega), frame_eq, List.append_assoc, List.take_append_of_le_length (by rw [four_length]; omega), List.take_of_length_le (by rw [four_length]; omega)]
    have hbig : big (((frame b ++ r).take a).take 4) = b.length := by rw [h4, big_four (by omega)]
    exact cut_torn (by omega) (by omega) (by omega)

/-- The error ahead of the bytes' end. -/
def errAt (l : List UInt8) (f : Nat) : Nat := if f = l.length then 0 else (cut (l.drop f)).2.2
theorem err_eq (l : List UInt8) : err l = errAt l (fin 0 l) := rfl

theorem torn (K : List (List UInt8)) : ∀ (p k a : Nat), (∀ b ∈ K, b.length ≤ 65536) → k ≤ K.length → a ≤ total K → total (K.take k) ≤ a → (k < K.length → a < total (K.take (k + 1))) →
    (scan p ((joined K).take a)).map (·.2) = K.take k ∧ fin p ((joined K).take a) = p + total (K.take k) ∧ (a = total (K.take k) ∨ (cut (((joined K).take a).drop (total (K.take k)))).2.2 = 3) := by
  induction K with
  | nil =>
    intro p k a _ hk ha _ _
    have h0 : a = 0 := by rw [total_nil] at ha; omega
    subst h0
    have hk0 : k = 0 := by simpa using hk
    subst hk0
    refine ⟨?_, ?_, .inl rfl⟩
    · simp [joined, scan_nil]
    · simp [joined, fin_nil, total]
  | cons b K ih =>
    intro p k a hb hk ha h1 h2
    have hbl := hb b (by simp)
    have hf := frame_length b
    cases k with
    | zero =>
      have ha8 : a < 8 + b.length := by
        have := h2 (by simp)
        simpa [total] using this
      rw [joined_cons]
      have hc := cut_part b (joined K) hbl a ha8
      have hne : (cut ((frame b ++ joined K).take a)).2.2 ≠ 0 := by rw [hc]; decide
      refine ⟨by rw [scan_no hne]; rfl, by rw [fin_no hne]; rfl, .inr ?_⟩
      rw [show total ((b :: K).take 0) = 0 from rfl, List.drop_zero, hc]
    | succ k =>
      rw [List.take_succ_cons, total_cons] at h1
      rw [total_cons] at ha
      have e : (joined (b :: K)).take a = frame b ++ (joined K).take (a - (8 + b.length)) := by
        rw [joined_cons, List.take_append, List.take_of_length_le (by omega), hf]
      have hc := cut_frame b ((joined K).take (a - (8 + b.length))) hbl
      have hok : (cut (frame b ++ (joined K).take (a - (8 + b.length)))).2.2 = 0 := by rw [hc]
      have hdrop : (frame b ++ (joined K).take (a - (8 + b.length))).drop (8 + b.length) = (joined K).take (a - (8 + b.length)) := by rw [← hf, List.drop_left]
      obtain ⟨i1, i2, i3⟩ := ih (p + (8 + b.length)) k (a - (8 + b.length)) (fun x hx => hb x (by simp [hx])) (by simpa using hk) (by omega) (by omega) (fun hlt => by
        have := h2 (by simpa using hlt)
        rw [List.take_succ_cons, total_cons] at this
        omega)
      rw [e]
      refine ⟨?_, ?_, ?_⟩
      · rw [scan_ok hok, hc]
        simp only [List.map_cons, List.take_succ_cons]
        rw [hdrop, i1]
      · rw [fin_ok hok, hc]
        simp only
        rw [hdrop, i2, List.take_succ_cons, total_cons]
        omega
      · rw [List.take_succ_cons, total_cons]
        rcases i3 with h | h
        · left; omega
        · right
          rw [← List.drop_drop, hdrop]
          exact h

/-- All frames of a row that is whole. -/
theorem whole (K : List (List UInt8)) (hK : ∀ b ∈ K, b.length ≤ 65536) : (scan 0 (joined K)).map (·.2) = K ∧ fin 0 (joined K) = total K ∧ err (joined K) = 0 := by
  have h := torn K 0 K.length (total K) hK (Nat.le_refl _) (Nat.le_refl _) (by rw [List.take_length]; omega) (fun h => absurd h (by omega))
  rw [List.take_of_length_le (l := joined K) (by rw [joined_length]; omega), List.take_length] at h
  obtain ⟨h1, h2, _⟩ := h
  refine ⟨h1, by rw [h2]; omega, ?_⟩
  exact err_end (by rw [h2, joined_length]; omega)

theorem short_short (L : List (List UInt8)) : ∀ b ∈ short L, b.length ≤ 65536 := by
  intro b hb
  have := (List.mem_filter.1 hb).2
  simpa using this

theorem endsFrom_get (K : List (List UInt8)) : ∀ (p j : Nat) (h : j < (endsFrom p K).length), (endsFrom p K)[j] = p + total (K.take (j + 1)) := by
  induction K with
  | nil => intro p j h; simp [endsFrom] at h
  | cons b K ih =>
    intro p j h
    cases j with
    | zero => simp [endsFrom, total]
    | succ j =>
      show (endsFrom (p + (8 + b.length)) K)[j]'_ = _
      rw [ih, List.take_succ_cons, total_cons]
      omega
theorem texts_of {ps : List (Nat × List UInt8)} {K : List (List UInt8)} (h : ps.map (·.2) = K) : texts ps = K.map fun x => .string (S x) := by
  rw [← h, List.map_map]
  rfl
end Go.Proofs.Ytpeogcjakojjhaa.sl
