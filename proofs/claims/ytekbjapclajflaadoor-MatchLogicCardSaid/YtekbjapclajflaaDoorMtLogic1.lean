/-
  The rows of keys that the law MatchLogic makes.
-/
import Derived.Test.YtekbjapclajflaaDoorMtBytes
import Derived.Maps.AppendAt
namespace Go.Proofs.YtekbjapclajflaaDoor.mt
set_option linter.unusedVariables false
open Go.RowKit Go.Shelf
open fl (S S_size S_append S_inj)

theorem infoK : (Tryd.prog.info? 36).map (fun i => (i.zero, i.size, i.bytes)) = some (some (.agg #[.int .i64 0, .int .i64 0, .string ⟨#[]⟩, .string ⟨#[]⟩, .int .u64 0, .slice none 0 0]), 6, 80) := by kernel_rfl
theorem cellsK_length (l : List Key) : (cellsK l).length = l.length * 6 := by
  induction l with
  | nil => rfl
  | cons k l ih =>
    unfold cellsK at *
    rw [List.flatMap_cons, List.length_append, ih]
    simp [keyCells]; omega
theorem cellsK_append (a b : List Key) : cellsK (a ++ b) = cellsK a ++ cellsK b := by simp [cellsK]
theorem cellsK_get : ∀ (l : List Key) (j : Nat) (hj : j < l.length) (i : Nat), i < 6 → (cellsK l)[j * 6 + i]? = (keyCells l[j])[i]?
  | k :: l, 0, hj, i, hi => by
    unfold cellsK
    rw [List.flatMap_cons, List.getElem?_append_left (by simp [keyCells]; omega)]
    simp
  | k :: l, j + 1, hj, i, hi => by
    have ih := cellsK_get l j (by simpa using hj) i hi
    unfold cellsK at *
    rw [List.flatMap_cons, List.getElem?_append_right (by simp [keyCells]; omega), show (j + 1) * 6 + i - (keyCells k).length = j * 6 + i by simp [keyCells]; omega]
    simpa using ih
theorem cellsK_one (l : List Key) (hs : ∀ k ∈ l, ∃ a n c, k.sv = .slice a n c) : ∀ u ∈ cellsK l, u.oneCell' = true := by
  intro u hu
  unfold cellsK at hu
  obtain ⟨k, hk, h⟩ := List.mem_flatMap.1 hu
  obtain ⟨a, n, c, e⟩ := hs k hk
  unfold keyCells at h
  rw [e] at h
  simp only [List.mem_cons, List.not_mem_nil, or_false] at h
  rcases h with rfl | rfl | rfl | rfl | rfl | rfl <;> rfl
theorem sets_slice {w : World} {l : List Key} (hs : ∀ k ∈ l, SetIn w k) : ∀ k ∈ l, ∃ a n c, k.sv = .slice a n c := fun k hk => by
  obtain ⟨a, c, e, _⟩ := hs k hk
  exact ⟨a, _, c, e⟩
/-- A row of one's own holds keys. -/
theorem sl_own {w : World} {B : Nat} {v : Value} {l : List Key} (h : w.ownsRow B 36 6 v l.length (cellsK l)) (hs : ∀ k ∈ l, SetIn w k) : Sl w v l := by
  have h2 := h
  rcases h.2 with ⟨rfl, h0⟩ | ⟨g, cap, cur, rfl, hg, hh, hn, hcap, hsz, htake⟩
  · have : l = [] := List.length_eq_zero_iff.1 h0
    subst this
    exact Sl.nil w
  · refine ⟨⟨_, _, rfl, hn, .inr ⟨g, 0, rfl, (Array.getElem?_eq_some_iff.1 hh).1, fun j hj i hi => ?_⟩, fun e => by cases e⟩, hs⟩
    rw [Nat.zero_add, h2.cellAt (j * 6 + i) (by omega)]
    exact cellsK_get l j hj i hi
theorem own_below {w w' : World} {B : Nat} {v : Value} {n : Nat} {xs : List Value} (h : w.ownsRow B 36 6 v n xs) (k : Below w.heap.size w w') : w'.ownsRow B 36 6 v n xs := by
  obtain ⟨h1, h2 | ⟨g, cap, cur, h3, h4, h5, h6⟩⟩ := h
  · exact ⟨h1, .inl h2⟩
  · exact ⟨h1, .inr ⟨g, cap, cur, h3, h4, (k.block g (Array.getElem?_eq_some_iff.1 h5).1).trans h5, h6⟩⟩

abbrev App (v u : Value) (w : World) (v' : Value) (w' : World) : Prop := (Builtin.append_ #[22, 22] 22 #[v, u]).run Tryd.prog w = .ok v' w'
theorem append_keys (B : Nat) (v : Value) (o l : List Key) (u : Value) (hlen : o.length + l.length ≤ 1000) (w : World) (ho : w.ownsRow B 36 6 v o.length (cellsK o)) (hB : B ≤ w.heap.size) (hu : Sl w u l) (hs : ∀ k ∈ o, SetIn w k) :
    ∃ v' w', App v u w v' w' ∧ w'.ownsRow B 36 6 v' (o ++ l).length (cellsK (o ++ l)) ∧ Below B w w' := by
  obtain ⟨i0, hi, hz0, hz1, hz2⟩ := info_parts infoK
  obtain ⟨⟨a, c, rfl, hc, hr, hn⟩, hs'⟩ := hu
  cases a with
  | none =>
    have hl : l = [] := by
      rcases hr with h | ⟨_, _, h, _⟩
      · exact h
      · cases h
    obtain rfl := hn rfl
    subst hl
    have h := run_append_owned_none (P := Tryd.prog) (w := w) B 22 22 36 i0 6 Tryd.underlying22 hi v o.length (cellsK o) ho
    rw [List.append_nil]
    exact ⟨_, _, h, ho, Below.refl _ _⟩
  | some ad =>
    have hnews : ∀ j y, (cellsK l)[j]? = some y → w.cell? (ad.add j) = some y := by
      intro j y hj
      rcases hr with rfl | ⟨b, off, hab, hbw, hcell⟩
      · simp [cellsK] at hj
      · obtain rfl : ad = ⟨b, off, none⟩ := Option.some.inj hab
        have hjl : j < l.length * 6 := by
          rcases Nat.lt_or_ge j (l.length * 6) with h | h
          · exact h
          · rw [List.getElem?_eq_none (by rw [cellsK_length]; exact h)] at hj; cases hj
        have hk : j / 6 < l.length := by omega
        have hm : j % 6 < 6 := Nat.mod_lt _ (by decide)
        have e : j / 6 * 6 + j % 6 = j := by omega
        have h1 := cellsK_get l (j / 6) hk (j % 6) hm
        rw [e] at h1
        have h2 := hcell (j / 6) hk (j % 6) hm
        rw [show off + j / 6 * 6 + j % 6 = off + j by omega] at h2
        rw [addr_add, h2, ← h1, hj]
    obtain ⟨v', w', h1, h2, h3, _⟩ := run_append_own (P := Tryd.prog) (w := w) B 22 22 36 i0 (.agg #[.int .i64 0, .int .i64 0, .string ⟨#[]⟩, .string ⟨#[]⟩, .int .u64 0, .slice none 0 0]) 6 80 Tryd.underlying22 hi hz0 hz1 hz2 rfl (by decide) v o.length (cellsK o) ho ad l.length c
      (cellsK l) (cellsK_length l) hnews (cellsK_one l (sets_slice hs')) (by unfold maxLen; omega) (by omega) hB
    refine ⟨v', w', h1, ?_, (Below.refl B w).grown h3 hB (fun k hk => (ho.lt k hk).1)⟩
    rw [List.length_append, cellsK_append]; exact h2
/-- A literal of one key, and a row behind it. -/
theorem made_keys (k : Key) (u : Value) (l : List Key) (hlen : l.length ≤ 900) (w : World) (hu : Sl w u l) (hk : SetIn w k) :
    ∃ v' w', App (.slice (some ⟨w.heap.size, 0, none⟩) 1 1) u (w.alloc (.cells (keyCells k).toArray 36)) v' w' ∧ w'.ownsRow w.heap.size 36 6 v' (k :: l).length (cellsK (k :: l)) ∧ Below w.heap.size w w' := by
  have hb0 := below_box w (.cells (keyCells k).toArray 36)
  have hown := World.ownsRow_lit (base := w.heap.size) (e := 36) (size := 6) w (keyCells k).toArray 1 (Nat.le_refl _) (by unfold maxLen; omega) (by simp [keyCells])
  have hown' : (w.alloc (.cells (keyCells k).toArray 36)).ownsRow w.heap.size 36 6 (.slice (some ⟨w.heap.size, 0, none⟩) 1 1) [k].length (cellsK [k]) := by
    rw [show cellsK [k] = keyCells k by simp [cellsK]]
    exact hown
  obtain ⟨v', w', h1, h2, h3⟩ := append_keys w.heap.size _ [k] l u (by simp; omega) _ hown' (by simp) (hu.later hb0) (fun x hx => by rw [List.mem_singleton.1 hx]; exact hk.later hb0)
  exact ⟨v', w', h1, h2, hb0.trans h3⟩
end Go.Proofs.YtekbjapclajflaaDoor.mt
