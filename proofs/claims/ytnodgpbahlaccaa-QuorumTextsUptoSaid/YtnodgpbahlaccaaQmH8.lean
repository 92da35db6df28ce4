/-
  The heap of the indices that are of members.
-/
import Derived.Test.YtnodgpbahlaccaaQmH7
namespace Go.Proofs.Ytnodgpbahlaccaa.qm
set_option linter.unusedVariables false
open Go.RowKit
open rw (Arr But Own bnext below_box below_drew below_drewN addr_add)

/-- Those of members, the last first. -/
def ofL (l : List Int) (hv : List Ix) : List Ix := (hv.filter fun x => l.contains x.node).reverse
theorem ofL_mem {l : List Int} {hv : List Ix} (x : Ix) : x ∈ ofL l hv ↔ x ∈ hv ∧ x.node ∈ l := by simp [ofL]
theorem ofL_len (l : List Int) (hv : List Ix) : (ofL l hv).length ≤ hv.length := by
  unfold ofL; rw [List.length_reverse]; exact List.length_filter_le _ _
theorem ofL_next {l : List Int} {hv : List Ix} {k : Nat} (hk : k < hv.length) : ofL l (hv.take (k + 1)) = if l.contains (hv[k]).node then hv[k] :: ofL l (hv.take k) else ofL l (hv.take k) := by
  unfold ofL
  rw [List.take_succ_eq_append_getElem hk, List.filter_append]
  cases h : l.contains (hv[k]).node with
  | true => rw [List.filter_cons_of_pos (by simpa using h)]; simp
  | false => rw [List.filter_cons_of_neg (by simpa using h)]; simp
theorem Heaped.below {w w1 w2 : World} {hb : Nat} {l : List Ix} (h : Heaped w w1 hb l) (b : Below w1.heap.size w1 w2) : Heaped w w2 hb l := by
  obtain ⟨v, m, h1, h2, h3, h4⟩ := h
  exact ⟨v, m, h1.below b, h2.below _ b, h3.trans (b.mono (Nat.le_of_lt h1.lt)), h4⟩
theorem Heaped.b {w w1 : World} {hb : Nat} {l : List Ix} (h : Heaped w w1 hb l) : Below hb w w1 := by
  obtain ⟨v, m, h1, h2, h3, h4⟩ := h
  exact h3
set_option maxHeartbeats 4000000 in
set_option maxRecDepth 100000 in
theorem of_any (u v : Value) (l : List Int) (hv : List Ix) (hl : l.length ≤ 140737488355328) (hh : hv.length ≤ 100000) (w : World) (h : Ns w u l) (h2 : Is w v hv) :
    Calls Try.prog 30 #[u, v] w fun e w' => e = .returned (.pointer (some ⟨w.heap.size, 0, none⟩)) ∧ Heaped w w' w.heap.size (ofL l hv) := by
  obtain ⟨a, c, rfl⟩ := sl_form h
  obtain ⟨a2, c2, rfl⟩ := sl_form h2
  obtain ⟨N, hN⟩ : ∃ n, hv.length = n := ⟨_, rfl⟩
  obtain ⟨hb, hhb⟩ : ∃ q, w.heap.size = q := ⟨_, rfl⟩
  have HC := Lib.hid fun n W x => contains_any (.slice a l.length c) l n hl W x
  obtain ⟨M, hM⟩ : ∃ n, l.length = n := ⟨_, rfl⟩
  rw [hM] at HC h ⊢
  rw [hN] at hh h2 ⊢
  have HN := Lib.hid hN
  have H1 := Lib.hid h
  have H2 := Lib.hid h2
  have H0 : Hid (Heaped w (w.alloc (.cells #[.slice none 0 0] 65)) hb (ofL l (hv.take 0))) := by
    have x := Arr.new w 65 #[.slice none 0 0]
    have k := below_box w (.cells #[.slice none 0 0] 65)
    rw [hhb] at x k
    exact ⟨_, [], x, Own.nil _ _ _, k, by simp [ofL], fun k _ hk => absurd hk (by simp)⟩
  have HQ : Hid (w.heap.size = hb) := hhb
  rw [hhb]
  clear h h2 hN hM hl
  go_enter Try.func30, Try.ntmps30
  go_wp2
  generalize w.alloc (.cells #[.slice none 0 0] 65) = w1 at *
  go_loopw [7, 11] (fun _ i wr => ∃ k : Nat, i = .int .i64 k ∧ k ≤ N ∧ Hid (Heaped w wr hb (ofL l (hv.take k))))
    (fun _ i _ => N - (intOf i).toNat)
  case atStart => exact ⟨0, rfl, Nat.zero_le _, H0⟩
  case round =>
    obtain ⟨k, rfl, hk, HI⟩ := hrel
    have hbw : Below w.heap.size w wr := by rw [HQ.out]; exact HI.out.b
    by_cases hlt : k < N
    · have hki : (k : Int) < (N : Int) := by omega
      have hkl : k < hv.length := by rw [HN.out]; exact hlt
      have HS2 := H2.out.later _ hbw
      rw [← HN.out] at HS2
      obtain ⟨b, off, c3, e, hb3, c0, c1⟩ := slI_at HS2 hkl
      injection e with e1 e2 e3
      subst e1 e3
      clear e2
      have hnx := ofL_next (l := l) hkl
      obtain ⟨x, hx⟩ : ∃ x, hv[k]'hkl = x := ⟨_, rfl⟩
      rw [hx] at c0 c1 hnx
      obtain ⟨xn, xi⟩ := x
      simp only at c0 c1 hnx
      have kb := below_box wr (.cells #[.int .i64 xn, .int .u64 xi] 31)
      have x1 := Arr.new wr 31 #[.int .i64 xn, .int .u64 xi]
      have hC := HC.out xn _ ((H1.out.later _ hbw).later _ kb)
      have HH := Lib.hid (HI.out.below kb)
      have HX := Lib.hid x1
      have hll : (ofL l (hv.take k)).length < 1000000 := by
        have := ofL_len l (hv.take k)
        rw [List.length_take] at this
        omega
      clear HI HS2 hb3 hbw hx x1 hkl
      obtain ⟨r, hr⟩ : ∃ r, l.contains xn = r := ⟨_, rfl⟩
      rw [hr] at hC hnx
      obtain ⟨q, hq⟩ : ∃ q, wr.heap.size = q := ⟨_, rfl⟩
      rw [hq] at HX
      clear hr kb
      cases r with
      | true =>
        have HP := push_any hb _ ⟨xn, xi⟩ hll w _ HH.out
        rw [if_pos rfl] at hnx
        rw [← hnx] at HP
        have HP := Lib.hid HP
        clear hnx HH hll
        go_wp2_with fail
        generalize wr.alloc (.cells #[.int .i64 xn, .int .u64 xi] 31) = W1 at *
        refine hC.mono ?_
        clear hC
        rintro e w2 ⟨rfl, rfl⟩
        have x0 : W1.cell? ⟨q, 0, none⟩ = some (.int .i64 xn) := HX.out.cell rfl
        have x1 : W1.cell? ⟨q, 1, none⟩ = some (.int .u64 xi) := HX.out.cell rfl
        clear c0 c1
        go_wp2_with fail
        refine HP.out.mono ?_
        clear HP x0 x1 HX
        rintro e w3 ⟨rfl, h3⟩
        have H3 := Lib.hid h3
        clear h3
        go_wp2_with fail
        exact ⟨⟨k + 1, by rw [Int.natCast_add]; rfl, by omega, H3.out⟩, by simp only [intOf]; omega⟩
      | false =>
        rw [if_neg (by simp)] at hnx
        rw [← hnx] at HH
        clear hnx hll
        go_wp2_with fail
        generalize wr.alloc (.cells #[.int .i64 xn, .int .u64 xi] 31) = W1 at *
        refine hC.mono ?_
        clear hC
        rintro e w2 ⟨rfl, rfl⟩
        clear c0 c1
        go_wp2_with fail
        exact ⟨⟨k + 1, by rw [Int.natCast_add]; rfl, by omega, HH.out⟩, by simp only [intOf]; omega⟩
    · obtain rfl : k = N := by omega
      have hki : ¬ (k : Int) < (k : Int) := by omega
      have HT := HI.out
      rw [← HN.out, List.take_length] at HT
      have HT := Lib.hid HT
      clear HI hbw
      go_wp2
      go_ret
      exact ⟨rfl, HT.out⟩
end Go.Proofs.Ytnodgpbahlaccaa.qm
