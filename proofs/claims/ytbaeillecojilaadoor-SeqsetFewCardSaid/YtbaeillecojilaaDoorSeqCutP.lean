/-
  What strings.Cut and strings.Split answer at one byte.
-/
import Derived.Test.YtbaeillecojilaaDoorSeqIdx
import Derived.Test.YtbaeillecojilaaDoorSeqSplit
import Derived.Test.YtbaeillecojilaaDoorShelf
import Derived.Lib.Split
import Derived.Deep.OwnRows
namespace Go.Proofs.YtbaeillecojilaaDoor.sq
open Go.RowKit

theorem S_take (l : List UInt8) (i : Nat) : (S l).extract 0 i = S (l.take i) := by rw [S_mid]; simp
theorem S_drop (l : List UInt8) (i : Nat) : (S l).extract i l.length = S (l.drop i) := by
  rw [S_mid, List.take_of_length_le (by rw [List.length_drop]; omega)]

set_option maxHeartbeats 1000000 in
set_option maxRecDepth 100000 in
theorem scut_any (c : UInt8) (l : List UInt8) (hl : l.length ≤ 140737488355328) (w : World) :
    Calls Tryd.prog 50 #[.string (S l), .string ⟨#[c]⟩] w fun e w' =>
      ((split c l = [l] ∧ e = .returned (.tuple #[.string (S l), .string ⟨#[]⟩, .bool false])) ∨
        ∃ a b, split c l = a :: split c b ∧ a.length ≤ l.length ∧ b.length ≤ l.length ∧ e = .returned (.tuple #[.string (S a), .string (S b), .bool true])) ∧ Below w.heap.size w w' := by
  have hi := Tryd.stringslite_Index_one (S l) c
  have hz := S_size l
  rw [S_data] at hi
  rcases idx_cases c l with ⟨h1, _, h3⟩ | ⟨i, h1, h2, h3, _⟩
  · have HM := Lib.hid h3
    rw [h1] at hi
    clear h1 h3
    go_enter Tryd.func50, Tryd.ntmps50
    go_wp2_with fail
    refine (hi _).mono ?_
    rintro e w1 ⟨rfl, rfl⟩
    go_wp2_with fail
    exact bodyPost_ret (results_tmp3 rfl _ _ _) rfl ⟨.inl ⟨HM.out, rfl⟩, Below.refl _ _⟩
  · have HM : Hid (split c l = l.take i :: split c (l.drop (i + 1)) ∧ (l.take i).length ≤ l.length ∧ (l.drop (i + 1)).length ≤ l.length) :=
      Lib.hid ⟨h3, by rw [List.length_take]; omega, by rw [List.length_drop]; omega⟩
    have e1 := S_take l i
    have e2 := S_drop l (i + 1)
    rw [h2] at hi
    have g0 : (0 : Int) ≤ (i : Int) := by omega
    have g1 : (i : Int) ≤ (l.length : Int) := by omega
    have g2 : (0 : Int) ≤ (i : Int) + 1 := by omega
    have g3 : (i : Int) + 1 ≤ (l.length : Int) := by omega
    clear h2 h3
    generalize l.take i = a at *
    generalize l.drop (i + 1) = b at *
    go_enter Tryd.func50, Tryd.ntmps50
    go_wp2_with fail
    refine (hi _).mono ?_
    rintro e w1 ⟨rfl, rfl⟩
    go_wp2_with fail
    go_quiet (fail)
    go_wp2_with fail
    exact bodyPost_ret (results_tmp3 rfl _ _ _) rfl ⟨.inr ⟨a, b, HM.out.1, HM.out.2.1, HM.out.2.2, rfl⟩, below_drewN (Below.refl _ _) _⟩

set_option maxRecDepth 100000 in
theorem cut_any (c : UInt8) (l : List UInt8) (hl : l.length ≤ 140737488355328) (w : World) :
    Calls Tryd.prog 39 #[.string (S l), .string ⟨#[c]⟩] w fun e w' =>
      ((split c l = [l] ∧ e = .returned (.tuple #[.string (S l), .string ⟨#[]⟩, .bool false])) ∨
        ∃ a b, split c l = a :: split c b ∧ a.length ≤ l.length ∧ b.length ≤ l.length ∧ e = .returned (.tuple #[.string (S a), .string (S b), .bool true])) ∧ Below w.heap.size w w' := by
  have h := scut_any c l hl w
  go_enter Tryd.func39, Tryd.ntmps39
  go_wp2_with fail
  refine h.mono ?_
  rintro e w1 ⟨⟨h1, rfl⟩ | ⟨a, b, h1, h2, h3, rfl⟩, hb⟩
  · have HM := Lib.hid h1
    clear h h1
    go_wp2_with fail
    exact bodyPost_ret (results_tmp3 rfl _ _ _) rfl ⟨.inl ⟨HM.out, rfl⟩, hb⟩
  · have HM := Lib.hid (And.intro h1 (And.intro h2 h3))
    clear h h1 h2 h3
    go_wp2_with fail
    exact bodyPost_ret (results_tmp3 rfl _ _ _) rfl ⟨.inr ⟨a, b, HM.out.1, HM.out.2.1, HM.out.2.2, rfl⟩, hb⟩

/-- The row of 'make([]string, N)' with the first pieces laid. -/
def lay (done : List (List UInt8)) (N : Nat) : Array Value := Lib.cellsOf (done.map S) N
theorem lay_next {done : List (List UInt8)} {N : Nat} (h : done.length < N) : (lay done N)[done.length]? = some (.string ⟨#[]⟩) := by
  have := Lib.cellsOf_next (done := done.map S) (N := N) (by rw [List.length_map]; exact h)
  rwa [List.length_map] at this
theorem lay_set {done : List (List UInt8)} {N : Nat} (h : done.length < N) (x : List UInt8) : (lay done N).setIfInBounds done.length (.string (S x)) = lay (done ++ [x]) N := by
  have := Lib.cellsOf_set (done := done.map S) (N := N) (by rw [List.length_map]; exact h) (S x)
  rw [List.length_map] at this
  unfold lay
  rw [this, List.map_append]; rfl
theorem lay_size {done : List (List UInt8)} {N : Nat} (h : done.length ≤ N) : (lay done N).size = N := Lib.cellsOf_size (by rw [List.length_map]; exact h)
theorem lay_row (w : World) (l : List (List UInt8)) : RowS (w.alloc (.cells (lay l l.length) 9)) (some ⟨w.heap.size, 0, none⟩) l :=
  .inr ⟨w.heap.size, 0, rfl, by simp, fun j hj => by
    have : (lay l l.length)[j]? = some (.string (S l[j])) := by
      unfold lay Lib.cellsOf
      simp [hj]
    have h2 : (w.alloc (.cells (lay l l.length) 9)).cell? ⟨w.heap.size, 0 + j, none⟩ = (lay l l.length)[j]? := by rw [Nat.zero_add, World.cell?_alloc_new]
    rw [h2, this]⟩

set_option maxHeartbeats 4000000 in
set_option maxRecDepth 1000000 in
theorem gensplit_any (c : UInt8) (l : List UInt8) (hl : l.length ≤ 140737488355328) (hc : l.count c < 64) (w : World) :
    Calls Tryd.prog 38 #[.string (S l), .string ⟨#[c]⟩, .int .i64 0, .int .i64 (-1)] w fun e w' =>
      e = .returned (.slice (some ⟨w.heap.size, 0, none⟩) (split c l).length (split c l).length) ∧ w' = w.alloc (.cells (lay (split c l) (split c l).length) 9) := by
  obtain ⟨N, hN⟩ : ∃ N, (split c l).length = N := ⟨_, rfl⟩
  have hcn : l.count c + 1 = N := by rw [← hN, split_count c _ l (Nat.le_refl _)]
  have hcl : l.count c ≤ l.length := List.count_le_length
  have hC := Tryd.strings_Count_one (S l) c w
  rw [S_data] at hC
  unfold Lib.countByte at hC
  have hcn' : ((l.count c : Nat) : Int) = (N : Int) - 1 := by omega
  rw [hcn'] at hC
  have hz := S_size l
  have hse : ByteArray.toList ⟨#[c]⟩ = [c] := by rw [ByteArray.toList_eq]
  have hmn : min ((N : Int)) ((l.length : Int) + 1) = (N : Int) := Int.min_eq_left (by omega)
  have hmk := run_make_row' (P := Tryd.prog) 44 9 (.string ⟨#[]⟩) 16 Tryd.underlying44 infoS rfl .i64 .i64 N (by omega) (by omega)
  rw [hN]
  have hI := fun x (W : World) => Tryd.strings_Index_one (S x) c W
  have HI := Lib.hid hI
  have hN64 : N ≤ 64 := by omega
  have HN := Lib.hid hcn
  have HL := Lib.hid hN
  clear hcn hcn' hI hN
  go_enter Tryd.func38, Tryd.ntmps38
  go_wp2_with fail
  refine hC.mono ?_
  rintro e w1 ⟨rfl, rfl⟩
  clear hC
  go_wp2_with fail
  clear hmk hse hmn hcl
  go_loopw [0, 10] (fun s0 s10 wr => ∃ (done : List (List UInt8)) (rest : List UInt8), s0 = .string (S rest) ∧ s10 = .int .i64 done.length ∧ Hid (done.length + rest.count c + 1 = N) ∧ Hid (rest.length ≤ l.length) ∧ Hid (done ++ split c rest = split c l) ∧ wr = w1.alloc (.cells (lay done N) 9))
    (fun _ i _ => N - (intOf i).toNat)
  case atStart => exact ⟨[], l, rfl, rfl, Lib.hid (by rw [List.length_nil]; have := HN.out; omega), Lib.hid (Nat.le_refl _), Lib.hid rfl, by unfold lay; rw [List.map_nil, Lib.cellsOf_nil]; rfl⟩
  case round =>
    obtain ⟨done, rest, rfl, rfl, HC, HR, HS, rfl⟩ := hrel
    have hd : done.length < N := by have := HC.out; omega
    have hnext := lay_next hd
    have hset := lay_set hd
    have HSET := Lib.hid hset
    have hz2 := S_size rest
    have hI := HI.out rest
    rw [S_data] at hI
    clear hset
    by_cases hlt : done.length + 1 < N
    · rcases idx_cases c rest with ⟨_, h2, _⟩ | ⟨i, h1, h2, h3, h4⟩
      · exfalso
        have := List.count_eq_zero.2 h2
        have := HC.out
        omega
      · rw [h2] at hI
        have hltz : ((done.length : Nat) : Int) < (N : Int) - 1 := by omega
        have c0 : ¬ ((i : Int) < 0) := by omega
        have g0 : (0 : Int) ≤ (i : Int) := by omega
        have g1 : (i : Int) ≤ (rest.length : Int) := by omega
        have g2 : (0 : Int) ≤ (i : Int) + 1 := by omega
        have g3 : (i : Int) + 1 ≤ (rest.length : Int) := by omega
        have e1 := S_take rest i
        have e2 := S_drop rest (i + 1)
        have hrl := HR.out
        have HC2 : Hid ((done ++ [rest.take i]).length + (rest.drop (i + 1)).count c + 1 = N) := by
          have := HC.out
          exact Lib.hid (by rw [List.length_append, List.length_singleton]; omega)
        have HR2 : Hid ((rest.drop (i + 1)).length ≤ l.length) := Lib.hid (by rw [List.length_drop]; have := HR.out; omega)
        have HS2 : Hid (done ++ [rest.take i] ++ split c (rest.drop (i + 1)) = split c l) := by
          refine Lib.hid ?_
          rw [← HS.out, h3]; simp
        clear h2 h3 h4 HC HR HS
        generalize rest.take i = a at *
        generalize rest.drop (i + 1) = b at *
        go_wp2_with fail
        refine (hI _).mono ?_
        rintro e w2 ⟨rfl, rfl⟩
        clear hI
        go_wp2_with fail
        go_roundw
        case rel => exact ⟨done ++ [a], b, rfl, by rw [List.length_append, List.length_singleton]; go_num, HC2, HR2, HS2, by rw [← HSET.out]⟩
        case measure => simp [intOf]; omega
    · have HN2 := Lib.hid (show done.length + 1 = N by omega)
      have hltz : ¬ (((done.length : Nat) : Int) < (N : Int) - 1) := by omega
      have hw : IntKind.i64.wrap ((done.length : Int) + 1) = (done.length : Int) + 1 := IntWalk.i64_in _ (by omega)
      have HF : Hid (lay (done ++ [rest]) N = lay (split c l) N) := by
        have h0 := HC.out
        rcases idx_cases c rest with ⟨_, _, h3⟩ | ⟨i, _, _, _, h4⟩
        · refine Lib.hid ?_
          rw [← HS.out, h3]
        · omega
      clear HC HR HS hI
      go_wp2_with fail
      go_ret
      refine ⟨?_, by rw [← HF.out, ← HSET.out]⟩
      rw [← HN2.out]; rfl

set_option maxRecDepth 100000 in
theorem split_any (c : UInt8) (l : List UInt8) (hl : l.length ≤ 140737488355328) (hc : l.count c < 64) (w : World) :
    Calls Tryd.prog 24 #[.string (S l), .string ⟨#[c]⟩] w fun e w' =>
      (∃ a2, e = .returned (.slice a2 (split c l).length (split c l).length) ∧ RowS w' a2 (split c l)) ∧ Below w.heap.size w w' := by
  have h := gensplit_any c l hl hc w
  have hr := Lib.hid (lay_row w (split c l))
  generalize split c l = L at *
  go_enter Tryd.func24, Tryd.ntmps24
  go_wp2_with fail
  refine h.mono ?_
  rintro e w1 ⟨rfl, rfl⟩
  clear h
  go_wp2_with fail
  go_ret
  exact ⟨⟨_, rfl, hr.out⟩, (Below.refl _ _).alloc (Nat.le_refl _) _⟩
end Go.Proofs.YtbaeillecojilaaDoor.sq
