/-
  What the law's row answers: the frames of the bodies that are not too long, one behind the other; these bodies; where each frame ends.
-/
import Derived.Test.YtpeogcjakojjhaaSealSame
namespace Go.Proofs.Ytpeogcjakojjhaa.sl
open Go.RowKit

def short (L : List (List UInt8)) : List (List UInt8) := L.filter fun b => decide (b.length ≤ 65536)
def joined (K : List (List UInt8)) : List UInt8 := K.flatMap frame
def total (K : List (List UInt8)) : Nat := (K.map fun b => 8 + b.length).sum
def endsFrom (p : Nat) : List (List UInt8) → List Nat
  | [] => []
  | b :: r => (p + (8 + b.length)) :: endsFrom (p + (8 + b.length)) r

theorem joined_snoc (K : List (List UInt8)) (b : List UInt8) : joined (K ++ [b]) = joined K ++ frame b := by simp [joined]
theorem joined_cons (b : List UInt8) (K : List (List UInt8)) : joined (b :: K) = frame b ++ joined K := by simp [joined]
theorem total_nil : total [] = 0 := rfl
theorem total_cons (b : List UInt8) (K : List (List UInt8)) : total (b :: K) = 8 + b.length + total K := by simp [total]
theorem total_append (K K' : List (List UInt8)) : total (K ++ K') = total K + total K' := by simp [total]
theorem joined_length (K : List (List UInt8)) : (joined K).length = total K := by
  induction K with
  | nil => rfl
  | cons b K ih => rw [joined_cons, List.length_append, frame_length, ih, total_cons]
theorem endsFrom_snoc (K : List (List UInt8)) (b : List UInt8) : ∀ p, endsFrom p (K ++ [b]) = endsFrom p K ++ [p + total K + (8 + b.length)] := by
  induction K with
  | nil => intro p; simp [endsFrom, total]
  | cons a K ih =>
    intro p
    show (p + (8 + a.length)) :: endsFrom (p + (8 + a.length)) (K ++ [b]) = _
    rw [ih, total_cons]
    simp only [endsFrom, List.cons_append, List.cons.injEq, true_and]
    rw [show p + (8 + a.length) + total K + (8 + b.length) = p + (8 + a.length + total K) + (8 + b.length) by omega]
theorem endsFrom_length (K : List (List UInt8)) : ∀ p, (endsFrom p K).length = K.length := by
  induction K with
  | nil => intro p; rfl
  | cons a K ih => intro p; simp [endsFrom, ih]
theorem short_take (L : List (List UInt8)) (k : Nat) (h : k < L.length) : short (L.take (k + 1)) = short (L.take k) ++ if L[k].length ≤ 65536 then [L[k]] else [] := by
  unfold short
  rw [List.take_succ_eq_append_getElem h, List.filter_append]
  congr 1
  by_cases hs : L[k].length ≤ 65536
  · simp [hs]
  · simp [hs]
theorem total_short (L : List (List UInt8)) : total (short L) ≤ total L := by
  induction L with
  | nil => simp [short, total]
  | cons b L ih =>
    rw [total_cons]
    unfold short at *
    by_cases h : b.length ≤ 65536
    · rw [List.filter_cons_of_pos (by simpa using h), total_cons]; omega
    · rw [List.filter_cons_of_neg (by simpa using h)]; omega
theorem total_take (L : List (List UInt8)) (k : Nat) : total (L.take k) ≤ total L := by
  have h := total_append (L.take k) (L.drop k)
  rw [List.take_append_drop] at h
  omega
theorem count_total (L : List (List UInt8)) : L.length * 8 ≤ total L := by
  induction L with
  | nil => simp [total]
  | cons b L ih => rw [total_cons, List.length_cons]; omega

def strs (K : List (List UInt8)) : List Value := K.map fun x => .string (S x)
def nums (K : List Nat) : List Value := K.map fun x => .int .i64 (x : Nat)

set_option maxHeartbeats 1000000 in
set_option maxRecDepth 100000 in
theorem row_any (L : List (List UInt8)) (hL : total L ≤ 16777216) (v0 : Value) (w : World) (h0 : SV w v0 L) :
    Calls Try.prog 20 #[v0] w fun e w' => ∃ v u, e = .returned (.tuple #[.string (S (joined (short L))), v, u, .bool true]) ∧
      w'.ownsRow w.heap.size 9 1 v (short L).length (strs (short L)) ∧ w'.ownsRow w.heap.size 3 1 u (short L).length (nums (endsFrom 0 (short L))) ∧ Below w.heap.size w w' := by
  obtain ⟨i0, hi, hz0, hz1, hz2⟩ := info_parts infoS
  obtain ⟨j0, hj, hy0, hy1, hy2⟩ := info_parts infoI
  have hcount := count_total L
  obtain ⟨a, cap, rfl, ha⟩ := h0
  obtain ⟨n, hn⟩ : ∃ n, n = L.length := ⟨_, rfl⟩
  rw [← hn] at hcount ⊢
  have HN := Lib.hid hn
  have HA := Lib.hid ha
  clear hn ha
  go_enter Try.func20, Try.ntmps20
  go_wp2
  go_loopw [6, 7, 8, 9] (fun s v u i wr => ∃ k : Nat, i = .int .i64 k ∧ k ≤ n ∧ s = .string (S (joined (short (L.take k)))) ∧ wr.ownsRow w.heap.size 9 1 v (short (L.take k)).length (strs (short (L.take k))) ∧ wr.ownsRow w.heap.size 3 1 u (short (L.take k)).length (nums (endsFrom 0 (short (L.take k)))) ∧ Below w.heap.size w wr)
    (fun _ _ _ i _ => n - (intOf i).toNat)
  case atStart => exact ⟨0, rfl, Nat.zero_le _, rfl, World.ownsRow_nil _ _ _ _, World.ownsRow_nil _ _ _ _, Below.refl _ _⟩
  case round =>
    obtain ⟨k, rfl, hk, rfl, hv, hu, hB⟩ := hrel
    have hsz := hB.size
    by_cases hlt : k < n
    · have hkl : k < L.length := by have := HN.out; omega
      rcases HA.out with h0 | ⟨b, off, rfl, hbl, hcell⟩
      · rw [h0] at hkl; simp at hkl
      · have c1 : wr.cell? ⟨b, off + k, none⟩ = some (.string (S L[k])) := (hB.cell (p := ⟨b, off + k, none⟩) hbl).trans (hcell k hkl)
        have hst := short_take L k hkl
        have htot : total (short (L.take (k + 1))) ≤ 16777216 := Nat.le_trans (total_short _) (Nat.le_trans (total_take L (k + 1)) hL)
        have hcnt := count_total (short (L.take (k + 1)))
        obtain ⟨x, hx⟩ : ∃ x, x = L[k] := ⟨_, rfl⟩
        rw [← hx] at c1 hst
        have hzx := S_size x
        have HC := Lib.hid hcell
        clear hcell hx
        by_cases hlong : 65536 < x.length
        · rw [if_neg (by omega), List.append_nil] at hst
          have HST := Lib.hid hst
          clear hst
          go_wp2
          go_roundw
          case rel => exact ⟨k + 1, by go_num, by omega, by rw [HST.out], by rw [HST.out]; exact hv, by rw [HST.out]; exact hu, hB⟩
          case measure => simp [intOf]; omega
        · rw [if_pos (by omega)] at hst
          have HST := Lib.hid hst
          rw [hst, List.length_append, List.length_singleton] at hcnt
          rw [hst, total_append] at htot
          rw [total_append] at hcnt
          have hjl := joined_length (short (L.take k))
          have hzs := S_size (joined (short (L.take k)))
          have hzf := S_size (frame x)
          have hfl := frame_length x
          have hF := frame_any x (by omega)
          obtain ⟨q, hq⟩ : ∃ q, q = total (short (L.take k)) + (8 + x.length) := ⟨_, rfl⟩
          have hes := endsFrom_snoc (short (L.take k)) x 0
          rw [Nat.zero_add, ← hq] at hes
          have hjs := joined_snoc (short (L.take k)) x
          have hcat := S_append (joined (short (L.take k))) (frame x)
          rw [← hjs] at hcat
          have hzj : (S (joined (short (L.take k) ++ [x]))).size = q := by rw [S_size, joined_length, total_append, hq]; simp [total]
          have HES := Lib.hid hes
          have hqb : q ≤ 16777216 := by rw [hq]; simpa [total] using htot
          clear hst hes hq
          generalize short (L.take k) = K at *
          rw [hjl] at hzs
          rw [hfl] at hzf
          generalize joined K = J at *
          obtain ⟨J', hJ'⟩ : ∃ J', J' = joined (K ++ [x]) := ⟨_, rfl⟩
          rw [← hJ'] at hcat hzj
          have HJ := Lib.hid hJ'
          clear hJ'
          generalize frame x = F at *
          clear hjs hjl hfl
          have hxl : x.length ≤ 65536 := by omega
          go_wp2_with fail
          refine (hF _).mono ?_
          rintro e w1 ⟨rfl, hb1⟩
          have hv1 := ownsRow_below hv hb1
          have hu1 := ownsRow_below hu hb1
          have hB1 : Below w.heap.size w w1 := hB.trans (hb1.mono hsz)
          have hsz1 := hB1.size
          have c2 : w1.cell? ⟨b, off + k, none⟩ = some (.string (S x)) := (hb1.cell (p := ⟨b, off + k, none⟩) (Nat.lt_of_lt_of_le hbl hsz)).trans c1
          clear hv hu hB hb1 hF c1
          go_wp2_with (at_builtin; refine wpList_append_own _ rfl _ _ 35 rfl w.heap.size 9 i0 (.string ⟨#[]⟩) 1 16 Try.underlying35 hi hz0 hz1 hz2 rfl (by decide) _ _ _ rfl (hv1.alloc _) ⟨w1.heap.size, 0, none⟩ 1 1 [.string (S x)] rfl rfl (cell_one_new _ _ _) (by simp [Value.oneCell']) (by unfold maxLen; omega) (by omega) (by simp; omega) ?_)
          intro v' w2 hv2 hg2 _
          have hap := ownsRow_apart hu1 hv1 (by decide)
          have hu2 := (hu1.alloc (.cells #[.string (S x)] 9)).kept hg2 hap
          have hB2 : Below w.heap.size w w2 := (hB1.alloc hsz1 _).grown hg2 (by simp; omega) (fun k hk => (hv1.lt k hk).1)
          have hsz2 := hB2.size
          have hkl2 : K.length ≤ 2097152 := by omega
          have hul : (nums (endsFrom 0 K)).length = K.length := by unfold nums; rw [List.length_map, endsFrom_length]
          clear hap hu1 hv1 hB1 hg2 c2
          go_wp2_with (at_builtin; refine wpList_append_own _ rfl _ _ 38 rfl w.heap.size 3 j0 (.int .i64 0) 1 8 Try.underlying38 hj hy0 hy1 hy2 rfl (by decide) _ _ _ rfl (hu2.alloc _) ⟨w2.heap.size, 0, none⟩ 1 1 [.int .i64 q] rfl rfl (cell_one_new _ _ _) (by simp [Value.oneCell']) (by unfold maxLen; omega) (by omega) (by simp; omega) ?_)
          intro u' w3 hu3 hg3 _
          have hap := ownsRow_apart hv2 hu2 (by decide)
          have hv3 := (hv2.alloc (.cells #[.int .i64 q] 3)).kept hg3 hap
          have hB3 : Below w.heap.size w w3 := (hB2.alloc hsz2 _).grown hg3 (by simp; omega) (fun k hk => (hu2.lt k hk).1)
          clear hap hu2 hv2 hB2 hg3
          go_wp2
          go_roundw
          case rel =>
            refine ⟨k + 1, by go_num, by omega, ?_, ?_, ?_, hB3⟩
            · rw [HST.out, HJ.out]
            · rw [HST.out, List.length_append]
              simpa [strs] using hv3
            · rw [HST.out, List.length_append, HES.out]
              simpa [nums] using hu3
          case measure => simp [intOf]; omega
    · obtain rfl : k = n := by omega
      have hall : L.take k = L := by rw [HN.out, List.take_length]
      rw [hall] at hv hu
      have HALL := Lib.hid hall
      clear hall
      go_wp2
      refine bodyPost_ret (results_tmp4 rfl _ _ _) rfl ?_
      exact ⟨_, _, by rw [HALL.out]; rfl, hv, hu, hB⟩
end Go.Proofs.Ytpeogcjakojjhaa.sl
