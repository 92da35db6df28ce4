/-
  What the reference's Unhex answers: the bytes whose digits these are, or none.
-/
import Derived.Test.YtpimdbnhpbjlkaaGreatDoorDigHex
import Derived.Deep.RegionHeld3
import Derived.Deep.RegionWith
namespace Go.Proofs.YtpimdbnhpbjlkaaGreatDoor.dg
open Go.RowKit

/-- The bytes below n that have these two digits. -/
def hits (n : Nat) (a b : UInt8) : List UInt8 := ((List.range n).filter fun c => decide (hex1 c.toUInt8 = [a, b])).map Nat.toUInt8
theorem hits_succ (n : Nat) (a b : UInt8) : hits (n + 1) a b = hits n a b ++ if hex1 n.toUInt8 = [a, b] then [n.toUInt8] else [] := by
  unfold hits
  rw [List.range_succ, List.filter_append, List.map_append]
  congr 1
  by_cases h : hex1 n.toUInt8 = [a, b]
  · rw [if_pos h, List.filter_cons_of_pos (by simpa using h)]; rfl
  · rw [if_neg h, List.filter_cons_of_neg (by simpa using h)]; rfl
/-- Pair by pair. -/
def un : List UInt8 → List UInt8
  | a :: b :: r => hits 256 a b ++ un r
  | _ => []
theorem un_append : ∀ (j : Nat) (p r : List UInt8), p.length = 2 * j → un (p ++ r) = un p ++ un r
  | 0, p, r, h => by
    obtain rfl : p = [] := List.length_eq_zero_iff.1 (by omega)
    rfl
  | j + 1, p, r, h => by
    match p, h with
    | a :: b :: p, h =>
      have := un_append j p r (by simpa using (by simp at h; omega : p.length = 2 * j))
      show hits 256 a b ++ un (p ++ r) = (hits 256 a b ++ un p) ++ un r
      rw [this, List.append_assoc]
    | [a], h => simp at h; omega
    | [], h => simp at h
theorem un_take (l : List UInt8) (j : Nat) (h : 2 * j + 1 < l.length) : un (l.take (2 * (j + 1))) = un (l.take (2 * j)) ++ hits 256 (l[2 * j]) (l[2 * j + 1]) := by
  have e : l.take (2 * (j + 1)) = l.take (2 * j) ++ [l[2 * j], l[2 * j + 1]] := by
    rw [show 2 * (j + 1) = 2 * j + 1 + 1 by omega, List.take_succ_eq_append_getElem h, List.take_succ_eq_append_getElem (by omega), List.append_assoc]
    rfl
  rw [e, un_append j _ _ (by rw [List.length_take]; omega)]
  congr 1
  show hits 256 _ _ ++ [] = _
  rw [List.append_nil]
theorem un_rest {l : List UInt8} (h : l.length ≤ 1) : un l = [] := by
  match l, h with
  | [], _ => rfl
  | [a], _ => rfl
theorem un_all (l : List UInt8) (j : Nat) (h1 : 2 * j ≤ l.length) (h2 : l.length ≤ 2 * j + 1) : un (l.take (2 * j)) = un l := by
  have h := un_append j (l.take (2 * j)) (l.drop (2 * j)) (by rw [List.length_take]; omega)
  rw [List.take_append_drop, un_rest (l := l.drop (2 * j)) (by rw [List.length_drop]; omega), List.append_nil] at h
  exact h.symm
theorem S_pair (l : List UInt8) (i : Nat) (h : i + 1 < l.length) : (S l).extract i (i + 2) = S [l[i], l[i + 1]] := by
  apply ByteArray.ext
  apply Array.toList_inj.1
  rw [Lib.extract_data, S_data, S_data]
  have e : (l.drop i).take 2 = [l[i], l[i + 1]] := by
    rw [List.drop_eq_getElem_cons (by omega), List.drop_eq_getElem_cons h]
    rfl
  rw [← e]
  congr 1
  omega
theorem hits_length (n : Nat) (a b : UInt8) : (hits n a b).length ≤ n := by
  unfold hits
  rw [List.length_map]
  exact Nat.le_trans (List.length_filter_le _ _) (by simp)
theorem un_length : ∀ (l : List UInt8), (un l).length ≤ 256 * l.length
  | a :: b :: r => by
    show (hits 256 a b ++ un r).length ≤ _
    have h1 := hits_length 256 a b
    have h2 := un_length r
    rw [List.length_append, List.length_cons, List.length_cons]
    omega
  | [] => by simp [un]
  | [a] => by simp [un]

set_option maxHeartbeats 2000000 in
set_option maxRecDepth 100000 in
theorem refunhex_any (l : List UInt8) (hl : l.length ≤ 268435456) (w : World) :
    Calls Tryz.prog 40 #[.string (S l)] w fun e w' => e = .returned (.tuple #[.string (S (if 2 * (un l).length = l.length then un l else [])), .bool (decide (2 * (un l).length = l.length))]) ∧ Below w.heap.size w w' := by
  have hz := S_size l
  have hib := isByte_u8
  have hbo := byteOf_u8
  have hcv := conv1
  go_enter Tryz.func40, Tryz.ntmps40
  go_wp2
  go_loopw [4, 5] (fun o i wr => ∃ j : Nat, i = .int .i64 (2 * j : Nat) ∧ 2 * j ≤ l.length ∧ o = .string (S (un (l.take (2 * j)))) ∧ Below w.heap.size w wr)
    (fun _ i _ => l.length - (intOf i).toNat)
  case atStart => exact ⟨0, rfl, Nat.zero_le _, rfl, Below.refl _ _⟩
  case round =>
    obtain ⟨j, rfl, hj, rfl, hB⟩ := hrel
    have hol := un_length (l.take (2 * j))
    rw [List.length_take] at hol
    by_cases hlt : 2 * j + 1 < l.length
    · have hji : ((2 * j : Nat) : Int) + 1 < (l.length : Int) := by omega
      have hun := un_take l j hlt
      have hp := S_pair l (2 * j) hlt
      obtain ⟨a, ha⟩ : ∃ a, l[2 * j]'(by omega) = a := ⟨_, rfl⟩
      obtain ⟨b, hb⟩ : ∃ b, l[2 * j + 1]'hlt = b := ⟨_, rfl⟩
      rw [ha, hb] at hun hp
      have HUN := Lib.hid hun
      clear hun ha hb
      obtain ⟨i, hi⟩ : ∃ i, i = 2 * j := ⟨_, rfl⟩
      rw [← hi] at hol hj hlt hji hp ⊢
      have hsl := fun W => run_slice_string (P := Tryz.prog) W 9 (S l) .i64 .i64 (i : Int) ((i : Int) + 2) Tryz.underlying9 (by omega) (by omega) (by omega)
      have e1 : (i : Int).toNat = i := by omega
      have e2 : ((i : Int) + 2).toNat = i + 2 := by omega
      simp only [e1, e2, hp] at hsl
      have HI := Lib.hid hi
      have hw2 : IntKind.i64.wrap ((i : Int) + 2) = (i : Int) + 2 := IntWalk.i64_in _ (by omega)
      clear hp e1 e2
      obtain ⟨o, ho⟩ : ∃ o, un (l.take i) = o := ⟨_, rfl⟩
      rw [ho] at hol ⊢
      have HO : Hid (un (l.take (2 * j)) = o) := Lib.hid (by rw [← ho, hi])
      clear ho hi
      go_wp2
      go_loopw [4, 6] (fun o' c wq => ∃ k : Nat, c = .int .i64 k ∧ k ≤ 256 ∧ o' = .string (S (o ++ hits k a b)) ∧ Below w.heap.size w wq)
        (fun _ c _ => 256 - (intOf c).toNat)
      case atStart => exact ⟨0, rfl, by omega, by simp [hits], hB⟩
      case round =>
        clear hB
        obtain ⟨k, rfl, hk, rfl, hB⟩ := hrel
        have hkl := hits_length k a b
        have hzo := S_size (o ++ hits k a b)
        rw [List.length_append] at hzo
        by_cases hk256 : k < 256
        · have hki : (k : Int) < 256 := by omega
          have hH := refhex_any [k.toUInt8] (by simp)
          rw [show hex [k.toUInt8] = hex1 k.toUInt8 by simp [hex]] at hH
          have hkb : UInt8.ofNat k = k.toUInt8 := rfl
          have hHH := Lib.hid hH
          have hz1 : ∀ c : UInt8, (S [c]).size = 1 := fun _ => rfl
          clear hH
          by_cases heq : hex1 (UInt8.ofNat k) = [a, b]
          · have hks : o ++ hits (k + 1) a b = o ++ hits k a b ++ [UInt8.ofNat k] := by rw [hits_succ, if_pos (show hex1 k.toUInt8 = [a, b] from heq), List.append_assoc]
            have hq : ((S (hex1 (UInt8.ofNat k))).toList == (S [a, b]).toList) = true := str_eq (by rw [heq])
            have HKS := Lib.hid hks
            clear hks heq
            generalize o ++ hits k a b = o2 at *
            go_wp2
            go_region_with (go_at_call 70; refine (hHH.out _).mono ?_; rintro e w1 ⟨rfl, hb1⟩)
            all_goals have hsz := hB.size
            all_goals go_wp2_with fail
            have hB2 := (hB.alloc hsz (Obj.cells #[Value.int IntKind.u8 ↑k] 5)).drew
            go_roundw
            case rel => exact ⟨k + 1, by go_num, by omega, by rw [HKS.out, S_append], hB2.trans (hb1.mono hB2.size)⟩
            case measure => simp [intOf]; omega
          · have hks : o ++ hits (k + 1) a b = o ++ hits k a b := by rw [hits_succ, if_neg (show ¬ hex1 k.toUInt8 = [a, b] from heq), List.append_nil]
            have hq : ((S (hex1 (UInt8.ofNat k))).toList == (S [a, b]).toList) = false := str_ne (fun h => heq (S_inj h))
            have HKS := Lib.hid hks
            clear hks heq
            generalize o ++ hits k a b = o2 at *
            go_wp2
            go_region_with (go_at_call 70; refine (hHH.out _).mono ?_; rintro e w1 ⟨rfl, hb1⟩)
            all_goals have hsz := hB.size
            all_goals go_wp2_with fail
            have hB2 := (hB.alloc hsz (Obj.cells #[Value.int IntKind.u8 ↑k] 5)).drew
            go_roundw
            case rel => exact ⟨k + 1, by go_num, by omega, by rw [HKS.out], hB2.trans (hb1.mono hB2.size)⟩
            case measure => simp [intOf]; omega
        · obtain rfl : k = 256 := by omega
          go_wp2
          go_roundw
          case rel => exact ⟨j + 1, by rw [HI.out]; congr 1, by have := HI.out; omega, by rw [HUN.out, HO.out], hB⟩
          case measure => simp [intOf]; omega
    · have hua := un_all l j hj (by omega)
      rw [hua] at hol ⊢
      have hzo := S_size (un l)
      have hji : ¬ ((2 * j : Nat) : Int) + 1 < (l.length : Int) := by omega
      have hw1 : IntKind.i64.wrap (((2 * j : Nat) : Int) + 1) = ((2 * j : Nat) : Int) + 1 := IntWalk.i64_in _ (by omega)
      have HUA := Lib.hid hua
      clear hua
      have hw3 : IntKind.i64.wrap (2 * ((un l).length : Int)) = 2 * ((un l).length : Int) := IntWalk.i64_in _ (by omega)
      by_cases hlen : 2 * (un l).length = l.length
      · have hne : ((2 * ((un l).length : Int)) != (l.length : Int)) = false := by simp; omega
        have HL := Lib.hid hlen
        clear hlen
        go_wp2
        exact bodyPost_ret (results_tmp2 rfl _ _ _) rfl ⟨rfl, hB⟩
      · have hne : ((2 * ((un l).length : Int)) != (l.length : Int)) = true := by simp; omega
        have HL := Lib.hid hlen
        clear hlen
        go_wp2
        exact bodyPost_ret (results_tmp2 rfl _ _ _) rfl ⟨rfl, hB⟩
end Go.Proofs.YtpimdbnhpbjlkaaGreatDoor.dg
