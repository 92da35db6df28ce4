/-
  What the reference's Literal, Quote answer.
-/
import Derived.Test.YtgmopbgcimekhaaDoorWordNum
namespace Go.Proofs.YtgmopbgcimekhaaDoor.wo
open Go.RowKit

def literal (l : List UInt8) : List UInt8 := 123 :: dec l.length ++ [125, 13, 10] ++ l

set_option maxRecDepth 100000 in
theorem refliteral_any (l : List UInt8) (hl : l.length ≤ 281474976710656) (w : World) :
    Calls Tryd.prog 23 #[.string (S l)] w fun e w' => e = .returned (.string (S (literal l))) ∧ Below w.heap.size w w' := by
  have hz := S_size l
  have hd := refdigits_any l.length (by omega)
  have hlen := dec_length64 (n := l.length) (by omega)
  have hfin : Hid (literal l = 123 :: dec l.length ++ [125, 13, 10] ++ l) := rfl
  generalize dec l.length = d at *
  have hzd := S_size d
  have a1 : (⟨#[123]⟩ : ByteArray) ++ S d = S (123 :: d) := S_append [123] d
  have a2 : S (123 :: d) ++ (⟨#[125, 13, 10]⟩ : ByteArray) = S (123 :: d ++ [125, 13, 10]) := S_append (123 :: d) [125, 13, 10]
  have a3 : S (123 :: d ++ [125, 13, 10]) ++ S l = S (123 :: d ++ [125, 13, 10] ++ l) := S_append _ l
  have z1 : (S (123 :: d)).size = d.length + 1 := rfl
  have z2 : (S (123 :: d ++ [125, 13, 10])).size = d.length + 4 := by rw [S_size]; simp
  obtain ⟨q1, h1⟩ : ∃ q, q = S (123 :: d) := ⟨_, rfl⟩
  obtain ⟨q2, h2⟩ : ∃ q, q = S (123 :: d ++ [125, 13, 10]) := ⟨_, rfl⟩
  obtain ⟨q3, h3⟩ : ∃ q, q = S (123 :: d ++ [125, 13, 10] ++ l) := ⟨_, rfl⟩
  rw [← h1] at a1 a2 z1
  rw [← h2] at a2 a3 z2
  rw [← h3] at a3
  have H3 := Lib.hid h3
  clear h1 h2 h3
  go_enter Tryd.func23, Tryd.ntmps23
  go_wp2_with fail
  refine (hd w).mono ?_
  rintro e w1 ⟨rfl, hb⟩
  go_wp2_with fail
  go_ret
  refine ⟨?_, hb⟩
  rw [hfin.out, ← H3.out]
  rfl

def esc (c : UInt8) : List UInt8 := if c = 34 ∨ c = 92 then [92, c] else [c]
def quote (l : List UInt8) : List UInt8 := 34 :: l.flatMap esc ++ [34]
def quoteOk (l : List UInt8) : Bool := decide (l.length ≤ 512) && l.all quotable
def quoteOf (l : List UInt8) : List UInt8 := if quoteOk l = true then quote l else []
theorem esc_take (l : List UInt8) (k : Nat) (h : k < l.length) : (l.take (k + 1)).flatMap esc = (l.take k).flatMap esc ++ esc l[k] := by
  rw [List.take_succ_eq_append_getElem h, List.flatMap_append]
  simp
theorem esc_len (l : List UInt8) : (l.flatMap esc).length ≤ 2 * l.length := by
  induction l with
  | nil => simp
  | cons c l ih =>
    rw [List.flatMap_cons, List.length_append, List.length_cons]
    have : (esc c).length ≤ 2 := by unfold esc; split <;> simp
    omega
theorem S_one (l : List UInt8) (k : Nat) (h : k < l.length) : (S l).extract k (k + 1) = S [l[k]] := by
  apply ByteArray.ext
  apply Array.toList_inj.1
  rw [Lib.extract_data, S_data, S_data]
  have e : (l.drop k).take 1 = [l[k]] := by rw [List.drop_eq_getElem_cons h]; rfl
  rw [← e]
  congr 1
  omega

set_option maxHeartbeats 1000000 in
set_option maxRecDepth 100000 in
theorem refquote_any (l : List UInt8) (hl : l.length ≤ 281474976710656) (w : World) :
    Calls Tryd.prog 19 #[.string (S l)] w fun e w' => e = .returned (.tuple #[.string (S (quoteOf l)), .bool (quoteOk l)]) ∧ w' = w := by
  have hz := S_size l
  have fin : Hid (quoteOk l = false) → Ending.returned (Value.tuple #[.string ⟨#[]⟩, .bool false]) = Ending.returned (.tuple #[.string (S (quoteOf l)), .bool (quoteOk l)]) := fun h => by unfold quoteOf; rw [h.out]; rfl
  go_enter Tryd.func19, Tryd.ntmps19
  by_cases hlong : 512 < l.length
  · have HB : Hid (quoteOk l = false) := by unfold quoteOk; rw [decide_eq_false (by omega)]; rfl
    have hi : (512 : Int) < (l.length : Int) := by omega
    go_wp2
    refine bodyPost_ret (results_tmp2 rfl _ _ _) rfl ⟨?_, rfl⟩
    exact fin HB
  · have hi : ¬ (512 : Int) < (l.length : Int) := by omega
    go_wp2
    go_loopw [4, 5] (fun o i wr => ∃ k : Nat, i = .int .i64 k ∧ k ≤ l.length ∧ o = .string (S (34 :: (l.take k).flatMap esc)) ∧ Hid (∀ j (h : j < l.length), j < k → quotable l[j] = true) ∧ wr = w)
      (fun _ i _ => l.length - (intOf i).toNat)
    case atStart => exact ⟨0, rfl, Nat.zero_le _, rfl, Lib.hid (fun j _ h => absurd h (by omega)), rfl⟩
    case round =>
      obtain ⟨k, rfl, hk, rfl, HN, rfl⟩ := hrel
      have hel := esc_len (l.take k)
      rw [List.length_take] at hel
      by_cases hlt : k < l.length
      · have hlt' : k < (S l).size := by rw [S_size]; exact hlt
        have het := esc_take l k hlt
        have hs1 := S_one l k hlt
        obtain ⟨d, hd⟩ : ∃ d, l[k]'hlt = d := ⟨_, rfl⟩
        rw [hd] at het hs1
        have hx : ((S l)[k]'hlt').toNat = d.toNat := by rw [S_get l k hlt hlt', hd]
        have hki : (k : Int) < (l.length : Int) := by omega
        have hqd := refquotable_any d
        cases hq : quotable d with
        | false =>
          have HB : Hid (quoteOk l = false) := by
            have : l.all quotable = false := by
              rw [List.all_eq_false]
              exact ⟨d, by rw [← hd]; exact List.getElem_mem hlt, by rw [hq]; decide⟩
            unfold quoteOk
            rw [this, Bool.and_false]
            rfl
          rw [hq] at hqd
          clear het hs1 hd hq HN hel
          go_wp2_with fail
          refine (hqd _).mono ?_
          rintro e w' ⟨rfl, rfl⟩
          go_wp2_with fail
          refine bodyPost_ret (results_tmp2 rfl _ _ _) rfl ⟨?_, rfl⟩
          exact fin HB
        | true =>
          rw [hq] at hqd
          have HNN : Hid (∀ j (h : j < l.length), j < k + 1 → quotable l[j] = true) := fun j h hj => by
            by_cases h2 : j < k
            · exact HN.out j h h2
            · obtain rfl : j = k := by omega
              rw [hd]; exact hq
          have hsl := fun W => run_slice_string (P := Tryd.prog) W 9 (S l) .i64 .i64 (k : Int) ((k : Int) + 1) Tryd.underlying9 (by omega) (by omega) (by rw [hz]; omega)
          have t1 : (k : Int).toNat = k := by omega
          have t2 : ((k : Int) + 1).toNat = k + 1 := by omega
          simp only [t1, t2, hs1] at hsl
          have hz1 : (S [d]).size = 1 := rfl
          obtain ⟨o, ho⟩ : ∃ o, o = (l.take k).flatMap esc := ⟨_, rfl⟩
          rw [← ho] at het hel ⊢
          have hzo : (S (34 :: o)).size = o.length + 1 := rfl
          by_cases hsp : d = 34 ∨ d = 92
          · have hes : esc d = [92, d] := by unfold esc; rw [if_pos hsp]
            rw [hes] at het
            have HT := Lib.hid het
            have a1 : S (34 :: o) ++ (⟨#[92]⟩ : ByteArray) = S (34 :: o ++ [92]) := S_append (34 :: o) [92]
            have z1 : (S (34 :: o ++ [92])).size = o.length + 2 := by rw [S_size]; simp
            have hrel : S (34 :: o ++ [92]) ++ S [d] = S (34 :: (o ++ [92, d])) := by rw [S_append]; simp
            obtain ⟨q1, h1⟩ : ∃ q, q = S (34 :: o ++ [92]) := ⟨_, rfl⟩
            rw [← h1] at a1 z1 hrel
            clear h1 het hes ho hd hq hs1 t1 t2
            have hor : ((d.toNat : Int) == 34) = true ∨ (((d.toNat : Int) == 34) = false ∧ ((d.toNat : Int) == 92) = true) := by
              rcases hsp with rfl | rfl
              · exact .inl rfl
              · exact .inr ⟨rfl, rfl⟩
            clear hsp HN
            rcases hor with e1 | ⟨e1, e2⟩
            · go_wp2_with fail
              refine (hqd _).mono ?_
              rintro e w' ⟨rfl, rfl⟩
              go_wp2_with fail
              go_roundw
              case rel => exact ⟨k + 1, by go_num, by omega, by rw [HT.out], HNN, trivial⟩
              case measure => simp [intOf]; omega
            · go_wp2_with fail
              refine (hqd _).mono ?_
              rintro e w' ⟨rfl, rfl⟩
              go_wp2_with fail
              go_roundw
              case rel => exact ⟨k + 1, by go_num, by omega, by rw [HT.out], HNN, trivial⟩
              case measure => simp [intOf]; omega
          · have hes : esc d = [d] := by unfold esc; rw [if_neg hsp]
            rw [hes] at het
            have HT := Lib.hid het
            have hrel : S (34 :: o) ++ S [d] = S (34 :: (o ++ [d])) := by rw [S_append]; simp
            have e1 : ((d.toNat : Int) == 34) = false := by
              rw [beq_eq_false_iff_ne]; intro h; exact hsp (.inl (UInt8.toNat_inj.1 (by show d.toNat = 34; omega)))
            have e2 : ((d.toNat : Int) == 92) = false := by
              rw [beq_eq_false_iff_ne]; intro h; exact hsp (.inr (UInt8.toNat_inj.1 (by show d.toNat = 92; omega)))
            clear het hes ho hd hq hs1 t1 t2 hsp HN
            go_wp2_with fail
            refine (hqd _).mono ?_
            rintro e w' ⟨rfl, rfl⟩
            go_wp2_with fail
            go_roundw
            case rel => exact ⟨k + 1, by go_num, by omega, by rw [HT.out], HNN, trivial⟩
            case measure => simp [intOf]; omega
      · obtain rfl : k = l.length := by omega
        rw [List.take_length] at *
        have HG : Hid (quoteOk l = true) := by
          have : l.all quotable = true := by
            rw [List.all_eq_true]
            intro x hx
            obtain ⟨j, hj, e⟩ := List.getElem_of_mem hx
            rw [← e]; exact HN.out j hj hj
          unfold quoteOk
          rw [this, decide_eq_true (by omega)]
          rfl
        have hfin : Hid (quote l = 34 :: l.flatMap esc ++ [34]) := rfl
        obtain ⟨o, ho⟩ : ∃ o, o = l.flatMap esc := ⟨_, rfl⟩
        rw [← ho] at hel hfin ⊢
        have hol : o.length ≤ 1024 := by omega
        have a1 : S (34 :: o) ++ (⟨#[34]⟩ : ByteArray) = S (34 :: o ++ [34]) := S_append (34 :: o) [34]
        have hzo : (S (34 :: o)).size = o.length + 1 := rfl
        rw [← hfin.out] at a1
        clear ho hel
        have HQ : Hid (quoteOf l = quote l) := by unfold quoteOf; rw [HG.out]; rfl
        clear HN
        go_wp2_with fail
        refine bodyPost_ret (results_tmp2 rfl _ _ _) rfl ⟨?_, rfl⟩
        rw [HQ.out, HG.out]
        rfl
end Go.Proofs.YtgmopbgcimekhaaDoor.wo
