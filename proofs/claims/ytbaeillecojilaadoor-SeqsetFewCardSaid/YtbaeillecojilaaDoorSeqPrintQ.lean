/-
  What the program's Print answers.
-/
import Derived.Test.YtbaeillecojilaaDoorSeqPrintP
import Derived.Test.YtbaeillecojilaaDoorSeqP3
import Derived.Test.YtbaeillecojilaaDoorSeqMath2
import Derived.Lib.Join
namespace Go.Proofs.YtbaeillecojilaaDoor.sq
open Go.RowKit

theorem join_lib (c : UInt8) : ∀ (L : List (List UInt8)), Lib.join L [c] = join c L
  | [] => rfl
  | [a] => by simp [Lib.join, join]
  | a :: b :: L => by
    have := join_lib c (b :: L)
    unfold Lib.join at this ⊢
    rw [List.intercalate_cons_cons, this]
    simp [join]

set_option maxHeartbeats 4000000 in
set_option maxRecDepth 100000 in
theorem print_any (a : Option Addr) (cap : Nat) (l : List (Nat × Nat)) (hl : l.length ≤ 140737488355328) (w : World) (hr : RowR w a l) (hT : Tab w) :
    Calls Tryd.prog 14 #[.slice a l.length cap] w fun e w' => e = .returned (.tuple #[.string (S (printOf l)), .bool (printOk l)]) ∧ Below w.heap.size w w' := by
  obtain ⟨i0, hi, hz0, hz1, hz2⟩ := info_parts infoS
  have hs := isset_any a cap l hl w hr
  cases hok : printOk l with
  | false =>
    have HF := Lib.hid (print_bad_nil hok)
    rw [hok] at hs
    clear hr hT hok
    go_enter Tryd.func14, Tryd.ntmps14
    go_wp2_with fail
    refine hs.mono ?_
    rintro e w1 ⟨rfl, b1⟩
    clear hs
    go_wp2_with fail
    refine bodyPost_ret (results_tmp2 rfl _ _ _) rfl ⟨?_, b1⟩
    rw [HF.out]; rfl
  | true =>
    have hlen : 1 ≤ l.length ∧ l.length ≤ 64 := by
      unfold printOk at hok
      simp only [Bool.and_eq_true, decide_eq_true_eq] at hok
      exact hok.1
    obtain ⟨hl1, hl64⟩ := hlen
    have h64 : Hid (∀ r ∈ l, r.1 < 18446744073709551616 ∧ r.2 < 18446744073709551616) := fun r hr => by
      unfold printOk at hok
      simp only [Bool.and_eq_true, List.all_eq_true] at hok
      have := hok.2 r hr
      unfold fitR at this
      simp only [Bool.and_eq_true, decide_eq_true_eq] at this
      omega
    have HOF : Hid (printOf l = join 44 (l.map one)) := Lib.hid (by unfold printOf; rw [if_pos hok, text_join])
    have HLN : Hid ((join 44 (l.map one)).length ≤ 2688) := by
      have h := text_length l.length l (Nat.le_refl _) (fun j hj _ => by
        unfold printOk at hok
        simp only [Bool.and_eq_true, List.all_eq_true] at hok
        exact hok.2 _ (List.getElem_mem hj))
      rw [List.take_length, text_join] at h
      exact Lib.hid (by omega)
    rw [hok] at hs
    have HR := Lib.hid hr
    have HT := Lib.hid hT
    clear hr hT hok
    go_enter Tryd.func14, Tryd.ntmps14
    go_wp2_with fail
    refine hs.mono ?_
    rintro e w1 ⟨rfl, b1⟩
    have HR1 := Lib.hid (HR.out.later b1)
    have HT1 := Lib.hid (HT.out.later b1)
    clear hs HR HT
    go_wp2_with fail
    go_loopw [4, 12] (fun v i wr => ∃ k : Nat, i = .int .i64 k ∧ k ≤ l.length ∧ Hid (wr.ownsRow w1.heap.size 9 1 v k (cellsS ((l.take k).map one))) ∧ Below w1.heap.size w1 wr)
      (fun _ i _ => l.length - (intOf i).toNat)
    case atStart => exact ⟨0, rfl, Nat.zero_le _, Lib.hid (World.ownsRow_nil _ _ _ _), Below.refl _ _⟩
    case round =>
      obtain ⟨k, rfl, hk, HO, hB⟩ := hrel
      have hBs := hB.size
      by_cases hlt : k < l.length
      · rcases HR1.out.later hB with h0 | ⟨b, off, rfl, hb, hc⟩
        · rw [h0] at hlt; simp at hlt
        obtain ⟨c1, c2⟩ := hc k hlt
        have hki : (k : Int) < (l.length : Int) := by omega
        obtain ⟨r, hx⟩ : ∃ r, l[k]'hlt = r := ⟨_, rfl⟩
        have HNX : Hid (cellsS ((l.take (k + 1)).map one) = cellsS ((l.take k).map one) ++ [.string (S (one r))]) := by
          show _ = _
          rw [List.take_succ_eq_append_getElem hlt, List.map_append, hx, ← cellsS_snoc]; rfl
        rw [hx] at c1 c2
        have h64r := h64.out r (by rw [← hx]; exact List.getElem_mem hlt)
        have hB1 := hB.alloc hBs (.cells #[.int .u64 (r.1 : Nat), .int .u64 (r.2 : Nat)] 41)
        have HO1 := Lib.hid (HO.out.alloc (.cells #[.int .u64 (r.1 : Nat), .int .u64 (r.2 : Nat)] 41))
        have hcall := prange_text r h64r.1 h64r.2 _ (HT1.out.later hB1)
        have HH := Lib.hid (And.intro hB1 (And.intro HO1 hcall))
        clear hc hx h64r hB1 HO1 hcall hB hBs HO
        obtain ⟨p, q⟩ := r
        generalize one (p, q) = tx at *
        go_wp2_with fail
        refine HH.out.2.2.mono ?_
        rintro e w3 ⟨rfl, b3⟩
        have hB3 := HH.out.1.trans (b3.mono HH.out.1.size)
        have HO3 := Lib.hid (ownsRow_below HH.out.2.1 b3)
        clear HH b3 c1 c2 hb
        have hBs3 := hB3.size
        go_wp2_with (at_builtin; refine wpList_append_own _ rfl _ _ 44 rfl w1.heap.size 9 i0 (.string ⟨#[]⟩) 1 16 Tryd.underlying44 hi hz0 hz1 hz2 rfl (by decide) _ _ _ rfl (HO3.out.alloc _) ⟨w3.heap.size, 0, none⟩ 1 1 [.string (S tx)] rfl rfl ?c1 ?c2 ?c3 ?c4 ?c5 ?_)
        case c1 =>
          intro j u hj
          match j, hj with
          | 0, hj => simp at hj; subst hj; simp [Addr.add]
        case c2 => intro u hu; simp at hu; subst hu; rfl
        case c3 => unfold maxLen; omega
        case c4 => omega
        case c5 => simp; omega
        intro v5 w5 hown' hgrow hnil
        have hB5 : Below w1.heap.size w1 w5 := (hB3.alloc hBs3 _).grown hgrow (by simp; omega) (fun k hk => (HO3.out.lt k hk).1)
        have HO5 : Hid (w5.ownsRow w1.heap.size 9 1 v5 (k + 1) (cellsS ((l.take (k + 1)).map one))) := by
          refine Lib.hid ?_
          rw [HNX.out]
          first | exact hown' | (rw [List.map_take]; exact hown')
        clear hown' hgrow hnil HO3 hB3 hBs3 HNX
        go_wp2_with fail
        go_roundw
        case rel => exact ⟨k + 1, by go_num, by omega, HO5, hB5⟩
        case measure => simp [intOf]; omega
      · obtain rfl : k = l.length := by omega
        have ho := HO.out
        rw [List.take_length] at ho
        rcases ho.2 with ⟨_, h0⟩ | ⟨g, c2, cur, rfl, hg, hh, hn, hcap, hsz, htake⟩
        · omega
        have hbk : g < wr.heap.size := (Array.getElem?_eq_some_iff.1 hh).1
        have hxs : ((l.map one).map S).map (·.data.toList) = l.map one := by
          rw [List.map_map]
          conv => rhs; rw [← List.map_id (l.map one)]
          exact List.map_congr_left fun x _ => S_data x
        have hL : ((l.map one).map S).length = l.length := by rw [List.length_map, List.length_map]
        have hj := Tryd.strings_Join g 0 c2 ((l.map one).map S) ⟨#[44]⟩ wr (fun j x hx => by
          have hjl : j < l.length := by rw [← hL]; exact (List.getElem?_eq_some_iff.1 hx).1
          rw [Nat.zero_add, ho.cellAt j (by omega)]
          unfold cellsS
          rw [List.getElem?_map] at hx ⊢
          cases hm : (l.map one)[j]? with
          | none => rw [hm] at hx; cases hx
          | some y => rw [hm] at hx; cases hx; rfl) hbk (by omega) (by omega) (by rw [hxs, join_lib]; have := HLN.out; omega)
        rw [hxs, join_lib, hL] at hj
        have hBB := b1.trans (hB.mono b1.size)
        have HJ := Lib.hid (And.intro hj hBB)
        clear ho hh hn hcap hsz htake hxs hL hj hBB HO
        go_wp2_with fail
        refine HJ.out.1.mono ?_
        rintro e w3 ⟨rfl, b3⟩
        have hB3 := HJ.out.2.trans (b3.mono HJ.out.2.size)
        clear b3 HJ
        go_wp2_with fail
        refine bodyPost_ret (results_tmp2 rfl _ _ _) rfl ⟨?_, hB3⟩
        rw [HOF.out]; rfl
end Go.Proofs.YtbaeillecojilaaDoor.sq
