/-
  What the reference's Pick answers; rows that the call owns, as rows.
-/
import Derived.Test.YtbaeillecojilaaDoorSeqPrintR
import Derived.Deep.AppendLies
namespace Go.Proofs.YtbaeillecojilaaDoor.sq
open Go.RowKit

theorem info64 : (Tryd.prog.info? 31).map (fun i => (i.zero, i.size, i.bytes)) = some (some (.int .u64 0), 1, 8) := by kernel_rfl
def cells64 (l : List Nat) : List Value := l.map fun x : Nat => Value.int .u64 (x : Int)
theorem cells64_snoc (l : List Nat) (x : Nat) : cells64 (l ++ [x]) = cells64 l ++ [.int .u64 (x : Int)] := by simp [cells64]
theorem row_of_own {w : World} {base n : Nat} {v : Value} {l : List Nat} (hn : n = l.length) (h : w.ownsRow base 31 1 v n (cells64 l)) :
    ∃ a' cap', v = .slice a' l.length cap' ∧ Row64 w a' l := by
  subst hn
  rcases h.2 with ⟨rfl, h0⟩ | ⟨g, cap, cur, rfl, hg, hh, hn, hcap, hsz, htake⟩
  · have : l = [] := List.length_eq_zero_iff.1 h0
    subst this
    exact ⟨none, 0, rfl, Or.inl rfl⟩
  · refine ⟨_, _, rfl, Or.inr ⟨g, 0, rfl, (Array.getElem?_eq_some_iff.1 hh).1, fun j hj => ?_⟩⟩
    rw [Nat.zero_add, h.cellAt j (by omega)]
    simp [cells64, List.getElem?_eq_getElem hj]
theorem ownsRow_below {w w' : World} {b : Nat} {e : TypeId} {size : Nat} {v : Value} {n : Nat} {xs : List Value} (h : w.ownsRow b e size v n xs) (hb : Below w.heap.size w w') : w'.ownsRow b e size v n xs := by
  obtain ⟨h1, h2 | ⟨g, cap, cur, h3, h4, h5, h6⟩⟩ := h
  · exact ⟨h1, .inl h2⟩
  · exact ⟨h1, .inr ⟨g, cap, cur, h3, h4, (hb.block g (Array.getElem?_eq_some_iff.1 h5).1).trans h5, h6⟩⟩

def pick (l : List (Nat × Nat)) (most : Nat) (of : List Nat) : List Nat := of.filter (has l most)
theorem pick_take (l : List (Nat × Nat)) (most : Nat) (of : List Nat) (k : Nat) (h : k < of.length) : pick l most (of.take (k + 1)) = pick l most (of.take k) ++ (if has l most of[k] = true then [of[k]] else []) := by
  unfold pick
  rw [List.take_succ_eq_append_getElem h, List.filter_append]
  congr 1
  by_cases hh : has l most of[k] = true
  · rw [if_pos hh]; simp [hh]
  · rw [if_neg hh]; simp [hh]
theorem pick_length (l : List (Nat × Nat)) (most : Nat) (of : List Nat) (k : Nat) : (pick l most (of.take k)).length ≤ k := by
  unfold pick
  exact Nat.le_trans (List.length_filter_le _ _) (by rw [List.length_take]; omega)

set_option maxHeartbeats 2000000 in
set_option maxRecDepth 100000 in
theorem refpick_any (a a' : Option Addr) (cap cap' : Nat) (l : List (Nat × Nat)) (most : Nat) (of : List Nat) (hl : l.length ≤ 140737488355328) (ho : of.length ≤ 17592186044416) (w : World) (hr : RowR w a l) (hs : Row64 w a' of) :
    Calls Tryd.prog 20 #[.slice a l.length cap, .int .u64 (most : Nat), .slice a' of.length cap'] w fun e w' => (∃ a2 c2, e = .returned (.slice a2 (pick l most of).length c2) ∧ Row64 w' a2 (pick l most of)) ∧ Below w.heap.size w w' := by
  obtain ⟨i0, hi, hz0, hz1, hz2⟩ := info_parts info64
  have HRR := Lib.hid hr
  have hhas := fun n W (hb : Below w.heap.size w W) => refhas_any a cap l most n hl W (HRR.out.later hb)
  have HH := Lib.hid hhas
  clear hhas hr
  go_enter Tryd.func20, Tryd.ntmps20
  go_wp2
  go_loopw [7, 8] (fun v i wr => ∃ k : Nat, i = .int .i64 k ∧ k ≤ of.length ∧ Hid (wr.ownsRow w.heap.size 31 1 v (pick l most (of.take k)).length (cells64 (pick l most (of.take k)))) ∧ Below w.heap.size w wr)
    (fun _ i _ => of.length - (intOf i).toNat)
  case atStart => exact ⟨0, rfl, Nat.zero_le _, Lib.hid (World.ownsRow_nil _ _ _ _), Below.refl _ _⟩
  case round =>
    obtain ⟨k, rfl, hk, HO, hB⟩ := hrel
    by_cases hlt : k < of.length
    · rcases hs.later hB with h0 | ⟨b, off, rfl, hb, hc⟩
      · rw [h0] at hlt; simp at hlt
      have c1 := hc k hlt
      have hki : (k : Int) < (of.length : Int) := by omega
      have hpt := pick_take l most of k hlt
      have hpl := pick_length l most of k
      obtain ⟨x, hx⟩ : ∃ x, of[k]'hlt = x := ⟨_, rfl⟩
      rw [hx] at c1 hpt
      have hcall := HH.out x wr hB
      clear hc hx HH hs
      obtain ⟨t, ht⟩ : ∃ t, t = pick l most (of.take k) := ⟨_, rfl⟩
      rw [← ht] at hpt hpl HO
      clear ht
      cases hh : has l most x with
      | false =>
        rw [hh] at hcall
        rw [if_neg (by rw [hh]; decide), List.append_nil] at hpt
        have HP := Lib.hid hpt
        clear hpt hh
        go_wp2_with fail
        refine hcall.mono ?_
        rintro e w2 ⟨rfl, b2⟩
        have hB2 := hB.trans (b2.mono hB.size)
        have HO2 := Lib.hid (ownsRow_below HO.out b2)
        clear c1 hb b2 HO hB hcall
        go_wp2_with fail
        go_roundw
        case rel => exact ⟨k + 1, by go_num, by omega, by rw [HP.out]; exact HO2, hB2⟩
        case measure => simp [intOf]; omega
      | true =>
        rw [hh] at hcall
        rw [if_pos hh] at hpt
        have HP := Lib.hid hpt
        clear hpt hh
        go_wp2_with fail
        refine hcall.mono ?_
        rintro e w2 ⟨rfl, b2⟩
        have hB2 := hB.trans (b2.mono hB.size)
        have HO2 := Lib.hid (ownsRow_below HO.out b2)
        have c2 := (b2.cell (p := ⟨b, _, none⟩) hb).trans c1
        have hs2 := hB2.size
        clear c1 hb b2 HO hB hcall
        go_wp2_with (at_builtin; refine wpList_append_own _ rfl _ _ 32 rfl w.heap.size 31 i0 (.int .u64 0) 1 8 Tryd.underlying32 hi hz0 hz1 hz2 rfl (by decide) _ _ _ rfl (HO2.out.alloc _) ⟨w2.heap.size, 0, none⟩ 1 1 [.int .u64 (x : Nat)] rfl rfl ?c1 ?c2 ?c3 ?c4 ?c5 ?_)
        case c1 =>
          intro j u hj
          match j, hj with
          | 0, hj => simp at hj; subst hj; simp [Addr.add]
        case c2 => intro u hu; simp at hu; subst hu; rfl
        case c3 => unfold maxLen; omega
        case c4 => omega
        case c5 => simp; omega
        intro v3 w3 hown' hgrow hnil
        have hB3 : Below w.heap.size w w3 := (hB2.alloc hs2 _).grown hgrow (by simp; omega) (fun k hk => (HO2.out.lt k hk).1)
        have HO3 : Hid (w3.ownsRow w.heap.size 31 1 v3 (t ++ [x]).length (cells64 (t ++ [x]))) := by
          refine Lib.hid ?_
          rw [cells64_snoc, List.length_append, List.length_singleton]
          exact hown'
        clear hown' hgrow hnil HO2 hB2 c2 hs2
        go_wp2_with fail
        go_roundw
        case rel => exact ⟨k + 1, by go_num, by omega, by rw [HP.out]; exact HO3, hB3⟩
        case measure => simp [intOf]; omega
    · obtain rfl : k = of.length := by omega
      rw [List.take_length] at HO
      obtain ⟨a2, c2, hv, hrow⟩ := row_of_own rfl HO.out
      subst hv
      have HROW := Lib.hid hrow
      clear HO hrow HH hs
      go_wp2
      go_ret
      exact ⟨⟨a2, c2, rfl, HROW.out⟩, hB⟩
end Go.Proofs.YtbaeillecojilaaDoor.sq
