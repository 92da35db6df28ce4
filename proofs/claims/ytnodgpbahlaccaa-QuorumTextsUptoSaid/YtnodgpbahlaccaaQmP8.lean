/-
  Members as text: the program's Text, the document's Text.
-/
import Derived.Test.YtnodgpbahlaccaaQmTxt
namespace Go.Proofs.Ytnodgpbahlaccaa.qm
set_option linter.unusedVariables false
open Go.RowKit
open rw (Arr But Own bnext below_box below_drew below_drewN)
open pk (RD At dec S S_size S_data)

def nuSh : rw.Sh Nat where
  t := 27
  st := 61
  k := 1
  bytes := 8
  z := .int .u64 0
  enc := fun x => [.int .u64 (x : Nat)]
  hu := Try.underlying61
  hi := by kernel_rfl
  hz := by rfl
  hk := by decide
  hb := by decide
  len := fun _ => rfl
  one := fun x u hu => by
    simp only [List.mem_cons, List.not_mem_nil, or_false] at hu
    rcases hu with rfl; rfl
def bySh : rw.Sh UInt8 where
  t := 5
  st := 63
  k := 1
  bytes := 1
  z := .int .u8 0
  enc := fun x => [.int .u8 (x.toNat : Nat)]
  hu := Try.underlying63
  hi := by kernel_rfl
  hz := by rfl
  hk := by decide
  hb := by decide
  len := fun _ => rfl
  one := fun x u hu => by
    simp only [List.mem_cons, List.not_mem_nil, or_false] at hu
    rcases hu with rfl; rfl
theorem row64_of {w : World} {v : Value} {l : List Nat} (h : rw.Sl nuSh w v l) : ∃ a c, v = .slice a l.length c ∧ pk.Row64 w a l := by
  obtain ⟨a, c, h1, h2, h3, h4⟩ := h
  refine ⟨a, c, h1, ?_⟩
  rcases h3 with h3 | ⟨b, off, e, hb, hc⟩
  · exact .inl h3
  · refine .inr ⟨b, off, e, hb, fun j hj => ?_⟩
    have := hc j hj 0 (by decide)
    simpa [nuSh] using this
theorem bytes_own {w : World} {B : Nat} {v : Value} {l : Bs} (h : Own bySh w B v l) : w.ownsRow B 5 1 v l.length (Lib.byteCells l) := by
  have e : rw.cellsG bySh l = Lib.byteCells l := by
    unfold rw.cellsG Lib.byteCells
    induction l with
    | nil => rfl
    | cons x l ih =>
      simp only [List.flatMap_cons, List.map_cons]
      rw [← show List.flatMap bySh.enc l = List.map (fun b => Value.int .u8 b.toNat) l from by
        clear h ih
        induction l with
        | nil => rfl
        | cons y l ih => simp only [List.flatMap_cons, List.map_cons, ih]; rfl]
      rfl
  rw [← e]
  exact h
theorem text_prog {l : List Int} (hr : right l = true) : Lib.uvarint l.length ++ pk.each (l.map Int.toNat) = textL l := by
  have hl := right_len hr
  have e : ∀ m : List Int, (∀ x ∈ m, 1 ≤ x ∧ x ≤ 5) → pk.each (m.map Int.toNat) = m.map ofI := fun m => by
    induction m with
    | nil => intro _; rfl
    | cons x m ih =>
      intro h
      have hx := h x List.mem_cons_self
      rw [List.map_cons, List.map_cons, pk.each_cons, ih fun y hy => h y (List.mem_cons_of_mem _ hy), Lib.uvarint_small (by omega)]
      rfl
  rw [e l fun x hx => right_mem hr hx, Lib.uvarint_small (by omega), textL, if_pos hr]
  rfl
set_option maxHeartbeats 4000000 in
set_option maxRecDepth 100000 in
theorem text_any (v : Value) (l : List Int) (hl : l.length ≤ 140737488355328) (w : World) (h : Ns w v l) :
    Calls Try.prog 24 #[v] w fun e w' => e = .returned (.string (S (textL l))) ∧ Below w.heap.size w w' := by
  have hR := right_any v l hl w h
  obtain ⟨a, c, rfl⟩ := sl_form h
  obtain ⟨T, hT⟩ : ∃ T, textL l = T := ⟨_, rfl⟩
  rw [hT]
  obtain ⟨r, hr⟩ : ∃ r, right l = r := ⟨_, rfl⟩
  rw [hr] at hR
  cases r with
  | false =>
    have : T = [] := by rw [← hT]; simp [textL, hr]
    subst this
    clear hr h hT
    go_enter Try.func24, Try.ntmps24
    go_wp2_with fail
    with_reducible refine hR.mono ?_
    clear hR
    rintro e w2 ⟨rfl, rfl⟩
    go_wp2_with fail
    go_ret
    exact ⟨rfl, Below.refl _ _⟩
  | true =>
    have hlen := right_len hr
    obtain ⟨N, hN⟩ : ∃ n, l.length = n := ⟨_, rfl⟩
    rw [hN] at hR hlen h ⊢
    have HN := Lib.hid hN
    have HS := Lib.hid h
    have HR := Lib.hid hr
    have HT := Lib.hid ((text_prog hr).trans hT)
    clear h hN hr hT
    go_enter Try.func24, Try.ntmps24
    go_wp2_with fail
    with_reducible refine hR.mono ?_
    clear hR
    rintro e w2 ⟨rfl, rfl⟩
    go_wp2_with fail
    go_loopw [3, 5, 11] (fun o _ i wr => ∃ (k : Nat), i = .int .i64 k ∧ k ≤ N ∧ Hid (Own nuSh wr w.heap.size o ((l.take k).map Int.toNat) ∧ Below w.heap.size w wr))
      (fun _ _ i _ => N - (intOf i).toNat)
    case atStart => exact ⟨0, rfl, Nat.zero_le _, ⟨Own.nil _ _ _, Below.refl _ _⟩⟩
    case round =>
      obtain ⟨k, rfl, hk, HO⟩ := hrel
      by_cases hlt : k < N
      · have hki : (k : Int) < (N : Int) := by omega
        have hkl : k < l.length := by rw [HN.out]; exact hlt
        have HS2 := HS.out.later _ HO.out.2
        rw [← HN.out] at HS2
        obtain ⟨b, off, c3, e, hb3, c0⟩ := slN_at HS2 hkl
        injection e with e1 e2 e3
        subst e1 e3
        clear e2
        have hx5 := right_mem HR.out (List.getElem_mem hkl)
        have hnx : (l.take (k + 1)).map Int.toNat = (l.take k).map Int.toNat ++ [(l[k]'hkl).toNat] := by
          rw [List.take_succ_eq_append_getElem hkl, List.map_append]; rfl
        obtain ⟨x, hx⟩ : ∃ x, l[k]'hkl = x := ⟨_, rfl⟩
        rw [hx] at c0 hx5 hnx
        obtain ⟨y, hy⟩ : ∃ y : Nat, x.toNat = y := ⟨_, rfl⟩
        obtain rfl : x = (y : Int) := by omega
        rw [hy] at hnx
        obtain ⟨o', w', h1, h2, h3⟩ := rw.append_one nuSh w.heap.size _ _ y (by rw [List.length_map, List.length_take]; omega) wr HO.out.1 HO.out.2.size
        rw [← hnx] at h2
        have HR1 := Lib.hid h1
        have HO3 : Hid (Own nuSh w' w.heap.size o' ((l.take (k + 1)).map Int.toNat) ∧ Below w.heap.size w w') := ⟨h2, HO.out.2.trans h3⟩
        have f1 : IntKind.u64.wrap (y : Int) = (y : Int) := by
          have := hx5
          rw [IntKind.wrap_u64]; omega
        clear HO h1 h2 h3 hnx HS2 hb3 hx hkl hx5 hy
        go_wp2_with (at_builtin; refine rw.wpList_append_at _ _ _ rfl rfl _ _ _ _ rfl rfl HR1.out ?_)
        exact ⟨⟨k + 1, by rw [Int.natCast_add]; rfl, by omega, HO3.out⟩, by simp only [intOf]; omega⟩
      · obtain rfl : k = N := by omega
        have hki : ¬ (k : Int) < (k : Int) := by omega
        have HO2 : Hid (Own nuSh wr w.heap.size u3 (l.map Int.toNat) ∧ Below w.heap.size w wr) := by have h := HO.out; rw [← HN.out, List.take_length] at h; exact h
        obtain ⟨ra, rc, rfl, h64⟩ := row64_of HO2.out.1.sl
        have hnum := pk.nums_row ra rc (l.map Int.toNat) (fun x hx => by
          obtain ⟨y, hy, rfl⟩ := List.mem_map.1 hx
          have := right_mem HR.out hy
          omega) (by rw [List.length_map, HN.out]; omega) wr h64
        rw [List.length_map, HT.out, HN.out] at hnum
        rw [List.length_map, HN.out]
        clear HO h64
        go_wp2_with fail
        with_reducible refine hnum.mono ?_
        clear hnum
        rintro e w4 ⟨rfl, b4⟩
        have B4 := Lib.hid (HO2.out.2.trans (b4.mono HO2.out.2.size))
        clear b4
        go_wp2_with fail
        go_ret
        exact ⟨rfl, B4.out⟩
end Go.Proofs.Ytnodgpbahlaccaa.qm
