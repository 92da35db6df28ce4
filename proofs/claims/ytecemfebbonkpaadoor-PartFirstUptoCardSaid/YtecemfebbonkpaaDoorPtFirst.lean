/-
  The law PartFirst: a field that is put ahead of a header is its first one. Written by gen_first.py.
-/
import Derived.Test.YtecemfebbonkpaaDoorPtAlive
import Derived.Test.YtecemfebbonkpaaDoorPtRmath
import Derived.WalkKit
namespace Go.Proofs.YtecemfebbonkpaaDoor.pt
open Go.RowKit Go.Shelf fl
attribute [local go_sem] Oper.semAt_some

/-! ### What is put ahead of a header (no walk) -/
def word1 (c : UInt8) : Bool := decide (97 ≤ c.toNat ∧ c.toNat ≤ 122 ∨ 65 ≤ c.toNat ∧ c.toNat ≤ 90 ∨ 48 ≤ c.toNat ∧ c.toNat ≤ 57)
theorem word1_no {c : UInt8} (h : word1 c = true) : c ≠ 13 ∧ c ≠ 10 ∧ c ≠ 58 ∧ c ≠ 32 ∧ c ≠ 9 := by
  unfold word1 at h
  have h := of_decide_eq_true h
  refine ⟨?_, ?_, ?_, ?_, ?_⟩ <;> (intro e; rw [e] at h; revert h; decide)
def plainL (l : List UInt8) : List UInt8 := l.filter word1
theorem plain_all (l : List UInt8) : ∀ c ∈ plainL l, word1 c = true := fun _ h => (List.mem_filter.1 h).2
/-- The first line of a message: no 13 in it. -/
theorem occ_ahead {a t w : List UInt8} (ha : ∀ c ∈ a, c ≠ 13) {j : Nat} (hj : j < a.length) (hw : ∃ r, w = 13 :: r) : Lib.occAt (a ++ t) w j = false := by
  obtain ⟨r, rfl⟩ := hw
  cases hb : Lib.occAt (a ++ t) (13 :: r) j with
  | false => rfl
  | true =>
    have h := Lib.occAt_head (c := 13) rfl hb
    rw [List.getElem?_append_left hj, List.getElem?_eq_getElem hj] at h
    exact absurd (Option.some.inj h) (ha _ (List.getElem_mem hj))
theorem occ_behind (a t w : List UInt8) (j : Nat) : Lib.occAt (a ++ t) w (a.length + j) = Lib.occAt t w j := by
  unfold Lib.occAt
  rw [List.drop_append, List.drop_of_length_le (by omega), Nat.add_sub_cancel_left, List.nil_append]
/-- The header of a message whose first line is a: what is behind that line is a beginning of the rest. -/
theorem head_ahead {a m : List UInt8} (ha : ∀ c ∈ a, c ≠ 13) (h0 : a ≠ []) : ∃ r, r <+: m ∧ head (a ++ (13 :: 10 :: m)) = a ++ (13 :: 10 :: r) := by
  have hp : Lib.hasPrefix (a ++ (13 :: 10 :: m)) crlf = false := by
    rw [← occ_zero]
    exact occ_ahead ha (List.length_pos_iff.2 h0) ⟨[10], rfl⟩
  have hn : ∀ j, j < a.length → Lib.occAt (a ++ (13 :: 10 :: m)) crlf2 j = false := fun j hj => occ_ahead ha hj ⟨[10, 13, 10], rfl⟩
  have hl : (a ++ (13 :: 10 :: m)).length = a.length + 2 + m.length := by simp; omega
  rcases Lib.index_spec (a ++ (13 :: 10 :: m)) crlf2 with ⟨h1, h2⟩ | ⟨i, h1, h2, h3, h4⟩
  · refine ⟨m, List.prefix_refl _, ?_⟩
    unfold head
    rw [hsize_none hp (fun j hj => h2 j (by omega)), List.take_length]
  · have hs := hsize_hit hp h4 h2 h3
    have hia : a.length ≤ i := by
      rcases Nat.lt_or_ge i a.length with h | h
      · rw [hn i h] at h3; cases h3
      · exact h
    have hi2 : i ≠ a.length + 1 := by
      rintro rfl
      rw [occ_behind] at h3
      have h5 := Lib.occAt_head (c := 13) rfl h3
      simp at h5
    have hle := hsize_le (a ++ (13 :: 10 :: m))
    rw [hs, hl] at hle
    unfold head
    rw [hs]
    by_cases he : i = a.length
    · subst he
      refine ⟨m.take 2, List.take_prefix _ _, ?_⟩
      rw [List.take_append, List.take_of_length_le (by omega)]
      congr 1
      rw [show a.length + 4 - a.length = 2 + 2 by omega]
      rfl
    · refine ⟨m.take (i + 4 - a.length - 2), List.take_prefix _ _, ?_⟩
      rw [List.take_append, List.take_of_length_le (by omega)]
      congr 1
      rw [show i + 4 - a.length = (i + 4 - a.length - 2) + 2 by omega]
      rfl
theorem index_first_line {a r : List UInt8} (ha : ∀ c ∈ a, c ≠ 13) : Lib.index (a ++ (13 :: 10 :: r)) crlf = (a.length : Int) :=
  Lib.index_first (by simp) (by
    have h := occ_behind a (13 :: 10 :: r) crlf 0
    rw [Nat.add_zero] at h
    rw [h]
    rfl) (fun j hj => occ_ahead ha hj ⟨[10], rfl⟩)
theorem lines_ahead {a r : List UInt8} (ha : ∀ c ∈ a, c ≠ 13) : lines (a ++ (13 :: 10 :: r)) = a :: lines r := by
  rw [lines_cut (index_first_line ha), List.take_left' rfl]
  congr 2
  rw [List.drop_append, List.drop_of_length_le (by omega), show a.length + 2 - a.length = 2 by omega]
  rfl
theorem lines_first {r : List UInt8} (hr : goesOn r = false) : ∃ l ls, lines r = l :: ls ∧ goesOn l = false := by
  rcases idx2_cases r with h | ⟨i, h, hi⟩
  · exact ⟨r, [], lines_one h, hr⟩
  · refine ⟨_, _, lines_cut h, ?_⟩
    cases i with
    | zero => rfl
    | succ i =>
      cases r with
      | nil => rfl
      | cons c r => exact hr
theorem goesOn_prefix {r m : List UInt8} (h : r <+: m) (hm : goesOn m = false) : goesOn r = false := by
  obtain ⟨t, rfl⟩ := h
  cases r with
  | nil => rfl
  | cons c r => exact hm
theorem indexByte_ahead {n v : List UInt8} (hn : ∀ c ∈ n, c ≠ 58) : ∀ j, j < n.length → (n ++ 58 :: v)[j]? ≠ some 58 := fun j hj => by
  rw [List.getElem?_append_left hj, List.getElem?_eq_getElem hj]
  exact fun e => hn _ (List.getElem_mem hj) (Option.some.inj e)
theorem dropWhile_no {p : UInt8 → Bool} : ∀ {v : List UInt8}, (∀ c ∈ v, p c = false) → v.dropWhile p = v
  | [], _ => rfl
  | c :: v, h => by rw [List.dropWhile_cons, h c (List.mem_cons_self ..)]; rfl
theorem rt_no {v : List UInt8} (h : ∀ c ∈ v, isB c = false) : rt isB v = v := by
  rcases List.eq_nil_or_concat v with rfl | ⟨r, c, e⟩
  · rfl
  · rw [e, List.concat_eq_append] at h ⊢
    exact rt_end (h c (by simp))
theorem first_field {n v m : List UInt8} (hn : ∀ c ∈ n, word1 c = true) (hv : ∀ c ∈ v, word1 c = true) (h0 : n ≠ []) (hm : goesOn m = false) :
    found (fields (n ++ (58 :: (v ++ (13 :: 10 :: m))))) n = some (n, v) := by
  have ea : n ++ (58 :: (v ++ (13 :: 10 :: m))) = (n ++ 58 :: v) ++ (13 :: 10 :: m) := by simp
  have ha : ∀ c ∈ n ++ 58 :: v, c ≠ 13 := fun c hc => by
    rcases List.mem_append.1 hc with h | h
    · exact (word1_no (hn c h)).1
    · rcases List.mem_cons.1 h with rfl | h
      · decide
      · exact (word1_no (hv c h)).1
  obtain ⟨r, hr, he⟩ := head_ahead (a := n ++ 58 :: v) (m := m) ha (by simp)
  obtain ⟨l, ls, h1, h2⟩ := lines_first (goesOn_prefix hr hm)
  obtain ⟨t, ht⟩ := unf_part (ls := (n ++ 58 :: v) :: l :: ls) (pre := [n ++ 58 :: v]) (post := ls) (l := l) rfl (by simp [runP, stepP]) h2
  have hf : fieldOf (n ++ 58 :: v) = some (n, v) := by
    have hb : ∀ c ∈ v, isB c = false := fun c hc => by
      have := word1_no (hv c hc)
      simp [isB, this.2.2.2.1, this.2.2.2.2]
    rw [fieldOf_some (k := n.length) (indexByte_ahead (fun c hc => (word1_no (hn c hc)).2.2.1)) (List.length_pos_iff.2 h0) (by simp)]
    rw [List.take_left' rfl, trim_two]
    have e2 : (n ++ 58 :: v).drop (n.length + 1) = v := by rw [List.drop_append, List.drop_of_length_le (by omega), show n.length + 1 - n.length = 1 by omega]; rfl
    rw [e2, dropWhile_no hb, rt_no hb]
  have e3 : (runP [n ++ 58 :: v]).1 = [] ∧ (runP [n ++ 58 :: v]).2.flatten = n ++ 58 :: v := by simp [runP, stepP]
  unfold fields
  rw [ea, he, lines_ahead ha, h1, ht, e3.1, e3.2, List.nil_append]
  have e4 : fieldsU ((n ++ 58 :: v) :: t) = (n, v) :: fieldsU t := by
    unfold fieldsU
    rw [List.filterMap_cons, hf]
  rw [e4]
  unfold found
  rw [List.find?_cons_of_pos (by simp)]

/-! ### plain -/
theorem info8 : (Tryd.prog.info? 5).map (fun i => (i.zero, i.size, i.bytes)) = some (some (.int .u8 0), 1, 1) := by kernel_rfl
def cells8 (l : List UInt8) : List Value := l.map fun c => Value.int .u8 (c.toNat : Nat)
theorem cells8_snoc (l : List UInt8) (c : UInt8) : cells8 (l ++ [c]) = cells8 l ++ [.int .u8 (c.toNat : Nat)] := by simp [cells8]
theorem conv8 (w : World) (B : Nat) (v : Value) (l : List UInt8) (h0 : l ≠ []) (hown : w.ownsRow B 5 1 v l.length (cells8 l)) :
    (convert 52 9 v).run Tryd.prog w = .ok (.string (S l)) w := by
  rcases hown.2 with ⟨_, h1⟩ | ⟨g, cap, cur, rfl, hg, hh, hn, hcap, hsz, htake⟩
  · exact absurd (List.length_eq_zero_iff.1 h1) h0
  · have h := run_convert_bytes_arg (P := Tryd.prog) w 52 5 Tryd.underlying52 Tryd.underlying5 g 0 l.length cap (l.map fun b => (b.toNat : Int)) (by simp) (fun i hi => by
      rw [Nat.zero_add, hown.cellAt i (by omega)]
      simp [cells8, List.getElem?_eq_getElem hi]) 9 Tryd.underlying9
    rw [h]
    congr 2
    apply ByteArray.ext
    apply Array.toList_inj.1
    rw [strOfNums_data, List.map_map, S_data]
    conv => rhs; rw [← List.map_id l]
    apply List.map_congr_left
    intro x _
    simp
theorem conv8_none (w : World) (B n : Nat) (v : Value) (hn : n = 0) (hown : w.ownsRow B 5 1 v n []) :
    (convert 52 9 v).run Tryd.prog w = .ok (.string (S [])) w := by
  subst hn
  rcases hown.2 with ⟨rfl, _⟩ | ⟨g, cap, cur, rfl, hg, hh, hn, hcap, hsz, htake⟩
  · rfl
  · have h := run_convert_bytes_arg (P := Tryd.prog) w 52 5 Tryd.underlying52 Tryd.underlying5 g 0 0 cap [] rfl (fun i hi => absurd hi (Nat.not_lt_zero _)) 9 Tryd.underlying9
    rw [h]
    rfl
theorem plain_snoc (l : List UInt8) (c : UInt8) : plainL (l ++ [c]) = if word1 c = true then plainL l ++ [c] else plainL l := by
  unfold plainL
  rw [List.filter_append]
  by_cases h : word1 c = true
  · rw [if_pos h]; simp [h]
  · rw [if_neg h]; simp [h]

set_option maxHeartbeats 4000000 in
set_option maxRecDepth 100000 in
theorem plain_any (l : List UInt8) (hl : l.length ≤ 4294967281) (w : World) :
    Calls Tryd.prog 21 #[.string (S l)] w fun e w' => e = .returned (.string (S (plainL l))) ∧ Below w.heap.size w w' := by
  obtain ⟨i0, hi, hz0, hz1, hz2⟩ := info_parts info8
  have hz := S_size l
  go_enter Tryd.func21, Tryd.ntmps21
  go_wp2_with fail
  go_loopw [3, 4] (fun v i wr => ∃ k n : Nat, i = .int .i64 k ∧ k ≤ l.length ∧ n ≤ k ∧ Hid (n = (plainL (l.take k)).length ∧ wr.ownsRow w.heap.size 5 1 v n (cells8 (plainL (l.take k)))) ∧ Below w.heap.size w wr)
    (fun _ i _ => l.length - (intOf i).toNat)
  case atStart => exact ⟨0, 0, rfl, Nat.zero_le _, Nat.le_refl _, Lib.hid ⟨rfl, World.ownsRow_nil _ _ _ _⟩, Below.refl _ _⟩
  case round =>
    obtain ⟨k, n, rfl, hk, hnk, HO, hB⟩ := hrel
    have hBs := hB.size
    by_cases hlt : k < l.length
    · have hlt' : k < (S l).size := by rw [hz]; exact hlt
      have hki : (k : Int) < (l.length : Int) := by omega
      obtain ⟨c, hc, htk⟩ : ∃ c, l[k]'hlt = c ∧ l.take (k + 1) = l.take k ++ [c] := ⟨_, rfl, List.take_succ_eq_append_getElem hlt⟩
      have hsn := plain_snoc (l.take k) c
      rw [← htk] at hsn
      clear htk
      obtain ⟨x, hx⟩ : ∃ x : Nat, c.toNat = x := ⟨_, rfl⟩
      have hgx : ((S l)[k]'hlt').toNat = x := by rw [S_get l k hlt hlt', hc]; exact hx
      have hx256 : x < 256 := hx ▸ c.toNat_lt
      have hwd : word1 c = decide (97 ≤ x ∧ x ≤ 122 ∨ 65 ≤ x ∧ x ≤ 90 ∨ 48 ≤ x ∧ x ≤ 57) := by unfold word1; rw [hx]
      rcases (show (x < 48) ∨ (48 ≤ x ∧ x ≤ 57) ∨ (57 < x ∧ x < 65) ∨ (65 ≤ x ∧ x ≤ 90) ∨ (90 < x ∧ x < 97) ∨ (97 ≤ x ∧ x ≤ 122) ∨ (122 < x) by omega) with hw | hw | hw | hw | hw | hw | hw
      · have hwt : word1 c = false := by rw [hwd]; exact decide_eq_false (by omega)
        have f0 : ¬ (97 : Int) ≤ (x : Int) := by omega
        have f1 : ¬ (65 : Int) ≤ (x : Int) := by omega
        have f2 : ¬ (48 : Int) ≤ (x : Int) := by omega
        have HN : Hid (n = (plainL (l.take (k + 1))).length ∧ wr.ownsRow w.heap.size 5 1 u3 n (cells8 (plainL (l.take (k + 1))))) := Lib.hid (by rw [hsn, if_neg (by rw [hwt]; decide)]; exact HO.out)
        clear hsn hwt hwd hc hx hw hx256 HO
        go_wp2_with fail
        go_roundw
        case rel => exact ⟨k + 1, n, by go_num, by omega, by omega, HN, hB⟩
        case measure => simp [intOf]; omega
      · have hwt : word1 c = true := by rw [hwd]; exact decide_eq_true (by omega)
        have f0 : ¬ (97 : Int) ≤ (x : Int) := by omega
        have f1 : ¬ (65 : Int) ≤ (x : Int) := by omega
        have f2 : (48 : Int) ≤ (x : Int) := by omega
        have f3 : (x : Int) ≤ 57 := by omega
        have HS : Hid (plainL (l.take (k + 1)) = plainL (l.take k) ++ [c]) := Lib.hid (by rw [hsn, if_pos hwt])
        have HX := Lib.hid hx
        clear hsn hwt hwd hc hx hw hx256
        go_wp2_with (at_builtin; refine wpList_append_own _ rfl _ _ 52 rfl w.heap.size 5 i0 (.int .u8 0) 1 1 Tryd.underlying52 hi hz0 hz1 hz2 rfl (by decide) _ _ _ rfl (HO.out.2.alloc _) ⟨wr.heap.size, 0, none⟩ 1 1 [.int .u8 (x : Nat)] rfl rfl ?c11 ?c21 ?c31 ?c41 ?c51 ?_)
        try case c11 =>
          intro j u hj
          match j, hj with
          | 0, hj => simp at hj; subst hj; simp [Addr.add]
        try case c21 => first | rfl | (intro u hu; simp at hu; subst hu; rfl)
        try case c31 => unfold maxLen; omega
        try case c41 => omega
        try case c51 => first | omega | (simp; omega)
        intro v5 w5 hown' hgrow hnil
        have hB5 : Below w.heap.size w w5 := (hB.alloc hBs _).grown hgrow (by simp; omega) (fun k hk => (HO.out.2.lt k hk).1)
        have HN : Hid (n + 1 = (plainL (l.take (k + 1))).length ∧ w5.ownsRow w.heap.size 5 1 v5 (n + 1) (cells8 (plainL (l.take (k + 1))))) := Lib.hid ⟨by rw [HS.out, List.length_append, List.length_singleton, ← HO.out.1], by rw [HS.out, cells8_snoc, HX.out]; exact hown'⟩
        clear hown' hgrow hnil HO hB hBs HS
        go_wp2_with fail
        go_roundw
        case rel => exact ⟨k + 1, n + 1, by go_num, by omega, by omega, HN, hB5⟩
        case measure => simp [intOf]; omega
      · have hwt : word1 c = false := by rw [hwd]; exact decide_eq_false (by omega)
        have f0 : ¬ (97 : Int) ≤ (x : Int) := by omega
        have f1 : ¬ (65 : Int) ≤ (x : Int) := by omega
        have f2 : (48 : Int) ≤ (x : Int) := by omega
        have f3 : ¬ (x : Int) ≤ 57 := by omega
        have HN : Hid (n = (plainL (l.take (k + 1))).length ∧ wr.ownsRow w.heap.size 5 1 u3 n (cells8 (plainL (l.take (k + 1))))) := Lib.hid (by rw [hsn, if_neg (by rw [hwt]; decide)]; exact HO.out)
        clear hsn hwt hwd hc hx hw hx256 HO
        go_wp2_with fail
        go_roundw
        case rel => exact ⟨k + 1, n, by go_num, by omega, by omega, HN, hB⟩
        case measure => simp [intOf]; omega
      · have hwt : word1 c = true := by rw [hwd]; exact decide_eq_true (by omega)
        have f0 : ¬ (97 : Int) ≤ (x : Int) := by omega
        have f1 : (65 : Int) ≤ (x : Int) := by omega
        have f2 : (x : Int) ≤ 90 := by omega
        have HS : Hid (plainL (l.take (k + 1)) = plainL (l.take k) ++ [c]) := Lib.hid (by rw [hsn, if_pos hwt])
        have HX := Lib.hid hx
        clear hsn hwt hwd hc hx hw hx256
        go_wp2_with (at_builtin; refine wpList_append_own _ rfl _ _ 52 rfl w.heap.size 5 i0 (.int .u8 0) 1 1 Tryd.underlying52 hi hz0 hz1 hz2 rfl (by decide) _ _ _ rfl (HO.out.2.alloc _) ⟨wr.heap.size, 0, none⟩ 1 1 [.int .u8 (x : Nat)] rfl rfl ?c13 ?c23 ?c33 ?c43 ?c53 ?_)
        try case c13 =>
          intro j u hj
          match j, hj with
          | 0, hj => simp at hj; subst hj; simp [Addr.add]
        try case c23 => first | rfl | (intro u hu; simp at hu; subst hu; rfl)
        try case c33 => unfold maxLen; omega
        try case c43 => omega
        try case c53 => first | omega | (simp; omega)
        intro v5 w5 hown' hgrow hnil
        have hB5 : Below w.heap.size w w5 := (hB.alloc hBs _).grown hgrow (by simp; omega) (fun k hk => (HO.out.2.lt k hk).1)
        have HN : Hid (n + 1 = (plainL (l.take (k + 1))).length ∧ w5.ownsRow w.heap.size 5 1 v5 (n + 1) (cells8 (plainL (l.take (k + 1))))) := Lib.hid ⟨by rw [HS.out, List.length_append, List.length_singleton, ← HO.out.1], by rw [HS.out, cells8_snoc, HX.out]; exact hown'⟩
        clear hown' hgrow hnil HO hB hBs HS
        go_wp2_with fail
        go_roundw
        case rel => exact ⟨k + 1, n + 1, by go_num, by omega, by omega, HN, hB5⟩
        case measure => simp [intOf]; omega
      · have hwt : word1 c = false := by rw [hwd]; exact decide_eq_false (by omega)
        have f0 : ¬ (97 : Int) ≤ (x : Int) := by omega
        have f1 : (65 : Int) ≤ (x : Int) := by omega
        have f2 : ¬ (x : Int) ≤ 90 := by omega
        have f3 : (48 : Int) ≤ (x : Int) := by omega
        have f4 : ¬ (x : Int) ≤ 57 := by omega
        have HN : Hid (n = (plainL (l.take (k + 1))).length ∧ wr.ownsRow w.heap.size 5 1 u3 n (cells8 (plainL (l.take (k + 1))))) := Lib.hid (by rw [hsn, if_neg (by rw [hwt]; decide)]; exact HO.out)
        clear hsn hwt hwd hc hx hw hx256 HO
        go_wp2_with fail
        go_roundw
        case rel => exact ⟨k + 1, n, by go_num, by omega, by omega, HN, hB⟩
        case measure => simp [intOf]; omega
      · have hwt : word1 c = true := by rw [hwd]; exact decide_eq_true (by omega)
        have f0 : (97 : Int) ≤ (x : Int) := by omega
        have f1 : (x : Int) ≤ 122 := by omega
        have HS : Hid (plainL (l.take (k + 1)) = plainL (l.take k) ++ [c]) := Lib.hid (by rw [hsn, if_pos hwt])
        have HX := Lib.hid hx
        clear hsn hwt hwd hc hx hw hx256
        go_wp2_with (at_builtin; refine wpList_append_own _ rfl _ _ 52 rfl w.heap.size 5 i0 (.int .u8 0) 1 1 Tryd.underlying52 hi hz0 hz1 hz2 rfl (by decide) _ _ _ rfl (HO.out.2.alloc _) ⟨wr.heap.size, 0, none⟩ 1 1 [.int .u8 (x : Nat)] rfl rfl ?c15 ?c25 ?c35 ?c45 ?c55 ?_)
        try case c15 =>
          intro j u hj
          match j, hj with
          | 0, hj => simp at hj; subst hj; simp [Addr.add]
        try case c25 => first | rfl | (intro u hu; simp at hu; subst hu; rfl)
        try case c35 => unfold maxLen; omega
        try case c45 => omega
        try case c55 => first | omega | (simp; omega)
        intro v5 w5 hown' hgrow hnil
        have hB5 : Below w.heap.size w w5 := (hB.alloc hBs _).grown hgrow (by simp; omega) (fun k hk => (HO.out.2.lt k hk).1)
        have HN : Hid (n + 1 = (plainL (l.take (k + 1))).length ∧ w5.ownsRow w.heap.size 5 1 v5 (n + 1) (cells8 (plainL (l.take (k + 1))))) := Lib.hid ⟨by rw [HS.out, List.length_append, List.length_singleton, ← HO.out.1], by rw [HS.out, cells8_snoc, HX.out]; exact hown'⟩
        clear hown' hgrow hnil HO hB hBs HS
        go_wp2_with fail
        go_roundw
        case rel => exact ⟨k + 1, n + 1, by go_num, by omega, by omega, HN, hB5⟩
        case measure => simp [intOf]; omega
      · have hwt : word1 c = false := by rw [hwd]; exact decide_eq_false (by omega)
        have f0 : (97 : Int) ≤ (x : Int) := by omega
        have f1 : ¬ (x : Int) ≤ 122 := by omega
        have f2 : (65 : Int) ≤ (x : Int) := by omega
        have f3 : ¬ (x : Int) ≤ 90 := by omega
        have f4 : (48 : Int) ≤ (x : Int) := by omega
        have f5 : ¬ (x : Int) ≤ 57 := by omega
        have HN : Hid (n = (plainL (l.take (k + 1))).length ∧ wr.ownsRow w.heap.size 5 1 u3 n (cells8 (plainL (l.take (k + 1))))) := Lib.hid (by rw [hsn, if_neg (by rw [hwt]; decide)]; exact HO.out)
        clear hsn hwt hwd hc hx hw hx256 HO
        go_wp2_with fail
        go_roundw
        case rel => exact ⟨k + 1, n, by go_num, by omega, by omega, HN, hB⟩
        case measure => simp [intOf]; omega
    · obtain rfl : k = l.length := by omega
      have hki : ¬ (l.length : Int) < (l.length : Int) := by omega
      have hcv : (convert 52 9 u3).run Tryd.prog wr = .ok (.string (S (plainL l))) wr := by
        have h1 := HO.out.1
        have h2 := HO.out.2
        rw [List.take_length] at h1 h2
        by_cases h0 : plainL l = []
        · rw [h0] at h1 h2 ⊢
          exact conv8_none wr _ _ _ h1 h2
        · rw [h1] at h2
          exact conv8 wr _ _ _ h0 h2
      clear HO
      go_wp2_with fail
      go_ret
      exact ⟨rfl, hB⟩

end Go.Proofs.YtecemfebbonkpaaDoor.pt
