/-
  What the program's Unquote answers.
-/
import Derived.Test.YtgmopbgcimekhaaDoorWordQuoteP
namespace Go.Proofs.YtgmopbgcimekhaaDoor.wo
open Go.RowKit

theorem unq_full {out : List UInt8} (r : List UInt8) (n : Nat) (h : 512 < out.length) : unq out r n = none := by
  match r with
  | [] => exact unq_nil _ _
  | c :: r =>
    by_cases h1 : c = 34
    · subst h1; exact unq_long _ _ h
    · by_cases h2 : c = 92
      · subst h2
        match r with
        | [] => exact unq_escend _ _
        | d :: r' =>
          by_cases hd : d = 34 ∨ d = 92
          · exact unq_esclong _ _ hd h
          · exact unq_escbad _ _ hd
      · exact unq_bad _ _ h1 h2 (fun hq => hq.2 h)
theorem conv_nil (w : World) : (convert 37 9 (.slice none 0 0)).run Tryd.prog w = .ok (.string ⟨#[]⟩) w := by kernel_rfl
theorem own_form {w : World} {B n : Nat} {v : Value} {xs : List Value} (h : w.ownsRow B 5 1 v n xs) (hn : 0 < n) : ∃ (a : Option Addr) (c m : Nat), v = .slice a m c ∧ Hid (m = n) := by
  rcases h.2 with ⟨_, h0⟩ | ⟨g, cap, cur, hv, _⟩
  · omega
  · exact ⟨_, _, n, hv, Lib.hid rfl⟩

set_option maxHeartbeats 4000000 in
set_option maxRecDepth 100000 in
theorem unquote_walk (l : List UInt8) (hl : l.length ≤ 140737488355328) (h0 : 0 < l.length) (hc34 : l[0] = 34) (w : World) :
    Calls Tryd.prog 20 #[.string (S l)] w fun e w' => e = .returned (res3 (unquote l)) ∧ Below w.heap.size w w' := by
  obtain ⟨i0, hi, hz0, hz1, hz2⟩ := info_parts infoU8
  have hz := S_size l
  have hemp := S_empty_no h0
  have h0' : 0 < (S l).size := by rw [S_size]; exact h0
  have hx34 : ((S l)[0]'h0').toNat = 34 := by rw [S_get l 0 h0 h0', hc34]; rfl
  have hi0 : (0 : Int) < (l.length : Int) := by omega
  have hst : Hid (unquote l = unq [] (l.drop 1) 1) := by
    show unquote l = _
    have := List.drop_eq_getElem_cons (l := l) (i := 0) h0
    rw [List.drop_zero, hc34] at this
    conv => lhs; rw [this]
    rw [unquote_cons, if_pos rfl]
  have fin : Hid (unquote l = none) → Ending.returned (Value.tuple #[.string ⟨#[]⟩, .int .i64 0, .bool false]) = Ending.returned (res3 (unquote l)) := fun h => by rw [h.out]; rfl
  have hq := inQuotes_any w
  have hm := behind_any
  clear hc34
  go_enter Tryd.func20, Tryd.ntmps20
  go_wp2_with fail
  refine hq.mono ?_
  rintro e w1 ⟨B1, B2, b1, b2, b3, rfl, hA, hb1⟩
  clear hq
  go_wp2_with fail
  refine (hm w1).mono ?_
  rintro e w3 ⟨g, rfl, hI, hb3⟩
  have hB3 := hb1.trans (hb3.mono hb1.size)
  have hA3 := hA.later hb3
  obtain ⟨B, hB0⟩ : ∃ B, B = w3.heap.size := ⟨_, rfl⟩
  have HB0 := Lib.hid hB0
  have hcm := fun c W (hb : Below B w3 W) => in1_any marks g c W (hI.later (by rw [← HB0.out]; exact hb))
  have hcp := fun c W (hb : Below B w3 W) => but1_any 1 127 [13, 10] B1 B2 b1 b2 b3 c W (hA3.later (by rw [← HB0.out]; exact hb))
  have HCM := Lib.hid hcm
  have HCP := Lib.hid hcp
  have H0 : Hid (0 = ([] : List UInt8).length ∧ (([] : List UInt8) = [] → (none : Option Addr) = none ∧ 0 = 0) ∧ unquote l = unq [] (l.drop 1) 1 ∧ w3.ownsRow B 5 1 (.slice none 0 0) 0 (Lib.byteCells []) ∧ Below B w3 w3) := ⟨rfl, fun _ => ⟨rfl, rfl⟩, hst, World.ownsRow_nil _ _ _ _, Below.refl _ _⟩
  have HBB : Hid (∀ W, Below B w3 W → Below w.heap.size w W) := fun W hb => hB3.trans (hb.mono (by have := HB0.out; have := hB3.size; omega))
  clear hst hcm hcp hI hA3 hA hb1 hb3 hB3 hm hB0 hx34
  go_wp2_with fail
  go_loopw [7, 8] (fun v i wr => ∃ (k n : Nat) (t : List UInt8) (a : Option Addr) (c : Nat), i = .int .i64 k ∧ v = .slice a n c ∧ 1 ≤ k ∧ k ≤ l.length ∧ n ≤ 513 ∧ Hid (n = t.length ∧ (t = [] → a = none ∧ c = 0) ∧ unquote l = unq t (l.drop k) k ∧ wr.ownsRow B 5 1 (.slice a n c) n (Lib.byteCells t) ∧ Below B w3 wr))
    (fun _ i _ => l.length - (intOf i).toNat)
  case atStart => exact ⟨1, 0, [], none, 0, rfl, rfl, Nat.le_refl _, by omega, by omega, Lib.hid ⟨rfl, fun _ => ⟨rfl, rfl⟩, H0.out.2.2⟩⟩
  case round =>
    clear H0
    obtain ⟨k, n, t, a, c, rfl, rfl, hk1, hk, hn, HH⟩ := hrel
    have HNT : Hid (n = t.length) := HH.out.1
    have HTN : Hid (t = [] → a = none ∧ c = 0) := HH.out.2.1
    have HUN : Hid (unquote l = unq t (l.drop k) k) := HH.out.2.2.1
    have HO := Lib.hid HH.out.2.2.2.1
    have hB := HH.out.2.2.2.2
    clear HH
    have hBs : B ≤ wr.heap.size := by have := hB.size; have := HB0.out; omega
    by_cases hlt : k < l.length
    · have hki : (k : Int) < (l.length : Int) := by omega
      by_cases hfull : n ≤ 512
      · have hni : (n : Int) ≤ 512 := by omega
        have hlt' : k < (S l).size := by rw [S_size]; exact hlt
        have hdr := List.drop_eq_getElem_cons hlt
        obtain ⟨d, hd⟩ : ∃ d, l[k]'hlt = d := ⟨_, rfl⟩
        rw [hd] at hdr
        have hx : ((S l)[k]'hlt').toNat = d.toNat := by rw [S_get l k hlt hlt', hd]
        have HUD := HUN.out
        rw [hdr] at HUD
        have hnl : ¬ 512 < t.length := by have := HNT.out; omega
        clear HUN hdr hd
        by_cases hd34 : d = 34
        · subst hd34
          have hx34 : ((S l)[k]'hlt').toNat = 34 := hx
          have HG := Lib.hid (HUD.trans (unq_end _ _ hnl))
          have hBB := HBB.out wr hB
          clear HUD hx HCM HCP
          by_cases ht : t = []
          · obtain ⟨rfl, rfl⟩ := HTN.out ht
            have hn0 : n = 0 := by rw [HNT.out, ht]; rfl
            subst hn0
            have hcv := conv_nil wr
            have HT := Lib.hid ht
            clear HTN HNT HO ht
            go_wp2_with fail
            refine bodyPost_ret (results_tmp3' rfl _ _) rfl ⟨?_, hBB⟩
            rw [HG.out, HT.out]
            rfl
          · have hoo := HO.out
            have hnt := HNT.out
            rw [hnt] at hoo
            have hcv := conv_own wr B _ t ht hoo
            rw [← hnt] at hcv
            clear HTN HNT HO ht hoo hnt
            go_wp2_with fail
            refine bodyPost_ret (results_tmp3' rfl _ _) rfl ⟨?_, hBB⟩
            rw [HG.out]
            rfl
        · have n34 : (((d.toNat : Nat) : Int) == 34) = false := by have := nat_int d 34 (by decide); rw [decide_eq_false (show ¬ d = UInt8.ofNat 34 from hd34)] at this; exact this
          by_cases hd92 : d = 92
          · subst hd92
            have hx92 : ((S l)[k]'hlt').toNat = 92 := hx
            clear n34 hd34 hx HCP
            by_cases hend : k + 1 < l.length
            · have hend' : k + 1 < (S l).size := by rw [S_size]; exact hend
              have hdr2 := List.drop_eq_getElem_cons hend
              obtain ⟨f, hf⟩ : ∃ f, l[k + 1]'hend = f := ⟨_, rfl⟩
              rw [hf] at hdr2
              have hy : ((S l)[k + 1]'hend').toNat = f.toNat := by rw [S_get l _ hend hend', hf]
              rw [hdr2] at HUD
              have hei2 : (k : Int) + 1 < (l.length : Int) := by omega
              have hei3 : (((k : Int) + 1) == (l.length : Int)) = false := by rw [beq_eq_false_iff_ne]; omega
              have t1 : ((k : Int) + 1).toNat = k + 1 := by omega
              have hc := HCM.out f wr hB
              clear HCM hdr2 hf
              by_cases hfe : f = 34 ∨ f = 92
              · have HU2 := Lib.hid (HUD.trans (unq_esc _ _ hfe hnl))
                have hmk : decide (f ∈ marks) = true := by rw [decide_eq_true_iff]; rcases hfe with rfl | rfl <;> decide
                rw [hmk] at hc
                clear HUD hmk hfe
                go_wp2_with fail
                refine hc.mono ?_
                rintro e w5 ⟨rfl, b5⟩
                have HO5 := Lib.hid (ownsRow_below HO.out b5)
                have hB5 := hB.trans (b5.mono hBs)
                have hBs5 : B ≤ w5.heap.size := Nat.le_trans hBs b5.size
                clear hc HO hB hBs b5
                go_wp2_with (at_builtin; refine wpList_append_own _ rfl _ _ 37 rfl B 5 i0 (.int .u8 0) 1 1 Tryd.underlying37 hi hz0 hz1 hz2 rfl (by decide) _ _ _ rfl (HO5.out.alloc _) ⟨w5.heap.size, 0, none⟩ 1 1 [.int .u8 (f.toNat : Nat)] rfl rfl ?c1 ?c2 ?c3 ?c4 ?c5 ?_)
                case c1 =>
                  intro j u hj
                  match j, hj with
                  | 0, hj => simp at hj; subst hj; simp [Addr.add]
                case c2 => intro u hu; simp at hu; subst hu; rfl
                case c3 => unfold maxLen; simp; omega
                case c4 => simp; omega
                case c5 => simp; omega
                intro v6 w6 hown' hgrow hnil
                have hB6 : Below B w3 w6 := (hB5.alloc hBs5 _).grown hgrow (by simp; omega) (fun k hk => (HO5.out.lt k hk).1)
                obtain ⟨a6, c6, m, rfl, hm⟩ := own_form hown' (by omega)
                have HN : Hid (m = (t ++ [f]).length ∧ (t ++ [f] = [] → a6 = none ∧ c6 = 0) ∧ unquote l = unq (t ++ [f]) (l.drop (k + 2)) (k + 2) ∧ w6.ownsRow B 5 1 (.slice a6 m c6) m (Lib.byteCells (t ++ [f])) ∧ Below B w3 w6) := by
                  have e : Lib.byteCells (t ++ [f]) = Lib.byteCells t ++ [.int .u8 (f.toNat : Nat)] := by rw [Lib.byteCells_append, cells_one]
                  refine ⟨by rw [hm.out, HNT.out, List.length_append, List.length_singleton], fun h => absurd h (by simp), HU2.out, ?_, hB6⟩
                  rw [e]
                  have hh := hown'
                  rw [← hm.out] at hh
                  exact hh
                have hm513 : m ≤ 513 := by have := hm.out; omega
                clear hown' hgrow hnil HO5 hB5 hBs5 hB6 hm
                go_wp2_with fail
                go_roundw
                case rel => exact ⟨k + 2, m, t ++ [f], a6, c6, by go_num, rfl, by omega, by omega, hm513, HN⟩
                case measure => simp [intOf]; omega
              · have HB := Lib.hid (HUD.trans (unq_escbad _ _ hfe))
                have hmk : decide (f ∈ marks) = false := by rw [decide_eq_false_iff_not]; intro h; apply hfe; simpa [marks] using h
                have hBB := HBB.out wr hB
                rw [hmk] at hc
                clear HUD hmk hfe HO
                go_wp2_with fail
                refine hc.mono ?_
                rintro e w5 ⟨rfl, b5⟩
                go_wp2_with fail
                refine bodyPost_ret (results_tmp3' rfl _ _) rfl ⟨?_, hBB.trans (b5.mono hBB.size)⟩
                exact fin HB
            · have hei3 : (((k : Int) + 1) == (l.length : Int)) = true := by rw [beq_iff_eq]; omega
              rw [List.drop_eq_nil_of_le (by omega)] at HUD
              have HB := Lib.hid (HUD.trans (unq_escend _ _))
              have hBB := HBB.out wr hB
              clear HUD HCM HO
              go_wp2_with fail
              refine bodyPost_ret (results_tmp3' rfl _ _) rfl ⟨?_, hBB⟩
              exact fin HB
          · have n92 : (((d.toNat : Nat) : Int) == 92) = false := by have := nat_int d 92 (by decide); rw [decide_eq_false (show ¬ d = UInt8.ofNat 92 from hd92)] at this; exact this
            have hei3 : ((k : Int) == (l.length : Int)) = false := by rw [beq_eq_false_iff_ne]; omega
            have hc := HCP.out d wr hB
            clear HCP HCM
            cases hqd : quotable d with
            | true =>
              have HU1 := Lib.hid (HUD.trans (unq_plain _ _ hd34 hd92 hqd hnl))
              rw [mayb_quotes, hqd] at hc
              clear HUD hd34 hd92 hqd
              go_wp2_with fail
              refine hc.mono ?_
              rintro e w5 ⟨rfl, b5⟩
              have HO5 := Lib.hid (ownsRow_below HO.out b5)
              have hB5 := hB.trans (b5.mono hBs)
              have hBs5 : B ≤ w5.heap.size := Nat.le_trans hBs b5.size
              clear hc HO hB hBs b5
              go_wp2_with (at_builtin; refine wpList_append_own _ rfl _ _ 37 rfl B 5 i0 (.int .u8 0) 1 1 Tryd.underlying37 hi hz0 hz1 hz2 rfl (by decide) _ _ _ rfl (HO5.out.alloc _) ⟨w5.heap.size, 0, none⟩ 1 1 [.int .u8 (d.toNat : Nat)] rfl rfl ?d1 ?d2 ?d3 ?d4 ?d5 ?_)
              case d1 =>
                intro j u hj
                match j, hj with
                | 0, hj => simp at hj; subst hj; simp [Addr.add]
              case d2 => intro u hu; simp at hu; subst hu; rfl
              case d3 => unfold maxLen; simp; omega
              case d4 => simp; omega
              case d5 => simp; omega
              intro v6 w6 hown' hgrow hnil
              have hB6 : Below B w3 w6 := (hB5.alloc hBs5 _).grown hgrow (by simp; omega) (fun k hk => (HO5.out.lt k hk).1)
              obtain ⟨a6, c6, m, rfl, hm⟩ := own_form hown' (by omega)
              have HN : Hid (m = (t ++ [d]).length ∧ (t ++ [d] = [] → a6 = none ∧ c6 = 0) ∧ unquote l = unq (t ++ [d]) (l.drop (k + 1)) (k + 1) ∧ w6.ownsRow B 5 1 (.slice a6 m c6) m (Lib.byteCells (t ++ [d])) ∧ Below B w3 w6) := by
                have e : Lib.byteCells (t ++ [d]) = Lib.byteCells t ++ [.int .u8 (d.toNat : Nat)] := by rw [Lib.byteCells_append, cells_one]
                refine ⟨by rw [hm.out, HNT.out, List.length_append, List.length_singleton], fun h => absurd h (by simp), HU1.out, ?_, hB6⟩
                rw [e]
                have hh := hown'
                rw [← hm.out] at hh
                exact hh
              have hm513 : m ≤ 513 := by have := hm.out; omega
              clear hown' hgrow hnil HO5 hB5 hBs5 hB6 hm
              go_wp2_with fail
              go_roundw
              case rel => exact ⟨k + 1, m, t ++ [d], a6, c6, by go_num, rfl, by omega, by omega, hm513, HN⟩
              case measure => simp [intOf]; omega
            | false =>
              have HB := Lib.hid (HUD.trans (unq_bad _ _ hd34 hd92 (fun h => by rw [hqd] at h; exact absurd h.1 (by decide))))
              have hBB := HBB.out wr hB
              rw [mayb_quotes, hqd] at hc
              clear HUD hd34 hd92 hqd HO
              go_wp2_with fail
              refine hc.mono ?_
              rintro e w5 ⟨rfl, b5⟩
              go_wp2_with fail
              refine bodyPost_ret (results_tmp3' rfl _ _) rfl ⟨?_, hBB.trans (b5.mono hBB.size)⟩
              exact fin HB
      · have hni : ¬ (n : Int) ≤ 512 := by omega
        have HB : Hid (unquote l = none) := Lib.hid (HUN.out.trans (unq_full _ _ (by have := HNT.out; omega)))
        have hBB := HBB.out wr hB
        clear HUN HCM HCP HO
        go_wp2_with fail
        refine bodyPost_ret (results_tmp3' rfl _ _) rfl ⟨?_, hBB⟩
        exact fin HB
    · obtain rfl : k = l.length := by omega
      have HB : Hid (unquote l = none) := by
        show unquote l = none
        rw [HUN.out, List.drop_eq_nil_of_le (Nat.le_refl _), unq_nil]
      have hBB := HBB.out wr hB
      clear HUN HCM HCP HO
      go_wp2_with fail
      refine bodyPost_ret (results_tmp3' rfl _ _) rfl ⟨?_, hBB⟩
      exact fin HB

set_option maxRecDepth 100000 in
theorem unquote_any (l : List UInt8) (hl : l.length ≤ 140737488355328) (w : World) :
    Calls Tryd.prog 20 #[.string (S l)] w fun e w' => e = .returned (.tuple #[.string (S (unqT (unquote l))), .int .i64 (unqN (unquote l) : Nat), .bool (unqB (unquote l))]) ∧ Below w.heap.size w w' := by
  rw [← res3_eq]
  by_cases h0 : 0 < l.length
  · by_cases hc : l[0] = 34
    · exact unquote_walk l hl h0 hc w
    · have hz := S_size l
      have hemp := S_empty_no h0
      have h0' : 0 < (S l).size := by rw [S_size]; exact h0
      obtain ⟨c, hcc⟩ : ∃ c, l[0]'h0 = c := ⟨_, rfl⟩
      rw [hcc] at hc
      have hx : ((S l)[0]'h0').toNat = c.toNat := by rw [S_get l 0 h0 h0', hcc]
      have HB : Hid (unquote l = none) := by
        show unquote l = none
        have := List.drop_eq_getElem_cons (l := l) (i := 0) h0
        rw [List.drop_zero, hcc] at this
        conv => lhs; rw [this]
        rw [unquote_cons, if_neg hc]
      have fin : Hid (unquote l = none) → Ending.returned (Value.tuple #[.string ⟨#[]⟩, .int .i64 0, .bool false]) = Ending.returned (res3 (unquote l)) := fun h => by rw [h.out]; rfl
      have n34' : (((c.toNat : Nat) : Int) != 34) = true := by have := nat_int c 34 (by decide); rw [decide_eq_false (show ¬ c = UInt8.ofNat 34 from hc)] at this; rw [bne]; exact congrArg (! ·) this
      have hi0 : (0 : Int) < (l.length : Int) := by omega
      clear hcc hc
      go_enter Tryd.func20, Tryd.ntmps20
      go_wp2_with fail
      refine bodyPost_ret (results_tmp3' rfl _ _) rfl ⟨?_, Below.refl _ _⟩
      exact fin HB
  · have hn : l = [] := List.eq_nil_of_length_eq_zero (by omega)
    subst hn
    change Calls Tryd.prog 20 #[.string ⟨#[]⟩] w _
    go_enter Tryd.func20, Tryd.ntmps20
    go_wp2_with fail
    exact bodyPost_ret (results_tmp3' rfl _ _) rfl ⟨rfl, Below.refl _ _⟩
end Go.Proofs.YtgmopbgcimekhaaDoor.wo
