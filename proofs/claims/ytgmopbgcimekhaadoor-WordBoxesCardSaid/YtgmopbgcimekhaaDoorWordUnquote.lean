/-
  What the reference's Unquote answers: the text that the quoted text with which a text begins stands for, and how many bytes it has.
-/
import Derived.Test.YtgmopbgcimekhaaDoorWordForm
namespace Go.Proofs.YtgmopbgcimekhaaDoor.wo
open Go.RowKit

/-- Behind the first mark: what is told so far, what is left, how many bytes are gone. -/
def unq (out : List UInt8) : List UInt8 → Nat → Option (List UInt8 × Nat)
  | [], _ => none
  | c :: r, n =>
    if c = 34 then (if 512 < out.length then none else some (out, n + 1))
    else if c = 92 then
      match r with
      | [] => none
      | d :: r' => if d = 34 ∨ d = 92 then (if 512 < out.length then none else unq (out ++ [d]) r' (n + 2)) else none
    else if quotable c = true ∧ ¬ 512 < out.length then unq (out ++ [c]) r (n + 1) else none
def unquote : List UInt8 → Option (List UInt8 × Nat)
  | [] => none
  | c :: r => if c = 34 then unq [] r 1 else none
def res3 : Option (List UInt8 × Nat) → Value
  | some (t, n) => .tuple #[.string (S t), .int .i64 (n : Nat), .bool true]
  | none => .tuple #[.string ⟨#[]⟩, .int .i64 0, .bool false]
theorem unq_nil (out : List UInt8) (n : Nat) : unq out [] n = none := by rw [unq.eq_def]
theorem unq_cons (out : List UInt8) (c : UInt8) (r : List UInt8) (n : Nat) : unq out (c :: r) n =
    if c = 34 then (if 512 < out.length then none else some (out, n + 1))
    else if c = 92 then
      match r with
      | [] => none
      | d :: r' => if d = 34 ∨ d = 92 then (if 512 < out.length then none else unq (out ++ [d]) r' (n + 2)) else none
    else if quotable c = true ∧ ¬ 512 < out.length then unq (out ++ [c]) r (n + 1) else none := by
  rw [unq.eq_def]
theorem unq_end {out : List UInt8} (r : List UInt8) (n : Nat) (h : ¬ 512 < out.length) : unq out (34 :: r) n = some (out, n + 1) := by rw [unq_cons, if_pos rfl, if_neg h]
theorem unq_long {out : List UInt8} (r : List UInt8) (n : Nat) (h : 512 < out.length) : unq out (34 :: r) n = none := by rw [unq_cons, if_pos rfl, if_pos h]
theorem unq_plain {out : List UInt8} {c : UInt8} (r : List UInt8) (n : Nat) (h1 : c ≠ 34) (h2 : c ≠ 92) (hq : quotable c = true) (h : ¬ 512 < out.length) : unq out (c :: r) n = unq (out ++ [c]) r (n + 1) := by
  rw [unq_cons, if_neg h1, if_neg h2, if_pos ⟨hq, h⟩]
theorem unq_bad {out : List UInt8} {c : UInt8} (r : List UInt8) (n : Nat) (h1 : c ≠ 34) (h2 : c ≠ 92) (hq : ¬(quotable c = true ∧ ¬ 512 < out.length)) : unq out (c :: r) n = none := by
  rw [unq_cons, if_neg h1, if_neg h2, if_neg hq]
theorem unq_esc {out : List UInt8} {d : UInt8} (r : List UInt8) (n : Nat) (h : d = 34 ∨ d = 92) (hl : ¬ 512 < out.length) : unq out (92 :: d :: r) n = unq (out ++ [d]) r (n + 2) := by
  rw [unq_cons, if_neg (by decide), if_pos rfl]; simp only [if_pos h, if_neg hl]
theorem unq_esclong {out : List UInt8} {d : UInt8} (r : List UInt8) (n : Nat) (h : d = 34 ∨ d = 92) (hl : 512 < out.length) : unq out (92 :: d :: r) n = none := by
  rw [unq_cons, if_neg (by decide), if_pos rfl]; simp only [if_pos h, if_pos hl]
theorem unq_escbad {out : List UInt8} {d : UInt8} (r : List UInt8) (n : Nat) (h : ¬(d = 34 ∨ d = 92)) : unq out (92 :: d :: r) n = none := by
  rw [unq_cons, if_neg (by decide), if_pos rfl]; simp only [if_neg h]
theorem unq_escend (out : List UInt8) (n : Nat) : unq out [92] n = none := by
  rw [unq_cons, if_neg (by decide), if_pos rfl]
theorem unquote_cons (c : UInt8) (r : List UInt8) : unquote (c :: r) = if c = 34 then unq [] r 1 else none := by rw [unquote.eq_def]

theorem results_tmp3' {P : Program} {fn : Func} {t u v : Tmp} (h : fn.results = #[.tmp t, .tmp u, .tmp v]) (tmps : Array Value) (w : World) :
    (results fn tmps).run P w = .ok (.tuple #[tmps.getD t undef, tmps.getD u undef, tmps.getD v undef]) w := by
  simp [results, h]

theorem nat_int (c : UInt8) (n : Nat) (hn : n < 256) : (((c.toNat : Nat) : Int) == (n : Int)) = decide (c = UInt8.ofNat n) := by
  by_cases h : c = UInt8.ofNat n
  · subst h
    have : (UInt8.ofNat n).toNat = n := by rw [UInt8.toNat_ofNat']; omega
    rw [this, decide_eq_true rfl]
    simp
  · rw [decide_eq_false h, beq_eq_false_iff_ne]
    intro e
    exact h (by have h2 : c.toNat = n := by omega
                rw [← h2]; simp)

set_option maxHeartbeats 2000000 in
set_option maxRecDepth 100000 in
theorem refunquote_any (l : List UInt8) (hl : l.length ≤ 140737488355328) (w : World) :
    Calls Tryd.prog 21 #[.string (S l)] w fun e w' => e = .returned (res3 (unquote l)) ∧ Below w.heap.size w w' := by
  have hz := S_size l
  have hib := isByte_u8
  have hbo := byteOf_u8
  have hcv := conv1
  have hz1 : ∀ a : UInt8, (S [a]).size = 1 := fun _ => rfl
  have fin : Hid (unquote l = none) → Ending.returned (Value.tuple #[.string ⟨#[]⟩, .int .i64 0, .bool false]) = Ending.returned (res3 (unquote l)) := fun h => by rw [h.out]; rfl
  go_enter Tryd.func21, Tryd.ntmps21
  by_cases hb1 : l.length < 2
  · have HB : Hid (unquote l = none) := by
      match l, hb1 with
      | [], _ => rfl
      | [c], _ =>
        show unquote [c] = none
        rw [unquote_cons]
        split
        · exact unq_nil _ _
        · rfl
      | a :: b :: r, h => simp at h; omega
    have hi : (l.length : Int) < 2 := by omega
    go_wp2
    refine bodyPost_ret (results_tmp3' rfl _ _) rfl ⟨?_, Below.refl _ _⟩
    exact fin HB
  · have h0 : 0 < l.length := by omega
    have h0' : 0 < (S l).size := by rw [S_size]; exact h0
    obtain ⟨c, hc⟩ : ∃ c, l[0]'h0 = c := ⟨_, rfl⟩
    have hx : ((S l)[0]'h0').toNat = c.toNat := by rw [S_get l 0 h0 h0', hc]
    have hcons : l = c :: l.drop 1 := by
      have := List.drop_eq_getElem_cons (l := l) (i := 0) h0
      rw [List.drop_zero, hc] at this
      exact this
    have hi : ¬ (l.length : Int) < 2 := by omega
    have hi0 : (0 : Int) < (l.length : Int) := by omega
    by_cases hm : c = 34
    · have hst : Hid (unquote l = unq [] (l.drop 1) 1) := by
        show unquote l = _
        conv => lhs; rw [hcons]
        rw [unquote_cons, if_pos hm]
      have hx34 : ((S l)[0]'h0').toNat = 34 := by rw [hx, hm]; rfl
      clear hcons hc hx hm
      go_wp2
      go_loopw [5, 6] (fun o i wr => ∃ (k : Nat) (t : List UInt8), i = .int .i64 k ∧ 1 ≤ k ∧ k ≤ l.length ∧ o = .string (S t) ∧ t.length ≤ 513 ∧ Hid (unquote l = unq t (l.drop k) k) ∧ Below w.heap.size w wr)
        (fun _ i _ => l.length - (intOf i).toNat)
      case atStart => exact ⟨1, [], rfl, Nat.le_refl _, by omega, rfl, by simp, hst, Below.refl _ _⟩
      case round =>
        clear hst
        obtain ⟨k, t, rfl, hk1, hk, rfl, htl, HU, hB⟩ := hrel
        have hsz := hB.size
        have hzt := S_size t
        by_cases hlt : k < l.length
        · have hlt' : k < (S l).size := by rw [S_size]; exact hlt
          have hdr := List.drop_eq_getElem_cons hlt
          obtain ⟨d, hd⟩ : ∃ d, l[k]'hlt = d := ⟨_, rfl⟩
          rw [hd] at hdr
          have hx : ((S l)[k]'hlt').toNat = d.toNat := by rw [S_get l k hlt hlt', hd]
          have hki : (k : Int) < (l.length : Int) := by omega
          have HUD := HU.out
          rw [hdr] at HUD
          by_cases hd34 : d = 34
          · subst hd34
            have hx34 : ((S l)[k]'hlt').toNat = 34 := hx
            by_cases hlong : 512 < t.length
            · have HB := Lib.hid (HUD.trans (unq_long _ _ hlong))
              have hti : (512 : Int) < (t.length : Int) := by omega
              clear HUD HU hdr hd hx
              go_wp2
              refine bodyPost_ret (results_tmp3' rfl _ _) rfl ⟨?_, hB⟩
              exact fin HB
            · have HG := Lib.hid (HUD.trans (unq_end _ _ hlong))
              have hti : ¬ (512 : Int) < (t.length : Int) := by omega
              clear HUD HU hdr hd hx
              go_wp2
              refine bodyPost_ret (results_tmp3' rfl _ _) rfl ⟨?_, hB⟩
              rw [HG.out]
              rfl
          · have n34 : (((d.toNat : Nat) : Int) == 34) = false := by have := nat_int d 34 (by decide); rw [decide_eq_false (show ¬ d = UInt8.ofNat 34 from hd34)] at this; exact this
            by_cases hd92 : d = 92
            · subst hd92
              have hx92 : ((S l)[k]'hlt').toNat = 92 := hx
              clear n34 hd34 hx hd HU
              by_cases hend : k + 1 < l.length
              · have hend' : k + 1 < (S l).size := by rw [S_size]; exact hend
                have hdr2 := List.drop_eq_getElem_cons hend
                obtain ⟨f, hf⟩ : ∃ f, l[k + 1]'hend = f := ⟨_, rfl⟩
                rw [hf] at hdr2
                have hy : ((S l)[k + 1]'hend').toNat = f.toNat := by rw [S_get l _ hend hend', hf]
                rw [hdr2] at HUD
                have hei : ¬ (l.length : Int) ≤ (k : Int) + 1 := by omega
                have hei2 : (k : Int) + 1 < (l.length : Int) := by omega
                have t1 : ((k : Int) + 1).toNat = k + 1 := by omega
                by_cases hfe : f = 34 ∨ f = 92
                · have hqf : quotable f = true := by rcases hfe with rfl | rfl <;> decide
                  have hqd := refquotable_any f
                  rw [hqf] at hqd
                  have hor : (((f.toNat : Nat) : Int) != 34) = false ∨ ((((f.toNat : Nat) : Int) != 34) = true ∧ (((f.toNat : Nat) : Int) != 92) = false) := by
                    rcases hfe with rfl | rfl
                    · exact .inl rfl
                    · exact .inr ⟨rfl, rfl⟩
                  by_cases hlong : 512 < t.length
                  · have HB := Lib.hid (HUD.trans (unq_esclong _ _ hfe hlong))
                    have hti : (512 : Int) < (t.length : Int) := by omega
                    clear HUD hdr hdr2 hf hfe hqf
                    generalize f.toNat = x at *
                    rcases hor with e1 | ⟨e1, e2⟩
                    all_goals go_wp2_with fail
                    all_goals refine (hqd _).mono ?_
                    all_goals rintro e w' ⟨rfl, rfl⟩
                    all_goals go_wp2_with fail
                    all_goals refine bodyPost_ret (results_tmp3' rfl _ _) rfl ⟨?_, hB⟩
                    all_goals exact fin HB
                  · have HN := Lib.hid (HUD.trans (unq_esc _ _ hfe hlong))
                    have hti : ¬ (512 : Int) < (t.length : Int) := by omega
                    have hap : S t ++ S [f] = S (t ++ [f]) := S_append _ _
                    have hod : UInt8.ofNat f.toNat = f := by simp
                    clear HUD hdr hdr2 hf hfe hqf
                    rcases hor with e1 | ⟨e1, e2⟩
                    all_goals go_wp2_with fail
                    all_goals refine (hqd _).mono ?_
                    all_goals rintro e w' ⟨rfl, rfl⟩
                    all_goals go_wp2_with fail
                    all_goals (go_roundw; (case rel => exact ⟨k + 2, t ++ [f], by go_num, by omega, by omega, rfl, by rw [List.length_append, List.length_singleton]; omega, HN, hB.alloc hsz _⟩); (case measure => simp [intOf]; omega))
                · have HB := Lib.hid (HUD.trans (unq_escbad _ _ hfe))
                  have e1 : (((f.toNat : Nat) : Int) != 34) = true := by have := nat_int f 34 (by decide); rw [decide_eq_false (show ¬ f = UInt8.ofNat 34 from fun h => hfe (.inl h))] at this; rw [bne]; exact congrArg (! ·) this
                  have e2 : (((f.toNat : Nat) : Int) != 92) = true := by have := nat_int f 92 (by decide); rw [decide_eq_false (show ¬ f = UInt8.ofNat 92 from fun h => hfe (.inr h))] at this; rw [bne]; exact congrArg (! ·) this
                  clear HUD hdr hdr2 hf hfe
                  generalize f.toNat = x at *
                  go_wp2_with fail
                  refine bodyPost_ret (results_tmp3' rfl _ _) rfl ⟨?_, hB⟩
                  exact fin HB
              · have hei : (l.length : Int) ≤ (k : Int) + 1 := by omega
                rw [List.drop_eq_nil_of_le (by omega)] at HUD
                have HB := Lib.hid (HUD.trans (unq_escend _ _))
                clear HUD hdr
                go_wp2_with fail
                refine bodyPost_ret (results_tmp3' rfl _ _) rfl ⟨?_, hB⟩
                exact fin HB
            · have n92 : (((d.toNat : Nat) : Int) == 92) = false := by have := nat_int d 92 (by decide); rw [decide_eq_false (show ¬ d = UInt8.ofNat 92 from hd92)] at this; exact this
              have hqd := refquotable_any d
              by_cases hlong : 512 < t.length
              · have HB := Lib.hid (HUD.trans (unq_bad _ _ hd34 hd92 (fun h => h.2 hlong)))
                have hti : (512 : Int) < (t.length : Int) := by omega
                clear HUD HU hdr hd hd34 hd92
                generalize quotable d = q at *
                generalize d.toNat = x at *
                go_wp2_with fail
                refine (hqd _).mono ?_
                rintro e w' ⟨rfl, rfl⟩
                cases q
                all_goals go_wp2_with fail
                all_goals refine bodyPost_ret (results_tmp3' rfl _ _) rfl ⟨?_, hB⟩
                all_goals exact fin HB
              · have hti : ¬ (512 : Int) < (t.length : Int) := by omega
                cases hq : quotable d with
                | false =>
                  have HB := Lib.hid (HUD.trans (unq_bad _ _ hd34 hd92 (fun h => by rw [hq] at h; exact absurd h.1 (by decide))))
                  rw [hq] at hqd
                  clear HUD HU hdr hd hd34 hd92 hq
                  generalize d.toNat = x at *
                  go_wp2_with fail
                  refine (hqd _).mono ?_
                  rintro e w' ⟨rfl, rfl⟩
                  go_wp2_with fail
                  refine bodyPost_ret (results_tmp3' rfl _ _) rfl ⟨?_, hB⟩
                  exact fin HB
                | true =>
                  have HN := Lib.hid (HUD.trans (unq_plain _ _ hd34 hd92 hq hlong))
                  have hap : S t ++ S [d] = S (t ++ [d]) := S_append _ _
                  have hod : UInt8.ofNat d.toNat = d := by simp
                  rw [hq] at hqd
                  clear HUD HU hdr hd hd34 hd92 hq
                  go_wp2_with fail
                  refine (hqd _).mono ?_
                  rintro e w' ⟨rfl, rfl⟩
                  go_wp2_with fail
                  go_roundw
                  case rel => exact ⟨k + 1, t ++ [d], by go_num, by omega, by omega, rfl, by rw [List.length_append, List.length_singleton]; omega, HN, hB.alloc hsz _⟩
                  case measure => simp [intOf]; omega
        · obtain rfl : k = l.length := by omega
          have HB : Hid (unquote l = none) := by
            show unquote l = none
            rw [HU.out, List.drop_eq_nil_of_le (Nat.le_refl _), unq_nil]
          clear HU
          go_wp2_with fail
          refine bodyPost_ret (results_tmp3' rfl _ _) rfl ⟨?_, hB⟩
          exact fin HB
    · have HB : Hid (unquote l = none) := by
        show unquote l = none
        conv => lhs; rw [hcons]
        rw [unquote_cons, if_neg hm]
      have n34 : (((((S l)[0]'h0').toNat : Nat) : Int) == 34) = false := by rw [hx]; have := nat_int c 34 (by decide); rw [decide_eq_false (show ¬ c = UInt8.ofNat 34 from hm)] at this; exact this
      have n34' : (((((S l)[0]'h0').toNat : Nat) : Int) != 34) = true := by rw [bne, n34]; rfl
      clear hcons hc hx hm
      go_wp2
      refine bodyPost_ret (results_tmp3' rfl _ _) rfl ⟨?_, Below.refl _ _⟩
      exact fin HB
end Go.Proofs.YtgmopbgcimekhaaDoor.wo
