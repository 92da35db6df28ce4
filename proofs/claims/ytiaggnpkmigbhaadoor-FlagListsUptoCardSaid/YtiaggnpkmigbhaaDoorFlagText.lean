/-
  What the program's Print and Parse answer.
-/
import Derived.Test.YtiaggnpkmigbhaaDoorFlagProg2
namespace Go.Proofs.YtiaggnpkmigbhaaDoor.fl
open Go.RowKit Go.Shelf

theorem join_lib (c : UInt8) : ∀ (L : List (List UInt8)), Lib.join L [c] = join c L
  | [] => rfl
  | [a] => by simp [Lib.join, join]
  | a :: b :: L => by
    have := join_lib c (b :: L)
    unfold Lib.join at this ⊢
    rw [List.intercalate_cons_cons, this]
    simp [join]

set_option maxRecDepth 100000 in
set_option maxHeartbeats 1000000 in
theorem print_any (u : Value) (l : List (List UInt8)) (hl : l.length ≤ 140737488355328) (hj : (join 32 l).length ≤ 140737488355000) (w : World) (hu : Sl w u l) :
    Calls Tryd.prog 24 #[u] w fun e w' => e = .returned (.string (S (print l))) ∧ Below w.heap.size w w' := by
  obtain ⟨a, c, rfl, hr, hc, _⟩ := hu
  have e1 : (⟨#[40]⟩ : ByteArray) ++ S (join 32 l) = S (40 :: join 32 l) := S_append [40] _
  have e2 : S (40 :: join 32 l) ++ (⟨#[41]⟩ : ByteArray) = S (40 :: join 32 l ++ [41]) := S_append _ [41]
  have z1 := S_size (join 32 l)
  have z2 : (S (40 :: join 32 l)).size = (join 32 l).length + 1 := rfl
  have HP : Hid (print l = 40 :: join 32 l ++ [41]) := rfl
  have hjn : ∃ w', Below w.heap.size w w' ∧ True := ⟨w, Below.refl _ _, trivial⟩
  have hJ : Calls Tryd.prog 42 #[.slice a l.length c, .string ⟨#[32]⟩] w fun e w' => e = .returned (.string (S (join 32 l))) ∧ Below w.heap.size w w' := by
    rcases hr with rfl | ⟨b, off, rfl, hb, hcell⟩
    · refine (Tryd.strings_Join_none a c ⟨#[32]⟩ w).mono ?_
      rintro e w' ⟨rfl, rfl⟩
      exact ⟨rfl, Below.refl _ _⟩
    · have hxs : (l.map S).map (·.data.toList) = l := by
        rw [List.map_map]
        conv => rhs; rw [← List.map_id l]
        exact List.map_congr_left fun x _ => S_data x
      have hL : (l.map S).length = l.length := List.length_map _
      have h := Tryd.strings_Join b off c (l.map S) ⟨#[32]⟩ w (fun j x hx => by
        have hjl : j < l.length := by rw [← hL]; exact (List.getElem?_eq_some_iff.1 hx).1
        rw [hcell j hjl]
        rw [List.getElem?_map, List.getElem?_eq_getElem hjl] at hx
        cases hx; rfl) hb (by omega) (by omega) (by rw [hxs, join_lib]; omega)
      rw [hxs, join_lib, hL] at h
      exact h
  clear hr hc hjn
  generalize join 32 l = j at *
  generalize 40 :: j = j1 at *
  go_enter Tryd.func24, Tryd.ntmps24
  go_wp2_with fail
  refine hJ.mono ?_
  rintro e w1 ⟨rfl, b1⟩
  clear hJ
  go_wp2_with fail
  go_ret
  exact ⟨by rw [HP.out]; rfl, b1⟩

theorem idx_parts (c : UInt8) : ∀ l : List UInt8, (Lib.indexByte l c = -1 ∧ c ∉ l) ∨ ∃ a b, l = a ++ c :: b ∧ c ∉ a ∧ Lib.indexByte l c = (a.length : Int)
  | [] => .inl ⟨rfl, by simp⟩
  | x :: r => by
    by_cases hx : x = c
    · subst hx
      exact .inr ⟨[], r, rfl, by simp, by simp [Lib.indexByte]⟩
    · have hb : (x == c) = false := by rw [beq_eq_false_iff_ne]; exact hx
      rcases idx_parts c r with ⟨h1, h2⟩ | ⟨a, b, h1, h2, h3⟩
      · exact .inl ⟨by simp [Lib.indexByte, hb, h1], by rw [List.mem_cons, not_or]; exact ⟨fun e => hx e.symm, h2⟩⟩
      · exact .inr ⟨x :: a, b, by rw [h1]; rfl, by rw [List.mem_cons, not_or]; exact ⟨fun e => hx e.symm, h2⟩, by simp [Lib.indexByte, hb, h3]⟩

/-- What strings.Cut answers at one byte. -/
def CutPost (c : UInt8) (l : List UInt8) (w : World) (e : Ending) (w' : World) : Prop :=
  ((c ∉ l ∧ e = .returned (.tuple #[.string (S l), .string ⟨#[]⟩, .bool false])) ∨
    ∃ a b, l = a ++ c :: b ∧ c ∉ a ∧ e = .returned (.tuple #[.string (S a), .string (S b), .bool true])) ∧ Below w.heap.size w w'
set_option maxHeartbeats 1000000 in
set_option maxRecDepth 100000 in
theorem scut_any (c : UInt8) (l : List UInt8) (hl : l.length ≤ 140737488355328) (w : World) :
    Calls Tryd.prog 54 #[.string (S l), .string ⟨#[c]⟩] w (CutPost c l w) := by
  have hi := Tryd.stringslite_Index_one (S l) c
  have hz := S_size l
  rw [S_data] at hi
  rcases idx_parts c l with ⟨h1, h3⟩ | ⟨a, b, h1, h2, h3⟩
  · have HM := Lib.hid h3
    rw [h1] at hi
    clear h1 h3
    go_enter Tryd.func54, Tryd.ntmps54
    go_wp2_with fail
    refine (hi _).mono ?_
    rintro e w1 ⟨rfl, rfl⟩
    go_wp2_with fail
    exact bodyPost_ret (results_tmp3 rfl _ _ _) rfl ⟨.inl ⟨HM.out, rfl⟩, Below.refl _ _⟩
  · have hll : l.length = a.length + 1 + b.length := by rw [h1]; simp; omega
    have e1 := S_take l a.length
    have e2 := S_drop l (a.length + 1)
    have t1 : l.take a.length = a := by rw [h1]; simp
    have t2 : l.drop (a.length + 1) = b := by rw [h1, show a ++ c :: b = (a ++ [c]) ++ b by simp, List.drop_left' (by simp)]
    rw [t1] at e1
    rw [t2] at e2
    have HM := Lib.hid (And.intro h1 h2)
    rw [h3] at hi
    have g0 : (0 : Int) ≤ (a.length : Int) := by omega
    have g1 : (a.length : Int) ≤ (l.length : Int) := by omega
    have g2 : (0 : Int) ≤ (a.length : Int) + 1 := by omega
    have g3 : (a.length : Int) + 1 ≤ (l.length : Int) := by omega
    clear h1 h2 h3 t1 t2 hll
    go_enter Tryd.func54, Tryd.ntmps54
    go_wp2_with fail
    refine (hi _).mono ?_
    rintro e w1 ⟨rfl, rfl⟩
    go_wp2_with fail
    go_quiet (fail)
    go_wp2_with fail
    exact bodyPost_ret (results_tmp3 rfl _ _ _) rfl ⟨.inr ⟨a, b, HM.out.1, HM.out.2, rfl⟩, below_drewN (Below.refl _ _) _⟩

set_option maxRecDepth 100000 in
theorem cut_any (c : UInt8) (l : List UInt8) (hl : l.length ≤ 140737488355328) (w : World) :
    Calls Tryd.prog 40 #[.string (S l), .string ⟨#[c]⟩] w (CutPost c l w) := by
  have h := scut_any c l hl w
  go_enter Tryd.func40, Tryd.ntmps40
  go_wp2_with fail
  refine h.mono ?_
  rintro e w1 ⟨⟨h1, rfl⟩ | ⟨a, b, h1, h2, rfl⟩, hb⟩
  · have HM := Lib.hid h1
    clear h h1
    go_wp2_with fail
    exact bodyPost_ret (results_tmp3 rfl _ _ _) rfl ⟨.inl ⟨HM.out, rfl⟩, hb⟩
  · have HM := Lib.hid (And.intro h1 h2)
    clear h h1 h2
    go_wp2_with fail
    exact bodyPost_ret (results_tmp3 rfl _ _ _) rfl ⟨.inr ⟨a, b, HM.out.1, HM.out.2, rfl⟩, hb⟩

theorem prefix_one (c : UInt8) (l : List UInt8) : (∃ r, l = c :: r ∧ Lib.trimPrefix l [c] = r ∧ Lib.hasPrefix l [c] = true) ∨ ((∀ r, l ≠ c :: r) ∧ Lib.trimPrefix l [c] = l ∧ Lib.hasPrefix l [c] = false) := by
  cases l with
  | nil => exact .inr ⟨fun r h => (by cases h), rfl, rfl⟩
  | cons x r =>
    by_cases h : x = c
    · subst h
      exact .inl ⟨r, rfl, by simp [Lib.trimPrefix, Lib.hasPrefix], by simp [Lib.hasPrefix]⟩
    · have hp : Lib.hasPrefix (x :: r) [c] = false := by
        cases hb : Lib.hasPrefix (x :: r) [c] with
        | false => rfl
        | true =>
          simp [Lib.hasPrefix] at hb
          exact absurd hb.symm h
      exact .inr ⟨fun r' e => by cases e; exact h rfl, by unfold Lib.trimPrefix; rw [hp]; rfl, hp⟩
theorem parse_no {s : List UInt8} (h : ∀ r, s ≠ 40 :: r) : parse s = ([], 0, 4) := by
  cases s with
  | nil => rfl
  | cons c r => exact parse_bad (fun hc => h r (by rw [hc.1]))
theorem make_nil : make [] = ([], 0) := rfl
theorem inside_len {r a b : List UInt8} (h : r = a ++ 41 :: b) : a.length + 1 ≤ r.length := by rw [h, List.length_append, List.length_cons]; omega

set_option maxHeartbeats 2000000 in
set_option maxRecDepth 100000 in
theorem parse_any (l : List UInt8) (hl : l.length ≤ 140737488355328) (w : World) (hS : Sys w) :
    Calls Tryd.prog 22 #[.string (S l)] w fun e w' => (∃ v, e = .returned (.tuple #[v, .int .i64 ((parse l).2.1 : Nat), .int .i64 ((parse l).2.2 : Nat)]) ∧ Sl w' v (parse l).1) ∧ Below w.heap.size w w' := by
  have hz := S_size l
  have hp := Tryd.strings_CutPrefix (S l) ⟨#[40]⟩ w
  rw [S_data] at hp
  change Calls Tryd.prog _ _ _ (fun e w' => e = .returned (.tuple #[.string (S (Lib.trimPrefix l [40])), .bool (Lib.hasPrefix l [40])]) ∧ w' = w) at hp
  have HS := Lib.hid hS
  clear hS
  rcases prefix_one 40 l with ⟨r, h1, h2, h3⟩ | ⟨h1, h2, h3⟩
  · rw [h2, h3] at hp
    have hrl : r.length ≤ 140737488355328 := by rw [h1] at hl; simp at hl; omega
    have hc := cut_any 41 r hrl w
    have H1 := Lib.hid h1
    clear h1 h2 h3
    go_enter Tryd.func22, Tryd.ntmps22
    go_wp2_with fail
    refine hp.mono ?_
    rintro e w1 ⟨rfl, rfl⟩
    go_wp2_with fail
    refine hc.mono ?_
    rintro e w2 ⟨⟨hn, rfl⟩ | ⟨a, b, hab, hna, rfl⟩, b2⟩
    · have HP : Hid (parse l = ([], 0, 4)) := Lib.hid (by rw [H1.out]; exact parse_bad (fun h => hn h.2))
      clear hn hp hc
      go_wp2_with fail
      refine bodyPost_ret (results_tmp3 rfl _ _ _) rfl ?_
      rw [HP.out]
      exact ⟨⟨_, rfl, none, 0, rfl, .inl rfl, by simp, fun _ => rfl⟩, b2⟩
    · have hin : inside r = a := by rw [hab]; exact inside_app hna
      have h41 : (41 : UInt8) ∈ r := by rw [hab]; simp
      have hal := inside_len hab
      have hza := S_size a
      have hS2 := HS.out.next b2
      clear hp hc
      by_cases ha : a = []
      · subst ha
        have HP : Hid (parse l = ([], 2, 0)) := Lib.hid (by rw [H1.out, parse_good h41, hin]; rfl)
        have hemp : (S ([] : List UInt8)).toList.isEmpty = true := by rw [S_toList]; rfl
        clear hab hna hin h41 hal
        go_wp2_with fail
        refine bodyPost_ret (results_tmp3 rfl _ _ _) rfl ?_
        rw [HP.out]
        exact ⟨⟨_, rfl, none, 0, rfl, .inl rfl, by simp, fun _ => rfl⟩, b2⟩
      · have hemp : (S a).toList.isEmpty = false := by rw [S_toList]; cases a with
          | nil => exact absurd rfl ha
          | cons _ _ => rfl
        have hnm : names a = split 32 a := by unfold names; rw [if_neg ha]
        have HPD : Hid (parse l = if (make (split 32 a)).2 = 0 then ((make (split 32 a)).1, a.length + 2, 0) else ([], 0, (make (split 32 a)).2)) := Lib.hid (by rw [H1.out, parse_good h41, hin, hnm])
        have hsq := splitSeq_any (S a) ⟨#[32]⟩ w2
        have hb3 : Below w2.heap.size w2 (((w2.alloc (.cells #[.string (S a)] 9)).alloc (.cells #[.string ⟨#[32]⟩] 9)).alloc (.cells #[.int .i64 0] 3)) := (((Below.refl _ w2).alloc (Nat.le_refl _) _).alloc (by simp) _).alloc (by simp; omega) _
        have bS : Boxed (((w2.alloc (.cells #[.string (S a)] 9)).alloc (.cells #[.string ⟨#[32]⟩] 9)).alloc (.cells #[.int .i64 0] 3)) w2.heap.size 9 (.string (S a)) := ((Boxed.new w2 _ _).alloc _).alloc _
        have c1 : (((w2.alloc (.cells #[.string (S a)] 9)).alloc (.cells #[.string ⟨#[32]⟩] 9)).alloc (.cells #[.int .i64 0] 3)).cell? ⟨w2.heap.size + 1, 0, none⟩ = some (.string ⟨#[32]⟩) := by
          rw [World.cell?_alloc_past _ _ _ (by simp), World.cell?_alloc_at _ _ _ _ (by simp)]; rfl
        have c2 : (((w2.alloc (.cells #[.string (S a)] 9)).alloc (.cells #[.string ⟨#[32]⟩] 9)).alloc (.cells #[.int .i64 0] 3)).cell? ⟨w2.heap.size + 2, 0, none⟩ = some (.int .i64 0) := by
          rw [World.cell?_alloc_at _ _ _ _ (by simp)]; rfl
        have hs3 : (((w2.alloc (.cells #[.string (S a)] 9)).alloc (.cells #[.string ⟨#[32]⟩] 9)).alloc (.cells #[.int .i64 0] 3)).heap.size = w2.heap.size + 3 := by simp
        have hsh : Short (split 32 a) := fun x hx => by have := split_part hx; omega
        generalize (((w2.alloc (.cells #[.string (S a)] 9)).alloc (.cells #[.string ⟨#[32]⟩] 9)).alloc (.cells #[.int .i64 0] 3)) = w3 at *
        have hseq := splitSeq_seq 4 (by omega) w2.heap.size w3.heap.size a (by omega) w3 (by omega) (Nat.le_refl _) bS c1 c2
        have hg := (callsIn_wide (n := 5)).1 (gather_in 69 _ w2.heap.size w2.heap.size (split 32 a) hsh w3 (hS2.next hb3) (enters_of Tryd.func69 (by kernel_rfl) rfl) hseq hS2.lt (Nat.le_refl _) (by omega))
        have HB3 := Lib.hid hb3
        have hw1 : wrap64 (1 + (a.length : Int)) = 1 + (a.length : Int) := by unfold wrap64; omega
        clear hab hna hin h41 hseq bS c1 c2 hs3 hsh hb3 hnm
        generalize split 32 a = names at *
        cases hmk : make names with
        | mk m k =>
          rw [hmk] at hg HPD
          by_cases hk : k = 0
          · subst hk
            have HP : Hid (parse l = (m, a.length + 2, 0)) := Lib.hid (by rw [HPD.out]; rfl)
            clear HPD hmk
            go_wp2_with fail
            refine hsq.mono ?_
            rintro e w4 ⟨rfl, rfl⟩
            go_wp2_with fail
            refine hg.mono ?_
            rintro e w5 ⟨⟨v5, rfl, ho⟩, b5⟩
            obtain ⟨a5, c5, rfl, h5⟩ := sl_own ho
            have HH := Lib.hid (And.intro h5 (b2.trans ((HB3.out.trans (b5.mono (by have := HB3.out.size; omega))).mono b2.size)))
            clear hg ho h5 b5 hsq
            go_wp2_with fail
            refine bodyPost_ret (results_tmp3 rfl _ _ _) rfl ?_
            rw [HP.out]
            exact ⟨⟨_, by dsimp only; rw [show ((a.length + 2 : Nat) : Int) = 1 + (a.length : Int) + 1 by omega]; rfl, a5, c5, rfl, HH.out.1⟩, HH.out.2⟩
          · have HP : Hid (parse l = ([], 0, k)) := Lib.hid (by rw [HPD.out]; exact if_neg hk)
            have hkq : ((k : Int) != 0) = true := by simp; omega
            clear HPD hmk
            go_wp2_with fail
            refine hsq.mono ?_
            rintro e w4 ⟨rfl, rfl⟩
            go_wp2_with fail
            refine hg.mono ?_
            rintro e w5 ⟨⟨v5, rfl, ho⟩, b5⟩
            obtain ⟨a5, c5, rfl, h5⟩ := sl_own ho
            have HH := Lib.hid (b2.trans ((HB3.out.trans (b5.mono (by have := HB3.out.size; omega))).mono b2.size))
            clear hg ho h5 b5 hsq
            go_wp2_with fail
            refine bodyPost_ret (results_tmp3 rfl _ _ _) rfl ?_
            rw [HP.out]
            exact ⟨⟨_, rfl, none, 0, rfl, .inl rfl, by simp, fun _ => rfl⟩, HH.out⟩
  · rw [h2, h3] at hp
    have hc := cut_any 41 l hl w
    have HP := Lib.hid (parse_no h1)
    clear h1 h2 h3
    go_enter Tryd.func22, Tryd.ntmps22
    go_wp2_with fail
    refine hp.mono ?_
    rintro e w1 ⟨rfl, rfl⟩
    go_wp2_with fail
    refine hc.mono ?_
    rintro e w2 ⟨⟨hn, rfl⟩ | ⟨a, b, hab, hna, rfl⟩, b2⟩
    · clear hn hp hc
      go_wp2_with fail
      refine bodyPost_ret (results_tmp3 rfl _ _ _) rfl ?_
      rw [HP.out]
      exact ⟨⟨_, rfl, none, 0, rfl, .inl rfl, by simp, fun _ => rfl⟩, b2⟩
    · clear hab hna hp hc
      go_wp2_with fail
      refine bodyPost_ret (results_tmp3 rfl _ _ _) rfl ?_
      rw [HP.out]
      exact ⟨⟨_, rfl, none, 0, rfl, .inl rfl, by simp, fun _ => rfl⟩, b2⟩
end Go.Proofs.YtiaggnpkmigbhaaDoor.fl
