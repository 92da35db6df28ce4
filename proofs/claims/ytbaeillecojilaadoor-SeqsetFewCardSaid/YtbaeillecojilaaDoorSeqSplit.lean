/-
  What the reference's split answers: the pieces of a text.
-/
import Derived.Test.YtbaeillecojilaaDoorSeqPick
namespace Go.Proofs.YtbaeillecojilaaDoor.sq
open Go.RowKit

def splitA (c : UInt8) (cur : List UInt8) : List UInt8 → List (List UInt8)
  | [] => [cur]
  | x :: r => if x = c then cur :: splitA c [] r else splitA c (cur ++ [x]) r
/-- A text at each place of a byte. -/
def split (c : UInt8) (l : List UInt8) : List (List UInt8) := splitA c [] l
theorem splitA_cons (c : UInt8) (cur : List UInt8) (x : UInt8) (r : List UInt8) : splitA c cur (x :: r) = if x = c then cur :: splitA c [] r else splitA c (cur ++ [x]) r := by rw [splitA]
theorem splitA_pos (c : UInt8) : ∀ (l cur : List UInt8), 0 < (splitA c cur l).length
  | [], cur => by simp [splitA]
  | x :: r, cur => by
    rw [splitA_cons]
    split
    · simp
    · exact splitA_pos c r _
theorem split_pos (c : UInt8) (l : List UInt8) : 0 < (split c l).length := splitA_pos c l []
theorem splitA_length (c : UInt8) : ∀ (l cur : List UInt8), (splitA c cur l).length ≤ l.length + 1
  | [], cur => by simp [splitA]
  | x :: r, cur => by
    rw [splitA_cons, List.length_cons]
    split
    · rw [List.length_cons]
      have := splitA_length c r []
      omega
    · have := splitA_length c r (cur ++ [x])
      omega
theorem split_length (c : UInt8) (l : List UInt8) : (split c l).length ≤ l.length + 1 := splitA_length c l []
theorem splitA_part (c : UInt8) : ∀ (l cur : List UInt8) (n : Nat), cur.length + l.length ≤ n → ∀ p ∈ splitA c cur l, p.length ≤ n
  | [], cur, n, h, p, hp => by
    simp only [splitA, List.mem_singleton] at hp
    subst hp
    simp at h; exact h
  | x :: r, cur, n, h, p, hp => by
    rw [splitA_cons] at hp
    rw [List.length_cons] at h
    split at hp
    · rcases List.mem_cons.1 hp with rfl | hp
      · omega
      · exact splitA_part c r [] n (by simp; omega) p hp
    · exact splitA_part c r (cur ++ [x]) n (by rw [List.length_append, List.length_singleton]; omega) p hp
theorem split_part {c : UInt8} {l p : List UInt8} (h : p ∈ split c l) : p.length ≤ l.length := splitA_part c l [] l.length (by simp) p h

/-- A row of texts, or none. -/
def RowS (w : World) (a : Option Addr) (l : List (List UInt8)) : Prop :=
  l = [] ∨ ∃ b off, a = some ⟨b, off, none⟩ ∧ b < w.heap.size ∧ ∀ j (h : j < l.length), w.cell? ⟨b, off + j, none⟩ = some (.string (S l[j]))
theorem RowS.later {w w' : World} {a : Option Addr} {l : List (List UInt8)} (h : RowS w a l) (k : Below w.heap.size w w') : RowS w' a l := by
  rcases h with h | ⟨b, off, e, hb, hc⟩
  · exact .inl h
  · exact .inr ⟨b, off, e, Nat.lt_of_lt_of_le hb k.size, fun j hj => (k.cell (p := ⟨b, off + j, none⟩) hb).trans (hc j hj)⟩
theorem infoS : (Tryd.prog.info? 9).map (fun i => (i.zero, i.size, i.bytes)) = some (some (.string ⟨#[]⟩), 1, 16) := by kernel_rfl
def cellsS (l : List (List UInt8)) : List Value := l.map fun x => Value.string (S x)
theorem cellsS_snoc (l : List (List UInt8)) (x : List UInt8) : cellsS (l ++ [x]) = cellsS l ++ [.string (S x)] := by simp [cellsS]
theorem rowS_of_own {w : World} {base n : Nat} {v : Value} {l : List (List UInt8)} (hn : n = l.length) (h : w.ownsRow base 9 1 v n (cellsS l)) :
    ∃ a' cap', v = .slice a' l.length cap' ∧ RowS w a' l := by
  subst hn
  rcases h.2 with ⟨rfl, h0⟩ | ⟨g, cap, cur, rfl, hg, hh, hn, hcap, hsz, htake⟩
  · have : l = [] := List.length_eq_zero_iff.1 h0
    subst this
    exact ⟨none, 0, rfl, Or.inl rfl⟩
  · refine ⟨_, _, rfl, Or.inr ⟨g, 0, rfl, (Array.getElem?_eq_some_iff.1 hh).1, fun j hj => ?_⟩⟩
    rw [Nat.zero_add, h.cellAt j (by omega)]
    simp [cellsS, List.getElem?_eq_getElem hj]

theorem S_mid (l : List UInt8) (a b : Nat) : (S l).extract a b = S ((l.drop a).take (b - a)) := by
  apply ByteArray.ext
  apply Array.toList_inj.1
  rw [Lib.extract_data, S_data, S_data]
/-- The text between two places, one byte more. -/
theorem mid_snoc (l : List UInt8) (f i : Nat) (h : f ≤ i) (hi : i < l.length) : (l.drop f).take (i + 1 - f) = (l.drop f).take (i - f) ++ [l[i]] := by
  rw [show i + 1 - f = (i - f) + 1 by omega, List.take_succ_eq_append_getElem (by rw [List.length_drop]; omega)]
  congr 2
  rw [List.getElem_drop]
  congr 1
  omega

set_option maxHeartbeats 2000000 in
set_option maxRecDepth 100000 in
theorem refsplit_any (l : List UInt8) (c : UInt8) (hl : l.length ≤ 8796093022000) (w : World) :
    Calls Tryd.prog 26 #[.string (S l), .int .u8 (c.toNat : Nat)] w fun e w' => (∃ a2 c2, e = .returned (.slice a2 (split c l).length c2) ∧ RowS w' a2 (split c l)) ∧ Below w.heap.size w w' := by
  obtain ⟨i0, hi, hz0, hz1, hz2⟩ := info_parts infoS
  have hz := S_size l
  go_enter Tryd.func26, Tryd.ntmps26
  go_wp2
  go_loopw [5, 6, 7] (fun v fr i wr => ∃ (k f : Nat) (out : List (List UInt8)), i = .int .i64 k ∧ fr = .int .i64 f ∧ f ≤ k ∧ k ≤ l.length ∧ out.length ≤ k ∧ Hid (split c l = out ++ splitA c ((l.drop f).take (k - f)) (l.drop k)) ∧ Hid (wr.ownsRow w.heap.size 9 1 v out.length (cellsS out)) ∧ Below w.heap.size w wr)
    (fun _ _ i _ => l.length - (intOf i).toNat)
  case atStart => exact ⟨0, 0, [], rfl, rfl, Nat.le_refl _, Nat.zero_le _, Nat.le_refl _, Lib.hid rfl, Lib.hid (World.ownsRow_nil _ _ _ _), Below.refl _ _⟩
  case round =>
    obtain ⟨k, f, out, rfl, rfl, hfk, hk, hol, HS, HO, hB⟩ := hrel
    have hs2 := hB.size
    by_cases hlt : k < l.length
    · have hlt' : k < (S l).size := by rw [S_size]; exact hlt
      have hki : (k : Int) < (l.length : Int) := by omega
      have hdr := List.drop_eq_getElem_cons hlt
      have hmid := mid_snoc l f k hfk hlt
      obtain ⟨d, hd⟩ : ∃ d, l[k]'hlt = d := ⟨_, rfl⟩
      rw [hd] at hdr hmid
      have hx : ((S l)[k]'hlt').toNat = d.toNat := by rw [S_get l k hlt hlt', hd]
      have hst := HS.out
      rw [hdr, splitA_cons] at hst
      by_cases he : d = c
      · rw [if_pos he] at hst
        have HN : Hid (split c l = (out ++ [(l.drop f).take (k - f)]) ++ splitA c ((l.drop (k + 1)).take (k + 1 - (k + 1))) (l.drop (k + 1))) := by
          show _ = _
          rw [hst, Nat.sub_self]; simp
        have hq : ((d.toNat : Int) == (c.toNat : Int)) = true := by rw [he]; simp
        have hsl := fun W => run_slice_string (P := Tryd.prog) W 9 (S l) .i64 .i64 (f : Int) (k : Int) Tryd.underlying9 (by omega) (by omega) (by rw [hz]; omega)
        have t1 : (f : Int).toNat = f := by omega
        have t2 : (k : Int).toNat = k := by omega
        simp only [t1, t2, S_mid] at hsl
        obtain ⟨p, hp⟩ : ∃ p, p = (l.drop f).take (k - f) := ⟨_, rfl⟩
        rw [← hp] at hsl HN
        clear hst hdr hmid hd HS he t1 t2 hp
        go_wp2_with (at_builtin; refine wpList_append_own _ rfl _ _ 44 rfl w.heap.size 9 i0 (.string ⟨#[]⟩) 1 16 Tryd.underlying44 hi hz0 hz1 hz2 rfl (by decide) _ _ _ rfl (HO.out.alloc _) ⟨wr.heap.size, 0, none⟩ 1 1 [.string (S p)] rfl rfl ?c1 ?c2 ?c3 ?c4 ?c5 ?_)
        case c1 =>
          intro j u hj
          match j, hj with
          | 0, hj => simp at hj; subst hj; simp [Addr.add]
        case c2 => intro u hu; simp at hu; subst hu; rfl
        case c3 => unfold maxLen; omega
        case c4 => omega
        case c5 => simp; omega
        intro v3 w3 hown' hgrow hnil
        have hB3 : Below w.heap.size w w3 := (hB.alloc hs2 _).grown hgrow (by simp; omega) (fun k hk => (HO.out.lt k hk).1)
        have HO3 : Hid (w3.ownsRow w.heap.size 9 1 v3 (out ++ [p]).length (cellsS (out ++ [p]))) := by
          refine Lib.hid ?_
          rw [cellsS_snoc, List.length_append, List.length_singleton]
          exact hown'
        clear hown' hgrow hnil HO hB hs2 hsl
        go_wp2_with fail
        go_roundw
        case rel => exact ⟨k + 1, k + 1, out ++ [p], by go_num, by go_num, Nat.le_refl _, by omega, by rw [List.length_append, List.length_singleton]; omega, HN, HO3, hB3⟩
        case measure => simp [intOf]; omega
      · rw [if_neg he, ← hmid] at hst
        have HN := Lib.hid hst
        have hq : ((d.toNat : Int) == (c.toNat : Int)) = false := by rw [beq_eq_false_iff_ne]; intro e; exact he (UInt8.toNat_inj.1 (by omega))
        clear hst hdr hmid hd HS he
        go_wp2_with fail
        go_roundw
        case rel => exact ⟨k + 1, f, out, by go_num, rfl, by omega, by omega, by omega, HN, HO, hB⟩
        case measure => simp [intOf]; omega
    · obtain rfl : k = l.length := by omega
      have hst := HS.out
      rw [List.drop_eq_nil_of_le (Nat.le_refl _), splitA] at hst
      have hsl := fun W => run_slice_string_l (P := Tryd.prog) (w := W) (t := 9) (s := S l) Tryd.underlying9 .i64 (f : Int) (by omega) (by rw [hz]; omega)
      have t1 : (f : Int).toNat = f := by omega
      have t2 : (S l).size = l.length := rfl
      simp only [t1, t2, S_mid] at hsl
      obtain ⟨p, hp⟩ : ∃ p, p = (l.drop f).take (l.length - f) := ⟨_, rfl⟩
      rw [← hp] at hsl hst
      have HN := Lib.hid hst
      clear hst HS t1 t2 hp
      go_wp2_with (at_builtin; refine wpList_append_own _ rfl _ _ 44 rfl w.heap.size 9 i0 (.string ⟨#[]⟩) 1 16 Tryd.underlying44 hi hz0 hz1 hz2 rfl (by decide) _ _ _ rfl (HO.out.alloc _) ⟨wr.heap.size, 0, none⟩ 1 1 [.string (S p)] rfl rfl ?d1 ?d2 ?d3 ?d4 ?d5 ?_)
      case d1 =>
        intro j u hj
        match j, hj with
        | 0, hj => simp at hj; subst hj; simp [Addr.add]
      case d2 => intro u hu; simp at hu; subst hu; rfl
      case d3 => unfold maxLen; omega
      case d4 => omega
      case d5 => simp; omega
      intro v3 w3 hown' hgrow hnil
      have hB3 : Below w.heap.size w w3 := (hB.alloc hs2 _).grown hgrow (by simp; omega) (fun k hk => (HO.out.lt k hk).1)
      have hown3 : w3.ownsRow w.heap.size 9 1 v3 (out ++ [p]).length (cellsS (out ++ [p])) := by
        rw [cellsS_snoc, List.length_append, List.length_singleton]
        exact hown'
      obtain ⟨a2, c2, hv, hrow⟩ := rowS_of_own rfl hown3
      rw [← HN.out] at hv hrow
      subst hv
      have HROW := Lib.hid hrow
      clear hown' hgrow hnil HO hB hs2 hsl hown3 hrow
      go_wp2_with fail
      go_ret
      exact ⟨⟨a2, c2, rfl, HROW.out⟩, hB3⟩
end Go.Proofs.YtbaeillecojilaaDoor.sq
