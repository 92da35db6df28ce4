/-
  What the program's headerSize, Split, Section, Cut answer.
-/
import Derived.Test.YtekbjapclajflaaDoorPtBase
namespace Go.Proofs.YtekbjapclajflaaDoor.pt
open Go.RowKit Go.Shelf fl
attribute [local go_sem] Oper.semAt_some

def crlf : List UInt8 := [13, 10]
def crlf2 : List UInt8 := [13, 10, 13, 10]
/-- How many bytes of a message its header has. -/
def hsize (m : List UInt8) : Nat := if Lib.hasPrefix m crlf then 2 else if 0 ≤ Lib.index m crlf2 then (Lib.index m crlf2).toNat + 4 else m.length
theorem hsize_le (m : List UInt8) : hsize m ≤ m.length := by
  unfold hsize
  split
  · next h =>
    have := List.IsPrefix.length_le (List.isPrefixOf_iff_prefix.1 h)
    exact this
  · split
    · next h =>
      have := Lib.index_room m crlf2 h
      have h4 : crlf2.length = 4 := rfl
      omega
    · exact Nat.le_refl _
/-- The header; the text. -/
def head (m : List UInt8) : List UInt8 := m.take (hsize m)
def text (m : List UInt8) : List UInt8 := m.drop (hsize m)
theorem head_text (m : List UInt8) : head m ++ text m = m := List.take_append_drop _ _

set_option maxRecDepth 100000 in
theorem hsize_any (m : List UInt8) (hm : m.length < 4294967281) (M : Int) (w : World) (hM : w.cell? ⟨0, 0, none⟩ = some (.int .i64 M)) :
    Calls Tryd.prog 29 #[.string (S m)] w fun e w' => e = .returned (.int .i64 (hsize m : Nat)) ∧ Below w.heap.size w w' := by
  have hz := S_size m
  have hp := Tryd.strings_HasPrefix (S m) ⟨#[13, 10]⟩ w
  have hc := Tryd.strings_Cut (S m) ⟨#[13, 10, 13, 10]⟩ M w (by rw [S_size]; exact hm) hM
  rw [S_data] at hp hc
  rw [show (⟨#[13, 10]⟩ : ByteArray).data.toList = crlf from rfl] at hp
  rw [show (⟨#[13, 10, 13, 10]⟩ : ByteArray).data.toList = crlf2 from rfl] at hc
  cases hb : Lib.hasPrefix m crlf with
  | true =>
    rw [hb] at hp
    have hh : hsize m = 2 := by unfold hsize; rw [hb]; rfl
    have HH := Lib.hid hh
    clear hh hc hb
    go_enter Tryd.func29, Tryd.ntmps29
    go_wp2_with fail
    refine hp.mono ?_
    rintro e w1 ⟨rfl, rfl⟩
    go_wp2_with fail
    go_ret
    exact ⟨by rw [HH.out]; rfl, Below.refl _ _⟩
  | false =>
    rw [hb] at hp
    by_cases hi : 0 ≤ Lib.index m crlf2
    · have hh : hsize m = (Lib.index m crlf2).toNat + 4 := by unfold hsize; rw [hb, if_neg (by decide), if_pos hi]
      have hr := Lib.index_room m crlf2 hi
      have h4 : crlf2.length = 4 := rfl
      have hib : (Lib.index m crlf2).toNat + 4 ≤ m.length := by omega
      unfold Lib.cut at hc
      rw [if_pos hi] at hc
      dsimp only at hc
      have hl : (m.take (Lib.index m crlf2).toNat).length = (Lib.index m crlf2).toNat := by rw [List.length_take]; omega
      generalize (Lib.index m crlf2).toNat = i at *
      have hzi : (⟨(m.take i).toArray⟩ : ByteArray).size = i := by
        show (m.take i).toArray.size = i
        simpa using hl
      have HH := Lib.hid hh
      clear hh hb hl
      generalize (⟨(m.take i).toArray⟩ : ByteArray) = a at *
      have hi4 : IntKind.i64.wrap ((i : Int) + 4) = (i : Int) + 4 := by
        have : i < 4294967281 := by omega
        clear hr hi h4 hc hp hzi
        exact IntWalk.i64_in _ (by omega)
      clear hr hi h4 hib
      go_enter Tryd.func29, Tryd.ntmps29
      go_wp2_with fail
      refine hp.mono ?_
      rintro e w1 ⟨rfl, rfl⟩
      go_wp2_with fail
      refine hc.mono ?_
      rintro e w1 ⟨rfl, q, rfl⟩
      go_wp2_with fail
      go_ret
      exact ⟨by rw [HH.out]; simp, below_drewN (Below.refl _ _) _⟩
    · have hh : hsize m = m.length := by unfold hsize; rw [hb, if_neg (by decide), if_neg hi]
      unfold Lib.cut at hc
      rw [if_neg hi] at hc
      dsimp only at hc
      have HH := Lib.hid hh
      clear hh hb hi
      go_enter Tryd.func29, Tryd.ntmps29
      go_wp2_with fail
      refine hp.mono ?_
      rintro e w1 ⟨rfl, rfl⟩
      go_wp2_with fail
      refine hc.mono ?_
      rintro e w1 ⟨rfl, q, rfl⟩
      go_wp2_with fail
      go_ret
      exact ⟨by rw [HH.out]; rfl, below_drewN (Below.refl _ _) _⟩

/-- A part of a message by its kind. -/
def sect (m : List UInt8) (k : Int) : List UInt8 := if k = 10 then m else if k = 11 then head m else if k = 12 then text m else []

set_option maxRecDepth 100000 in
theorem sect_any (m : List UInt8) (hm : m.length < 4294967281) (k : Int) (M : Int) (w : World) (hM : w.cell? ⟨0, 0, none⟩ = some (.int .i64 M)) :
    Calls Tryd.prog 23 #[.string (S m), .int .i64 k] w fun e w' => e = .returned (.string (S (sect m k))) ∧ Below w.heap.size w w' := by
  have hz := S_size m
  have h := hsize_any m hm M w hM
  have hle := hsize_le m
  have e1 := S_take m (hsize m)
  have e2 := S_drop m (hsize m)
  have c0 := fun W => pk.clone_any (S m) W (by rw [S_size]; omega)
  have c1 := fun W => pk.clone_any (S (head m)) W (by rw [S_size]; unfold head; rw [List.length_take]; omega)
  have c2 := fun W => pk.clone_any (S (text m)) W (by rw [S_size]; unfold text; rw [List.length_drop]; omega)
  change (S m).extract 0 (hsize m) = S (head m) at e1
  change (S m).extract (hsize m) m.length = S (text m) at e2
  have HS : Hid ((k = 10 → sect m k = m) ∧ (k = 11 → sect m k = head m) ∧ (k = 12 → sect m k = text m) ∧ (k ≠ 10 → k ≠ 11 → k ≠ 12 → sect m k = [])) := Lib.hid ⟨fun h => by simp [sect, h], fun h => by simp [sect, h], fun h => by simp [sect, h], fun h1 h2 h3 => by simp [sect, h1, h2, h3]⟩
  generalize head m = a at *
  generalize text m = b at *
  generalize hsize m = n at *
  have g1 : (0 : Int) ≤ (n : Int) := by omega
  have g2 : (n : Int) ≤ (m.length : Int) := by omega
  clear hle
  by_cases k1 : k = 10
  · have HK := Lib.hid (HS.out.1 k1)
    subst k1
    clear HS
    go_enter Tryd.func23, Tryd.ntmps23
    go_wp2_with fail
    refine h.mono ?_
    rintro e w1 ⟨rfl, b1⟩
    clear h
    go_wp2_with fail
    refine (c0 _).mono ?_
    rintro e w2 ⟨rfl, b2⟩
    go_wp2_with fail
    go_ret
    exact ⟨by rw [HK.out]; rfl, Below.andThen b1 b2⟩
  by_cases k2 : k = 11
  · have HK := Lib.hid (HS.out.2.1 k2)
    subst k2
    clear HS
    go_enter Tryd.func23, Tryd.ntmps23
    go_wp2_with fail
    refine h.mono ?_
    rintro e w1 ⟨rfl, b1⟩
    clear h
    go_wp2_with fail
    refine (c1 _).mono ?_
    rintro e w2 ⟨rfl, b2⟩
    go_wp2_with fail
    go_ret
    exact ⟨by rw [HK.out]; rfl, Below.andThen b1 b2⟩
  by_cases k3 : k = 12
  · have HK := Lib.hid (HS.out.2.2.1 k3)
    subst k3
    clear HS
    go_enter Tryd.func23, Tryd.ntmps23
    go_wp2_with fail
    refine h.mono ?_
    rintro e w1 ⟨rfl, b1⟩
    clear h
    go_wp2_with fail
    refine (c2 _).mono ?_
    rintro e w2 ⟨rfl, b2⟩
    go_wp2_with fail
    go_ret
    exact ⟨by rw [HK.out]; rfl, Below.andThen b1 b2⟩
  · have HK := Lib.hid (HS.out.2.2.2 k1 k2 k3)
    have f1 : (k == 10) = false := beq_eq_false_iff_ne.2 k1
    have f2 : (k == 11) = false := beq_eq_false_iff_ne.2 k2
    have f3 : (k == 12) = false := beq_eq_false_iff_ne.2 k3
    clear HS k1 k2 k3
    go_enter Tryd.func23, Tryd.ntmps23
    go_wp2_with fail
    refine h.mono ?_
    rintro e w1 ⟨rfl, b1⟩
    clear h
    go_wp2_with fail
    go_ret
    exact ⟨by rw [HK.out]; rfl, b1⟩

/-- The bytes of a text from a place on, at most so many. -/
def cutL (s : List UInt8) (f c : Nat) : List UInt8 := (s.drop f).take c
theorem cutL_eq (s : List UInt8) (f c : Nat) : cutL s f c = (s.drop (min f s.length)).take (min f s.length + min c (s.length - min f s.length) - min f s.length) := by
  unfold cutL
  by_cases h : f ≤ s.length
  · rw [Nat.min_eq_left h, Nat.add_sub_cancel_left]
    by_cases h2 : c ≤ s.length - f
    · rw [Nat.min_eq_left h2]
    · rw [Nat.min_eq_right (by omega), List.take_of_length_le (by rw [List.length_drop]; omega), List.take_of_length_le (by rw [List.length_drop]; omega)]
  · rw [Nat.min_eq_right (by omega), List.drop_of_length_le (by omega), List.drop_of_length_le (Nat.le_refl _)]
    simp
theorem cutL_length (s : List UInt8) (f c : Nat) : (cutL s f c).length ≤ s.length := by
  unfold cutL; rw [List.length_take, List.length_drop]; omega

end Go.Proofs.YtekbjapclajflaaDoor.pt
