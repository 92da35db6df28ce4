/-
  Members as text: the program's Text, the document's Text.
-/
import Derived.Test.YtmgmhnohocamfaaGreatQmTxt
namespace Go.Proofs.YtmgmhnohocamfaaGreat.qm
set_option linter.unusedVariables false
open Go.RowKit
open rw (Arr But Own bnext below_box below_drew below_drewN)
open pk (RD At dec S S_size S_data)

def bySh : rw.Sh UInt8 where
  t := 5
  st := 114
  k := 1
  bytes := 1
  z := .int .u8 0
  enc := fun x => [.int .u8 (x.toNat : Nat)]
  hu := Tryz.underlying114
  hi := by kernel_rfl
  hz := by rfl
  hk := by decide
  hb := by decide
  len := fun _ => rfl
  one := fun x u hu => by
    simp only [List.mem_cons, List.not_mem_nil, or_false] at hu
    rcases hu with rfl; rfl
theorem bytes_own {w : World} {B : Nat} {v : Value} {l : Bs} (h : Own bySh w B v l) : w.ownsRow B 5 1 v l.length (Lib.byteCells l) := by
  have e : rw.cellsG bySh l = Lib.byteCells l := by
    unfold rw.cellsG Lib.byteCells
    induction l with
    | nil => rfl
    | cons x l ih =>
      simp only [List.flatMap_cons, List.map_cons]
      rw [← show List.flatMap bySh.enc l = List.map (fun b => Value.int .u8 b.toNat) l from by
        clear h ih
        induction l with
        | nil => rfl
        | cons y l ih => simp only [List.flatMap_cons, List.map_cons, ih]; rfl]
      rfl
  rw [← e]
  exact h
theorem text_prog {l : List Int} (hr : right l = true) : Lib.uvarint l.length ++ pk.each (l.map Int.toNat) = textL l := by
  have hl := right_len hr
  have e : ∀ m : List Int, (∀ x ∈ m, 1 ≤ x ∧ x ≤ 5) → pk.each (m.map Int.toNat) = m.map ofI := fun m => by
    induction m with
    | nil => intro _; rfl
    | cons x m ih =>
      intro h
      have hx := h x List.mem_cons_self
      rw [List.map_cons, List.map_cons, pk.each_cons, ih fun y hy => h y (List.mem_cons_of_mem _ hy), Lib.uvarint_small (by omega)]
      rfl
  rw [e l fun x hx => right_mem hr hx, Lib.uvarint_small (by omega), textL, if_pos hr]
  rfl
end Go.Proofs.YtmgmhnohocamfaaGreat.qm
