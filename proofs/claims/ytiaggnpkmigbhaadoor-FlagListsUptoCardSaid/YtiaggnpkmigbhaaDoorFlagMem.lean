/-
  Rows of texts: how they lie. No walk.
-/
import Derived.Test.YtiaggnpkmigbhaaDoorFlagMath
import Derived.Test.YtiaggnpkmigbhaaDoorFlagMay
import Derived.Deep.CutRange
import Derived.Deep.OwnRows
import Derived.Laws.OwnMore
import Derived.Laws.Rows
import Derived.Lib.ConvBytes
namespace Go.Proofs.YtiaggnpkmigbhaaDoor.fl
open Go.RowKit

def splitA (c : UInt8) (cur : List UInt8) : List UInt8 → List (List UInt8)
  | [] => [cur]
  | x :: r => if x = c then cur :: splitA c [] r else splitA c (cur ++ [x]) r
/-- A text at each place of a byte. -/
def split (c : UInt8) (l : List UInt8) : List (List UInt8) := splitA c [] l
theorem splitA_cons (c : UInt8) (cur : List UInt8) (x : UInt8) (r : List UInt8) : splitA c cur (x :: r) = if x = c then cur :: splitA c [] r else splitA c (cur ++ [x]) r := by rw [splitA]
theorem splitA_pos (c : UInt8) : ∀ (l cur : List UInt8), 0 < (splitA c cur l).length
  | [], cur => by simp [splitA]
  | x :: r, cur => by
    rw [splitA_cons]
    split
    · simp
    · exact splitA_pos c r _
theorem split_pos (c : UInt8) (l : List UInt8) : 0 < (split c l).length := splitA_pos c l []
theorem splitA_length (c : UInt8) : ∀ (l cur : List UInt8), (splitA c cur l).length ≤ l.length + 1
  | [], cur => by simp [splitA]
  | x :: r, cur => by
    rw [splitA_cons, List.length_cons]
    split
    · rw [List.length_cons]
      have := splitA_length c r []
      omega
    · have := splitA_length c r (cur ++ [x])
      omega
theorem split_length (c : UInt8) (l : List UInt8) : (split c l).length ≤ l.length + 1 := splitA_length c l []
theorem splitA_part (c : UInt8) : ∀ (l cur : List UInt8) (n : Nat), cur.length + l.length ≤ n → ∀ p ∈ splitA c cur l, p.length ≤ n
  | [], cur, n, h, p, hp => by
    simp only [splitA, List.mem_singleton] at hp
    subst hp
    simp at h; exact h
  | x :: r, cur, n, h, p, hp => by
    rw [splitA_cons] at hp
    rw [List.length_cons] at h
    split at hp
    · rcases List.mem_cons.1 hp with rfl | hp
      · omega
      · exact splitA_part c r [] n (by simp; omega) p hp
    · exact splitA_part c r (cur ++ [x]) n (by rw [List.length_append, List.length_singleton]; omega) p hp
theorem split_part {c : UInt8} {l p : List UInt8} (h : p ∈ split c l) : p.length ≤ l.length := splitA_part c l [] l.length (by simp) p h

/-- A row of texts, or none. -/
def RowS (w : World) (a : Option Addr) (l : List (List UInt8)) : Prop :=
  l = [] ∨ ∃ b off, a = some ⟨b, off, none⟩ ∧ b < w.heap.size ∧ ∀ j (h : j < l.length), w.cell? ⟨b, off + j, none⟩ = some (.string (S l[j]))
theorem RowS.later {w w' : World} {a : Option Addr} {l : List (List UInt8)} (h : RowS w a l) (k : Below w.heap.size w w') : RowS w' a l := by
  rcases h with h | ⟨b, off, e, hb, hc⟩
  · exact .inl h
  · exact .inr ⟨b, off, e, Nat.lt_of_lt_of_le hb k.size, fun j hj => (k.cell (p := ⟨b, off + j, none⟩) hb).trans (hc j hj)⟩
theorem infoS : (Tryd.prog.info? 9).map (fun i => (i.zero, i.size, i.bytes)) = some (some (.string ⟨#[]⟩), 1, 16) := by kernel_rfl
def cellsS (l : List (List UInt8)) : List Value := l.map fun x => Value.string (S x)
theorem cellsS_snoc (l : List (List UInt8)) (x : List UInt8) : cellsS (l ++ [x]) = cellsS l ++ [.string (S x)] := by simp [cellsS]
theorem rowS_of_own {w : World} {base n : Nat} {v : Value} {l : List (List UInt8)} (hn : n = l.length) (h : w.ownsRow base 9 1 v n (cellsS l)) :
    ∃ a' cap', v = .slice a' l.length cap' ∧ RowS w a' l := by
  subst hn
  rcases h.2 with ⟨rfl, h0⟩ | ⟨g, cap, cur, rfl, hg, hh, hn, hcap, hsz, htake⟩
  · have : l = [] := List.length_eq_zero_iff.1 h0
    subst this
    exact ⟨none, 0, rfl, Or.inl rfl⟩
  · refine ⟨_, _, rfl, Or.inr ⟨g, 0, rfl, (Array.getElem?_eq_some_iff.1 hh).1, fun j hj => ?_⟩⟩
    rw [Nat.zero_add, h.cellAt j (by omega)]
    simp [cellsS, List.getElem?_eq_getElem hj]

theorem S_mid (l : List UInt8) (a b : Nat) : (S l).extract a b = S ((l.drop a).take (b - a)) := by
  apply ByteArray.ext
  apply Array.toList_inj.1
  rw [Lib.extract_data, S_data, S_data]
/-- The text between two places, one byte more. -/
theorem mid_snoc (l : List UInt8) (f i : Nat) (h : f ≤ i) (hi : i < l.length) : (l.drop f).take (i + 1 - f) = (l.drop f).take (i - f) ++ [l[i]] := by
  rw [show i + 1 - f = (i - f) + 1 by omega, List.take_succ_eq_append_getElem (by rw [List.length_drop]; omega)]
  congr 2
  rw [List.getElem_drop]
  congr 1
  omega

theorem lists_ne {α : Type} [DecidableEq α] {l m : List α} (k : Nat) (h1 : k < l.length) (h2 : k < m.length) (hne : l[k] ≠ m[k]) : decide (l = m) = false :=
  decide_eq_false (fun e => hne (by subst e; rfl))
theorem lists_eq {α : Type} [DecidableEq α] {l m : List α} (hl : l.length = m.length) (H : ∀ j (h1 : j < l.length) (h2 : j < m.length), j < l.length → l[j] = m[j]) : decide (l = m) = true :=
  decide_eq_true (List.ext_getElem hl (fun j h1 h2 => H j h1 h2 h1))

theorem below_drewN {B : Nat} {a w : World} (h : Below B a w) (q : Nat) : Below B a (w.drewN q) := ⟨h.os, h.tape, h.output, h.size, h.block⟩
theorem list_not {α : Type} (p : α → Bool) (l : List α) (H : ∀ j (h : j < l.length), j < l.length → p l[j] = false) : l.any p = false := by
  rw [List.any_eq_false]
  intro x hx
  obtain ⟨j, hj, e⟩ := List.getElem_of_mem hx
  rw [← e, H j hj hj]; decide
theorem list_yes {α : Type} (p : α → Bool) (l : List α) (k : Nat) (h : k < l.length) (hp : p l[k] = true) : l.any p = true := by
  rw [List.any_eq_true]
  exact ⟨l[k], List.getElem_mem h, hp⟩

/-- An append whose run is known, at an operation that its guard lets by. -/
theorem wpList_append_at {P : Program} {w : World} {ops : Array Oper} {rest : List Oper} {o : Oper} {a : Act} {Q : Exit → Act → World → Prop} (s x : Operand) (t : TypeId)
    (hw : Region.wanted o (yielded ops a.tmps) = true)
    (ho : o.op = .call { callee := .builtin .append, args := #[s, x], argTypes := #[t, t] }) (vs vx v' : Value) (w' : World) (hs : a.eval s = vs) (hx : a.eval x = vx)
    (hr : (Builtin.append_ #[t, t] o.type #[vs, vx]).run P w = .ok v' w') (h : wpList P ops Q rest (a.put o.dst v') w') : wpList P ops Q (o :: rest) a w :=
  wpList_step fun K hK => by
    rw [if_pos hw]
    unfold Oper.wp execOp
    simp only [ho, resolve, invoke, builtin, Sem.run_bind, Sem.run_pure, Result.andThen_ok, List.map_toArray, List.map_cons, List.map_nil, hs, hx, hr]
    exact hK _ _ h

theorem addr_add (b off j : Nat) : (⟨b, off, none⟩ : Addr).add j = ⟨b, off + j, none⟩ := by unfold Addr.add; split <;> simp_all

end Go.Proofs.YtiaggnpkmigbhaaDoor.fl
