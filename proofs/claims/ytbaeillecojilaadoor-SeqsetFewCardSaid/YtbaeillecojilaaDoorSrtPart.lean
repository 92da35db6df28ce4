/-
  Parting a row by a test: what the two scans and the exchanges keep. No walk.
-/
import Derived.Test.YtbaeillecojilaaDoorSrtRev
namespace Go.Proofs.YtbaeillecojilaaDoor.sq
open Go.RowKit
open Go.Sort (swp PermIn SortedIn ltInt SWO)

/-- Behind a: what lies ahead of i meets the test, what lies behind j doesn't; at a lies the pivot. -/
structure Parted (t : Int → Bool) (a b : Nat) (p : Int) (d dk : Array Int) (i j : Nat) : Prop where
  perm : PermIn a b d dk
  piv : dk[a]! = p
  left : ∀ x, a < x → x < i → t dk[x]! = true
  right : ∀ x, j < x → x < b → t dk[x]! = false
theorem Parted.up {t : Int → Bool} {a b : Nat} {p : Int} {d dk : Array Int} {i j : Nat} (h : Parted t a b p d dk i j) (hi : t dk[i]! = true) : Parted t a b p d dk (i + 1) j :=
  ⟨h.perm, h.piv, fun x h1 h2 => by
    by_cases hx : x = i
    · rw [hx]; exact hi
    · exact h.left x h1 (by omega), h.right⟩
theorem Parted.down {t : Int → Bool} {a b : Nat} {p : Int} {d dk : Array Int} {i j : Nat} (h : Parted t a b p d dk i j) (hj : t dk[j]! = false) : Parted t a b p d dk i (j - 1) :=
  ⟨h.perm, h.piv, h.left, fun x h1 h2 => by
    by_cases hx : x = j
    · rw [hx]; exact hj
    · exact h.right x (by omega) h2⟩
theorem Parted.swap {t : Int → Bool} {a b : Nat} {p : Int} {d dk : Array Int} {i j : Nat} (h : Parted t a b p d dk i j) (ha : a < i) (hij : i < j) (hjb : j < b) (hb : b ≤ d.size) (hi : t dk[i]! = false) (hj : t dk[j]! = true) :
    Parted t a b p d (swp dk i j) (i + 1) (j - 1) := by
  have hs := h.perm.1
  refine ⟨Go.Sort.permIn_trans _ _ _ _ _ h.perm (Go.Sort.swp_permIn _ _ _ _ _ (by omega) (by omega) (by omega) (by omega) (by omega)), ?_, fun x h1 h2 => ?_, fun x h1 h2 => ?_⟩
  · rw [Go.Sort.swp_other _ _ _ _ (by omega) (by omega)]; exact h.piv
  · by_cases hx : x = i
    · rw [hx, Go.Sort.swp_left _ _ _ (by omega) (by omega)]; exact hj
    · rw [Go.Sort.swp_other _ _ _ _ hx (by omega)]; exact h.left x h1 (by omega)
  · by_cases hx : x = j
    · rw [hx, Go.Sort.swp_right _ _ _ (by omega)]; exact hi
    · rw [Go.Sort.swp_other _ _ _ _ (by omega) hx]; exact h.right x (by omega) h2
/-- The first exchange brings the pivot to a. -/
theorem Parted.start (t : Int → Bool) {a b q : Nat} {d : Array Int} (ha : a ≤ q) (hq : q < b) (hb : b ≤ d.size) : Parted t a b d[q]! d (swp d a q) (a + 1) (b - 1) := by
  refine ⟨Go.Sort.swp_permIn _ _ _ _ _ (by omega) (by omega) (by omega) (by omega) (by omega), ?_, fun x h1 h2 => by omega, fun x h1 h2 => by omega⟩
  by_cases hx : a = q
  · subst hx
    exact Go.Sort.swp_right _ _ _ (by omega)
  · exact Go.Sort.swp_left _ _ _ (by omega) hx
/-- The last exchange brings the pivot to its place. -/
theorem Parted.done {t : Int → Bool} {a b : Nat} {p : Int} {d dk : Array Int} {j : Nat} (h : Parted t a b p d dk (j + 1) j) (ha : a ≤ j) (hjb : j < b) (hb : b ≤ d.size) :
    PermIn a b d (swp dk j a) ∧ (swp dk j a)[j]! = p ∧ (∀ x, a ≤ x → x < j → t (swp dk j a)[x]! = true) ∧ (∀ x, j < x → x < b → t (swp dk j a)[x]! = false) := by
  have hs := h.perm.1
  refine ⟨Go.Sort.permIn_trans _ _ _ _ _ h.perm (Go.Sort.swp_permIn _ _ _ _ _ (by omega) (by omega) (by omega) (by omega) (by omega)), ?_, fun x h1 h2 => ?_, fun x h1 h2 => ?_⟩
  · by_cases hx : j = a
    · rw [hx, Go.Sort.swp_right _ _ _ (by omega)]; exact h.piv
    · rw [Go.Sort.swp_left _ _ _ (by omega) hx]; exact h.piv
  · by_cases hx : x = a
    · rw [hx, Go.Sort.swp_right _ _ _ (by omega)]; exact h.left j (by omega) (by omega)
    · rw [Go.Sort.swp_other _ _ _ _ (by omega) hx]; exact h.left x (by omega) (by omega)
  · rw [Go.Sort.swp_other _ _ _ _ (by omega) (by omega)]; exact h.right x h1 h2
end Go.Proofs.YtbaeillecojilaaDoor.sq
