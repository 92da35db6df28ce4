/-
  The digest of a whole text: the padding, block by block, the bytes of the state.
-/
import Derived.Test.YtpimdbnhpbjlkaaGreatDoorDigBase
namespace Go.Proofs.YtpimdbnhpbjlkaaGreatDoor.dg

/-- How many zpad stand behind the byte 128. -/
def zpad (n : Nat) : Nat := (119 - n % 64) % 64
theorem zpad_lt (n : Nat) : zpad n < 64 := Nat.mod_lt _ (by decide)
theorem zpad_end (n : Nat) : (n + 1 + zpad n) % 64 = 56 := by unfold zpad; omega
theorem zpad_not {n k : Nat} (h : k < zpad n) : (n + 1 + k) % 64 ≠ 56 := by unfold zpad at h; omega
theorem zpad_is {n k : Nat} (hk : k ≤ zpad n) (h : (n + 1 + k) % 64 = 56) : k = zpad n := by
  rcases Nat.lt_or_ge k (zpad n) with h1 | h1
  · exact absurd h (zpad_not h1)
  · omega
/-- The text, the byte 128 and k zpad. -/
def padz (l : List UInt8) (k : Nat) : List UInt8 := l ++ 128 :: List.replicate k 0
theorem padz_zero (l : List UInt8) : padz l 0 = l ++ [128] := rfl
theorem padz_succ (l : List UInt8) (k : Nat) : padz l (k + 1) = padz l k ++ [0] := by
  unfold padz
  rw [List.replicate_succ', ← List.cons_append, List.append_assoc]
theorem padz_length (l : List UInt8) (k : Nat) : (padz l k).length = l.length + 1 + k := by simp [padz]; omega
/-- The i-th of eight bytes of a number, the heaviest first. -/
def be (x i : Nat) : UInt8 := UInt8.ofNat (x / 2 ^ (56 - 8 * i))
def bes (x : Nat) : Nat → List UInt8
  | 0 => []
  | i + 1 => bes x i ++ [be x i]
theorem bes_length (x : Nat) : ∀ i, (bes x i).length = i
  | 0 => rfl
  | i + 1 => by show (bes x i ++ [be x i]).length = _; rw [List.length_append, bes_length x i]; rfl
/-- The padded text. -/
def pad (l : List UInt8) : List UInt8 := padz l (zpad l.length) ++ bes (8 * l.length) 8
theorem pad_length (l : List UInt8) : (pad l).length = l.length + 1 + zpad l.length + 8 := by
  unfold pad
  rw [List.length_append, padz_length, bes_length]
theorem pad_mod (l : List UInt8) : (pad l).length % 64 = 0 := by
  have h := zpad_end l.length
  rw [pad_length]
  omega
/-- The j-th block of 64 bytes. -/
def blk (m : List UInt8) (j : Nat) : List UInt8 := (m.drop (64 * j)).take 64
theorem blk_length {m : List UInt8} {j : Nat} (h : 64 * j + 64 ≤ m.length) : (blk m j).length = 64 := by
  unfold blk
  rw [List.length_take, List.length_drop]
  omega
theorem blk_append {m r : List UInt8} {j : Nat} (h : 64 * j + 64 ≤ m.length) : blk (m ++ r) j = blk m j := by
  unfold blk
  rw [List.drop_append_of_le_length (by omega), List.take_append_of_le_length (by rw [List.length_drop]; omega)]
theorem blk_get {m : List UInt8} {j i : Nat} (h : 64 * j + 64 ≤ m.length) (hi : i < (blk m j).length) : (blk m j)[i] = m[64 * j + i]'(by rw [blk_length h] at hi; omega) := by
  simp [blk]
/-- The state behind j blocks. -/
def feed (s : St) (m : List UInt8) : Nat → St
  | 0 => s
  | j + 1 => press (feed s m j) (blk m j)
theorem feed_ok {s : St} (h : s.ok) (m : List UInt8) : ∀ j, (feed s m j).ok
  | 0 => h
  | _ + 1 => press_ok _ _
theorem feed_append (s : St) (m r : List UInt8) : ∀ j, 64 * j ≤ m.length → feed s (m ++ r) j = feed s m j
  | 0, _ => rfl
  | j + 1, h => by
    show press (feed s (m ++ r) j) (blk (m ++ r) j) = press (feed s m j) (blk m j)
    rw [feed_append s m r j (by omega), blk_append (by omega)]
theorem blk_drop (m : List UInt8) (i j : Nat) : blk (m.drop (64 * i)) j = blk m (i + j) := by
  unfold blk
  rw [List.drop_drop]
  congr 2
  omega
theorem feed_more (s : St) (m : List UInt8) (i : Nat) : ∀ j, feed s m (i + j) = feed (feed s m i) (m.drop (64 * i)) j
  | 0 => rfl
  | j + 1 => by
    show press (feed s m (i + j)) (blk m (i + j)) = press (feed (feed s m i) (m.drop (64 * i)) j) (blk (m.drop (64 * i)) j)
    rw [feed_more s m i j, blk_drop]
/-- The four bytes of a word, the heaviest first. -/
def wbytes (x : Nat) : List UInt8 := [UInt8.ofNat (x / 16777216), UInt8.ofNat (x / 65536), UInt8.ofNat (x / 256), UInt8.ofNat x]
def St.list (s : St) : List Nat := [s.a, s.b, s.c, s.d, s.e, s.f, s.g, s.h]
def outs (s : St) (k : Nat) : List UInt8 := (s.list.take k).flatMap wbytes
theorem outs_zero (s : St) : outs s 0 = [] := rfl
theorem outs_succ (s : St) {k : Nat} (h : k < 8) : outs s (k + 1) = outs s k ++ wbytes (s.list[k]'h) := by
  unfold outs
  rw [List.take_succ_eq_append_getElem (show k < s.list.length from h), List.flatMap_append]
  simp [List.flatMap]; rfl
theorem outs_length (s : St) {k : Nat} (h : k ≤ 8) : (outs s k).length = 4 * k := by
  induction k with
  | zero => rfl
  | succ k ih => rw [outs_succ s (by omega), List.length_append, ih (by omega)]; simp [wbytes]; omega
/-- The digest. -/
def sum (l : List UInt8) : List UInt8 := outs (feed start (pad l) ((pad l).length / 64)) 8
theorem sum_length (l : List UInt8) : (sum l).length = 32 := outs_length _ (Nat.le_refl 8)
end Go.Proofs.YtpimdbnhpbjlkaaGreatDoor.dg
