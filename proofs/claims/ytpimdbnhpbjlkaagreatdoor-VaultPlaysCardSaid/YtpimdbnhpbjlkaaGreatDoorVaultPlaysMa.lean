/-
  What the law's walk stands on, part 1 of 1: the texts VtSpec, VtP1, VtP2, VtP3, VtL1, VtK1, VtK2, VtL2, VtL5, VzP, VzR1, VzR2, VzR3, VzN, VzA, VzG, VzL, VzRows, one behind the other.
-/
import Derived.Test.YtpimdbnhpbjlkaaGreatDoorDkMath
import Derived.Test.YtpimdbnhpbjlkaaGreatDoorDigUn
import Derived.Test.YtpimdbnhpbjlkaaGreatDoorDigPad
import Derived.Test.YtpimdbnhpbjlkaaGreatDoorDkInv
import Derived.Test.YtpimdbnhpbjlkaaGreatDoorDigDone
import Derived.Test.YtpimdbnhpbjlkaaGreatDoorDigUnP
import Derived.Test.YtpimdbnhpbjlkaaGreatDoorDigHexP
import Derived.Deep.RegionLaw
import Derived.Test.YtpimdbnhpbjlkaaGreatDoorDigAbc
import Derived.Deep.RegionHeld3
import Derived.Test.YtpimdbnhpbjlkaaGreatDoorDkRef8
import Derived.Test.YtpimdbnhpbjlkaaGreatDoorDigSum
import Derived.Test.YtpimdbnhpbjlkaaGreatDoorDigUnhex
import Derived.Test.YtpimdbnhpbjlkaaGreatDoorRows
import Derived.ProofKit
import Derived.OpenShut
import Derived.Deep.Slices
import Derived.Deep.SlicePairs
import Derived.Carry
/-! VtSpec -/
namespace Go.Proofs.YtpimdbnhpbjlkaaGreatDoor.vt
set_option linter.unusedVariables false
open dk (Bs File Dk Call turn sync read fuse crash Right Sorted Named count used get put without done again full off steps spend)

def vname (h : Bs) : Bs := 98 :: dg.hex h
theorem vname_inj {a b : Bs} (h : vname a = vname b) : a = b := by
  have h2 : dg.hex a = dg.hex b := List.tail_eq_of_cons_eq h
  rw [← (dg.good_hex a).2, h2, (dg.good_hex b).2]
theorem vname_len {h : Bs} (hl : h.length = 32) : (vname h).length = 65 := by
  show (dg.hex h).length + 1 = 65
  rw [dg.hex_length, hl]
theorem vname_named {h : Bs} (hl : h.length = 32) : Named (vname h) := by
  have := vname_len hl
  exact ⟨by omega, by omega⟩
def fileDig (n : Bs) : Option Bs :=
  match n with
  | [] => none
  | c :: r => if c = 98 ∧ r.length = 64 ∧ dg.good r = true then some (dg.vals r) else none
theorem fileDig_name {h : Bs} (hl : h.length = 32) : fileDig (vname h) = some h := by
  show (if (98 : UInt8) = 98 ∧ (dg.hex h).length = 64 ∧ dg.good (dg.hex h) = true then some (dg.vals (dg.hex h)) else none) = _
  rw [if_pos ⟨rfl, by rw [dg.hex_length, hl], (dg.good_hex h).1⟩, (dg.good_hex h).2]
theorem fileDig_some {n h : Bs} (e : fileDig n = some h) : n = vname h ∧ h.length = 32 := by
  cases n with
  | nil => cases e
  | cons c r =>
    unfold fileDig at e
    simp only at e
    split at e
    · next hc =>
      injection e with e
      subst e
      obtain ⟨h1, h2, h3⟩ := hc
      subst h1
      refine ⟨by unfold vname; rw [dg.hex_vals h3], ?_⟩
      have := dg.vals_length h3
      omega
    · cases e

/-! ### The calls -/
def putV (d : Dk) (s : Bs) : Bs × Nat × Dk :=
  if 4096 < s.length then ([], 2, d)
  else if (read d (vname (dg.sum s))).2 = 0 ∧ (read d (vname (dg.sum s))).1 = s then (dg.sum s, 0, d)
  else if (turn d ⟨2, vname (dg.sum s), s⟩).1 ≠ 0 then ([], (turn d ⟨2, vname (dg.sum s), s⟩).1, (turn d ⟨2, vname (dg.sum s), s⟩).2)
  else if (sync (turn d ⟨2, vname (dg.sum s), s⟩).2).1 ≠ 0 then ([], (sync (turn d ⟨2, vname (dg.sum s), s⟩).2).1, (sync (turn d ⟨2, vname (dg.sum s), s⟩).2).2)
  else (dg.sum s, 0, (sync (turn d ⟨2, vname (dg.sum s), s⟩).2).2)
def getV (d : Dk) (h : Bs) : Bs × Nat :=
  if h.length ≠ 32 then ([], 1)
  else if (read d (vname h)).2 ≠ 0 then ([], (read d (vname h)).2)
  else if dg.sum (read d (vname h)).1 ≠ h then ([], 5)
  else ((read d (vname h)).1, 0)
def allV (l : List File) : List Bs := l.filterMap fun f => fileDig f.1
/-- The digests gone over: how many were dropped, the error, the disk. -/
def keepL (ks : List Bs) : List Bs → Nat → Dk → Nat × Nat × Dk
  | [], n, d => (n, 0, d)
  | h :: r, n, d => if h ∈ ks then keepL ks r n d
    else if (turn d ⟨3, vname h, []⟩).1 ≠ 0 then (n, (turn d ⟨3, vname h, []⟩).1, (turn d ⟨3, vname h, []⟩).2)
    else keepL ks r (n + 1) (turn d ⟨3, vname h, []⟩).2
def keepV (d : Dk) (ks : List Bs) : Nat × Nat × Dk :=
  if (keepL ks (allV d.seen) 0 d).2.1 = 0 ∧ 0 < (keepL ks (allV d.seen) 0 d).1 then
    ((keepL ks (allV d.seen) 0 d).1, (sync (keepL ks (allV d.seen) 0 d).2.2).1, (sync (keepL ks (allV d.seen) 0 d).2.2).2)
  else keepL ks (allV d.seen) 0 d
theorem allV_mem {l : List File} {h : Bs} : h ∈ allV l ↔ h.length = 32 ∧ ∃ s, (vname h, s) ∈ l := by
  unfold allV
  rw [List.mem_filterMap]
  constructor
  · rintro ⟨f, hf, e⟩
    obtain ⟨h1, h2⟩ := fileDig_some e
    exact ⟨h2, f.2, h1 ▸ hf⟩
  · rintro ⟨hl, s, hs⟩
    exact ⟨_, hs, fileDig_name hl⟩
theorem getV_true (d : Dk) (h : Bs) : ((getV d h).2 = 0 → dg.sum (getV d h).1 = h) ∧ ((getV d h).2 ≠ 0 → (getV d h).1 = []) := by
  unfold getV
  by_cases h1 : h.length ≠ 32
  · rw [if_pos h1]; exact ⟨fun e => absurd e (by decide), fun _ => rfl⟩
  · rw [if_neg h1]
    by_cases h2 : (read d (vname h)).2 ≠ 0
    · rw [if_pos h2]; exact ⟨fun e => absurd e h2, fun _ => rfl⟩
    · rw [if_neg h2]
      by_cases h3 : dg.sum (read d (vname h)).1 ≠ h
      · rw [if_pos h3]; exact ⟨fun e => absurd e (by decide), fun _ => rfl⟩
      · rw [if_neg h3]; exact ⟨fun _ => Decidable.not_not.1 h3, fun e => absurd rfl e⟩

/-! ### A disk whose power doesn't go -/
theorem turn_put {d : Dk} (ho : off d = false) {n s : Bs} (hn : Named n) (hr : used (put d.seen (n, s)) ≤ d.cap) : turn d ⟨2, n, s⟩ = (0, spend { d with seen := put d.seen (n, s), pend := d.pend ++ [⟨2, n, s⟩] }) := by
  obtain ⟨h1, h2⟩ := hn
  unfold turn
  have ha : dk.after d.seen ⟨2, n, s⟩ = put d.seen (n, s) := by unfold dk.after; rw [if_pos rfl]
  rw [if_neg (by show ¬ (n.length < 1 ∨ 80 < n.length); omega), if_neg (by rw [ho]; decide), if_neg (fun h => absurd h.1 (show ¬ ((2 : Nat) = 3) by decide)), if_neg (fun h => absurd h.1 (show ¬ ((2 : Nat) = 1) by decide)), ha, if_neg (by omega)]
theorem turn_drop {d : Dk} (hd : Right d) (ho : off d = false) {n s : Bs} (hn : Named n) (hg : get d.seen n = some s) : turn d ⟨3, n, []⟩ = (0, spend { d with seen := without d.seen n, pend := d.pend ++ [⟨3, n, []⟩] }) := by
  obtain ⟨h1, h2⟩ := hn
  have ha : dk.after d.seen ⟨3, n, []⟩ = without d.seen n := by
    unfold dk.after done steps
    simp
  have hu : used (without d.seen n) ≤ d.cap := Nat.le_trans (dk.used_without_le hd.sorted n) hd.used
  unfold turn
  rw [if_neg (by show ¬ (n.length < 1 ∨ 80 < n.length); omega), if_neg (by rw [ho]; decide), if_neg (fun h => by have h2 := h.2; rw [show get d.seen (⟨3, n, []⟩ : dk.Call).name = get d.seen n from rfl, hg] at h2; cases h2), if_neg (fun h => absurd h.1 (show ¬ ((3 : Nat) = 1) by decide)), ha, if_neg (by omega)]
theorem rd_some {d : Dk} (ho : off d = false) {n s : Bs} (hg : get d.seen n = some s) : read d n = (s, 0) := by
  unfold dk.read
  rw [if_neg (by rw [ho]; decide), hg]
theorem rd_none {d : Dk} (ho : off d = false) {n : Bs} (hg : get d.seen n = none) : read d n = ([], 6) := by
  unfold dk.read
  rw [if_neg (by rw [ho]; decide), hg]
theorem getV_some {d : Dk} (ho : off d = false) {s : Bs} (hg : get d.seen (vname (dg.sum s)) = some s) : getV d (dg.sum s) = (s, 0) := by
  unfold getV
  rw [rd_some ho hg, if_neg (by rw [dg.sum_length]; decide), if_neg (by simp), if_neg (by simp)]
end Go.Proofs.YtpimdbnhpbjlkaaGreatDoor.vt
/-! VtP1 -/
namespace Go.Proofs.YtpimdbnhpbjlkaaGreatDoor.vt
set_option linter.unusedVariables false
open Go.RowKit
open fl (S S_size S_append S_inj)
open rw (Arr But below_box bnext below_drew below_drewN Fr Own)
open dk (Bs File Dk PD Step Nu Inv Live turn sync read fuse crash Right count strSh)

theorem sum_call (l : Bs) (hl : l.length ≤ 281474976710000) (w : World) (hK : dg.Keys w) : Calls Tryz.prog 26 #[.string (S l)] w fun e w' => e = .returned (.string (S (dg.sum l))) ∧ Below w.heap.size w w' := dg.sum_any l w hK hl
theorem hex_call (l : Bs) (hl : l.length ≤ 70368744177000) (w : World) : Calls Tryz.prog 21 #[.string (S l)] w fun e w' => e = .returned (.string (S (dg.hex l))) ∧ Below w.heap.size w w' := dg.hex_any l hl w
theorem unhex_call (l : Bs) (hl : l.length ≤ 140737488355328) (w : World) : Calls Tryz.prog 87 #[.string (S l)] w fun e w' => e = .returned (.tuple #[.string (S (dg.unhex l)), .bool (dg.good l)]) ∧ Below w.heap.size w w' := dg.unhex_any l hl w
theorem S_beq (a b : Bs) : ((S a).toList == (S b).toList) = decide (a = b) := by
  rw [Bool.eq_iff_iff, beq_iff_eq, decide_eq_true_eq]
  constructor
  · intro h
    rw [ByteArray.toList_eq, ByteArray.toList_eq] at h
    exact S_inj (ByteArray.ext (Array.toList_inj.1 h))
  · rintro rfl; rfl
/-- The name of a digest's file. -/
theorem name_call (h : Bs) (hl : h.length ≤ 1000000) (w : World) : Calls Tryz.prog 41 #[.string (S h)] w fun e w' => e = .returned (.string (S (vname h))) ∧ Below w.heap.size w w' := by
  have hH := hex_call h (by omega) w
  have hz : (dg.hex h).length ≤ 2000000 := by rw [dg.hex_length]; omega
  have hS : (⟨#[98]⟩ : ByteArray) ++ S (dg.hex h) = S (vname h) := by
    show S [98] ++ S (dg.hex h) = _
    rw [S_append]; rfl
  have hs := S_size (dg.hex h)
  generalize dg.hex h = x at *
  go_enter Tryz.func41, Tryz.ntmps41
  go_wp2_with fail
  refine hH.mono ?_
  clear hH
  rintro e w2 ⟨rfl, b2⟩
  have B2 := Lib.hid b2
  clear b2
  go_wp2_with fail
  go_ret
  exact ⟨rfl, B2.out⟩
theorem isd_call (h b : Bs) (hb : b.length ≤ 281474976710000) (w : World) (hK : dg.Keys w) : Calls Tryz.prog 44 #[.string (S h), .string (S b)] w fun e w' => e = .returned (.bool (decide (dg.sum b = h))) ∧ Below w.heap.size w w' := by
  have hH := sum_call b hb w hK
  have hq := S_beq (dg.sum b) h
  generalize dg.sum b = x at *
  obtain ⟨r, hr⟩ : ∃ r, decide (x = h) = r := ⟨_, rfl⟩
  rw [hr] at hq ⊢
  go_enter Tryz.func44, Tryz.ntmps44
  go_wp2_with fail
  refine hH.mono ?_
  clear hH
  rintro e w2 ⟨rfl, b2⟩
  have B2 := Lib.hid b2
  clear b2 hr
  go_wp2_with fail
  go_ret
  exact ⟨rfl, B2.out⟩
theorem cut_call (n : Bs) (w : World) : Calls Tryz.prog 86 #[.string (S n), .string ⟨#[98]⟩] w fun e w' => e = .returned (.tuple #[.string (S (if n.head? = some 98 then n.tail else n)), .bool (decide (n.head? = some 98))]) ∧ w' = w := by
  have hC := Tryz.strings_CutPrefix (S n) ⟨#[98]⟩ w
  have h1 : (S n).data.toList = n := by simp [S]
  have h2 : (⟨#[98]⟩ : ByteArray).data.toList = [98] := rfl
  rw [h1, h2] at hC
  have h3 : Lib.hasPrefix n [98] = decide (n.head? = some 98) := by
    unfold Lib.hasPrefix
    cases n with
    | nil => rfl
    | cons c r =>
      rw [Bool.eq_iff_iff, decide_eq_true_eq]
      simp [List.isPrefixOf]
      exact eq_comm
  have h4 : Lib.trimPrefix n [98] = if n.head? = some 98 then n.tail else n := by
    unfold Lib.trimPrefix
    rw [h3]
    by_cases h : n.head? = some 98
    · rw [if_pos h, if_pos (decide_eq_true h)]; cases n <;> rfl
    · rw [if_neg h, if_neg (by simpa using h)]
  rw [h3, h4] at hC
  exact hC
theorem fileDig_eq (n : Bs) : fileDig n = if n.head? = some 98 ∧ n.tail.length = 64 ∧ dg.good n.tail = true then some (dg.vals n.tail) else none := by
  cases n with
  | nil => rfl
  | cons c r =>
    show (if c = 98 ∧ r.length = 64 ∧ dg.good r = true then some (dg.vals r) else none) = _
    by_cases hc : c = 98
    · subst hc
      by_cases h : r.length = 64 ∧ dg.good r = true
      · rw [if_pos ⟨rfl, h⟩, if_pos ⟨rfl, h⟩]; rfl
      · rw [if_neg (fun k => h k.2), if_neg (fun k => h k.2)]
    · rw [if_neg (fun k => hc k.1), if_neg (fun k => hc (Option.some.inj k.1))]
set_option maxHeartbeats 1000000 in
/-- What the name of a file says. -/
theorem dig_call (n : Bs) (hn : n.length ≤ 1000000) (w : World) : Calls Tryz.prog 69 #[.string (S n)] w fun e w' => e = .returned (.tuple #[.string (S ((fileDig n).getD [])), .bool (fileDig n).isSome]) ∧ Below w.heap.size w w' := by
  have hC := cut_call n w
  obtain ⟨R, hR⟩ : ∃ R, fileDig n = R := ⟨_, rfl⟩
  rw [hR]
  rw [fileDig_eq] at hR
  have hHn := S_size n
  have hHt := S_size n.tail
  have htl : n.tail.length ≤ 1000000 := by rw [List.length_tail]; omega
  by_cases h1 : n.head? = some 98
  · rw [if_pos h1, decide_eq_true h1] at hC
    generalize n.tail = t at *
    by_cases h2 : t.length = 64
    · have hU := unhex_call t (by omega) w
      have hRb : Hid (S (R.getD []) = S (dg.unhex t) ∧ R.isSome = dg.good t) := by
        rw [← hR]
        unfold dg.unhex
        by_cases h3 : dg.good t = true
        · rw [if_pos ⟨h1, h2, h3⟩, if_pos h3, h3]; exact ⟨rfl, rfl⟩
        · rw [if_neg (fun k => h3 k.2.2), if_neg h3]
          exact ⟨rfl, by simpa using h3⟩
      have h64 : ((S t).size : Int) = 64 := by omega
      clear hR h1
      go_enter Tryz.func69, Tryz.ntmps69
      go_wp2_with fail
      refine hC.mono ?_
      clear hC
      rintro e w2 ⟨rfl, rfl⟩
      go_wp2_with fail
      refine hU.mono ?_
      clear hU
      rintro e w3 ⟨rfl, b3⟩
      have B3 := Lib.hid b3
      clear b3
      go_wp2_with fail
      go_ret2
      rw [hRb.out.1, hRb.out.2]
      exact ⟨rfl, B3.out⟩
    · have hRb : Hid (R = none) := Lib.hid (by rw [← hR, if_neg (fun k => h2 k.2.1)])
      have h64 : ¬ ((S t).size : Int) = 64 := by omega
      clear hR h1
      go_enter Tryz.func69, Tryz.ntmps69
      go_wp2_with fail
      refine hC.mono ?_
      clear hC
      rintro e w2 ⟨rfl, rfl⟩
      go_wp2_with fail
      go_ret2
      rw [hRb.out]
      exact ⟨rfl, Below.refl _ _⟩
  · rw [if_neg h1, decide_eq_false h1] at hC
    have hRb : Hid (R = none) := Lib.hid (by rw [← hR, if_neg (fun k => h1 k.1)])
    clear hR h1
    go_enter Tryz.func69, Tryz.ntmps69
    go_wp2_with fail
    refine hC.mono ?_
    clear hC
    rintro e w2 ⟨rfl, rfl⟩
    go_wp2_with fail
    go_ret2
    rw [hRb.out]
    exact ⟨rfl, Below.refl _ _⟩

/-! ### Rows of one's own beside a disk -/
section
variable {α : Type} {s : rw.Sh α} {w w' : World}
theorem own_of {B : Nat} {v : Value} {l : List α} (h : Own s w B v l) (hb : ∀ q, v.ownBlock = some q → w'.heap[q]? = w.heap[q]?) : Own s w' B v l := by
  obtain ⟨h1, h2 | ⟨g, cap, cur, h3, h4, h5, h6⟩⟩ := h
  · exact ⟨h1, .inl h2⟩
  · exact ⟨h1, .inr ⟨g, cap, cur, h3, h4, (hb g (by rw [h3]; rfl)).trans h5, h6⟩⟩
theorem own_typed {B : Nat} {v : Value} {l : List α} (h : Own s w B v l) {q : Nat} (hq : v.ownBlock = some q) : ∃ cs, w.heap[q]? = some (.cells cs s.t (0, 0)) := by
  obtain ⟨_, ⟨e, _⟩ | ⟨g, cap, cur, e, _, h5, _⟩⟩ := h
  · rw [e] at hq; cases hq
  · rw [e] at hq
    cases hq
    exact ⟨cur, h5⟩
theorem own_lt {B : Nat} {v : Value} {l : List α} (h : Own s w B v l) {q : Nat} (hq : v.ownBlock = some q) : q < w.heap.size := by
  obtain ⟨cs, hc⟩ := own_typed h hq
  exact (Array.getElem?_eq_some_iff.1 hc).1
theorem own_ne {B q : Nat} {v : Value} {l : List α} (h : Own s w B v l) {t : TypeId} {cs : Array Value} {fr : Nat × Nat} (hq : w.heap[q]? = some (.cells cs t fr)) (ht : t ≠ s.t) : v.ownBlock ≠ some q := by
  intro e
  obtain ⟨c, hc⟩ := own_typed h e
  rw [hq] at hc
  cases hc
  exact ht rfl
theorem own_but {B q : Nat} {v : Value} {l : List α} (h : Own s w B v l) {t : TypeId} {cs : Array Value} {fr : Nat × Nat} (hq : w.heap[q]? = some (.cells cs t fr)) (ht : t ≠ s.t) (k : But q w w') : Own s w' B v l :=
  own_of h fun i hi => k.block i (own_lt h hi) fun e => own_ne h hq ht (e ▸ hi)
theorem own_lower {B B' : Nat} {v : Value} {l : List α} (h : Own s w B v l) (hB : B' ≤ B) : Own s w B' v l := by
  obtain ⟨h1, h2 | ⟨g, cap, cur, h3, h4, h5⟩⟩ := h
  · exact ⟨h1, .inl h2⟩
  · exact ⟨h1, .inr ⟨g, cap, cur, h3, by omega, h5⟩⟩
theorem own_fr {B : Nat} {v : Value} {l : List α} (h : Own s w B v l) {G : Nat → Prop} (k : Fr G w w') (hv : ∀ q, v.ownBlock = some q → ¬ G q) : Own s w' B v l :=
  own_of h fun i hi => k.block i (own_lt h hi) (hv i hi)
end
theorem off_disk {W : World} {p : Nat} {d : Dk} {F : Nat → Prop} (hp : PD W F p d) {t : TypeId} (h1 : t ≠ 57) (h2 : t ≠ 96) (h3 : t ≠ 5) {b : Nat} {cs : Array Value} {fr : Nat × Nat} (h : W.heap[b]? = some (.cells cs t fr)) : ¬ F b := fun hF => by
  rcases hp.off hF h with e | e | e
  · exact h1 e
  · exact h2 e
  · exact h3 e
/-! ### A vault -/
/-- What lies beside a disk: blocks of these types alone. -/
structure Bes where
  T : TypeId → Prop
  P : World → Prop
  nt : ∀ t, T t → t ≠ 57 ∧ t ≠ 96 ∧ t ≠ 5 ∧ t ≠ 3
  below : ∀ {w w' : World}, P w → Below w.heap.size w w' → P w'
  fr : ∀ {G : Nat → Prop} {w w' : World}, P w → Fr G w w' → (∀ i, G i → ∀ cs t f, w.heap[i]? = some (.cells cs t f) → ¬ T t) → P w'
def noB : Bes := ⟨fun _ => False, fun _ => True, fun _ h => h.elim, fun _ _ => trivial, fun _ _ _ => trivial⟩
/-- Block vb is a vault on the disk p that was made since w0; beside it O. -/
structure Vo (O : Bes) (w0 w : World) (vb p : Nat) (d : Dk) : Prop where
  l : Live w0 w p d
  a : Arr w vb 59 #[.pointer (some ⟨p, 0, none⟩)]
  g : w0.heap.size ≤ vb
  k : dg.Keys w0
  o : O.P w
abbrev Vt (w0 w : World) (vb p : Nat) (d : Dk) : Prop := Vo noB w0 w vb p d
section
variable {O : Bes}
variable {w0 w w' : World} {vb p : Nat} {d d' : Dk}
theorem Vo.since (h : Vo O w0 w vb p d) : Below w0.heap.size w0 w := h.l.since
theorem Vo.keys (h : Vo O w0 w vb p d) : dg.Keys w := h.k.below h.l.since h.k.pos
theorem Vo.below (h : Vo O w0 w vb p d) (k : Below w.heap.size w w') : Vo O w0 w' vb p d := ⟨h.l.below k, h.a.below k, h.g, h.k, O.below h.o k⟩
/-- A call of its disk. -/
theorem Vo.call {P : Program} {f : Nat} {args : Array Value} {E : Ending} (h : Vo O w0 w vb p d) (C : ∀ F, PD w F p d → Calls P f args w fun e w' => e = E ∧ Step w F p d' w') : Calls P f args w fun e w' => e = E ∧ Vo O w0 w' vb p d' := by
  obtain ⟨F, h1, h2, h3⟩ := h.l
  refine (C F h1).mono ?_
  rintro e w' ⟨he, hs⟩
  obtain ⟨F', s1, s2, s3⟩ := id hs
  have hn : ¬ F vb := fun hF => by
    have ha := h.a
    unfold Arr at ha
    have := h1.off hF ha
    revert this
    decide
  exact ⟨he, Live.step h2 h3 hs, s2.arr h.a hn, h.g, h.k, O.fr h.o s2 fun i hi cs t f hc hT => by
    obtain ⟨t1, t2, t3, _⟩ := O.nt t hT
    exact off_disk h1 t1 t2 t3 hc hi⟩
theorem Vo.tell {P : Program} {f : Nat} {args : Array Value} {R : Ending → World → Prop} (h : Vo O w0 w vb p d) (C : ∀ F, PD w F p d → Calls P f args w R) : Calls P f args w R := by
  obtain ⟨F, h1, h2, h3⟩ := h.l
  exact C F h1
theorem vput_call (n s : Bs) (hd : Inv 900 d) (hs : s.length ≤ 281474976710656) (h : Vo O w0 w vb p d) :
    Calls Tryz.prog 31 #[.pointer (some ⟨p, 0, none⟩), .string (S n), .string (S s)] w fun e w' => e = .returned (.int .i64 ((turn d ⟨2, n, s⟩).1 : Nat)) ∧ Vo O w0 w' vb p (turn d ⟨2, n, s⟩).2 :=
  h.call fun F hp => dk.pput_any F p d n s (hd.rm (by decide)).room hs w hp
theorem vdrop_call (n : Bs) (hd : Inv 900 d) (h : Vo O w0 w vb p d) :
    Calls Tryz.prog 53 #[.pointer (some ⟨p, 0, none⟩), .string (S n)] w fun e w' => e = .returned (.int .i64 ((turn d ⟨3, n, []⟩).1 : Nat)) ∧ Vo O w0 w' vb p (turn d ⟨3, n, []⟩).2 :=
  h.call fun F hp => dk.pdrop_any F p d n (hd.rm (by decide)).room w hp
theorem vsync_call (hd : Inv 990 d) (h : Vo O w0 w vb p d) :
    Calls Tryz.prog 43 #[.pointer (some ⟨p, 0, none⟩)] w fun e w' => e = .returned (.int .i64 ((sync d).1 : Nat)) ∧ Vo O w0 w' vb p (sync d).2 :=
  h.call fun F hp => by
    have hr := hd.rm (by decide)
    exact dk.psync_any F p d hr.r (Nat.le_trans hr.l (by decide)) (Nat.le_trans hr.p (by decide)) w hp
theorem vcrash_call (k : Int) (hd : Inv 990 d) (h : Vo O w0 w vb p d) :
    Calls Tryz.prog 35 #[.pointer (some ⟨p, 0, none⟩), .int .i64 k] w fun e w' => e = .returned (.int .i64 ((crash d k).1 : Nat)) ∧ Vo O w0 w' vb p (crash d k).2 :=
  h.call fun F hp => by
    have hr := hd.rm (by decide)
    exact dk.pcrash_any F p d k hr.r (Nat.le_trans hr.l (by decide)) (Nat.le_trans hr.p (by decide)) w hp
theorem vread_call (n : Bs) (hn : n.length ≤ maxLen) (h : Vo O w0 w vb p d) :
    Calls Tryz.prog 42 #[.pointer (some ⟨p, 0, none⟩), .string (S n)] w fun e w' => e = .returned (.tuple #[.string (S (read d n).1), .int .i64 ((read d n).2 : Nat)]) ∧ Below w.heap.size w w' :=
  h.tell fun F hp => dk.read_any F p d n hn w hp
end
set_option maxRecDepth 100000 in
theorem open_call (p : Nat) (w : World) : Calls Tryz.prog 8 #[.pointer (some ⟨p, 0, none⟩)] w fun e w' => ∃ vb, e = .returned (.pointer (some ⟨vb, 0, none⟩)) ∧ w.heap.size ≤ vb ∧ Arr w' vb 59 #[.pointer (some ⟨p, 0, none⟩)] ∧ Below w.heap.size w w' := by
  go_enter Tryz.func8, Tryz.ntmps8
  go_wp2_with fail
  go_ret
  exact ⟨_, rfl, Nat.le_refl _, Arr.new w _ _, below_box _ _⟩
theorem open_nil (w : World) : Calls Tryz.prog 8 #[.pointer none] w fun e w' => e = .returned (.pointer none) ∧ w' = w := by
  go_enter Tryz.func8, Tryz.ntmps8
  go_wp2_with fail
  go_ret
  exact ⟨rfl, rfl⟩
theorem vopen_call {w0 w : World} {p : Nat} {d : Dk} (h : Live w0 w p d) (hk : dg.Keys w0) : Calls Tryz.prog 8 #[.pointer (some ⟨p, 0, none⟩)] w fun e w' => ∃ vb, e = .returned (.pointer (some ⟨vb, 0, none⟩)) ∧ Vt w0 w' vb p d := by
  refine (open_call p w).mono ?_
  rintro e w' ⟨vb, rfl, hg, ha, b⟩
  exact ⟨vb, rfl, h.below b, ha, Nat.le_trans h.since.size hg, hk, trivial⟩
/-- Opened again. -/
theorem vopen_again {O : Bes} {w0 w : World} {vb p : Nat} {d : Dk} (h : Vo O w0 w vb p d) : Calls Tryz.prog 8 #[.pointer (some ⟨p, 0, none⟩)] w fun e w' => ∃ vb, e = .returned (.pointer (some ⟨vb, 0, none⟩)) ∧ Vo O w0 w' vb p d := by
  refine (open_call p w).mono ?_
  rintro e w' ⟨vb, rfl, hg, ha, b⟩
  exact ⟨vb, rfl, h.l.below b, ha, Nat.le_trans h.since.size hg, h.k, O.below h.o b⟩
theorem Vo.with {O O' : Bes} {w0 w : World} {vb p : Nat} {d : Dk} (h : Vo O w0 w vb p d) (ho : O'.P w) : Vo O' w0 w vb p d := ⟨h.l, h.a, h.g, h.k, ho⟩
theorem vfuse_call {O : Bes} {w0 w : World} {vb p : Nat} {d : Dk} (n : Int) (hn : -9223372036854775808 ≤ n ∧ n ≤ 9223372036854775807) (h : Vo O w0 w vb p d) :
    Calls Tryz.prog 33 #[.pointer (some ⟨p, 0, none⟩), .int .i64 n] w fun e w' => e = .returned (.tuple #[]) ∧ Vo O w0 w' vb p (fuse d n) :=
  h.call fun F hp => dk.fuse_any F p d n hn w hp
theorem vpending_call {O : Bes} {w0 w : World} {vb p : Nat} {d : Dk} (h : Vo O w0 w vb p d) :
    Calls Tryz.prog 12 #[.pointer (some ⟨p, 0, none⟩)] w fun e w' => e = .returned (.int .i64 (count d.pend : Nat)) ∧ w' = w :=
  h.tell fun F hp => dk.pending_any F p d w hp
end Go.Proofs.YtpimdbnhpbjlkaaGreatDoor.vt
/-! VtP2 -/
namespace Go.Proofs.YtpimdbnhpbjlkaaGreatDoor.vt
set_option linter.unusedVariables false
open Go.RowKit
open fl (S S_size S_append S_inj)
open rw (Arr But below_box bnext below_drew below_drewN Fr)
open dk (Bs File Dk PD Step Nu Inv Live turn sync read fuse crash Right count)
variable {O : Bes}

theorem read_small {d : Dk} (hd : Right d) (n : Bs) : (read d n).1.length ≤ 1048576 := by
  unfold dk.read
  split
  · exact Nat.zero_le _
  · cases hg : dk.get d.seen n with
    | none => exact Nat.zero_le _
    | some s =>
      have h1 := dk.used_without hd.sorted n
      rw [hg] at h1
      have h2 := hd.used
      have h3 := hd.cap
      show s.length ≤ _
      simp only [Option.getD_some] at h1
      omega
set_option maxHeartbeats 4000000 in
set_option maxRecDepth 100000 in
theorem put_call {w0 w : World} {vb p : Nat} {d : Dk} (s : Bs) (hd : Inv 900 d) (h : Vo O w0 w vb p d) :
    Calls Tryz.prog 19 #[.pointer (some ⟨vb, 0, none⟩), .string (S s)] w fun e w' => e = .returned (.tuple #[.string (S (putV d s).1), .int .i64 ((putV d s).2.1 : Nat)]) ∧ Vo O w0 w' vb p (putV d s).2.2 := by
  obtain ⟨R, hR⟩ : ∃ R, putV d s = R := ⟨_, rfl⟩
  rw [hR]
  unfold putV at hR
  have hz := S_size s
  by_cases hl : 4096 < s.length
  · rw [if_pos hl] at hR
    have hR := Lib.hid hR
    have hli : ((S s).size : Int) > 4096 := by omega
    have H0 := Lib.hid h
    clear h
    go_enter Tryz.func19, Tryz.ntmps19
    go_wp2_with fail
    go_ret2
    rw [← hR.out]
    exact ⟨rfl, H0.out⟩
  · rw [if_neg hl] at hR
    have hli : ¬ ((S s).size : Int) > 4096 := by omega
    have hs1 := sum_call s (by omega) w h.keys
    have hsl : (dg.sum s).length = 32 := dg.sum_length s
    generalize dg.sum s = q at *
    have HR := Lib.hid hR
    have HV := Lib.hid h
    have HI := Lib.hid hd
    clear hR h hd
    go_enter Tryz.func19, Tryz.ntmps19
    go_wp2_with fail
    refine hs1.mono ?_
    clear hs1
    rintro e w2 ⟨rfl, b2⟩
    have V2 := Lib.hid (HV.out.below b2)
    have hn := name_call q (by omega) w2
    clear b2 HV
    go_wp2_with fail
    refine hn.mono ?_
    clear hn
    rintro e w3 ⟨rfl, b3⟩
    have V3 := Lib.hid (V2.out.below b3)
    have hnl := vname_len hsl
    generalize vname q = n at *
    have hr := vread_call n (by unfold maxLen; omega) V3.out
    have a3 := V3.out.a.cell (j := 0) rfl
    clear b3 V2
    have hq1 := S_beq (read d n).1 s
    obtain ⟨rs, hrs⟩ : ∃ r, (read d n).1 = r := ⟨_, rfl⟩
    obtain ⟨re, hre⟩ : ∃ r, (read d n).2 = r := ⟨_, rfl⟩
    rw [hrs] at hq1
    rw [hrs, hre] at hr HR
    clear hrs hre
    go_wp2_with fail
    refine hr.mono ?_
    clear hr
    rintro e w4 ⟨rfl, b4⟩
    have V4 := Lib.hid (V3.out.below b4)
    have a4 := V4.out.a.cell (j := 0) rfl
    clear b4 V3 a3
    by_cases c : re = 0 ∧ rs = s
    · obtain ⟨rfl, rfl⟩ := c
      have HE : Hid ((q, 0, d) = R) := by
        have h := HR.out
        rw [if_pos ⟨rfl, rfl⟩] at h
        exact h
      rw [decide_eq_true rfl] at hq1
      clear HR a4
      go_wp2_with fail
      go_ret2
      rw [← HE.out]
      exact ⟨rfl, V4.out⟩
    · rw [if_neg c] at HR
      have hcb : Hid (re = 0 → ¬ rs = s) := fun h1 h2 => c ⟨h1, h2⟩
      have hP := vput_call n s HI.out (by omega) V4.out
      have HI2 := Lib.hid (dk.inv_turn HI.out ⟨2, n, s⟩ (by show s.length ≤ _; omega))
      generalize turn d ⟨2, n, s⟩ = T at *
      obtain ⟨te, td⟩ := T
      simp only at HR hP HI2
      have HC2 : Hid ((re = 0 ∧ ((S rs).toList == (S s).toList) = false) ∨ ¬ (re : Int) = 0) := by
        by_cases h0 : re = 0
        · exact .inl ⟨h0, by rw [hq1, decide_eq_false (hcb.out h0)]⟩
        · exact .inr (by omega)
      clear c hcb hq1 HI
      have key : ∀ (W : World), Hid (Vo O w0 W vb p td) → W.cell? ⟨vb, 0, none⟩ = some (.pointer (some ⟨p, 0, none⟩)) → True := fun _ _ _ => trivial
      clear key
      rcases HC2.out with ⟨h0, hb⟩ | h0
      · subst h0
        clear HC2
        go_wp2_with fail
        refine hP.mono ?_
        clear hP a4 hb
        rintro e w5 ⟨rfl, v5⟩
        have V5 := Lib.hid v5
        have a5 := v5.a.cell (j := 0) rfl
        have hS := vsync_call (HI2.out.mono (by decide)) v5
        clear v5
        generalize sync td = U at *
        obtain ⟨ue, ud⟩ := U
        simp only at HR hS
        by_cases ht : te = 0
        · subst ht
          rw [if_neg (fun h => h rfl)] at HR
          go_wp2_with fail
          refine hS.mono ?_
          clear hS a5
          rintro e w6 ⟨rfl, v6⟩
          have V6 := Lib.hid v6
          clear v6
          by_cases hu : ue = 0
          · subst hu
            rw [if_neg (fun h => h rfl)] at HR
            go_wp2_with fail
            go_ret2
            rw [← HR.out]
            exact ⟨rfl, V6.out⟩
          · have hui : ¬ (ue : Int) = 0 := by omega
            rw [if_pos hu] at HR
            go_wp2_with fail
            go_ret2
            rw [← HR.out]
            exact ⟨rfl, V6.out⟩
        · have hti : ¬ (te : Int) = 0 := by omega
          rw [if_pos ht] at HR
          go_wp2_with fail
          go_ret2
          rw [← HR.out]
          exact ⟨rfl, V5.out⟩
      · clear HC2
        go_wp2_with fail
        refine hP.mono ?_
        clear hP a4
        rintro e w5 ⟨rfl, v5⟩
        have V5 := Lib.hid v5
        have a5 := v5.a.cell (j := 0) rfl
        have hS := vsync_call (HI2.out.mono (by decide)) v5
        clear v5
        generalize sync td = U at *
        obtain ⟨ue, ud⟩ := U
        simp only at HR hS
        by_cases ht : te = 0
        · subst ht
          rw [if_neg (fun h => h rfl)] at HR
          go_wp2_with fail
          refine hS.mono ?_
          clear hS a5
          rintro e w6 ⟨rfl, v6⟩
          have V6 := Lib.hid v6
          clear v6
          by_cases hu : ue = 0
          · subst hu
            rw [if_neg (fun h => h rfl)] at HR
            go_wp2_with fail
            go_ret2
            rw [← HR.out]
            exact ⟨rfl, V6.out⟩
          · have hui : ¬ (ue : Int) = 0 := by omega
            rw [if_pos hu] at HR
            go_wp2_with fail
            go_ret2
            rw [← HR.out]
            exact ⟨rfl, V6.out⟩
        · have hti : ¬ (te : Int) = 0 := by omega
          rw [if_pos ht] at HR
          go_wp2_with fail
          go_ret2
          rw [← HR.out]
          exact ⟨rfl, V5.out⟩
set_option maxHeartbeats 4000000 in
set_option maxRecDepth 100000 in
theorem get_call {w0 w : World} {vb p : Nat} {d : Dk} (q : Bs) (hd : Right d) (h : Vo O w0 w vb p d) :
    Calls Tryz.prog 20 #[.pointer (some ⟨vb, 0, none⟩), .string (S q)] w fun e w' => e = .returned (.tuple #[.string (S (getV d q).1), .int .i64 ((getV d q).2 : Nat)]) ∧ Below w.heap.size w w' := by
  obtain ⟨R, hR⟩ : ∃ R, getV d q = R := ⟨_, rfl⟩
  rw [hR]
  unfold getV at hR
  have hz := S_size q
  by_cases hl : q.length ≠ 32
  · rw [if_pos hl] at hR
    have hR := Lib.hid hR
    have hli : ¬ ((S q).size : Int) = 32 := by omega
    clear h
    go_enter Tryz.func20, Tryz.ntmps20
    go_wp2_with fail
    go_ret2
    rw [← hR.out]
    exact ⟨rfl, Below.refl _ _⟩
  · rw [if_neg hl] at hR
    have hl2 : q.length = 32 := Decidable.not_not.1 hl
    have hli : ((S q).size : Int) = 32 := by omega
    have hnl := vname_len hl2
    have hsm := read_small hd (vname q)
    have HN := Lib.hid fun W => name_call q (by omega) W
    have HV := Lib.hid h
    generalize vname q = n at *
    have HRd : Hid (∀ W, Vo O w0 W vb p d → Calls Tryz.prog 42 #[.pointer (some ⟨p, 0, none⟩), .string (S n)] W fun e w' => e = .returned (.tuple #[.string (S (read d n).1), .int .i64 ((read d n).2 : Nat)]) ∧ Below W.heap.size W w') := fun W hW => vread_call n (by unfold maxLen; omega) hW
    generalize read d n = X at *
    obtain ⟨rs, re⟩ := X
    simp only at hR HRd hsm
    have HR := Lib.hid hR
    clear hR h hl hd
    go_enter Tryz.func20, Tryz.ntmps20
    go_upto_region 3 with (fail)
    have V1 := Lib.hid (And.intro (HV.out.below (below_drew (Below.refl w.heap.size w))) (below_drew (Below.refl w.heap.size w)))
    clear HV
    have k0 : w.drew.cell? ⟨vb, 0, none⟩ = some (.pointer (some ⟨p, 0, none⟩)) := V1.out.1.a.cell rfl
    go_region_law
      (first | (go_simp; go_at_call 41; refine (HN.out _).mono ?_; rintro e w2 ⟨rfl, b2⟩; replace V1 := Lib.hid (And.intro (V1.out.1.below b2) (V1.out.2.trans (b2.mono V1.out.2.size))); clear k0 b2; have k0 : w2.cell? ⟨vb, 0, none⟩ = some (.pointer (some ⟨p, 0, none⟩)) := V1.out.1.a.cell rfl) | (go_simp; go_at_call 42; refine (HRd.out _ V1.out.1).mono ?_; rintro e w3 ⟨rfl, b3⟩; have V2 := Lib.hid (And.intro (V1.out.1.below b3) (V1.out.2.trans (b3.mono V1.out.2.size))); clear b3 k0 V1))
    all_goals (
      have V3 := V2
      clear V2 HN HRd
      by_cases h0 : re = 0
      · subst h0
        rw [if_neg (fun h => h rfl)] at HR
        have hI := isd_call q rs (by omega) w3 V3.out.1.keys
        generalize dg.sum rs = y at *
        by_cases hy : y = q
        · subst hy
          rw [if_neg (fun h => h rfl)] at HR
          rw [decide_eq_true rfl] at hI
          go_wp2_with fail
          refine hI.mono ?_
          clear hI
          rintro e w4 ⟨rfl, b4⟩
          have B4 := Lib.hid (V3.out.2.trans (b4.mono V3.out.2.size))
          clear b4 V3
          go_wp2_with fail
          go_ret2
          rw [← HR.out]
          exact ⟨rfl, B4.out⟩
        · rw [if_pos hy] at HR
          rw [decide_eq_false hy] at hI
          go_wp2_with fail
          refine hI.mono ?_
          clear hI
          rintro e w4 ⟨rfl, b4⟩
          have B4 := Lib.hid (V3.out.2.trans (b4.mono V3.out.2.size))
          clear b4 V3
          go_wp2_with fail
          go_ret2
          rw [← HR.out]
          exact ⟨rfl, B4.out⟩
      · have h0i : ¬ (re : Int) = 0 := by omega
        rw [if_pos h0] at HR
        go_wp2_with fail
        go_ret2
        rw [← HR.out]
        exact ⟨rfl, V3.out.2⟩)
set_option maxRecDepth 100000 in
theorem has_call {w0 w : World} {vb p : Nat} {d : Dk} (q : Bs) (hd : Right d) (h : Vo O w0 w vb p d) :
    Calls Tryz.prog 22 #[.pointer (some ⟨vb, 0, none⟩), .string (S q)] w fun e w' => e = .returned (.bool (decide ((getV d q).2 = 0))) ∧ Below w.heap.size w w' := by
  have hG := get_call q hd h
  generalize getV d q = X at *
  obtain ⟨gs, ge⟩ := X
  simp only at hG ⊢
  clear h
  by_cases h0 : ge = 0
  · subst h0
    rw [decide_eq_true rfl]
    go_enter Tryz.func22, Tryz.ntmps22
    go_wp2_with fail
    refine hG.mono ?_
    clear hG
    rintro e w2 ⟨rfl, b2⟩
    have B2 := Lib.hid b2
    clear b2
    go_wp2_with fail
    go_ret
    exact ⟨rfl, B2.out⟩
  · have h0i : ((ge : Int) == 0) = false := by rw [beq_eq_false_iff_ne]; omega
    rw [decide_eq_false h0]
    go_enter Tryz.func22, Tryz.ntmps22
    go_wp2_with fail
    refine hG.mono ?_
    clear hG
    rintro e w2 ⟨rfl, b2⟩
    have B2 := Lib.hid b2
    clear b2
    go_wp2_with fail
    go_ret
    exact ⟨rfl, B2.out⟩
end Go.Proofs.YtpimdbnhpbjlkaaGreatDoor.vt
/-! VtP3 -/
namespace Go.Proofs.YtpimdbnhpbjlkaaGreatDoor.vt
set_option linter.unusedVariables false
open Go.RowKit
open fl (S S_size S_append S_inj)
open rw (Arr But below_box bnext below_drew below_drewN Fr Own)
open dk (Bs File Dk PD Step Nu Inv Live turn sync read fuse crash Right count strSh)
variable {O : Bes}

/-- A row of texts, cell by cell. -/
theorem texts_at {w : World} {v : Value} {l : List Bs} (h : rw.Sl strSh w v l) {j : Nat} (hj : j < l.length) : ∃ b off c, v = .slice (some ⟨b, off, none⟩) l.length c ∧ w.cell? ⟨b, off + j, none⟩ = some (.string (S (l[j]'hj))) := by
  obtain ⟨a, c, h1, h2, h3, h4⟩ := h
  obtain ⟨b, off, e, hb, hc⟩ := h3.at _ hj
  have := hc 0 (by decide)
  exact ⟨b, off, c, by rw [h1, e], by simpa [strSh] using this⟩

/-- .. of any block: a row that came in. -/
def Ut (w : World) (v : Value) (l : List Bs) : Prop := ∃ a c, v = .slice a l.length c ∧ (l = [] ∨ ∃ b off, a = some ⟨b, off, none⟩ ∧ b < w.heap.size ∧ ∀ j (h : j < l.length), w.cell? ⟨b, off + j, none⟩ = some (.string (S (l[j]'h))))
theorem Ut.later {w w' : World} {v : Value} {l : List Bs} (h : Ut w v l) (k : Below w.heap.size w w') : Ut w' v l := by
  obtain ⟨a, c, e, h | ⟨b, off, h1, h2, h3⟩⟩ := h
  · exact ⟨a, c, e, .inl h⟩
  · exact ⟨a, c, e, .inr ⟨b, off, h1, Nat.lt_of_lt_of_le h2 k.size, fun j hj => (World.cell?_of_block (k.block b h2)).trans (h3 j hj)⟩⟩
theorem texts_ut {w : World} {v : Value} {l : List Bs} (h : Ut w v l) {j : Nat} (hj : j < l.length) : ∃ b off c, v = .slice (some ⟨b, off, none⟩) l.length c ∧ w.cell? ⟨b, off + j, none⟩ = some (.string (S (l[j]'hj))) := by
  obtain ⟨a, c, e, h | ⟨b, off, h1, h2, h3⟩⟩ := h
  · subst h; exact absurd hj (Nat.not_lt_zero _)
  · exact ⟨b, off, c, by rw [e, h1], h3 j hj⟩
set_option maxHeartbeats 4000000 in
set_option maxRecDepth 100000 in
theorem all1_call (lb : Nat) (v : Value) (x : List Bs) (h : Bs) (hx : x.length ≤ 1000000) (B : Nat) (w : World) (ha : Arr w lb 34 #[v]) (ho : Own strSh w B v x) (hB : B ≤ w.heap.size) (hlb : lb < B) :
    Calls Tryz.prog 39 #[.string (S h), .pointer (some ⟨lb, 0, none⟩)] w fun e w' => e = .returned (.int .i64 0) ∧ ∃ v', Arr w' lb 34 #[v'] ∧ Own strSh w' B v' (x ++ [h]) ∧ Fr (fun k => k = lb ∨ B ≤ k) w w' := by
  obtain ⟨v', w1, g1, o1, b1⟩ := rw.append_one strSh B v x h (by omega) w ho hB
  have a1 : Arr w1 lb 34 #[v] := ha.of (b1.block lb hlb)
  have HR := Lib.hid g1
  obtain ⟨va, vc, rfl⟩ : ∃ a c, v = .slice a x.length c := ho.form
  obtain ⟨ua, uc, rfl⟩ : ∃ a c, v' = .slice a (x ++ [h]).length c := o1.form
  have c0 : (w.alloc (.cells #[.string (S h)] 9)).cell? ⟨lb, 0, none⟩ = some (.slice va x.length vc) := (ha.below (below_box w _)).cell rfl
  have c00 : w.cell? ⟨lb, 0, none⟩ = some (.slice va x.length vc) := ha.cell rfl
  have c1 : w1.cell? ⟨lb, 0, none⟩ = some (.slice va x.length vc) := a1.cell rfl
  have f1 : w1.frozen? ⟨lb, 0, none⟩ = false := a1.frozen 0
  have HE : Hid (∃ u, Arr (w1.setCell ⟨lb, 0, none⟩ (.slice ua (x ++ [h]).length uc)) lb 34 #[u] ∧ Own strSh (w1.setCell ⟨lb, 0, none⟩ (.slice ua (x ++ [h]).length uc)) B u (x ++ [h]) ∧ Fr (fun k => k = lb ∨ B ≤ k) w (w1.setCell ⟨lb, 0, none⟩ (.slice ua (x ++ [h]).length uc))) := by
    have k : But lb w1 (w1.setCell ⟨lb, 0, none⟩ (.slice ua (x ++ [h]).length uc)) := (But.refl lb w1).set 0 _
    refine ⟨_, a1.set 0 _, own_but o1 a1 (by decide) k, ?_⟩
    exact ⟨k.os.trans b1.os, k.tape.trans b1.tape, k.output.trans b1.output, Nat.le_trans b1.size k.size, fun i hi hn => (k.block i (Nat.lt_of_lt_of_le hi b1.size) fun e => hn (.inl e)).trans (b1.block i (by
      rcases Nat.lt_or_ge i B with h | h
      · exact h
      · exact absurd (.inr h) hn))⟩
  change Hid (rw.App strSh (.slice va x.length vc) (.slice (some ⟨w.heap.size, 0, none⟩) 1 1) (w.alloc (.cells #[.string (S h)] 9)) (.slice ua (x ++ [h]).length uc) w1) at HR
  obtain ⟨n1, hn1⟩ : ∃ n, (x ++ [h]).length = n := ⟨_, rfl⟩
  obtain ⟨n0, hn0⟩ : ∃ n, x.length = n := ⟨_, rfl⟩
  rw [hn1] at HR HE
  rw [hn0] at HR c0 c00 c1
  clear hn1 hn0 g1 o1 b1 a1 ha ho hB hlb hx
  go_enter Tryz.func39, Tryz.ntmps39
  go_wp2_with (at_builtin; refine rw.wpList_append_at _ _ _ rfl rfl _ _ _ _ rfl rfl HR.out ?_)
  go_ret
  exact ⟨rfl, HE.out⟩
/-- The digests of the first k names. -/
def digs (ns : List Bs) (k : Nat) : List Bs := (ns.take k).filterMap fileDig
theorem digs_succ (ns : List Bs) (k : Nat) (h : k < ns.length) : digs ns (k + 1) = digs ns k ++ (fileDig (ns[k]'h)).toList := by
  unfold digs
  rw [List.take_succ_eq_append_getElem h, List.filterMap_append]
  congr 1
theorem digs_all (l : List File) : digs (l.map (·.1)) (l.map (·.1)).length = allV l := by
  unfold digs allV
  rw [List.take_length, List.filterMap_map]
  rfl
theorem digs_len (ns : List Bs) (k : Nat) : (digs ns k).length ≤ ns.length := by
  unfold digs
  exact Nat.le_trans (List.length_filterMap_le _ _) (by rw [List.length_take]; omega)
/-- All's round. -/
def RA (w w1 wr : World) (lb : Nat) (nv : Value) (ns : List Bs) (k : Nat) : Prop :=
  ∃ v, Arr wr lb 34 #[v] ∧ Own strSh wr w1.heap.size v (digs ns k) ∧ Own strSh wr w.heap.size nv ns ∧ Fr (fun i => i = lb ∨ w1.heap.size ≤ i) w1 wr
theorem RA.below {w w1 wr wx : World} {lb : Nat} {nv : Value} {ns : List Bs} {k : Nat} (h : RA w w1 wr lb nv ns k) (b : Below wr.heap.size wr wx) : RA w w1 wx lb nv ns k := by
  obtain ⟨v, h1, h2, h3, h4⟩ := h
  exact ⟨v, h1.below b, h2.below _ b, h3.below _ b, h4.then_below b⟩
set_option maxHeartbeats 8000000 in
set_option maxRecDepth 100000 in
theorem eachA_call {w0 w : World} {vb p lb : Nat} {d : Dk} (hd : Inv 900 d) (hV : Vo O w0 w vb p d) (ha : Arr w lb 34 #[.slice none 0 0]) :
    Calls Tryz.prog 38 #[.pointer (some ⟨vb, 0, none⟩), .func (.func 39) #[] #[.pointer (some ⟨lb, 0, none⟩)]] w fun e w' => e = .returned (.int .i64 0) ∧ ∃ v, Arr w' lb 34 #[v] ∧ Own strSh w' w.heap.size v (allV d.seen) ∧ Fr (fun k => k = lb ∨ w.heap.size ≤ k) w w' := by
  have hrm := hd.rm (by decide)
  have hN := hV.tell fun F hp => dk.names_any F p d (Nat.le_trans hrm.s (by decide)) (fun f hf => (hrm.r.named f hf).2) w hp
  have hns : ∀ n ∈ d.seen.map (·.1), n.length ≤ 80 := fun n hn => by
    obtain ⟨f, hf, rfl⟩ := List.mem_map.1 hn
    exact (hrm.r.named f hf).2
  have hnl : (d.seen.map (·.1)).length ≤ 1000 := by rw [List.length_map]; exact hrm.s
  have HD := Lib.hid (digs_all d.seen)
  generalize d.seen.map (·.1) = ns at *
  have c0 : w.cell? ⟨vb, 0, none⟩ = some (.pointer (some ⟨p, 0, none⟩)) := hV.a.cell rfl
  have HA := Lib.hid ha
  have HNS := Lib.hid hns
  clear hd hrm hV ha hns
  go_enter Tryz.func38, Tryz.ntmps38
  go_wp2_with fail
  refine hN.mono ?_
  clear hN c0
  rintro e w1 ⟨nv, rfl, on, b1⟩
  have R0 : Hid (RA w w1 w1 lb nv ns 0) := ⟨_, HA.out.below b1, rw.Own.nil strSh w1 w1.heap.size, on, Fr.refl _ _⟩
  have HB := Lib.hid b1
  have HLB : Hid (lb < w1.heap.size) := Nat.lt_of_lt_of_le HA.out.lt b1.size
  have HN1 : Hid (∀ q, nv.ownBlock = some q → q < w1.heap.size) := fun q hq => own_lt on hq
  obtain ⟨na, nc, rfl⟩ : ∃ a c, nv = .slice a ns.length c := on.form
  clear on b1 HA
  go_wp2_with fail
  go_loopw [18] (fun i wr => ∃ k : Nat, i = .int .i64 (k : Nat) ∧ k ≤ ns.length ∧ Hid (RA w w1 wr lb (.slice na ns.length nc) ns k))
    (fun i _ => ns.length - (intOf i).toNat)
  case atStart => exact ⟨0, rfl, Nat.zero_le _, R0.out⟩
  case round =>
  obtain ⟨k, rfl, hk, HI⟩ := hrel
  by_cases hlt : k < ns.length
  · have hki : (k : Int) < (ns.length : Int) := by omega
    obtain ⟨b, off, c, e, hc⟩ : ∃ b off c, (Value.slice na ns.length nc) = .slice (some ⟨b, off, none⟩) ns.length c ∧ wr.cell? ⟨b, off + k, none⟩ = some (.string (S (ns[k]'hlt))) := by
      obtain ⟨v, _, _, h3, _⟩ := HI.out
      exact texts_at h3.sl hlt
    injection e with e1 e2 e3
    subst e1 e3
    have hds := digs_succ ns k hlt
    have hnk := HNS.out _ (List.getElem_mem hlt)
    generalize ns[k]'hlt = n at *
    have hF := dig_call n (by omega) wr
    cases hfd : fileDig n with
    | none =>
      rw [hfd] at hF hds
      simp only [Option.getD_none, Option.isSome_none, Option.toList_none, List.append_nil] at hF hds
      have HE : Hid (∀ W, Below wr.heap.size wr W → RA w w1 W lb (.slice (some ⟨b, off, none⟩) ns.length nc) ns (k + 1)) := fun W kb => by
        have h := HI.out.below kb
        unfold RA at h ⊢
        rw [hds]
        exact h
      clear HI hds hfd e2
      go_wp2_with fail
      refine hF.mono ?_
      clear hF hc
      rintro e w2 ⟨rfl, b2⟩
      have HE2 := Lib.hid (HE.out w2 b2)
      clear b2 HE
      go_wp2_with fail
      exact ⟨⟨k + 1, by rw [Int.natCast_add]; rfl, by omega, HE2⟩, by simp only [intOf]; omega⟩
    | some h =>
      rw [hfd] at hF hds
      simp only [Option.getD_some, Option.isSome_some, Option.toList_some] at hF hds
      have HE : Hid (∀ W, Below wr.heap.size wr W → Calls Tryz.prog 39 #[.string (S h), .pointer (some ⟨lb, 0, none⟩)] W fun e w' => e = .returned (.int .i64 0) ∧ RA w w1 w' lb (.slice (some ⟨b, off, none⟩) ns.length nc) ns (k + 1)) := fun W kb => by
        obtain ⟨v, h1, h2, h3, h4⟩ := HI.out.below kb
        refine (all1_call lb v _ h (by have := digs_len ns k; omega) w1.heap.size W h1 h2 h4.size HLB.out).mono ?_
        rintro e w' ⟨rfl, v', g1, g2, g3⟩
        refine ⟨rfl, v', g1, by rw [hds]; exact g2, own_fr h3 g3 fun q hq hg => ?_, h4.trans g3 fun i _ hh => hh⟩
        rcases hg with rfl | hg
        · exact own_ne h3 h1 (by decide) hq
        · have := HN1.out q hq; omega
      clear HI hds hfd e2
      go_wp2_with fail
      refine hF.mono ?_
      clear hF hc
      rintro e w2 ⟨rfl, b2⟩
      have hE := HE.out w2 b2
      clear b2 HE
      go_wp2_with fail
      refine hE.mono ?_
      clear hE
      rintro e w3 ⟨rfl, r3⟩
      have HE2 := Lib.hid r3
      clear r3
      go_wp2_with fail
      exact ⟨⟨k + 1, by rw [Int.natCast_add]; rfl, by omega, HE2⟩, by simp only [intOf]; omega⟩
  obtain rfl : k = ns.length := by omega
  have hki : ¬ (ns.length : Int) < (ns.length : Int) := by omega
  have HE : Hid (∃ v, Arr wr lb 34 #[v] ∧ Own strSh wr w.heap.size v (allV d.seen) ∧ Fr (fun k => k = lb ∨ w.heap.size ≤ k) w wr) := by
    obtain ⟨v, h1, h2, h3, h4⟩ := HI.out
    rw [HD.out] at h2
    exact ⟨v, h1, own_lower h2 HB.out.size, (Fr.of_below HB.out).trans h4 fun i _ hh => hh.imp id fun hh => Nat.le_trans HB.out.size hh⟩
  clear HI R0
  go_wp2_with fail
  go_ret
  exact ⟨rfl, HE.out⟩
set_option maxHeartbeats 4000000 in
set_option maxRecDepth 100000 in
theorem all_call {w0 w : World} {vb p : Nat} {d : Dk} (hd : Inv 900 d) (hV : Vo O w0 w vb p d) :
    Calls Tryz.prog 17 #[.pointer (some ⟨vb, 0, none⟩)] w fun e w' => ∃ v, e = .returned v ∧ Own strSh w' w.heap.size v (allV d.seen) ∧ Below w.heap.size w w' := by
  have kb := below_box w (.cells #[.slice none 0 0] 34)
  have hE := eachA_call hd (hV.below kb) (Arr.new w _ _)
  have HK := Lib.hid kb
  clear hV kb
  go_enter Tryz.func17, Tryz.ntmps17
  go_wp2_with fail
  refine hE.mono ?_
  clear hE
  rintro e w2 ⟨rfl, v, a2, o2, f2⟩
  have c2 := a2.cell (j := 0) rfl
  have HE : Hid (Own strSh w2 w.heap.size v (allV d.seen) ∧ Below w.heap.size w w2) := ⟨own_lower o2 HK.out.size, (f2.below (B := w.heap.size) (by have := HK.out.size; exact this) (fun k hk => hk.elim (fun e => by omega) fun e => Nat.le_trans HK.out.size e)) |> fun h => HK.out.trans h⟩
  obtain ⟨va, vc, rfl⟩ : ∃ a c, v = .slice a (allV d.seen).length c := o2.form
  clear a2 o2 f2
  go_wp2_with fail
  go_ret
  exact ⟨_, rfl, HE.out⟩
end Go.Proofs.YtpimdbnhpbjlkaaGreatDoor.vt
/-! VtL1 -/
namespace Go.Proofs.YtpimdbnhpbjlkaaGreatDoor.vt
set_option linter.unusedVariables false
open Go.RowKit
open fl (S S_size S_append S_inj)
open rw (Arr But below_box bnext below_drew below_drewN Fr Own)
open dk (Bs File Dk PD Step Nu Inv Live turn sync read fuse crash Right count strSh get used)

/-! ### Put, where there is room and power -/
theorem off_no {d : Dk} (h : d.fused = false) : dk.off d = false := by unfold dk.off; rw [h]; rfl
theorem spend_no {d : Dk} (h : d.fused = false) : dk.spend d = d := by unfold dk.spend; rw [if_neg (by rw [h]; decide)]
theorem sync_no {d : Dk} (h : d.fused = false) : sync d = (0, { d with lasts := d.seen, pend := [] }) := by
  unfold sync
  rw [if_neg (by rw [off_no h]; decide)]
  unfold dk.spend
  rw [if_neg (by show ¬ d.fused = true; rw [h]; decide)]
theorem putV_inv {j : Nat} {d : Dk} (h : Inv j d) (s : Bs) (hs : s.length ≤ 140737488355328) : Inv (j + 2) (putV d s).2.2 := by
  have h1 := dk.inv_turn h ⟨2, vname (dg.sum s), s⟩ hs
  have h2 := dk.inv_sync h1
  unfold putV
  split
  · exact h.mono (by omega)
  · split
    · exact h.mono (by omega)
    · split
      · exact h1.mono (by omega)
      · split
        · exact h2
        · exact h2
/-- What a Put makes. -/
structure Did (d d' : Dk) (s : Bs) : Prop where
  f : d'.fused = false
  c : d'.cap = d.cap
  seen : (d' = d ∧ get d.seen (vname (dg.sum s)) = some s) ∨ (d'.seen = dk.put d.seen (vname (dg.sum s), s) ∧ d'.lasts = d'.seen ∧ d'.pend = [])
theorem putV_did {d : Dk} (hd : Right d) (hf : d.fused = false) (s : Bs) (hs : s.length ≤ 4096) (hu : used d.seen + s.length ≤ d.cap) : ∃ d', putV d s = (dg.sum s, 0, d') ∧ Did d d' s := by
  have hn : dk.Named (vname (dg.sum s)) := vname_named (dg.sum_length s)
  have hup := dk.used_put hd.sorted (vname (dg.sum s), s)
  have ht := turn_put (off_no hf) hn (s := s) (by
    have : used (dk.put d.seen (vname (dg.sum s), s)) + ((get d.seen (vname (dg.sum s))).getD []).length = used d.seen + s.length := hup
    omega)
  by_cases hg : get d.seen (vname (dg.sum s)) = some s
  · refine ⟨d, ?_, hf, rfl, .inl ⟨rfl, hg⟩⟩
    unfold putV
    rw [rd_some (off_no hf) hg, if_neg (by omega), if_pos ⟨rfl, rfl⟩]
  · have hr : ¬ ((read d (vname (dg.sum s))).2 = 0 ∧ (read d (vname (dg.sum s))).1 = s) := by
      rintro ⟨h1, h2⟩
      cases hgg : get d.seen (vname (dg.sum s)) with
      | none => rw [rd_none (off_no hf) hgg] at h1; exact absurd h1 (by decide)
      | some t =>
        rw [rd_some (off_no hf) hgg] at h2
        exact hg (by rw [hgg]; exact congrArg some h2)
    rw [spend_no (d := { d with seen := dk.put d.seen (vname (dg.sum s), s), pend := d.pend ++ [⟨2, vname (dg.sum s), s⟩] }) hf] at ht
    have hsy := sync_no (d := { d with seen := dk.put d.seen (vname (dg.sum s), s), pend := d.pend ++ [⟨2, vname (dg.sum s), s⟩] }) hf
    refine ⟨{ d with lasts := dk.put d.seen (vname (dg.sum s), s), seen := dk.put d.seen (vname (dg.sum s), s), pend := [] }, ?_, hf, rfl, .inr ⟨rfl, rfl, rfl⟩⟩
    unfold putV
    rw [if_neg (by omega), if_neg hr, ht]
    simp only
    rw [if_neg (by decide), hsy]
    simp only
    rw [if_neg (by decide)]
section
variable {d d' : Dk} {s : Bs}
theorem Did.get (h : Did d d' s) (hd : Right d) : get d'.seen (vname (dg.sum s)) = some s := by
  rcases h.seen with ⟨rfl, hg⟩ | ⟨e, _⟩
  · exact hg
  · rw [e]; exact dk.get_put_same hd.sorted _ _
theorem Did.other (h : Did d d' s) (hd : Right d) {n : Bs} (hn : n ≠ vname (dg.sum s)) : dk.get d'.seen n = dk.get d.seen n := by
  rcases h.seen with ⟨rfl, hg⟩ | ⟨e, _⟩
  · rfl
  · rw [e]; exact dk.get_put_other hd.sorted _ hn
theorem Did.used (h : Did d d' s) (hd : Right d) : dk.used d'.seen ≤ dk.used d.seen + s.length := by
  rcases h.seen with ⟨rfl, hg⟩ | ⟨e, _⟩
  · omega
  · rw [e]
    have : dk.used (dk.put d.seen (vname (dg.sum s), s)) + ((dk.get d.seen (vname (dg.sum s))).getD []).length = dk.used d.seen + s.length := dk.used_put hd.sorted (vname (dg.sum s), s)
    omega
end

/-! ### few, long -/
set_option maxRecDepth 100000 in
theorem few_call (n : Nat) (w : World) : Calls Tryz.prog 23 #[.int .i64 (n : Nat)] w fun e w' => e = .returned (.int .i64 (min n 1048576 : Nat)) ∧ Below w.heap.size w w' := by
  go_enter Tryz.func23, Tryz.ntmps23
  go_wp2_with fail
  go_ret
  exact ⟨congrArg (fun z => Ending.returned (Value.int .i64 z)) (by show min (n : Int) 1048576 = _; omega), Below.refl _ _⟩
def lens (l : List Bs) : Nat := (l.map (·.length)).sum
def fews (l : List Bs) : Nat := (l.map fun s => min s.length 1048576).sum
theorem fews_succ (l : List Bs) (k : Nat) (h : k < l.length) : fews (l.take (k + 1)) = fews (l.take k) + min (l[k]'h).length 1048576 := by
  unfold fews
  rw [List.take_succ_eq_append_getElem h, List.map_append, List.sum_append]
  simp
theorem fews_le : ∀ l : List Bs, fews l ≤ l.length * 1048576
  | [] => by simp [fews]
  | a :: r => by
    have := fews_le r
    unfold fews at *
    simp only [List.map_cons, List.sum_cons, List.length_cons]
    omega
theorem fews_lens : ∀ l : List Bs, fews l < 1048576 → lens l = fews l
  | [], _ => rfl
  | a :: r, h => by
    unfold fews lens at *
    simp only [List.map_cons, List.sum_cons] at *
    have := fews_lens r (by unfold fews; omega)
    unfold fews lens at this
    omega
theorem lens_mem {l : List Bs} {s : Bs} (h : s ∈ l) : s.length ≤ lens l := by
  induction l with
  | nil => cases h
  | cons a r ih =>
    unfold lens at *
    simp only [List.map_cons, List.sum_cons]
    rcases List.mem_cons.1 h with rfl | h
    · omega
    · have := ih h; omega
/-- What long tells. -/
def LO (l : List Bs) (n : Nat) : Prop := n ≤ 32768 → l.length ≤ 40 ∧ lens l ≤ 32768
set_option maxHeartbeats 4000000 in
set_option maxRecDepth 100000 in
theorem long_call (v : Value) (l : List Bs) (w : World) (hv : Ut w v l) : Calls Tryz.prog 24 #[v] w fun e w' => ∃ n : Nat, e = .returned (.int .i64 (n : Nat)) ∧ n ≤ 1073741824 ∧ LO l n ∧ Below w.heap.size w w' := by
  obtain ⟨va, vc, rfl⟩ : ∃ a c, v = .slice a l.length c := by obtain ⟨a, c, e, _⟩ := hv; exact ⟨a, c, e⟩
  have HV := Lib.hid hv
  clear hv
  by_cases h40 : l.length ≤ 40
  · have hi40 : ¬ (l.length : Int) > 40 := by omega
    go_enter Tryz.func24, Tryz.ntmps24
    go_wp2_with fail
    go_loopw [3, 4] (fun n i wr => ∃ k t : Nat, i = .int .i64 (k : Nat) ∧ n = .int .i64 (t : Nat) ∧ k ≤ l.length ∧ t ≤ 40 + k * 1048576 ∧ Hid (t = l.length + fews (l.take k) ∧ Below w.heap.size w wr))
      (fun _ i _ => l.length - (intOf i).toNat)
    case atStart => exact ⟨0, l.length, rfl, rfl, Nat.zero_le _, by omega, by simp [fews], Below.refl _ _⟩
    case round =>
    obtain ⟨k, t, rfl, rfl, hk, ht, HI⟩ := hrel
    by_cases hlt : k < l.length
    · have hki : (k : Int) < (l.length : Int) := by omega
      obtain ⟨b, off, c, e, hc⟩ := texts_ut (HV.out.later HI.out.2) hlt
      injection e with e1 e2 e3
      subst e1 e3
      have hfs := fews_succ l k hlt
      generalize l[k]'hlt = x at *
      have hF := few_call x.length wr
      have hxs := S_size x
      obtain ⟨f2, hf2⟩ : ∃ f, min x.length 1048576 = f := ⟨_, rfl⟩
      rw [hf2] at hF hfs
      have hf3 : f2 ≤ 1048576 := by omega
      obtain ⟨z, hz⟩ : ∃ z, t + f2 = z := ⟨_, rfl⟩
      have q1 : IntKind.i64.wrap ((t : Int) + (f2 : Int)) = (z : Int) := by rw [IntWalk.i64_in _ (by omega)]; omega
      have HZ : Hid (z = l.length + fews (l.take (k + 1))) := Lib.hid (by rw [hfs, ← hz, HI.out.1]; omega)
      have hz2 : z ≤ 40 + (k + 1) * 1048576 := by omega
      have HB := Lib.hid HI.out.2
      clear HI e2 hf2 hz hfs ht hf3
      go_wp2_with fail
      refine hF.mono ?_
      clear hF hc
      rintro e w2 ⟨rfl, b2⟩
      have HB2 := Lib.hid (HB.out.trans (b2.mono HB.out.size))
      clear b2 HB
      go_wp2_with fail
      exact ⟨⟨k + 1, z, by rw [Int.natCast_add]; rfl, rfl, by omega, hz2, HZ.out, HB2.out⟩, by simp only [intOf]; omega⟩
    obtain rfl : k = l.length := by omega
    have hki : ¬ (l.length : Int) < (l.length : Int) := by omega
    have HE : Hid (LO l t ∧ Below w.heap.size w wr) := by
      refine ⟨fun h => ?_, HI.out.2⟩
      have h1 := HI.out.1
      rw [List.take_length] at h1
      have h2 := fews_lens l (by omega)
      omega
    have ht2 : t ≤ 1073741824 := by omega
    clear HI ht
    go_wp2_with fail
    go_ret
    exact ⟨t, rfl, ht2, HE.out.1, HE.out.2⟩
  · have hi40 : (l.length : Int) > 40 := by omega
    go_enter Tryz.func24, Tryz.ntmps24
    go_wp2_with fail
    go_ret
    exact ⟨1073741824, rfl, Nat.le_refl _, fun h => by omega, Below.refl _ _⟩

end Go.Proofs.YtpimdbnhpbjlkaaGreatDoor.vt
/-! VtK1 -/
namespace Go.Proofs.YtpimdbnhpbjlkaaGreatDoor.vt
set_option linter.unusedVariables false
open Go.RowKit
open fl (S S_size S_append S_inj)
open rw (Arr But below_box bnext below_drew below_drewN Fr Own)
open dk (Bs File Dk PD Step Nu Inv Live turn sync read fuse crash Right count strSh)
open mp (Mp Turned kget kput kwithout KSorted)
variable {O : Bes}

theorem keepL_append (ks : List Bs) : ∀ (a b : List Bs) (n : Nat) (d : Dk), keepL ks (a ++ b) n d = if (keepL ks a n d).2.1 ≠ 0 then keepL ks a n d else keepL ks b (keepL ks a n d).1 (keepL ks a n d).2.2
  | [], b, n, d => by
    show keepL ks b n d = if (0 : Nat) ≠ 0 then _ else keepL ks b n d
    rw [if_neg (by decide)]
  | h :: r, b, n, d => by
    rw [List.cons_append, keepL, keepL]
    split
    · exact keepL_append ks r b n d
    · split
      · next he => rfl
      · exact keepL_append ks r b _ _
theorem kget_put {l : List (Bs × Value)} (h : KSorted l) (n : Bs) (v : Value) (m : Bs) : kget (kput l (n, v)) m = if m = n then some v else kget l m := by
  have hs := mp.kput_sorted h (n, v)
  by_cases e : m = n
  · rw [if_pos e, e]
    exact mp.kget_of_mem hs (mp.mem_kput.2 (.inl rfl))
  · rw [if_neg e]
    cases hk : kget l m with
    | none =>
      refine mp.kget_eq_none fun f hf => ?_
      rcases mp.mem_kput.1 hf with rfl | ⟨hf, _⟩
      · exact fun h => e h.symm
      · exact mp.kget_none hk f hf
    | some u => exact mp.kget_of_mem hs (mp.mem_kput.2 (.inr ⟨mp.kget_some hk, e⟩))
/-- A map that holds just these keys. -/
structure KS (l : List (Bs × Value)) (ks : List Bs) : Prop where
  g : ∀ h, (kget l h).isSome = decide (h ∈ ks)
  v : ∀ f ∈ l, f.2 = .agg #[]
  n : l.length ≤ ks.length
theorem KS.nil : KS [] [] := ⟨fun h => rfl, fun f hf => (nomatch hf), Nat.le_refl _⟩
theorem KS.put {l : List (Bs × Value)} {ks : List Bs} (h : KS l ks) (hs : KSorted l) (k : Bs) : KS (kput l (k, .agg #[])) (ks ++ [k]) := by
  refine ⟨fun m => ?_, fun f hf => ?_, ?_⟩
  · rw [kget_put hs]
    by_cases e : m = k
    · rw [if_pos e]; simp [e]
    · rw [if_neg e, h.g]
      rw [Bool.eq_iff_iff, decide_eq_true_eq, decide_eq_true_eq, List.mem_append, List.mem_singleton]
      exact ⟨.inl, fun h => h.resolve_right e⟩
  · rcases mp.mem_kput.1 hf with rfl | ⟨hf, _⟩
    · rfl
    · exact h.v f hf
  · have h1 := mp.kput_length l (k, Value.agg #[])
    have h2 := h.n
    rw [List.length_append, List.length_singleton]
    omega
theorem KS.get {l : List (Bs × Value)} {ks : List Bs} (h : KS l ks) (m : Bs) : (kget l m).getD (.agg #[]) = .agg #[] := by
  cases hk : kget l m with
  | none => rfl
  | some u => exact h.v _ (mp.kget_some hk)
theorem und_m : Tryz.prog.underlying 88 = some (.map 9 89) := Tryz.underlying88
theorem zero_s (w : World) : (zeroValue 89).run Tryz.prog w = .ok (.agg #[]) w := by kernel_rfl

/-- What Keep's closure goes over. -/
structure Kt (O : Bes) (w0 W : World) (vb p m kb xb nb : Nat) (kl : List (Bs × Value)) (d : Dk) (n : Nat) : Prop where
  d : ∃ F, PD W F p d ∧ (∀ k, F k → w0.heap.size ≤ k) ∧ ¬ F m
  b : Below w0.heap.size w0 W
  a : Arr W vb 59 #[.pointer (some ⟨p, 0, none⟩)]
  g : w0.heap.size ≤ vb
  k : dg.Keys w0
  mm : Mp W m kl
  ka : Arr W kb 88 #[.map (some m)]
  xa : Arr W xb 31 #[.pointer (some ⟨vb, 0, none⟩)]
  na : Arr W nb 3 #[.int .i64 (n : Nat)]
  nn : w0.heap.size ≤ nb
  o : O.P W
section
variable {w0 W W' : World} {vb p m kb xb nb : Nat} {kl : List (Bs × Value)} {d d' : Dk} {n : Nat}
theorem Kt.below (h : Kt O w0 W vb p m kb xb nb kl d n) (k : Below W.heap.size W W') : Kt O w0 W' vb p m kb xb nb kl d n := by
  obtain ⟨F, h1, h2, h3⟩ := h.d
  exact ⟨⟨F, h1.below k, h2, h3⟩, h.b.trans (k.mono h.b.size), h.a.below k, h.g, h.k, h.mm.of (k.block m h.mm.lt), h.ka.below k, h.xa.below k, h.na.below k, h.nn, O.below h.o k⟩
theorem Kt.keys (h : Kt O w0 W vb p m kb xb nb kl d n) : dg.Keys W := h.k.below h.b h.k.pos
theorem Kt.vt (h : Kt O w0 W vb p m kb xb nb kl d n) : Vo O w0 W vb p d := by
  obtain ⟨F, h1, h2, h3⟩ := h.d
  exact ⟨⟨F, h1, h2, h.b⟩, h.a, h.g, h.k, h.o⟩
theorem Kt.step {F : Nat → Prop} (h : Kt O w0 W vb p m kb xb nb kl d n) (hp : PD W F p d) (hF : ∀ k, F k → w0.heap.size ≤ k) (hm : ¬ F m) (k : Step W F p d' W') : Kt O w0 W' vb p m kb xb nb kl d' n ∧ ∀ B v l, Own strSh W B v l → Own strSh W' B v l := by
  obtain ⟨F', h1, h2, h3⟩ := k
  have key : ∀ B v l, Own strSh W B v l → Own strSh W' B v l := fun B v l ho => own_fr ho h2 fun q hq hF2 => by
    obtain ⟨cs, hc⟩ := own_typed ho hq
    exact off_disk hp (by decide) (by decide) (by decide) hc hF2
  refine ⟨⟨⟨F', h1, fun i hi => ?_, fun hi => ?_⟩, h.b.trans (h2.below h.b.size hF), h2.arr h.a (off_disk hp (by decide) (by decide) (by decide) h.a), h.g, h.k, h.mm.of (h2.block m h.mm.lt hm), h2.arr h.ka (off_disk hp (by decide) (by decide) (by decide) h.ka), h2.arr h.xa (off_disk hp (by decide) (by decide) (by decide) h.xa), h2.arr h.na (off_disk hp (by decide) (by decide) (by decide) h.na), h.nn, O.fr h.o h2 fun i hi cs t f hc hT => by
    obtain ⟨t1, t2, t3, _⟩ := O.nt t hT
    exact off_disk hp t1 t2 t3 hc hi⟩, key⟩
  · rcases h3 i hi with h4 | h4
    · exact hF i h4
    · exact Nat.le_trans h.b.size h4
  · rcases h3 m hi with h4 | h4
    · exact hm h4
    · have := h.mm.lt; omega
/-- A store into the counter. -/
theorem Kt.count (h : Kt O w0 W vb p m kb xb nb kl d n) (n' : Nat) : Kt O w0 (W.setCell ⟨nb, 0, none⟩ (.int .i64 (n' : Nat))) vb p m kb xb nb kl d n' ∧ ∀ B v l, Own strSh W B v l → Own strSh (W.setCell ⟨nb, 0, none⟩ (.int .i64 (n' : Nat))) B v l := by
  have k : But nb W (W.setCell ⟨nb, 0, none⟩ (.int .i64 (n' : Nat))) := (But.refl nb W).set 0 _
  obtain ⟨F, h1, h2, h3⟩ := h.d
  have hnF : ¬ F nb := off_disk h1 (by decide) (by decide) (by decide) h.na
  have ne : ∀ {b : Nat} {t : TypeId} {cs : Array Value}, Arr W b t cs → t ≠ 3 → b ≠ nb := fun {b t cs} ha ht e => by
    have hn := h.na
    unfold Arr at ha hn
    rw [e, hn] at ha
    injection ha with g1
    injection g1 with _ g2 _
    exact ht g2.symm
  have hmn : m ≠ nb := fun e => by
    obtain ⟨es, c, hb⟩ := h.mm.block
    have hn := h.na
    unfold Arr at hn
    rw [e, hn] at hb
    cases hb
  refine ⟨⟨⟨F, h1.fr (Fr.but k (F := fun i => i = nb) rfl) (fun i hi e => hnF (e ▸ hi)) (fun i e s hs => ?_), h2, h3⟩, h.b.trans (k.below h.b.size h.nn), k.arr h.a (ne h.a (by decide)), h.g, h.k, h.mm.of (k.block m h.mm.lt hmn), k.arr h.ka (ne h.ka (by decide)), k.arr h.xa (ne h.xa (by decide)), h.na.set 0 _, h.nn, O.fr h.o (Fr.but k (F := fun i => i = nb) rfl) fun i hi cs t f hc hT => by
    have hn := h.na
    unfold Arr at hn
    rw [hi, hn] at hc
    injection hc with g1
    injection g1 with _ g2 _
    exact (O.nt t hT).2.2.2 g2.symm⟩, fun B v l ho => own_but ho h.na (by decide) k⟩
  have hn := h.na
  change W.heap[i]? = some (.cells #[.string (S s)] 9 (0, 0)) at hs
  unfold Arr at hn
  rw [e, hn] at hs
  injection hs with g1
  injection g1 with _ g2 _
  exact absurd g2 (by decide)
end
/-- What the closure makes: the error, how many, the disk. -/
def keep1 (ks : List Bs) (h : Bs) (n : Nat) (d : Dk) : Nat × Nat × Dk := if h ∈ ks then (0, n, d) else if (turn d ⟨3, vname h, []⟩).1 ≠ 0 then ((turn d ⟨3, vname h, []⟩).1, n, (turn d ⟨3, vname h, []⟩).2) else (0, n + 1, (turn d ⟨3, vname h, []⟩).2)
theorem keepL_one (ks : List Bs) (h : Bs) (r : List Bs) (n : Nat) (d : Dk) : keepL ks (h :: r) n d = if (keep1 ks h n d).1 ≠ 0 then ((keep1 ks h n d).2.1, (keep1 ks h n d).1, (keep1 ks h n d).2.2) else keepL ks r (keep1 ks h n d).2.1 (keep1 ks h n d).2.2 := by
  rw [keepL]
  unfold keep1
  by_cases h1 : h ∈ ks
  · rw [if_pos h1, if_pos h1, if_neg (by simp)]
  · rw [if_neg h1, if_neg h1]
    by_cases h2 : (turn d ⟨3, vname h, []⟩).1 ≠ 0
    · rw [if_pos h2, if_pos h2, if_pos h2]
    · rw [if_neg h2, if_neg h2, if_neg (by simp)]
set_option maxHeartbeats 8000000 in
set_option maxRecDepth 100000 in
theorem keep1_call {w0 W : World} {vb p m kb xb nb : Nat} {kl : List (Bs × Value)} {d : Dk} {n : Nat} (ks : List Bs) (h : Bs) (hl : h.length = 32) (hn : n ≤ 1000000) (hd : Inv 900 d) (hk : KS kl ks) (hK : Kt O w0 W vb p m kb xb nb kl d n) :
    Calls Tryz.prog 52 #[.string (S h), .pointer (some ⟨kb, 0, none⟩), .pointer (some ⟨xb, 0, none⟩), .pointer (some ⟨nb, 0, none⟩)] W fun e w' => e = .returned (.int .i64 ((keep1 ks h n d).1 : Nat)) ∧ Kt O w0 w' vb p m kb xb nb kl (keep1 ks h n d).2.2 (keep1 ks h n d).2.1 ∧ ∀ B v l, Own strSh W B v l → Own strSh w' B v l := by
  obtain ⟨R, hR⟩ : ∃ R, keep1 ks h n d = R := ⟨_, rfl⟩
  rw [hR]
  unfold keep1 at hR
  have hlk := hK.mm.lookok und_m (zero_s W) h (by unfold maxLen; omega)
  rw [hk.get, hk.g] at hlk
  have c0 : W.cell? ⟨kb, 0, none⟩ = some (.map (some m)) := hK.ka.cell rfl
  have kz := below_box W (.cells #[] 89)
  have K1 := Lib.hid (And.intro (hK.below kz) (fun B v l (ho : Own strSh W B v l) => ho.below strSh kz))
  clear kz hk
  by_cases hmem : h ∈ ks
  · rw [if_pos hmem] at hR
    rw [decide_eq_true hmem] at hlk
    have HR := Lib.hid hR
    clear hR hK hd
    go_enter Tryz.func52, Tryz.ntmps52
    go_wp2_with fail
    go_ret
    rw [← HR.out]
    exact ⟨rfl, K1.out.1, K1.out.2⟩
  · rw [if_neg hmem] at hR
    rw [decide_eq_false hmem] at hlk
    have HN := Lib.hid fun w => name_call h (by omega) w
    have HDr : Hid (∀ w, Kt O w0 w vb p m kb xb nb kl d n → Calls Tryz.prog 53 #[.pointer (some ⟨p, 0, none⟩), .string (S (vname h))] w fun e w' => e = .returned (.int .i64 ((turn d ⟨3, vname h, []⟩).1 : Nat)) ∧ Kt O w0 w' vb p m kb xb nb kl (turn d ⟨3, vname h, []⟩).2 n ∧ ∀ B v l, Own strSh w B v l → Own strSh w' B v l) := fun w hw => by
      obtain ⟨F, h1, h2, h3⟩ := hw.d
      refine (dk.pdrop_any F p d (vname h) (hd.rm (by decide)).room w h1).mono ?_
      rintro e w' ⟨rfl, s⟩
      exact ⟨rfl, hw.step h1 h2 h3 s⟩
    generalize turn d ⟨3, vname h, []⟩ = T at *
    obtain ⟨te, td⟩ := T
    simp only at hR HDr
    have HR := Lib.hid hR
    generalize vname h = nm at *
    clear hR hK hd hmem
    go_enter Tryz.func52, Tryz.ntmps52
    go_upto_region 4 with (fail)
    clear hlk c0
    generalize W.alloc (.cells #[] 89) = W1 at *
    have X1 : Hid (Kt O w0 W1.drew vb p m kb xb nb kl d n ∧ ∀ B v l, Own strSh W B v l → Own strSh W1.drew B v l) := by
      have k := below_drew (Below.refl W1.heap.size W1)
      exact ⟨K1.out.1.below k, fun B v l ho => (K1.out.2 B v l ho).below strSh k⟩
    clear K1
    have k0 : W1.drew.cell? ⟨xb, 0, none⟩ = some (.pointer (some ⟨vb, 0, none⟩)) ∧ W1.drew.cell? ⟨vb, 0, none⟩ = some (.pointer (some ⟨p, 0, none⟩)) := ⟨X1.out.1.xa.cell rfl, X1.out.1.a.cell rfl⟩
    go_region_held3 (fun W => W.cell? ⟨xb, 0, none⟩ = some (.pointer (some ⟨vb, 0, none⟩)) ∧ W.cell? ⟨vb, 0, none⟩ = some (.pointer (some ⟨p, 0, none⟩)))
      (first | (with_reducible exact k0) | go_keep)
      (first | (go_at_call 41; with_reducible refine (HN.out _).mono ?_; rintro e w2 ⟨rfl, b2⟩; replace X1 := Lib.hid (And.intro (X1.out.1.below b2) (fun B v l ho => (X1.out.2 B v l ho).below strSh b2)); clear k0 b2; have k0 : w2.cell? ⟨xb, 0, none⟩ = some (.pointer (some ⟨vb, 0, none⟩)) ∧ w2.cell? ⟨vb, 0, none⟩ = some (.pointer (some ⟨p, 0, none⟩)) := ⟨X1.out.1.xa.cell rfl, X1.out.1.a.cell rfl⟩) | (go_at_call 53; with_reducible refine (HDr.out _ X1.out.1).mono ?_; rintro e w3 ⟨rfl, g3, r3⟩; have X2 := Lib.hid (And.intro g3 (fun B v l ho => r3 B v l (X1.out.2 B v l ho))); clear k0 g3 r3; have k0 : w3.cell? ⟨xb, 0, none⟩ = some (.pointer (some ⟨vb, 0, none⟩)) ∧ w3.cell? ⟨vb, 0, none⟩ = some (.pointer (some ⟨p, 0, none⟩)) := ⟨X2.out.1.xa.cell rfl, X2.out.1.a.cell rfl⟩))
    all_goals (
      have X3 := X2
      clear k0 X2 X1 HN HDr
      by_cases h0 : te = 0
      · subst h0
        rw [if_neg (fun h => h rfl)] at HR
        have n0 : w3.cell? ⟨nb, 0, none⟩ = some (.int .i64 (n : Nat)) := X3.out.1.na.cell rfl
        have n1 : w3.frozen? ⟨nb, 0, none⟩ = false := X3.out.1.na.frozen 0
        obtain ⟨n', hn'⟩ : ∃ n', n + 1 = n' := ⟨_, rfl⟩
        have q1 : IntKind.i64.wrap ((n : Int) + 1) = (n' : Int) := by rw [IntWalk.i64_in _ (by omega)]; omega
        rw [hn'] at HR
        have HE : Hid (Kt O w0 (w3.setCell ⟨nb, 0, none⟩ (.int .i64 (n' : Nat))) vb p m kb xb nb kl td n' ∧ ∀ B v l, Own strSh W B v l → Own strSh (w3.setCell ⟨nb, 0, none⟩ (.int .i64 (n' : Nat))) B v l) := by
          obtain ⟨g1, g2⟩ := X3.out.1.count n'
          exact ⟨g1, fun B v l ho => g2 B v l (X3.out.2 B v l ho)⟩
        clear X3 hn'
        go_wp2_with fail
        go_ret
        rw [← HR.out]
        exact ⟨rfl, HE.out.1, HE.out.2⟩
      · have h0i : ¬ (te : Int) = 0 := by omega
        rw [if_pos h0] at HR
        go_wp2_with fail
        go_ret
        rw [← HR.out]
        exact ⟨rfl, X3.out.1, X3.out.2⟩)
end Go.Proofs.YtpimdbnhpbjlkaaGreatDoor.vt
/-! VtK2 -/
namespace Go.Proofs.YtpimdbnhpbjlkaaGreatDoor.vt
set_option linter.unusedVariables false
open Go.RowKit
open fl (S S_size S_append S_inj)
open rw (Arr But below_box bnext below_drew below_drewN Fr Own)
open dk (Bs File Dk PD Step Nu Inv Live turn sync read fuse crash Right count strSh)
open mp (Mp Turned kget kput kwithout KSorted)
variable {O : Bes}

theorem keep1_inv {j : Nat} {d : Dk} (h : Inv j d) (ks : List Bs) (q : Bs) (n : Nat) : Inv (j + 1) (keep1 ks q n d).2.2 := by
  have h1 := dk.inv_turn h ⟨3, vname q, []⟩ (by show 0 ≤ _; omega)
  unfold keep1
  split
  · exact h.mono (by omega)
  · split
    · exact h1
    · exact h1
theorem keep1_le (ks : List Bs) (q : Bs) (n : Nat) (d : Dk) : (keep1 ks q n d).2.1 ≤ n + 1 := by
  unfold keep1
  split
  · exact Nat.le_succ n
  · split
    · exact Nat.le_succ n
    · exact Nat.le_refl _
/-- Keep's round: behind k names nothing was refused. -/
structure RK (O : Bes) (w0 wr : World) (vb p m kb xb nb : Nat) (kl : List (Bs × Value)) (ks : List Bs) (B : Nat) (nv : Value) (ns : List Bs) (d0 : Dk) (j k : Nat) (n : Nat) (d : Dk) : Prop where
  t : Kt O w0 wr vb p m kb xb nb kl d n
  o : Own strSh wr B nv ns
  e : keepL ks (digs ns k) 0 d0 = (n, 0, d)
  i : Inv (j + k) d
  l : n ≤ k
set_option maxHeartbeats 8000000 in
set_option maxRecDepth 100000 in
theorem eachK_call {w0 w : World} {vb p m kb xb nb j : Nat} {kl : List (Bs × Value)} {d : Dk} (ks : List Bs) (hj : j ≤ 700) (hs : d.seen.length ≤ 100) (hd : Inv j d) (hk : KS kl ks) (hK : Kt O w0 w vb p m kb xb nb kl d 0) :
    Calls Tryz.prog 38 #[.pointer (some ⟨vb, 0, none⟩), .func (.func 52) #[] #[.pointer (some ⟨kb, 0, none⟩), .pointer (some ⟨xb, 0, none⟩), .pointer (some ⟨nb, 0, none⟩)]] w fun e w' => e = .returned (.int .i64 ((keepL ks (allV d.seen) 0 d).2.1 : Nat)) ∧ Kt O w0 w' vb p m kb xb nb kl (keepL ks (allV d.seen) 0 d).2.2 (keepL ks (allV d.seen) 0 d).1 := by
  have hrm := hd.rm (by omega)
  have hN := hK.vt.tell fun F hp => dk.names_any F p d (Nat.le_trans hrm.s (by decide)) (fun f hf => (hrm.r.named f hf).2) w hp
  have hns : ∀ n ∈ d.seen.map (·.1), n.length ≤ 80 := fun n hn => by
    obtain ⟨f, hf, rfl⟩ := List.mem_map.1 hn
    exact (hrm.r.named f hf).2
  have hnl : (d.seen.map (·.1)).length ≤ 100 := by rw [List.length_map]; exact hs
  have HD := Lib.hid (digs_all d.seen)
  generalize allV d.seen = av at *
  generalize d.seen.map (·.1) = ns at *
  have c0 : w.cell? ⟨vb, 0, none⟩ = some (.pointer (some ⟨p, 0, none⟩)) := hK.a.cell rfl
  have HK := Lib.hid (And.intro hK hd)
  have HNS := Lib.hid hns
  have HS := Lib.hid hk
  clear hd hrm hK hns hk hs
  obtain ⟨Z, hZ⟩ : ∃ Z, keepL ks av 0 d = Z := ⟨_, rfl⟩
  have HZ := Lib.hid hZ
  rw [hZ]
  clear hZ
  go_enter Tryz.func38, Tryz.ntmps38
  go_wp2_with fail
  refine hN.mono ?_
  clear hN c0
  rintro e w1 ⟨nv, rfl, on, b1⟩
  have R0 : Hid (RK O w0 w1 vb p m kb xb nb kl ks w.heap.size nv ns d j 0 0 d) := ⟨HK.out.1.below b1, on, rfl, HK.out.2, Nat.le_refl _⟩
  obtain ⟨na, nc, rfl⟩ : ∃ a c, nv = .slice a ns.length c := on.form
  clear on b1 HK
  go_wp2_with fail
  go_loopw [18] (fun i wr => ∃ k : Nat, i = .int .i64 (k : Nat) ∧ k ≤ ns.length ∧ Hid (∃ n d', RK O w0 wr vb p m kb xb nb kl ks w.heap.size (.slice na ns.length nc) ns d j k n d'))
    (fun i _ => ns.length - (intOf i).toNat)
  case atStart => exact ⟨0, rfl, Nat.zero_le _, _, _, R0.out⟩
  case round =>
  obtain ⟨k, rfl, hk, HI⟩ := hrel
  obtain ⟨n, d', HI⟩ := HI.out
  replace HI := Lib.hid HI
  by_cases hlt : k < ns.length
  · have hki : (k : Int) < (ns.length : Int) := by omega
    obtain ⟨b, off, c, e, hc⟩ := texts_at HI.out.o.sl hlt
    injection e with e1 e2 e3
    subst e1 e3
    have hds := digs_succ ns k hlt
    have HRest : Hid (∀ q, fileDig (ns[k]'hlt) = some q → ∃ rest, av = digs ns k ++ q :: rest) := fun q hq => by
      rw [← HD.out]
      refine ⟨(ns.drop (k + 1)).filterMap fileDig, ?_⟩
      unfold digs
      rw [List.take_length]
      conv => lhs; rw [← List.take_append_drop k ns, List.drop_eq_getElem_cons hlt]
      rw [List.filterMap_append, List.filterMap_cons, hq]
    have hnk := HNS.out _ (List.getElem_mem hlt)
    generalize ns[k]'hlt = nm at *
    have hF := dig_call nm (by omega) wr
    cases hfd : fileDig nm with
    | none =>
      rw [hfd] at hF hds
      simp only [Option.getD_none, Option.isSome_none, Option.toList_none, List.append_nil] at hF hds
      have HE : Hid (∀ W, Below wr.heap.size wr W → ∃ n d', RK O w0 W vb p m kb xb nb kl ks w.heap.size (.slice (some ⟨b, off, none⟩) ns.length nc) ns d j (k + 1) n d') := fun W kb => by
        obtain ⟨h1, h2, h3, h4, h5⟩ := HI.out
        exact ⟨n, d', h1.below kb, h2.below strSh kb, by rw [hds]; exact h3, h4.mono (by omega), by omega⟩
      clear HI hds hfd e2 HRest
      go_wp2_with fail
      refine hF.mono ?_
      clear hF hc
      rintro e w2 ⟨rfl, b2⟩
      have HE2 := Lib.hid (HE.out w2 b2)
      clear b2 HE
      go_wp2_with fail
      exact ⟨⟨k + 1, by rw [Int.natCast_add]; rfl, by omega, HE2⟩, by simp only [intOf]; omega⟩
    | some h =>
      rw [hfd] at hF hds
      simp only [Option.getD_some, Option.isSome_some, Option.toList_some] at hF hds
      obtain ⟨hnm, hhl⟩ := fileDig_some hfd
      obtain ⟨X, hX⟩ : ∃ X, keep1 ks h n d' = X := ⟨_, rfl⟩
      have HE : Hid (∀ W, Below wr.heap.size wr W → Calls Tryz.prog 52 #[.string (S h), .pointer (some ⟨kb, 0, none⟩), .pointer (some ⟨xb, 0, none⟩), .pointer (some ⟨nb, 0, none⟩)] W fun e w' => e = .returned (.int .i64 (X.1 : Nat)) ∧
          (X.1 = 0 → ∃ n d', RK O w0 w' vb p m kb xb nb kl ks w.heap.size (.slice (some ⟨b, off, none⟩) ns.length nc) ns d j (k + 1) n d') ∧ (X.1 ≠ 0 → (X.1 = Z.2.1 ∧ Kt O w0 w' vb p m kb xb nb kl Z.2.2 Z.1))) := fun W kw => by
        obtain ⟨h1, h2, h3, h4, h5⟩ := HI.out
        have hin := keep1_inv h4 ks h n
        have hle := keep1_le ks h n d'
        refine (keep1_call ks h hhl (by omega) (h4.mono (by omega)) HS.out (h1.below kw)).mono ?_
        rintro e w' ⟨rfl, g1, g2⟩
        rw [hX] at g1 hin hle ⊢
        refine ⟨rfl, fun h0 => ⟨X.2.1, X.2.2, g1, g2 _ _ _ (h2.below strSh kw), ?_, hin, by omega⟩, fun h0 => ?_⟩
        · rw [hds, keepL_append, h3, if_neg (by simp), keepL_one, hX, if_neg (by omega)]
          rfl
        · obtain ⟨rest, hr⟩ := HRest.out h hfd
          have hz := HZ.out
          rw [hr, keepL_append, h3, if_neg (by simp), keepL_one, hX, if_pos h0] at hz
          rw [← hz]
          exact ⟨rfl, g1⟩
      clear HI hds hfd e2 HRest hX hnm hhl
      go_wp2_with fail
      refine hF.mono ?_
      clear hF hc
      rintro e w2 ⟨rfl, b2⟩
      have hE := HE.out w2 b2
      clear b2 HE
      obtain ⟨xe, xn, xd⟩ := X
      simp only at hE
      go_wp2_with fail
      refine hE.mono ?_
      clear hE
      rintro e w3 ⟨rfl, r3, r4⟩
      by_cases h0 : xe = 0
      · subst h0
        have HE2 := Lib.hid (r3 rfl)
        clear r3 r4
        go_wp2_with fail
        exact ⟨⟨k + 1, by rw [Int.natCast_add]; rfl, by omega, HE2⟩, by simp only [intOf]; omega⟩
      · have h0i : ¬ (xe : Int) = 0 := by omega
        have HE2 := Lib.hid (r4 h0)
        clear r3 r4
        go_wp2_with fail
        go_ret
        exact ⟨by rw [← HE2.out.1]; rfl, HE2.out.2⟩
  obtain rfl : k = ns.length := by omega
  have hki : ¬ (ns.length : Int) < (ns.length : Int) := by omega
  have HE : Hid (Z.2.1 = 0 ∧ Kt O w0 wr vb p m kb xb nb kl Z.2.2 Z.1) := by
    obtain ⟨h1, h2, h3, h4, h5⟩ := HI.out
    rw [HD.out, HZ.out] at h3
    rw [h3]
    exact ⟨rfl, h1⟩
  clear HI R0
  go_wp2_with fail
  go_ret
  exact ⟨by rw [HE.out.1]; rfl, HE.out.2⟩
theorem keepL_inv {ks : List Bs} : ∀ (l : List Bs) {j n : Nat} {d : Dk}, Inv j d → Inv (j + l.length) (keepL ks l n d).2.2
  | [], j, n, d, h => h
  | q :: r, j, n, d, h => by
    rw [keepL_one]
    have h1 := keep1_inv h ks q n
    split
    · exact h1.mono (by simp)
    · exact (keepL_inv r h1).mono (by simp; omega)
theorem allV_len (l : List File) : (allV l).length ≤ l.length := List.length_filterMap_le _ _
theorem keepV_inv {ks : List Bs} {j : Nat} {d : Dk} (h : Inv j d) (hs : d.seen.length ≤ 100) : Inv (j + 101) (keepV d ks).2.2 := by
  have h1 := keepL_inv (ks := ks) (allV d.seen) (n := 0) h
  have h2 := allV_len d.seen
  unfold keepV
  split
  · exact (dk.inv_sync h1).mono (by omega)
  · exact h1.mono (by omega)
/-- The vault and the map, ahead of the counter. -/
structure KL (O : Bes) (w0 w W : World) (vb p m kb xb : Nat) (kl : List (Bs × Value)) (d : Dk) (v : Value) (ks : List Bs) : Prop where
  d : ∃ F, PD W F p d ∧ (∀ k, F k → w0.heap.size ≤ k) ∧ ¬ F m
  b : Below w0.heap.size w0 W
  a : Arr W vb 59 #[.pointer (some ⟨p, 0, none⟩)]
  g : w0.heap.size ≤ vb
  k : dg.Keys w0
  mm : Mp W m kl
  ka : Arr W kb 88 #[.map (some m)]
  xa : Arr W xb 31 #[.pointer (some ⟨vb, 0, none⟩)]
  mg : w0.heap.size ≤ m
  of : rw.Off m v ks
  r : rw.Sl strSh W v ks
  o : O.P W
section
variable {w0 w W W' : World} {vb p m kb xb nb : Nat} {kl kl' : List (Bs × Value)} {d d' : Dk} {n : Nat} {v : Value} {ks : List Bs}
theorem KL.turned (h : KL O w0 w W vb p m kb xb kl d v ks) (hm : Mp W' m kl') (t : Turned m W W') : KL O w0 w W' vb p m kb xb kl' d v ks := by
  have kb2 : But m W W' := ⟨t.os, t.tape, t.output, Nat.le_of_eq t.size.symm, fun k _ hk => t.block k hk⟩
  obtain ⟨F, h1, h2, h3⟩ := h.d
  have ne : ∀ {b : Nat} {t : TypeId} {cs : Array Value}, Arr W b t cs → b ≠ m := fun {b t cs} ha e => by
    obtain ⟨es, c, hb⟩ := h.mm.block
    unfold Arr at ha
    rw [e, hb] at ha
    cases ha
  refine ⟨⟨F, h1.fr (Fr.but kb2 (F := fun i => i = m) rfl) (fun i hi e => h3 (e ▸ hi)) (fun i e s hs => ?_), h2, h3⟩, h.b.trans (kb2.below h.b.size h.mg), kb2.arr h.a (ne h.a), h.g, h.k, hm, kb2.arr h.ka (ne h.ka), kb2.arr h.xa (ne h.xa), h.mg, h.of, rw.Sl.but strSh h.r kb2 h.of, O.fr h.o (Fr.but kb2 (F := fun i => i = m) rfl) fun i hi cs t f hc hT => by
    obtain ⟨es, c, hb⟩ := h.mm.block
    rw [hi, hb] at hc
    cases hc⟩
  exact ne hs e
theorem KL.count (h : KL O w0 w W vb p m kb xb kl d v ks) : Kt O w0 (W.alloc (.cells #[.int .i64 0] 3)) vb p m kb xb W.heap.size kl d 0 := by
  have k := below_box W (.cells #[.int .i64 0] 3)
  obtain ⟨F, h1, h2, h3⟩ := h.d
  exact ⟨⟨F, h1.below k, h2, h3⟩, h.b.trans (k.mono h.b.size), h.a.below k, h.g, h.k, h.mm.of (k.block m h.mm.lt), h.ka.below k, h.xa.below k, Arr.new W _ _, h.b.size, O.below h.o k⟩
end
set_option maxHeartbeats 8000000 in
set_option maxRecDepth 100000 in
theorem keep_call {w0 w : World} {vb p j : Nat} {d : Dk} (v : Value) (ks : List Bs) (hkl : ks.length ≤ 1000) (hku : ∀ k ∈ ks, k.length ≤ 1000) (hj : j ≤ 700) (hs : d.seen.length ≤ 100) (hd : Inv j d) (hV : Vo O w0 w vb p d) (hv : rw.Sl strSh w v ks) :
    Calls Tryz.prog 28 #[.pointer (some ⟨vb, 0, none⟩), v] w fun e w' => e = .returned (.tuple #[.int .i64 ((keepV d ks).1 : Nat), .int .i64 ((keepV d ks).2.1 : Nat)]) ∧ Vo O w0 w' vb p (keepV d ks).2.2 := by
  obtain ⟨va, vc, rfl⟩ : ∃ a c, v = .slice a ks.length c := by obtain ⟨a, c, e, _⟩ := hv; exact ⟨a, c, e⟩
  obtain ⟨Z, hZ⟩ : ∃ Z, keepV d ks = Z := ⟨_, rfl⟩
  rw [hZ]
  unfold keepV at hZ
  have hIL := keepL_inv (ks := ks) (allV d.seen) (n := 0) hd
  have hAL := allV_len d.seen
  have L3 : Hid (KL O w0 w (((w.alloc (.cells #[.pointer (some ⟨vb, 0, none⟩)] 31)).alloc (.map #[] 0)).alloc (.cells #[.map (some (w.heap.size + 1))] 88)) vb p (w.heap.size + 1) (w.heap.size + 2) w.heap.size [] d (.slice va ks.length vc) ks) := by
    have k1 := below_box w (.cells #[.pointer (some ⟨vb, 0, none⟩)] 31)
    have a1 := Arr.new w 31 #[.pointer (some ⟨vb, 0, none⟩)]
    have s1 : (w.alloc (.cells #[.pointer (some ⟨vb, 0, none⟩)] 31)).heap.size = w.heap.size + 1 := by simp
    generalize w.alloc (.cells #[.pointer (some ⟨vb, 0, none⟩)] 31) = w1 at *
    have k2 := below_box w1 (.map #[] 0)
    have m2 := Mp.made w1
    have s2 : (w1.alloc (.map #[] 0)).heap.size = w1.heap.size + 1 := by simp
    rw [s1] at m2
    generalize w1.alloc (.map #[] 0) = w2 at *
    have k3 := below_box w2 (.cells #[.map (some (w.heap.size + 1))] 88)
    have a3 := Arr.new w2 88 #[.map (some (w.heap.size + 1))]
    rw [show w2.heap.size = w.heap.size + 2 by omega] at a3
    have kk : Below w.heap.size w (w2.alloc (.cells #[.map (some (w.heap.size + 1))] 88)) := (k1.trans (k2.mono k1.size)).trans (k3.mono (Nat.le_trans k1.size k2.size))
    obtain ⟨F, h1, h2, h3⟩ := hV.l
    have hw := h3.size
    exact ⟨⟨F, h1.below kk, h2, fun hF => by have := h1.lt hF; omega⟩, h3.trans (kk.mono h3.size), hV.a.below kk, hV.g, hV.k, m2.of (k3.block _ m2.lt), a3, ((a1.below k2).below k3), by omega, rw.Off.new strSh hv (by omega), rw.Sl.later strSh hv kk, O.below hV.o kk⟩
  have HI := Lib.hid (And.intro hku (And.intro hd (And.intro hIL hAL)))
  have HZ := Lib.hid hZ
  clear hV hd hv hku hIL hAL hZ
  obtain ⟨xb, hxb⟩ : ∃ xb, w.heap.size = xb := ⟨_, rfl⟩
  rw [hxb] at L3
  change Hid (KL O w0 w (((w.alloc (.cells #[.pointer (some ⟨vb, 0, none⟩)] 31)).alloc (.map #[] 0)).alloc (.cells #[.map (some (xb + 1))] 88)) vb p (xb + 1) (xb + 1 + 1) xb [] d (.slice va ks.length vc) ks) at L3
  have hmm := @run_makeMap Tryz.prog
  go_enter Tryz.func28, Tryz.ntmps28
  go_upto_region 2 with (fail)
  clear hmm hxb
  generalize ((w.alloc (.cells #[.pointer (some ⟨vb, 0, none⟩)] 31)).alloc (.map #[] 0)).alloc (.cells #[.map (some (xb + 1))] 88) = w3 at *
  generalize xb + 1 + 1 = kb at *
  generalize xb + 1 = m at *
  go_wp2_with fail
  go_loopw [14] (fun i wr => ∃ k : Nat, i = .int .i64 (k : Nat) ∧ k ≤ ks.length ∧ Hid (∃ kl, KL O w0 w wr vb p m kb xb kl d (.slice va ks.length vc) ks ∧ KS kl (ks.take k)))
    (fun i _ => ks.length - (intOf i).toNat)
  case atStart => exact ⟨0, rfl, Nat.zero_le _, [], L3.out, KS.nil⟩
  case round =>
  obtain ⟨k, rfl, hk, HI2⟩ := hrel
  obtain ⟨kl, HI2⟩ := HI2.out
  replace HI2 := Lib.hid HI2
  by_cases hlt : k < ks.length
  · have hki : (k : Int) < (ks.length : Int) := by omega
    obtain ⟨b, off, c, e, hc⟩ := texts_at HI2.out.1.r hlt
    injection e with e1 e2 e3
    subst e1 e3
    have hku := HI.out.1 _ (List.getElem_mem hlt)
    have htk : ks.take (k + 1) = ks.take k ++ [ks[k]'hlt] := List.take_succ_eq_append_getElem hlt
    generalize ks[k]'hlt = q at *
    have c1 : wr.cell? ⟨kb, 0, none⟩ = some (.map (some m)) := HI2.out.1.ka.cell rfl
    obtain ⟨w4, hup, hm4, ht⟩ := HI2.out.1.mm.store und_m q (by unfold maxLen; omega) (by have := HI2.out.2.n; rw [List.length_take] at this; unfold maxLen; omega) (.agg #[])
    have HE : Hid (∃ kl, KL O w0 w w4 vb p m kb xb kl d (.slice (some ⟨b, off, none⟩) ks.length vc) ks ∧ KS kl (ks.take (k + 1))) := ⟨_, HI2.out.1.turned hm4 ht, by rw [htk]; exact HI2.out.2.put HI2.out.1.mm.2 q⟩
    have HU := Lib.hid hup
    clear HI2 hm4 ht hup htk e2
    go_wp2_with (first | (refine dk.wpList_update_at _ _ _ _ rfl rfl _ _ _ _ rfl rfl rfl HU.out ?_) | fail)
    exact ⟨⟨k + 1, by rw [Int.natCast_add]; rfl, by omega, HE⟩, by simp only [intOf]; omega⟩
  obtain rfl : k = ks.length := by omega
  have hki : ¬ (ks.length : Int) < (ks.length : Int) := by omega
  have hKS := HI2.out.2
  rw [List.take_length] at hKS
  have HT := Lib.hid HI2.out.1.count
  have hE := eachK_call ks hj hs HI.out.2.1 hKS HT.out
  have HI3 : Hid (Inv 900 (keepL ks (allV d.seen) 0 d).2.2) := HI.out.2.2.1.mono (by have := HI.out.2.2.2; omega)
  have c1 : (wr.alloc (.cells #[.int .i64 0] 3)).cell? ⟨xb, 0, none⟩ = some (.pointer (some ⟨vb, 0, none⟩)) := HT.out.xa.cell rfl
  have HZ2 := HZ
  generalize keepL ks (allV d.seen) 0 d = X at *
  obtain ⟨xn, xe, xd⟩ := X
  simp only at hE HI3 HZ2
  clear HI2 hKS HT HZ HI L3
  obtain ⟨nb, hnb⟩ : ∃ nb, wr.heap.size = nb := ⟨_, rfl⟩
  rw [hnb] at hE
  go_wp2_with fail
  refine hE.mono ?_
  clear hE c1
  rintro e w5 ⟨rfl, t5⟩
  have T5 := Lib.hid t5
  have c2 : w5.cell? ⟨nb, 0, none⟩ = some (.int .i64 (xn : Nat)) := t5.na.cell rfl
  have c3 : w5.cell? ⟨xb, 0, none⟩ = some (.pointer (some ⟨vb, 0, none⟩)) := t5.xa.cell rfl
  have c4 : w5.cell? ⟨vb, 0, none⟩ = some (.pointer (some ⟨p, 0, none⟩)) := t5.a.cell rfl
  clear t5
  by_cases h1 : xe = 0
  · subst h1
    by_cases h2 : 0 < xn
    · have h2i : (xn : Int) > 0 := by omega
      have HZ3 := HZ2.out
      rw [if_pos ⟨rfl, h2⟩] at HZ3
      have HZ4 := Lib.hid HZ3
      have hS : Calls Tryz.prog 43 #[.pointer (some ⟨p, 0, none⟩)] w5 fun e w' => e = .returned (.int .i64 ((sync xd).1 : Nat)) ∧ (∃ kl, Kt O w0 w' vb p m kb xb nb kl (sync xd).2 xn) := by
        obtain ⟨F, f1, f2, f3⟩ := T5.out.d
        have hr := (HI3.out.mono (by decide : 900 ≤ 990)).rm (by decide)
        refine (dk.psync_any F p xd hr.r (Nat.le_trans hr.l (by decide)) (Nat.le_trans hr.p (by decide)) w5 f1).mono ?_
        rintro e w' ⟨rfl, s⟩
        exact ⟨rfl, kl, (T5.out.step f1 f2 f3 s).1⟩
      clear HZ2 HZ3 T5
      generalize sync xd = Y at *
      obtain ⟨ye, yd⟩ := Y
      simp only at hS HZ4
      go_wp2_with fail
      refine hS.mono ?_
      clear hS c2 c3 c4
      rintro e w6 ⟨rfl, kl6, t6⟩
      have T6 := Lib.hid t6
      have c2 : w6.cell? ⟨nb, 0, none⟩ = some (.int .i64 (xn : Nat)) := t6.na.cell rfl
      clear t6
      go_wp2_with fail
      go_ret2
      rw [← HZ4.out]
      exact ⟨rfl, T6.out.vt⟩
    · have h2i : ¬ (xn : Int) > 0 := by omega
      have HZ3 := HZ2.out
      rw [if_neg (fun h => h2 h.2)] at HZ3
      have HZ4 := Lib.hid HZ3
      clear HZ2 HZ3
      go_wp2_with fail
      go_ret2
      rw [← HZ4.out]
      exact ⟨rfl, T5.out.vt⟩
  · have h1i : ¬ (xe : Int) = 0 := by omega
    have HZ3 := HZ2.out
    rw [if_neg (fun h => h1 h.1)] at HZ3
    have HZ4 := Lib.hid HZ3
    clear HZ2 HZ3
    go_wp2_with fail
    go_ret2
    rw [← HZ4.out]
    exact ⟨rfl, T5.out.vt⟩
end Go.Proofs.YtpimdbnhpbjlkaaGreatDoor.vt
/-! VtL2 -/
namespace Go.Proofs.YtpimdbnhpbjlkaaGreatDoor.vt
set_option linter.unusedVariables false
open Go.RowKit
open fl (S S_size S_append S_inj)
open rw (Arr But below_box bnext below_drew below_drewN Fr Own)
open dk (Bs File Dk PD Step Nu Inv Live turn sync read fuse crash Right count strSh get used)

theorem abc_hex : S (dg.hex (dg.sum dg.abc)) = ⟨#[98, 97, 55, 56, 49, 54, 98, 102, 56, 102, 48, 49, 99, 102, 101, 97, 52, 49, 52, 49, 52, 48, 100, 101, 53, 100, 97, 101, 50, 50, 50, 51, 98, 48, 48, 51, 54, 49, 97, 51, 57, 54, 49, 55, 55, 97, 57, 99, 98, 52, 49, 48, 102, 102, 54, 49, 102, 50, 48, 48, 49, 53, 97, 100]⟩ := by rw [dg.abc_sum]; rfl
theorem getV_small {d : Dk} (hd : Right d) (h : Bs) : (getV d h).1.length ≤ 1048576 := by
  unfold getV
  split
  · exact Nat.zero_le _
  · split
    · exact Nat.zero_le _
    · split
      · exact Nat.zero_le _
      · exact read_small hd _
theorem put_nil (f : File) : dk.put [] f = [f] := rfl
theorem alive_gen (s q : Bs) (hq : dg.sum s = q) (hs : s.length ≤ 90) : ∃ D1, putV (dk.fresh 100) s = (q, 0, D1) ∧ getV D1 q = (s, 0) ∧ (allV D1.seen).length = 1 ∧ Inv 2 D1 ∧ q.length = 32 := by
  have hi0 : Inv 0 (dk.fresh 100) := dk.inv_fresh (by decide)
  obtain ⟨D1, hP1, hD1⟩ := putV_did (d := dk.fresh 100) hi0.r rfl s (by omega) (by show 0 + s.length ≤ 100; omega)
  have hi1 : Inv 2 D1 := by
    have := putV_inv hi0 s (by omega)
    rw [hP1] at this
    exact this
  have hG1 : getV D1 (dg.sum s) = (s, 0) := getV_some (off_no hD1.f) (hD1.get hi0.r)
  have hl := dg.sum_length s
  have hsn := hD1.seen
  rw [hq] at hP1 hG1 hl hsn
  refine ⟨D1, hP1, hG1, ?_, hi1, hl⟩
  rcases hsn with ⟨rfl, hg⟩ | ⟨e, _⟩
  · cases hg
  · rw [e]
    show (allV [(vname q, s)]).length = 1
    unfold allV
    rw [List.filterMap_cons, fileDig_name hl]
    rfl
theorem alive_facts : ∃ q D1, putV (dk.fresh 100) dg.abc = (q, 0, D1) ∧ getV D1 q = (dg.abc, 0) ∧ (allV D1.seen).length = 1 ∧ Inv 2 D1 ∧ q.length = 32 ∧ S (dg.hex q) = ⟨#[98, 97, 55, 56, 49, 54, 98, 102, 56, 102, 48, 49, 99, 102, 101, 97, 52, 49, 52, 49, 52, 48, 100, 101, 53, 100, 97, 101, 50, 50, 50, 51, 98, 48, 48, 51, 54, 49, 97, 51, 57, 54, 49, 55, 55, 97, 57, 99, 98, 52, 49, 48, 102, 102, 54, 49, 102, 50, 48, 48, 49, 53, 97, 100]⟩ := by
  obtain ⟨q, hq⟩ : ∃ q, dg.sum dg.abc = q := ⟨_, rfl⟩
  have hh := abc_hex
  rw [hq] at hh
  obtain ⟨D1, h1, h2, h3, h4, h5⟩ := alive_gen dg.abc q hq (by decide)
  exact ⟨q, D1, h1, h2, h3, h4, h5, hh⟩
set_option maxHeartbeats 8000000 in
set_option maxRecDepth 100000 in
theorem alive_call (w : World) (hK : dg.Keys w) : Calls Tryz.prog 4 #[] w fun e w' => e = .returned (.bool true) ∧ Below w.heap.size w w' := by
  have hN := dk.pnew_any 100 w
  have hi0 : Inv 0 (dk.fresh 100) := dk.inv_fresh (by decide)
  obtain ⟨q, D1, hP1, hG1, hA1, hi1, hql, hh⟩ := alive_facts
  have hS : S dg.abc = ⟨#[97, 98, 99]⟩ := rfl
  have HP := Lib.hid fun vb p W (h : Vt w W vb p (dk.fresh 100)) => put_call dg.abc (hi0.mono (by decide)) h
  have HG := Lib.hid fun vb p W (h : Vt w W vb p D1) => get_call q hi1.r h
  have HH := Lib.hid fun W => hex_call q (by omega) W
  have HHs := Lib.hid fun vb p W (h : Vt w W vb p D1) => has_call q hi1.r h
  have HAl := Lib.hid fun vb p W (h : Vt w W vb p D1) => all_call (hi1.mono (by decide)) h
  rw [hP1, hS] at HP
  rw [hG1, hS] at HG
  rw [hG1] at HHs
  rw [hh] at HH
  have HKy := Lib.hid hK
  generalize allV D1.seen = al at *
  clear hi0 hi1 hP1 hG1 hS hh hK hql
  go_enter Tryz.func4, Tryz.ntmps4
  go_wp2_with fail
  refine hN.mono ?_
  clear hN
  rintro e w1 (⟨h, -, -⟩ | ⟨cap, hc, -, p, rfl, hp, hb⟩)
  · exfalso
    omega
  obtain rfl : cap = 100 := by omega
  have hO := vopen_call (Live.new (Below.refl _ _) hp hb) HKy.out
  clear hp hb hc
  go_wp2_with fail
  refine hO.mono ?_
  clear hO
  rintro e w2 ⟨vb, rfl, v2⟩
  have hPc := HP.out vb p w2 v2
  clear v2 HP
  go_wp2_with fail
  refine hPc.mono ?_
  clear hPc
  rintro e w3 ⟨rfl, v3⟩
  have V3 := Lib.hid v3
  have hGc := HG.out vb p w3 v3
  clear v3 HG
  go_wp2_with fail
  refine hGc.mono ?_
  clear hGc
  rintro e w4 ⟨rfl, b4⟩
  have V4 := Lib.hid (V3.out.below b4)
  have hHc := HH.out w4
  clear b4 V3 HH
  go_wp2_with fail
  refine hHc.mono ?_
  clear hHc
  rintro e w5 ⟨rfl, b5⟩
  have V5 := Lib.hid (V4.out.below b5)
  have hHc := HHs.out vb p w5 V5.out
  clear b5 V4 HHs
  go_wp2_with fail
  refine hHc.mono ?_
  clear hHc
  rintro e w6 ⟨rfl, b6⟩
  have V6 := Lib.hid (V5.out.below b6)
  have hAc := HAl.out vb p w6 V6.out
  clear b6 V5 HAl
  go_wp2_with fail
  refine hAc.mono ?_
  clear hAc
  rintro e w7 ⟨v, rfl, o7, b7⟩
  have B7 := Lib.hid (V6.out.below b7).since
  obtain ⟨va, vc, rfl⟩ : ∃ a c, v = .slice a al.length c := o7.form
  rw [hA1]
  clear b7 o7 V6
  go_wp2_with fail
  go_ret
  exact ⟨rfl, B7.out⟩
/-- What lies in a file named by a digest is told just if it has that digest. -/
theorem getV_file {d : Dk} (hf : d.fused = false) {h t : Bs} (hl : h.length = 32) (hg : get d.seen (vname h) = some t) : getV d h = if dg.sum t = h then (t, 0) else ([], 5) := by
  unfold getV
  rw [rd_some (off_no hf) hg, if_neg (by omega), if_neg (by simp)]
  by_cases hs : dg.sum t = h
  · rw [if_neg (fun h => h hs), if_pos hs]
  · rw [if_pos hs, if_neg hs]
end Go.Proofs.YtpimdbnhpbjlkaaGreatDoor.vt
/-! VtL5 -/
namespace Go.Proofs.YtpimdbnhpbjlkaaGreatDoor.vt
set_option linter.unusedVariables false
open Go.RowKit
open fl (S S_size S_append S_inj)
open rw (Arr But below_box bnext below_drew below_drewN Fr Own)
open dk (Bs File Dk PD Step Nu Inv Live turn sync read fuse crash Right count strSh)

set_option maxHeartbeats 4000000 in
set_option maxRecDepth 100000 in
theorem sums_call (v : Value) (l : List Bs) (hl : ∀ s ∈ l, s.length ≤ 281474976710000) (hn : l.length ≤ 1000000) (w : World) (hK : dg.Keys w) (hv : Ut w v l) : Calls Tryz.prog 29 #[v] w fun e w' => ∃ u, e = .returned u ∧ Own strSh w' w.heap.size u (l.map dg.sum) ∧ Below w.heap.size w w' := by
  obtain ⟨va, vc, rfl⟩ : ∃ a c, v = .slice a l.length c := by obtain ⟨a, c, e, _⟩ := hv; exact ⟨a, c, e⟩
  have HV := Lib.hid (And.intro hv hK)
  have HL := Lib.hid hl
  clear hv hK hl
  go_enter Tryz.func29, Tryz.ntmps29
  go_wp2_with fail
  go_loopw [3, 4] (fun u i wr => ∃ k : Nat, i = .int .i64 (k : Nat) ∧ k ≤ l.length ∧ (∃ a n c, u = .slice a n c) ∧ Hid (Own strSh wr w.heap.size u ((l.take k).map dg.sum) ∧ Below w.heap.size w wr))
    (fun _ i _ => l.length - (intOf i).toNat)
  case atStart => exact ⟨0, rfl, Nat.zero_le _, ⟨_, _, _, rfl⟩, rw.Own.nil strSh w w.heap.size, Below.refl _ _⟩
  case round =>
  obtain ⟨k, rfl, hk, ⟨ua, un, uc, rfl⟩, HI⟩ := hrel
  by_cases hlt : k < l.length
  · have hki : (k : Int) < (l.length : Int) := by omega
    obtain ⟨b, off, c, e, hc⟩ := texts_ut (HV.out.1.later HI.out.2) hlt
    injection e with e1 e2 e3
    subst e1 e3
    have hs := HL.out _ (List.getElem_mem hlt)
    have htk : l.take (k + 1) = l.take k ++ [l[k]'hlt] := List.take_succ_eq_append_getElem hlt
    generalize l[k]'hlt = x at *
    have hS := sum_call x (by omega) wr (HV.out.2.below HI.out.2 HV.out.2.pos)
    have HT : Hid ((l.take (k + 1)).map dg.sum = (l.take k).map dg.sum ++ [dg.sum x]) := Lib.hid (by rw [htk, List.map_append]; rfl)
    generalize dg.sum x = y at *
    clear htk e2
    go_wp2_with fail
    refine hS.mono ?_
    clear hS hc
    rintro e w2 ⟨rfl, b2⟩
    obtain ⟨u', w3, g3, o3, b3⟩ := rw.append_one strSh w.heap.size (.slice ua un uc) _ y (by rw [List.length_map, List.length_take]; omega) w2 (HI.out.1.below strSh b2) (Nat.le_trans HI.out.2.size b2.size)
    have HR := Lib.hid g3
    have HE : Hid (Own strSh w3 w.heap.size u' ((l.take (k + 1)).map dg.sum) ∧ Below w.heap.size w w3) := ⟨by rw [HT.out]; exact o3, (HI.out.2.trans (b2.mono HI.out.2.size)).trans b3⟩
    have hf : ∃ a n c, u' = .slice a n c := by obtain ⟨a, c, e⟩ := o3.form; exact ⟨a, _, c, e⟩
    clear g3 o3 b3 b2 HI HT
    go_wp2_with (at_builtin; refine rw.wpList_append_at _ _ _ rfl rfl _ _ _ _ rfl rfl HR.out ?_)
    exact ⟨⟨k + 1, by rw [Int.natCast_add]; rfl, by omega, hf, HE⟩, by simp only [intOf]; omega⟩
  obtain rfl : k = l.length := by omega
  have hki : ¬ (l.length : Int) < (l.length : Int) := by omega
  have HE : Hid (Own strSh wr w.heap.size (.slice ua un uc) (l.map dg.sum) ∧ Below w.heap.size w wr) := by
    have h := HI.out.1
    rw [List.take_length] at h
    exact ⟨h, HI.out.2⟩
  clear HI
  go_wp2_with fail
  go_ret
  exact ⟨_, rfl, HE.out.1, HE.out.2⟩

end Go.Proofs.YtpimdbnhpbjlkaaGreatDoor.vt
/-! VzP -/
namespace Go.Proofs.YtpimdbnhpbjlkaaGreatDoor.vt
set_option linter.unusedVariables false
open Go.RowKit
open fl (S S_size S_append S_inj)
open rw (Arr But below_box bnext below_drew below_drewN Fr Own)
open dk (Bs File Dk PD Step Nu Inv Live turn sync read fuse crash Right count strSh RefD)

/-! ### What a slice's block and a disk's blocks are not -/
theorem sl_off {α : Type} (s : rw.Sh α) {w w' : World} {v : Value} {l : List α} (h : rw.Sl s w v l) {G : Nat → Prop} (k : Fr G w w') (hG : ∀ i, G i → ∀ cs f, w.heap[i]? ≠ some (.cells cs s.t f)) : rw.Sl s w' v l := by
  obtain ⟨a, c, h1, h2, h3, h4⟩ := h
  refine ⟨a, c, h1, h2, ?_, h4⟩
  rcases h3 with h | ⟨b, off, e, hb, hc, cs, ht⟩
  · exact .inl h
  · have hn : ¬ G b := fun hk => hG b hk cs _ ht
    exact .inr ⟨b, off, e, Nat.lt_of_lt_of_le hb k.size, fun j hj i hi => (World.cell?_of_block (k.block b hb hn)).trans (hc j hj i hi), cs, (k.block b hb hn).trans ht⟩
def XT (t : TypeId) : Prop := t = 42 ∨ t = 74 ∨ t = 70
theorem refd_fr {w w' : World} {xb : Nat} {d : Dk} {G : Nat → Prop} (h : RefD w xb d) (k : Fr G w w') (hG : ∀ i, G i → ∀ cs t f, w.heap[i]? = some (.cells cs t f) → ¬ XT t) : RefD w' xb d := by
  obtain ⟨sv, lv, pv, ha, h1, h2, h3, o1, o2, o3⟩ := h.a
  exact ⟨sv, lv, pv, k.arr ha (fun hk => hG xb hk _ _ _ ha (.inl rfl)), sl_off dk.fileSh h1 k (fun i hi cs f e => hG i hi _ _ _ e (.inr (.inl rfl))), sl_off dk.fileSh h2 k (fun i hi cs f e => hG i hi _ _ _ e (.inr (.inl rfl))), sl_off dk.callSh h3 k (fun i hi cs f e => hG i hi _ _ _ e (.inr (.inr rfl))), o1, o2, o3⟩
/-- The document's disk, beside; boxes of acts. -/
def besd (bx : List (Nat × Array Value)) (xb : Nat) (d : Dk) : Bes where
  T t := XT t ∨ t = 36
  P w := RefD w xb d ∧ ∀ x ∈ bx, Arr w x.1 36 x.2
  nt := by
    intro t h
    rcases h with (rfl | rfl | rfl) | rfl <;> decide
  below h k := ⟨h.1.below k, fun x hx => (h.2 x hx).below k⟩
  fr h k hG := ⟨refd_fr h.1 k fun i hi cs t f e ht => hG i hi cs t f e (.inl ht), fun x hx => k.arr (h.2 x hx) fun hk => hG _ hk _ _ _ (h.2 x hx) (.inr rfl)⟩
/-! ### The tape -/
abbrev ret (w : World) (t : World) : World := { w with tape := t.tape }
theorem below_ret {B : Nat} {w w' : World} (h : dg.Mild B w w') : Below B w (ret w' w) := ⟨h.os, rfl, h.output, h.size, h.block⟩
theorem mild_ret {B : Nat} {w w' : World} (h : Below B w (ret w' w)) : dg.Mild B w w' := ⟨h.os, h.output, h.size, h.block⟩
theorem ret_refd {w t : World} {xb : Nat} {d : Dk} : RefD (ret w t) xb d ↔ RefD w xb d := ⟨fun h => ⟨h.a⟩, fun h => ⟨h.a⟩⟩
theorem ret_fm {w t : World} {F : Nat → Prop} {b : Nat} {l : List File} (h : dk.FM (ret w t) F b l) : dk.FM w F b l := by
  obtain ⟨fs, h1, h2, h3⟩ := h
  exact ⟨fs, ⟨h1.map, h1.own, h1.apart, h1.small⟩, h2, h3⟩
theorem ret_pd {w t : World} {F : Nat → Prop} {p : Nat} {d : Dk} (h : PD (ret w t) F p d) : PD w F p d := by
  obtain ⟨bs, bl, Fs, Fl, pv, ts, fz, h1, h2, h3, hF⟩ := h
  exact ⟨bs, bl, Fs, Fl, pv, ts, fz, ⟨h1.a, ret_fm h1.s, ret_fm h1.l, h1.o, h1.does, h1.dis⟩, h2, h3, hF⟩
theorem ret_keys {w t : World} (h : dg.Keys w) : dg.Keys (ret w t) := h
/-- All but block xb and the tape is as it was. -/
def MBut (xb : Nat) (w w' : World) : Prop := But xb w (ret w' w)
theorem MBut.refl (xb : Nat) (w : World) : MBut xb w w := But.refl xb w
theorem MBut.of {xb : Nat} {w w' : World} (h : But xb w w') : MBut xb w w' := ⟨h.os, rfl, h.output, h.size, h.block⟩
theorem MBut.mild {xb : Nat} {w w' : World} (h : dg.Mild w.heap.size w w') : MBut xb w w' := ⟨h.os, rfl, h.output, h.size, fun k hk _ => h.block k hk⟩
theorem MBut.trans {xb : Nat} {a b c : World} (h : MBut xb a b) (k : MBut xb b c) : MBut xb a c :=
  ⟨k.os.trans h.os, rfl, k.output.trans h.output, Nat.le_trans h.size k.size, fun i hi hn => (k.block i (Nat.lt_of_lt_of_le hi h.size) hn).trans (h.block i hi hn)⟩
theorem refd_mild {w w' : World} {xb : Nat} {d : Dk} (h : RefD w xb d) (k : dg.Mild w.heap.size w w') : RefD w' xb d := ret_refd.1 (h.below (below_ret k))
/-! ### Both -/
theorem pd_but {w w' : World} {F : Nat → Prop} {p xb : Nat} {d d2 : Dk} (h : PD w F p d) (hx : RefD w xb d2) (k : But xb w w') : PD w' F p d := by
  obtain ⟨sv, lv, pv, ha, _⟩ := hx.a
  refine h.fr (Fr.but (F := fun i => i = xb) k rfl) (fun i hi e => ?_) (fun i hi s hs => ?_)
  · subst e
    exact off_disk h (t := 42) (by decide) (by decide) (by decide) ha hi
  · subst hi
    unfold dk.Boxed Arr at hs
    unfold Arr at ha
    rw [ha] at hs
    cases hs
theorem Vo.but {bx : List (Nat × Array Value)} {w0 w w' : World} {vb p xb : Nat} {d d1 d2 : Dk} (h : Vo (besd bx xb d1) w0 w vb p d) (hx : w0.heap.size ≤ xb) (r : RefD w' xb d2) (k : But xb w w') : Vo (besd bx xb d2) w0 w' vb p d := by
  obtain ⟨F, h1, h2, h3⟩ := h.l
  have ho : RefD w xb d1 := h.o.1
  obtain ⟨sv, lv, pv, ha, _⟩ := ho.a
  refine ⟨⟨F, pd_but h1 ho k, h2, h3.trans (k.below h3.size hx)⟩, k.arr h.a (fun e => ?_), h.g, h.k, r, fun x hx => k.arr (h.o.2 x hx) fun e => ?_⟩
  rotate_left
  · have hv := h.o.2 x hx
    unfold Arr at hv ha
    rw [e, ha] at hv
    injection hv with g1
    injection g1 with _ g2 _
    exact absurd g2 (by decide)
  have hv := h.a
  unfold Arr at hv ha
  rw [e, ha] at hv
  injection hv with g1
  injection g1 with _ g2 _
  exact absurd g2 (by decide)
theorem Vo.retape {bx : List (Nat × Array Value)} {w0 w t : World} {vb p xb : Nat} {d d1 : Dk} (h : Vo (besd bx xb d1) w0 (ret w t) vb p d) : Vo (besd bx xb d1) (ret w0 w) w vb p d := by
  obtain ⟨F, h1, h2, h3⟩ := h.l
  exact ⟨⟨F, ret_pd h1, h2, ⟨h3.os, rfl, h3.output, h3.size, h3.block⟩⟩, h.a, h.g, ret_keys h.k, ret_refd.1 h.o.1, h.o.2⟩
/-- A vault, and the document's disk d1 beside. -/
structure Vy (bx : List (Nat × Array Value)) (w0 w : World) (vb p xb : Nat) (d d1 : Dk) : Prop where
  v : ∃ w1 : World, dg.Mild w0.heap.size w0 w1 ∧ w1.heap.size = w0.heap.size ∧ Vo (besd bx xb d1) w1 w vb p d
  x : w0.heap.size ≤ xb
section
variable {bx : List (Nat × Array Value)} {w0 w w' : World} {vb p xb : Nat} {d d' d1 d2 : Dk}
theorem Vy.m (h : Vy bx w0 w vb p xb d d1) : dg.Mild w0.heap.size w0 w := by
  obtain ⟨w1, hm, e, hv⟩ := h.v
  have := dg.Mild.of hv.since
  rw [e] at this
  exact hm.trans this
theorem Vy.refd (h : Vy bx w0 w vb p xb d d1) : RefD w xb d1 := by obtain ⟨w1, _, e, hv⟩ := h.v; exact hv.o.1
theorem Vy.keys (h : Vy bx w0 w vb p xb d d1) : dg.Keys w := by obtain ⟨w1, _, e, hv⟩ := h.v; exact hv.keys
theorem Vy.below (h : Vy bx w0 w vb p xb d d1) (k : Below w.heap.size w w') : Vy bx w0 w' vb p xb d d1 := by
  obtain ⟨w1, hm, e, hv⟩ := h.v
  exact ⟨⟨w1, hm, e, hv.below k⟩, h.x⟩
theorem Vy.arr {cb : Nat} {cs : Array Value} (h : Vy [(cb, cs)] w0 w vb p xb d d1) : Arr w cb 36 cs := by obtain ⟨w1, _, e, hv⟩ := h.v; exact hv.o.2 _ (List.mem_singleton.2 rfl)
theorem Vy.drop (h : Vy bx w0 w vb p xb d d1) : Vy [] w0 w vb p xb d d1 := by
  obtain ⟨w1, hm, e, hv⟩ := h.v
  exact ⟨⟨w1, hm, e, hv.with ⟨hv.o.1, fun x hx => by cases hx⟩⟩, h.x⟩
theorem Vy.box (h : Vy [] w0 w vb p xb d d1) (cs : Array Value) : Vy [(w.heap.size, cs)] w0 (w.alloc (.cells cs 36)) vb p xb d d1 := by
  obtain ⟨w1, hm, e, hv⟩ := h.v
  have k := below_box w (.cells cs 36)
  exact ⟨⟨w1, hm, e, (hv.below k).with ⟨(hv.below k).o.1, fun x hx => by rw [List.mem_singleton.1 hx]; exact Arr.new w _ _⟩⟩, h.x⟩
theorem Vy.step (h : Vy bx w0 w vb p xb d d1) (r : RefD w' xb d2) (k : MBut xb w w') : Vy bx w0 w' vb p xb d d2 := by
  obtain ⟨w1, hm, e1, hv⟩ := h.v
  exact ⟨⟨ret w1 w', ⟨hm.os, hm.output, hm.size, hm.block⟩, e1, (hv.but (e1 ▸ h.x) (ret_refd.2 r) k).retape⟩, h.x⟩
theorem Vy.mild (h : Vy bx w0 w vb p xb d d1) (k : dg.Mild w.heap.size w w') : Vy bx w0 w' vb p xb d d1 := h.step (refd_mild h.refd k) (MBut.mild k)
/-- A call of the document's. -/
theorem Vy.ref {P : Program} {f : Nat} {args : Array Value} {E : Ending} (h : Vy bx w0 w vb p xb d d1) (C : Calls P f args w fun e w' => e = E ∧ RefD w' xb d2 ∧ MBut xb w w') : Calls P f args w fun e w' => e = E ∧ Vy bx w0 w' vb p xb d d2 := by
  refine C.mono ?_
  rintro e w' ⟨he, r, k⟩
  exact ⟨he, h.step r k⟩
/-- A call of the program's. -/
theorem Vy.prog {P : Program} {f : Nat} {args : Array Value} {E : Ending} (h : Vy bx w0 w vb p xb d d1) (C : ∀ w1, Vo (besd bx xb d1) w1 w vb p d → Calls P f args w fun e w' => e = E ∧ Vo (besd bx xb d1) w1 w' vb p d') : Calls P f args w fun e w' => e = E ∧ Vy bx w0 w' vb p xb d' d1 := by
  obtain ⟨w1, hm, e1, hv⟩ := h.v
  refine (C w1 hv).mono ?_
  rintro e w' ⟨he, hv'⟩
  exact ⟨he, ⟨w1, hm, e1, hv'⟩, h.x⟩
theorem Vy.tell {P : Program} {f : Nat} {args : Array Value} {R : Ending → World → Prop} (h : Vy bx w0 w vb p xb d d1) (C : ∀ w1, Vo (besd bx xb d1) w1 w vb p d → Calls P f args w R) : Calls P f args w R := by
  obtain ⟨w1, hm, e1, hv⟩ := h.v
  exact C w1 hv
end
end Go.Proofs.YtpimdbnhpbjlkaaGreatDoor.vt
/-! VzR1 -/
namespace Go.Proofs.YtpimdbnhpbjlkaaGreatDoor.vt
set_option linter.unusedVariables false
open Go.RowKit
open fl (S S_size S_append S_inj)
open rw (Arr But below_box bnext below_drew below_drewN Fr Own)
open dk (Bs File Dk PD Step Nu Inv Live turn sync read fuse crash Right count strSh RefD)

theorem fit_of {j : Nat} {d : Dk} (h : Inv j d) (hj : j ≤ 1000) : dk.Fit d := by
  have rm := h.rm hj
  exact ⟨⟨Nat.le_trans rm.s (by decide), Nat.le_trans rm.l (by decide), Nat.le_trans rm.p (by decide)⟩, h.s, fun hf => ⟨by have := h.f hf; omega, (h.f hf).2⟩⟩
theorem used_after {l : List File} (h : dk.Sorted l) (c : dk.Call) : dk.used (dk.after l c) ≤ dk.used l + c.s.length := by
  have hp : ∀ s, dk.used (dk.put l (c.name, s)) ≤ dk.used l + s.length := fun s => by have := dk.used_put h (c.name, s); simp only at this; omega
  unfold dk.after
  split
  · exact hp c.s
  · unfold dk.done
    split
    · omega
    · split
      · have h1 := dk.used_put h (c.name, (dk.get l c.name).getD [] ++ c.s.take (dk.steps c))
        simp only [List.length_append, List.length_take] at h1
        omega
      · first | (split; exact hp c.s; have := dk.used_without_le h c.name; omega) | (have := dk.used_without_le h c.name; omega)
theorem rturn_call {xb j : Nat} {d : Dk} (c : dk.Call) (hi : Inv j d) (hj : j ≤ 1000) (hk : c.kind = 1 ∨ c.kind = 2 ∨ c.kind = 3) (hs : c.s.length ≤ 140737488355328) (w : World) (h : RefD w xb d) :
    Calls Tryz.prog 32 #[.pointer (some ⟨xb, 0, none⟩), .agg #[.int .i64 (c.kind : Nat), .string (S c.name), .string (S c.s)]] w fun e w' => e = .returned (.int .i64 ((turn d c).1 : Nat)) ∧ RefD w' xb (turn d c).2 ∧ MBut xb w w' := by
  have hu := hi.r.used
  have hc := hi.r.cap
  refine (dk.refturn_any xb d c (fit_of hi hj) hk hs ?_ ?_ w h).mono ?_
  · exact Nat.le_trans (dk.bytes_get (dk.bytes_of_used hu) _) (by omega)
  · have := used_after hi.r.sorted c
    omega
  · rintro e w' ⟨he, r, k⟩
    exact ⟨he, r, MBut.of k⟩
theorem rsync_call {xb j : Nat} {d : Dk} (hi : Inv j d) (hj : j ≤ 1000) (w : World) (h : RefD w xb d) :
    Calls Tryz.prog 48 #[.pointer (some ⟨xb, 0, none⟩)] w fun e w' => e = .returned (.int .i64 ((sync d).1 : Nat)) ∧ RefD w' xb (sync d).2 ∧ MBut xb w w' := by
  refine (dk.refsync_any xb d (fit_of hi hj) w h).mono ?_
  rintro e w' ⟨he, r, k⟩
  exact ⟨he, r, MBut.of k⟩
theorem rsum_call (l : Bs) (hl : l.length ≤ 140737488351232) (w : World) : Calls Tryz.prog 45 #[.string (S l)] w fun e w' => e = .returned (.string (S (dg.sum l))) ∧ dg.Mild w.heap.size w w' := dg.refsum_any l hl w
theorem rhex_call (l : Bs) (hl : l.length ≤ 35184372088832) (w : World) : Calls Tryz.prog 70 #[.string (S l)] w fun e w' => e = .returned (.string (S (dg.hex l))) ∧ Below w.heap.size w w' := dg.refhex_any l hl w
theorem rname_call (h : Bs) (hl : h.length ≤ 1000000) (w : World) : Calls Tryz.prog 47 #[.string (S h)] w fun e w' => e = .returned (.string (S (vname h))) ∧ Below w.heap.size w w' := by
  have hH := rhex_call h (by omega) w
  have hz : (dg.hex h).length ≤ 2000000 := by rw [dg.hex_length]; omega
  have hS : (⟨#[98]⟩ : ByteArray) ++ S (dg.hex h) = S (vname h) := by
    show S [98] ++ S (dg.hex h) = _
    rw [S_append]; rfl
  have hs := S_size (dg.hex h)
  generalize dg.hex h = x at *
  go_enter Tryz.func47, Tryz.ntmps47
  go_wp2_with fail
  refine hH.mono ?_
  clear hH
  rintro e w2 ⟨rfl, b2⟩
  have B2 := Lib.hid b2
  clear b2
  go_wp2_with fail
  go_ret
  exact ⟨rfl, B2.out⟩
set_option maxHeartbeats 4000000 in
set_option maxRecDepth 100000 in
theorem rput_call {xb : Nat} {d : Dk} (s : Bs) (hsz : s.length ≤ 140737488351232) (hd : Inv 900 d) (w : World) (h : RefD w xb d) :
    Calls Tryz.prog 25 #[.pointer (some ⟨xb, 0, none⟩), .string (S s)] w fun e w' => e = .returned (.tuple #[.string (S (putV d s).1), .int .i64 ((putV d s).2.1 : Nat)]) ∧ RefD w' xb (putV d s).2.2 ∧ MBut xb w w' := by
  obtain ⟨R, hR⟩ : ∃ R, putV d s = R := ⟨_, rfl⟩
  rw [hR]
  unfold putV at hR
  have hz := S_size s
  by_cases hl : 4096 < s.length
  · rw [if_pos hl] at hR
    have hR := Lib.hid hR
    have hli : ((S s).size : Int) > 4096 := by omega
    have H0 := Lib.hid h
    clear h
    go_enter Tryz.func25, Tryz.ntmps25
    go_wp2_with fail
    go_ret2
    rw [← hR.out]
    exact ⟨rfl, H0.out, MBut.refl _ _⟩
  · rw [if_neg hl] at hR
    have hli : ¬ ((S s).size : Int) > 4096 := by omega
    have hs1 := rsum_call s (by omega) w
    have hsl : (dg.sum s).length = 32 := dg.sum_length s
    generalize dg.sum s = q at *
    have HR := Lib.hid hR
    have HV := Lib.hid h
    have HI := Lib.hid hd
    have HNm := Lib.hid fun W => rname_call q (by omega) W
    have hnl := vname_len hsl
    generalize vname q = n at *
    have HRd := Lib.hid fun W (hW : RefD W xb d) => dk.refread_any xb d n (fit_of hd (by decide)) W hW
    have HTu := Lib.hid fun W (hW : RefD W xb d) => rturn_call ⟨2, n, s⟩ hd (by decide) (.inr (.inl rfl)) (by show s.length ≤ _; omega) W hW
    have HI2 := dk.inv_turn hd ⟨2, n, s⟩ (by show s.length ≤ _; omega)
    have hq1 := S_beq (read d n).1 s
    obtain ⟨rs, hrs⟩ : ∃ r, (read d n).1 = r := ⟨_, rfl⟩
    obtain ⟨re, hre⟩ : ∃ r, (read d n).2 = r := ⟨_, rfl⟩
    rw [hrs] at hq1
    rw [hrs, hre] at HRd HR
    clear hrs hre
    generalize turn d ⟨2, n, s⟩ = T at *
    obtain ⟨te, td⟩ := T
    simp only at HR HTu HI2
    have HSy := Lib.hid fun W (hW : RefD W xb td) => rsync_call HI2 (by decide) W hW
    generalize sync td = U at *
    obtain ⟨ue, ud⟩ := U
    simp only at HR HSy
    clear hR h hd HI2
    go_enter Tryz.func25, Tryz.ntmps25
    go_wp2_with fail
    refine hs1.mono ?_
    clear hs1
    rintro e w2 ⟨rfl, m2⟩
    have V2 : Hid (RefD w2 xb d ∧ MBut xb w w2) := ⟨refd_mild HV.out m2, MBut.mild m2⟩
    have hn := HNm.out w2
    clear m2 HV
    go_wp2_with fail
    refine hn.mono ?_
    clear hn
    rintro e w3 ⟨rfl, b3⟩
    have V3 : Hid (RefD w3 xb d ∧ MBut xb w w3) := ⟨V2.out.1.below b3, V2.out.2.trans (MBut.of (But.of_below b3))⟩
    have hr := HRd.out w3 V3.out.1
    clear b3 V2
    go_wp2_with fail
    refine hr.mono ?_
    clear hr HRd
    rintro e w4 ⟨rfl, rfl⟩
    by_cases c : re = 0 ∧ rs = s
    · obtain ⟨rfl, rfl⟩ := c
      have HE : Hid ((q, 0, d) = R) := by
        have h := HR.out
        rw [if_pos ⟨rfl, rfl⟩] at h
        exact h
      rw [decide_eq_true rfl] at hq1
      clear HR HTu HSy
      go_wp2_with fail
      go_ret2
      rw [← HE.out]
      exact ⟨rfl, V3.out⟩
    · rw [if_neg c] at HR
      have hcb : Hid (re = 0 → ¬ rs = s) := fun h1 h2 => c ⟨h1, h2⟩
      have HC2 : Hid ((re = 0 ∧ ((S rs).toList == (S s).toList) = false) ∨ ¬ (re : Int) = 0) := by
        by_cases h0 : re = 0
        · exact .inl ⟨h0, by rw [hq1, decide_eq_false (hcb.out h0)]⟩
        · exact .inr (by omega)
      clear c hcb hq1 HI
      have hn := HNm.out w4
      rcases HC2.out with ⟨h0, hb⟩ | h0
      rotate_left
      all_goals (
        first | (subst h0; clear HC2) | clear HC2
        go_wp2_with fail
        refine hn.mono ?_
        clear hn HNm
        rintro e w5 ⟨rfl, b5⟩
        have V5 : Hid (RefD w5 xb d ∧ MBut xb w w5) := ⟨V3.out.1.below b5, V3.out.2.trans (MBut.of (But.of_below b5))⟩
        have hT := HTu.out w5 V5.out.1
        clear b5 V3 HTu
        go_wp2_with fail
        refine hT.mono ?_
        clear hT
        rintro e w6 ⟨rfl, r6, k6⟩
        have V6 : Hid (RefD w6 xb td ∧ MBut xb w w6) := ⟨r6, V5.out.2.trans k6⟩
        have hS := HSy.out w6 V6.out.1
        clear r6 k6 V5 HSy
        by_cases ht : te = 0
        · subst ht
          rw [if_neg (fun h => h rfl)] at HR
          go_wp2_with fail
          refine hS.mono ?_
          clear hS
          rintro e w7 ⟨rfl, r7, k7⟩
          have V7 : Hid (RefD w7 xb ud ∧ MBut xb w w7) := ⟨r7, V6.out.2.trans k7⟩
          clear r7 k7 V6
          by_cases hu : ue = 0
          · subst hu
            rw [if_neg (fun h => h rfl)] at HR
            go_wp2_with fail
            go_ret2
            rw [← HR.out]
            exact ⟨rfl, V7.out⟩
          · have hui : ¬ (ue : Int) = 0 := by omega
            rw [if_pos hu] at HR
            go_wp2_with fail
            go_ret2
            rw [← HR.out]
            exact ⟨rfl, V7.out⟩
        · have hti : ¬ (te : Int) = 0 := by omega
          rw [if_pos ht] at HR
          clear hS
          go_wp2_with fail
          go_ret2
          rw [← HR.out]
          exact ⟨rfl, V6.out⟩)
set_option maxHeartbeats 4000000 in
set_option maxRecDepth 100000 in
theorem rget_call {xb : Nat} {d : Dk} (q : Bs) (hd : Inv 1000 d) (w : World) (h : RefD w xb d) :
    Calls Tryz.prog 27 #[.pointer (some ⟨xb, 0, none⟩), .string (S q)] w fun e w' => e = .returned (.tuple #[.string (S (getV d q).1), .int .i64 ((getV d q).2 : Nat)]) ∧ RefD w' xb d ∧ MBut xb w w' := by
  obtain ⟨R, hR⟩ : ∃ R, getV d q = R := ⟨_, rfl⟩
  rw [hR]
  unfold getV at hR
  have hz := S_size q
  have HV := Lib.hid h
  by_cases hl : q.length ≠ 32
  · rw [if_pos hl] at hR
    have hR := Lib.hid hR
    have hli : ¬ ((S q).size : Int) = 32 := by omega
    clear h
    go_enter Tryz.func27, Tryz.ntmps27
    go_wp2_with fail
    go_ret2
    rw [← hR.out]
    exact ⟨rfl, HV.out, MBut.refl _ _⟩
  · rw [if_neg hl] at hR
    have hl2 : q.length = 32 := Decidable.not_not.1 hl
    have hli : ((S q).size : Int) = 32 := by omega
    have hn := rname_call q (by omega) w
    have hsm := read_small hd.r (vname q)
    have HRd := Lib.hid fun W (hW : RefD W xb d) => dk.refread_any xb d (vname q) (fit_of hd (by decide)) W hW
    generalize vname q = n at *
    generalize read d n = X at *
    obtain ⟨rs, re⟩ := X
    simp only at hR HRd hsm
    have HR := Lib.hid hR
    clear hR h hl hd
    go_enter Tryz.func27, Tryz.ntmps27
    go_wp2_with fail
    refine hn.mono ?_
    clear hn
    rintro e w3 ⟨rfl, b3⟩
    have V3 : Hid (RefD w3 xb d ∧ MBut xb w w3) := ⟨HV.out.below b3, MBut.of (But.of_below b3)⟩
    have hr := HRd.out w3 V3.out.1
    clear b3 HV HRd
    go_wp2_with fail
    refine hr.mono ?_
    clear hr
    rintro e w4 ⟨rfl, rfl⟩
    by_cases h0 : re = 0
    · subst h0
      rw [if_neg (fun h => h rfl)] at HR
      have hS := rsum_call rs (by omega) w4
      have hq := S_beq (dg.sum rs) q
      generalize dg.sum rs = y at *
      go_wp2_with fail
      refine hS.mono ?_
      clear hS
      rintro e w5 ⟨rfl, m5⟩
      have V5 : Hid (RefD w5 xb d ∧ MBut xb w w5) := ⟨refd_mild V3.out.1 m5, V3.out.2.trans (MBut.mild m5)⟩
      clear m5 V3
      by_cases hy : y = q
      · subst hy
        rw [if_neg (fun h => h rfl)] at HR
        rw [decide_eq_true rfl] at hq
        go_wp2_with fail
        go_ret2
        rw [← HR.out]
        exact ⟨rfl, V5.out⟩
      · rw [if_pos hy] at HR
        rw [decide_eq_false hy] at hq
        go_wp2_with fail
        go_ret2
        rw [← HR.out]
        exact ⟨rfl, V5.out⟩
    · have h0i : ¬ (re : Int) = 0 := by omega
      rw [if_pos h0] at HR
      go_wp2_with fail
      go_ret2
      rw [← HR.out]
      exact ⟨rfl, V3.out⟩
end Go.Proofs.YtpimdbnhpbjlkaaGreatDoor.vt
/-! VzR2 -/
namespace Go.Proofs.YtpimdbnhpbjlkaaGreatDoor.vt
set_option linter.unusedVariables false
open Go.RowKit
open fl (S S_size S_append S_inj)
open rw (Arr But below_box bnext below_drew below_drewN Fr Own)
open dk (Bs File Dk PD Step Nu Inv Live turn sync read fuse crash Right count strSh RefD)

theorem fileDig_no {n : Bs} (h : n.length ≠ 65) : fileDig n = none := by
  rw [fileDig_eq, if_neg]
  rintro ⟨h1, h2, _⟩
  rw [List.length_tail] at h2
  omega
theorem fileDig_no2 {c : UInt8} {r : Bs} (h : c.toNat ≠ 98) : fileDig (c :: r) = none := by
  rw [fileDig_eq, if_neg]
  rintro ⟨h1, _⟩
  apply h
  have : c = 98 := Option.some.inj h1
  rw [this]; rfl
theorem fileDig_yes {c : UInt8} {r : Bs} (hc : c.toNat = 98) (h : r.length = 64) : (fileDig (c :: r)).toList = if dg.good r = true then [dg.unhex r] else [] := by
  have e : c = 98 := UInt8.toNat_inj.1 hc
  subst e
  rw [fileDig_eq]
  unfold dg.unhex
  by_cases hg : dg.good r = true
  · rw [if_pos ⟨rfl, h, hg⟩, if_pos hg, if_pos hg]; rfl
  · rw [if_neg (fun k => hg k.2.2), if_neg hg]; rfl
theorem unhex_ref (r : Bs) (hl : r.length ≤ 268435456) (w : World) : Calls Tryz.prog 40 #[.string (S r)] w fun e w' => e = .returned (.tuple #[.string (S (dg.unhex r)), .bool (dg.good r)]) ∧ Below w.heap.size w w' := by
  have h := dg.refunhex_any r hl w
  have e := dg.ref_unhex r
  rw [e.1, e.2] at h
  exact h
set_option maxHeartbeats 8000000 in
set_option maxRecDepth 100000 in
theorem rall_call {xb : Nat} {d : Dk} (hi : Inv 1000 d) (w : World) (h : RefD w xb d) :
    Calls Tryz.prog 18 #[.pointer (some ⟨xb, 0, none⟩)] w fun e w' => ∃ v, e = .returned v ∧ Own strSh w' w.heap.size v (allV d.seen) ∧ Below w.heap.size w w' := by
  obtain ⟨sv, lv, pv, ha, hs, _⟩ := h.a
  obtain ⟨sa, sc, rfl, _, hr, _⟩ := hs
  have hns : ∀ f ∈ d.seen, f.1.length ≤ 80 := fun f hf => (hi.r.named f hf).2
  have hl : d.seen.length ≤ 1000 := (hi.rm (by decide)).s
  have HD := Lib.hid (digs_all d.seen)
  have HA := Lib.hid (And.intro ha hr)
  have HNS := Lib.hid hns
  clear ha hr hns h hi
  generalize allV d.seen = av at *
  generalize d.seen = l at *
  go_enter Tryz.func18, Tryz.ntmps18
  go_wp2_with fail
  go_loopw [3, 4] (fun u i wr => ∃ k : Nat, i = .int .i64 (k : Nat) ∧ k ≤ l.length ∧ (∃ a n c, u = .slice a n c) ∧ Hid (Own strSh wr w.heap.size u (digs (l.map (·.1)) k) ∧ Below w.heap.size w wr))
    (fun _ i _ => l.length - (intOf i).toNat)
  case atStart => exact ⟨0, rfl, Nat.zero_le _, ⟨_, _, _, rfl⟩, rw.Own.nil strSh w w.heap.size, Below.refl _ _⟩
  case round =>
  obtain ⟨k, rfl, hk, ⟨ua, un, uc, rfl⟩, HI⟩ := hrel
  have c1 : wr.cell? ⟨xb, 1, none⟩ = some (.slice sa l.length sc) := (HA.out.1.below HI.out.2).cell rfl
  by_cases hlt : k < l.length
  · have hki : (k : Int) < (l.length : Int) := by omega
    obtain ⟨b, off, rfl, hb2, c2, -⟩ := dk.slF_at (HA.out.2.keep _ HI.out.2.size (fun b _ _ h => HI.out.2.block b h)) hlt
    have hds := digs_succ (l.map (·.1)) k (by rw [List.length_map]; exact hlt)
    rw [List.getElem_map] at hds
    have hdl := digs_len (l.map (·.1)) k
    rw [List.length_map] at hdl
    have hn := HNS.out _ (List.getElem_mem hlt)
    generalize (l[k]'hlt).1 = n at *
    have hz := S_size n
    clear hb2
    by_cases h65 : n.length = 65
    rotate_left
    · have hzi : ¬ ((S n).size : Int) = 65 := by omega
      have HE : Hid (Own strSh wr w.heap.size (.slice ua un uc) (digs (l.map (·.1)) (k + 1)) ∧ Below w.heap.size w wr) := by
        refine Lib.hid ?_
        rw [hds, fileDig_no h65]
        simpa using HI.out
      clear HI hds hz hdl
      go_wp2_with fail
      exact ⟨⟨k + 1, by rw [Int.natCast_add]; rfl, by omega, ⟨_, _, _, rfl⟩, HE⟩, by simp only [intOf]; omega⟩
    · have hzi : ((S n).size : Int) = 65 := by omega
      obtain ⟨c, r, rfl⟩ : ∃ c r, n = c :: r := by
        cases n with
        | nil => cases h65
        | cons c r => exact ⟨c, r, rfl⟩
      have hrl : r.length = 64 := by simpa using h65
      have h0' : 0 < (S (c :: r)).size := by omega
      have hx0 : ((S (c :: r))[0]'h0').toNat = c.toNat := rfl
      have hlt0 : (0 : Int) < ((S (c :: r)).size : Int) := by omega
      by_cases hc : c.toNat = 98
      rotate_left
      · have HE : Hid (Own strSh wr w.heap.size (.slice ua un uc) (digs (l.map (·.1)) (k + 1)) ∧ Below w.heap.size w wr) := by
          refine Lib.hid ?_
          rw [hds, fileDig_no2 hc]
          simpa using HI.out
        obtain ⟨x0, hx1⟩ : ∃ x, c.toNat = x := ⟨_, rfl⟩
        rw [hx1] at hx0 hc
        have hci : ¬ (x0 : Int) = 98 := by omega
        clear HI hds hdl hx1
        go_wp2_with fail
        exact ⟨⟨k + 1, by rw [Int.natCast_add]; rfl, by omega, ⟨_, _, _, rfl⟩, HE⟩, by simp only [intOf]; omega⟩
      · have hsl := fun W => run_slice_string_l (P := Tryz.prog) (w := W) (t := 9) (s := S (c :: r)) Tryz.underlying9 .i64 1 (by omega) (by omega)
        have e1 : (S (c :: r)).extract (1 : Int).toNat (S (c :: r)).size = S r := dg.S_drop (c :: r) 1
        rw [e1] at hsl
        have hU := unhex_ref r (by omega) wr
        have hfy := fileDig_yes hc hrl
        rw [hfy] at hds
        rw [hc] at hx0
        generalize dg.unhex r = q at *
        have HB := Lib.hid HI.out
        by_cases hg : dg.good r = true
        · rw [if_pos hg] at hds
          rw [hg] at hU
          have HDs := Lib.hid hds
          clear hds hfy hg HI e1
          go_wp2_with fail
          refine hU.mono ?_
          clear hU hsl hx0 c1 c2
          rintro e w2 ⟨rfl, b2⟩
          obtain ⟨u', w3, g3, o3, b3⟩ := rw.append_one strSh w.heap.size (.slice ua un uc) _ q (by omega) w2 (HB.out.1.below strSh b2) (Nat.le_trans HB.out.2.size b2.size)
          have HR := Lib.hid g3
          have HE : Hid (Own strSh w3 w.heap.size u' (digs (l.map (·.1)) (k + 1)) ∧ Below w.heap.size w w3) := ⟨by rw [HDs.out]; exact o3, (HB.out.2.trans (b2.mono HB.out.2.size)).trans b3⟩
          have hf : ∃ a n c, u' = .slice a n c := by obtain ⟨a, c, e⟩ := o3.form; exact ⟨a, _, c, e⟩
          clear g3 o3 b3 b2 HB HDs
          go_wp2_with (at_builtin; refine rw.wpList_append_at _ _ _ rfl rfl _ _ _ _ rfl rfl HR.out ?_)
          exact ⟨⟨k + 1, by rw [Int.natCast_add]; rfl, by omega, hf, HE⟩, by simp only [intOf]; omega⟩
        · rw [if_neg hg, List.append_nil] at hds
          have hg2 : dg.good r = false := by simpa using hg
          rw [hg2] at hU
          have HDs := Lib.hid hds
          clear hds hfy hg hg2 HI e1
          go_wp2_with fail
          refine hU.mono ?_
          clear hU hsl hx0 c1 c2
          rintro e w2 ⟨rfl, b2⟩
          have HE : Hid (Own strSh w2 w.heap.size (.slice ua un uc) (digs (l.map (·.1)) (k + 1)) ∧ Below w.heap.size w w2) := ⟨by rw [HDs.out]; exact HB.out.1.below strSh b2, HB.out.2.trans (b2.mono HB.out.2.size)⟩
          clear b2 HB HDs
          go_wp2_with fail
          exact ⟨⟨k + 1, by rw [Int.natCast_add]; rfl, by omega, ⟨_, _, _, rfl⟩, HE⟩, by simp only [intOf]; omega⟩
  obtain rfl : k = l.length := by omega
  have hki : ¬ (l.length : Int) < (l.length : Int) := by omega
  have HE : Hid (Own strSh wr w.heap.size (.slice ua un uc) av ∧ Below w.heap.size w wr) := by
    have h := HI.out
    have hd := HD.out
    rw [List.length_map] at hd
    rw [hd] at h
    exact h
  clear HI
  go_wp2_with fail
  go_ret
  exact ⟨_, rfl, HE.out.1, HE.out.2⟩
theorem own_ut {w : World} {B : Nat} {v : Value} {l : List Bs} (h : Own strSh w B v l) : Ut w v l := by
  obtain ⟨a, c, h1, h2, h3, h4⟩ := rw.Own.sl strSh h
  refine ⟨a, c, h1, ?_⟩
  rcases h3 with h | ⟨b, off, e, hb, hc, _⟩
  · exact .inl h
  · refine .inr ⟨b, off, e, hb, fun j hj => ?_⟩
    have := hc j hj 0 (by decide)
    simpa [strSh] using this
set_option maxRecDepth 100000 in
theorem same_call (v u : Value) (l : List Bs) (hl : l.length ≤ 1000000) (w : World) (hv : Ut w v l) (hu : Ut w u l) : Calls Tryz.prog 16 #[v, u] w fun e w' => e = .returned (.bool true) ∧ Below w.heap.size w w' := by
  obtain ⟨va, vc, rfl⟩ : ∃ a c, v = .slice a l.length c := by obtain ⟨a, c, e, _⟩ := hv; exact ⟨a, c, e⟩
  obtain ⟨ua, uc, rfl⟩ : ∃ a c, u = .slice a l.length c := by obtain ⟨a, c, e, _⟩ := hu; exact ⟨a, c, e⟩
  have HV := Lib.hid (And.intro hv hu)
  clear hv hu
  go_enter Tryz.func16, Tryz.ntmps16
  go_wp2_with fail
  go_loopw [5] (fun i wr => ∃ k : Nat, i = .int .i64 (k : Nat) ∧ k ≤ l.length ∧ Hid (Below w.heap.size w wr))
    (fun i _ => l.length - (intOf i).toNat)
  case atStart => exact ⟨0, rfl, Nat.zero_le _, Below.refl _ _⟩
  case round =>
  obtain ⟨k, rfl, hk, HI⟩ := hrel
  by_cases hlt : k < l.length
  · have hki : (k : Int) < (l.length : Int) := by omega
    have T1 := Lib.hid fun W (h : Below wr.heap.size wr W) => texts_ut (HV.out.1.later (HI.out.trans (h.mono HI.out.size))) hlt
    have T2 := Lib.hid fun W (h : Below wr.heap.size wr W) => texts_ut (HV.out.2.later (HI.out.trans (h.mono HI.out.size))) hlt
    obtain ⟨b, off, c, e, hc⟩ := T1.out wr (Below.refl _ _)
    injection e with e1 e2 e3
    subst e1 e3
    obtain ⟨b', off', c', e, hc'⟩ := T2.out wr (Below.refl _ _)
    injection e with e1 e2' e3
    subst e1 e3
    have HC : Hid (∀ n, (wr.drewN n).cell? ⟨b, off + k, none⟩ = some (.string (S (l[k]'hlt))) ∧ (wr.drewN n).cell? ⟨b', off' + k, none⟩ = some (.string (S (l[k]'hlt)))) := fun n => ⟨hc, hc'⟩
    clear T1 T2
    generalize l[k]'hlt = x at *
    have HE : Hid (∀ n, Below w.heap.size w (wr.drewN n)) := fun n => HI.out.trans (below_drewN (Below.refl _ _) n |>.mono HI.out.size)
    have hq : ((S x).toList == (S x).toList) = true := by simp
    clear e2 e2' HI
    go_wp2_with fail
    go_quiet (fail)
    clear hc hc'
    have HE2 := Lib.hid (HE.out nq)
    clear HE HC
    go_wp2_with fail
    exact ⟨⟨k + 1, by rw [Int.natCast_add]; rfl, by omega, HE2⟩, by simp only [intOf]; omega⟩
  obtain rfl : k = l.length := by omega
  have hki : ¬ (l.length : Int) < (l.length : Int) := by omega
  go_wp2_with fail
  go_ret
  exact ⟨rfl, HI.out⟩
end Go.Proofs.YtpimdbnhpbjlkaaGreatDoor.vt
/-! VzR3 -/
namespace Go.Proofs.YtpimdbnhpbjlkaaGreatDoor.vt
set_option linter.unusedVariables false
open Go.RowKit
open fl (S S_size S_append S_inj)
open rw (Arr But below_box bnext below_drew below_drewN Fr Own)
open dk (Bs File Dk PD Step Nu Inv Live turn sync read fuse crash Right count strSh RefD)

/-- Keep's round: behind i digests nothing was refused. -/
structure Rk (w wr : World) (xb : Nat) (B1 B2 : Nat) (v lv : Value) (ks av : List Bs) (d0 : Dk) (j i n : Nat) (d : Dk) : Prop where
  r : RefD wr xb d
  b : But xb w wr
  o : Own strSh wr B1 v ks
  p : Own strSh wr B2 lv av
  e : keepL ks (av.take i) 0 d0 = (n, 0, d)
  iv : Inv (j + i) d
  l : n ≤ i
section
variable {w wr w' : World} {xb B1 B2 : Nat} {v lv : Value} {ks av : List Bs} {d0 d d' : Dk} {j i n : Nat}
theorem Rk.below (h : Rk w wr xb B1 B2 v lv ks av d0 j i n d) (k : Below wr.heap.size wr w') : Rk w w' xb B1 B2 v lv ks av d0 j i n d := ⟨h.r.below k, h.b.then_below k, h.o.below strSh k, h.p.below strSh k, h.e, h.iv, h.l⟩
theorem refd_own {B : Nat} {v : Value} {l : List Bs} (h : RefD w xb d) (o : Own strSh w B v l) (k : But xb w w') : Own strSh w' B v l := by
  obtain ⟨sv, lv, pv, ha, _⟩ := h.a
  exact own_but o ha (by decide) k
end
theorem mem_take_succ {l : List Bs} {j : Nat} (h : j < l.length) (x : Bs) : decide (x ∈ l.take (j + 1)) = (decide (x ∈ l.take j) || decide (l[j] = x)) := by
  rw [List.take_succ_eq_append_getElem h, Bool.eq_iff_iff, decide_eq_true_eq, Bool.or_eq_true, decide_eq_true_eq, decide_eq_true_eq, List.mem_append, List.mem_singleton]
  exact ⟨fun h => h.imp id Eq.symm, fun h => h.imp id Eq.symm⟩
set_option maxHeartbeats 16000000 in
set_option maxRecDepth 100000 in
theorem rkeep_call {xb j B : Nat} {d : Dk} (v : Value) (ks : List Bs) (hkl : ks.length ≤ 1000) (hj : j ≤ 700) (hs : d.seen.length ≤ 100) (hi : Inv j d) (w : World) (h : RefD w xb d) (hv : Own strSh w B v ks) :
    Calls Tryz.prog 30 #[.pointer (some ⟨xb, 0, none⟩), v] w fun e w' => e = .returned (.tuple #[.int .i64 ((keepV d ks).1 : Nat), .int .i64 ((keepV d ks).2.1 : Nat)]) ∧ RefD w' xb (keepV d ks).2.2 ∧ MBut xb w w' := by
  obtain ⟨va, vc, rfl⟩ : ∃ a c, v = .slice a ks.length c := hv.form
  obtain ⟨Z, hZ⟩ : ∃ Z, keepV d ks = Z := ⟨_, rfl⟩
  rw [hZ]
  unfold keepV at hZ
  have hA := rall_call (hi.mono (by omega)) w h
  have hal : (allV d.seen).length ≤ 100 := Nat.le_trans (allV_len _) hs
  have hlen32 : ∀ q ∈ allV d.seen, q.length = 32 := fun q hq => (allV_mem.1 hq).1
  have H0 := Lib.hid (And.intro h (And.intro hv hi))
  have H32 := Lib.hid hlen32
  have HZ := Lib.hid hZ
  generalize allV d.seen = av at *
  clear h hv hi hlen32 hZ hs
  go_enter Tryz.func30, Tryz.ntmps30
  go_wp2_with fail
  refine hA.mono ?_
  clear hA
  rintro e w1 ⟨lv, rfl, o1, b1⟩
  have R0 : Hid (Rk w w1 xb B w.heap.size (.slice va ks.length vc) lv ks av d j 0 0 d) := ⟨H0.out.1.below b1, But.of_below b1, H0.out.2.1.below strSh b1, o1, rfl, H0.out.2.2, Nat.le_refl _⟩
  obtain ⟨la, lc, rfl⟩ : ∃ a c, lv = .slice a av.length c := o1.form
  clear o1 b1 H0
  go_wp2_with fail
  go_loopw [7, 8] (fun nn i wr => ∃ k n : Nat, i = .int .i64 (k : Nat) ∧ nn = .int .i64 (n : Nat) ∧ k ≤ av.length ∧ n ≤ k ∧ Hid (∃ d', Rk w wr xb B w.heap.size (.slice va ks.length vc) (.slice la av.length lc) ks av d j k n d'))
    (fun _ i _ => av.length - (intOf i).toNat)
  case atStart => exact ⟨0, 0, rfl, rfl, Nat.zero_le _, Nat.le_refl _, _, R0.out⟩
  case round =>
  obtain ⟨i, n, rfl, rfl, hi, hni, HI⟩ := hrel
  obtain ⟨d', HI⟩ := HI.out
  replace HI := Lib.hid HI
  by_cases hlt : i < av.length
  · have hki : (i : Int) < (av.length : Int) := by omega
    obtain ⟨b, off, c, e, -⟩ := texts_at HI.out.p.sl hlt
    injection e with e1 e2 e3
    subst e1 e3
    have HCl : Hid (∀ w' B2, Own strSh w' B2 (.slice (some ⟨b, off, none⟩) av.length lc) av → w'.cell? ⟨b, off + i, none⟩ = some (.string (S (av[i]'hlt)))) := fun w' B2 ho => by
      obtain ⟨b', off', c', e, hc⟩ := texts_at ho.sl hlt
      injection e with e1 e2 e3
      injection e1 with e1
      injection e1 with e4 e5
      subst e4 e5
      exact hc
    have HTk : Hid (av.take (i + 1) = av.take i ++ [av[i]'hlt] ∧ av = av.take i ++ (av[i]'hlt) :: av.drop (i + 1)) := ⟨List.take_succ_eq_append_getElem hlt, by rw [← List.drop_eq_getElem_cons hlt, List.take_append_drop]⟩
    have hx32 := H32.out _ (List.getElem_mem hlt)
    generalize av[i]'hlt = x at *
    clear e2
    go_wp2_with fail
    go_loopw [9, 10] (fun s jj wr => ∃ (k : Nat) (m : Bool), jj = .int .i64 (k : Nat) ∧ s = .bool m ∧ k ≤ ks.length ∧ Hid (m = decide (x ∈ ks.take k) ∧ Rk w wr xb B w.heap.size (.slice va ks.length vc) (.slice (some ⟨b, off, none⟩) av.length lc) ks av d j i n d'))
      (fun _ jj _ => ks.length - (intOf jj).toNat)
    case atStart => exact ⟨0, false, rfl, rfl, Nat.zero_le _, by simp, HI.out⟩
    case round =>
    obtain ⟨k, m, rfl, rfl, hk, HJ⟩ := hrel
    by_cases hlj : k < ks.length
    · have hkj : (k : Int) < (ks.length : Int) := by omega
      obtain ⟨b2, off2, c2, e, hc2⟩ := texts_at HJ.out.2.o.sl hlj
      injection e with e1 e2 e3
      subst e1 e3
      have hms := mem_take_succ hlj x
      have k1 := HCl.out wr _ HJ.out.2.p
      generalize ks[k]'hlj = y at *
      have HCn : Hid (∀ n, (wr.drewN n).cell? ⟨b, off + i, none⟩ = some (.string (S x)) ∧ (wr.drewN n).cell? ⟨b2, off2 + k, none⟩ = some (.string (S y))) := fun n => ⟨k1, hc2⟩
      have hq := S_beq y x
      obtain ⟨r, hr⟩ : ∃ r, decide (y = x) = r := ⟨_, rfl⟩
      rw [hr] at hq
      have HE : Hid (∀ z, ((m || r) = decide (x ∈ ks.take (k + 1)) ∧ Rk w (wr.drewN z) xb B w.heap.size (.slice (some ⟨b2, off2, none⟩) ks.length vc) (.slice (some ⟨b, off, none⟩) av.length lc) ks av d j i n d')) := fun z => ⟨by rw [hms, hr, HJ.out.1], HJ.out.2.below (below_drewN (Below.refl _ _) z)⟩
      clear HJ hr hms e2
      cases m with
      | true =>
        clear k1 hc2 HCn hq
        go_wp2_with fail
        go_quiet (fail)
        have HE2 := Lib.hid (HE.out nq)
        clear HE
        go_wp2_with fail
        exact ⟨⟨k + 1, true, by rw [Int.natCast_add]; rfl, rfl, by omega, HE2.out⟩, by simp only [intOf]; omega⟩
      | false =>
        go_wp2_with fail
        go_quiet (fail)
        clear k1 hc2
        have HE2 := Lib.hid (HE.out nq)
        clear HE HCn
        go_wp2_with fail
        exact ⟨⟨k + 1, r, by rw [Int.natCast_add]; rfl, rfl, by omega, HE2.out⟩, by simp only [intOf]; omega⟩
    obtain rfl : k = ks.length := by omega
    have hkj : ¬ (ks.length : Int) < (ks.length : Int) := by omega
    have HM : Hid (m = decide (x ∈ ks) ∧ Rk w wr xb B w.heap.size (.slice va ks.length vc) (.slice (some ⟨b, off, none⟩) av.length lc) ks av d j i n d') := by
      have h := HJ.out
      rw [List.take_length] at h
      exact h
    clear HJ hlj hk
    cases m with
    | true =>
      have HE : Hid (∃ d', Rk w wr xb B w.heap.size (.slice va ks.length vc) (.slice (some ⟨b, off, none⟩) av.length lc) ks av d j (i + 1) n d') := by
        obtain ⟨h1, h2, h3, h4, h5, h6, h7⟩ := HM.out.2
        have hm : x ∈ ks := of_decide_eq_true HM.out.1.symm
        refine ⟨d', h1, h2, h3, h4, ?_, h6.mono (by omega), by omega⟩
        rw [HTk.out.1, keepL_append, h5, if_neg (by simp)]
        show keepL ks [x] n d' = _
        rw [keepL, if_pos hm, keepL]
      clear HM HTk
      go_wp2_with fail
      exact ⟨⟨i + 1, n, by rw [Int.natCast_add]; rfl, rfl, by omega, by omega, HE⟩, by simp only [intOf]; omega⟩
    | false =>
      have hm : x ∉ ks := of_decide_eq_false HM.out.1.symm
      have k1 := HCl.out wr _ HM.out.2.p
      have hN := rname_call x (by omega) wr
      have HI4 := HM.out.2.iv
      have HTu : Hid (∀ W, Below wr.heap.size wr W → Calls Tryz.prog 32 #[.pointer (some ⟨xb, 0, none⟩), .agg #[.int .i64 3, .string (S (vname x)), .string ⟨#[]⟩]] W fun e w' => e = .returned (.int .i64 ((turn d' ⟨3, vname x, []⟩).1 : Nat)) ∧
          ((turn d' ⟨3, vname x, []⟩).1 = 0 → ∃ d', Rk w w' xb B w.heap.size (.slice va ks.length vc) (.slice (some ⟨b, off, none⟩) av.length lc) ks av d j (i + 1) (n + 1) d') ∧ ((turn d' ⟨3, vname x, []⟩).1 ≠ 0 → (Z.1 = n ∧ Z.2.1 = (turn d' ⟨3, vname x, []⟩).1 ∧ RefD w' xb Z.2.2 ∧ But xb w w'))) := fun W hW => by
        obtain ⟨h1, h2, h3, h4, h5, h6, h7⟩ := HM.out.2.below hW
        have hin := dk.inv_turn h6 ⟨3, vname x, []⟩ (by show 0 ≤ _; omega)
        have hu := h6.r.used
        have hc := h6.r.cap
        refine (dk.refturn_any xb d' ⟨3, vname x, []⟩ (fit_of h6 (by omega)) (.inr (.inr rfl)) (by show 0 ≤ _; omega) (Nat.le_trans (dk.bytes_get (dk.bytes_of_used hu) _) (by omega)) (by have := used_after h6.r.sorted ⟨3, vname x, []⟩; have e : (⟨3, vname x, []⟩ : dk.Call).s.length = 0 := rfl; omega) W h1).mono ?_
        rintro e w' ⟨he, r, k⟩
        refine ⟨he, fun h0 => ⟨(turn d' ⟨3, vname x, []⟩).2, r, h2.trans k, refd_own h1 h3 k, refd_own h1 h4 k, ?_, hin, by omega⟩, fun h0 => ?_⟩
        · rw [HTk.out.1, keepL_append, h5, if_neg (by simp)]
          show keepL ks [x] n d' = _
          rw [keepL, if_neg hm, if_neg (by simpa using h0), keepL]
        · have hz := HZ.out
          have e1 : keepL ks av 0 d = (n, (turn d' ⟨3, vname x, []⟩).1, (turn d' ⟨3, vname x, []⟩).2) := by
            rw [HTk.out.2, keepL_append, h5, if_neg (by simp)]
            show keepL ks (x :: av.drop (i + 1)) n d' = _
            rw [keepL, if_neg hm, if_pos h0]
          rw [e1, if_neg (fun h => h0 h.1)] at hz
          rw [← hz]
          exact ⟨rfl, rfl, r, h2.trans k⟩
      generalize turn d' ⟨3, vname x, []⟩ = T at *
      obtain ⟨te, td⟩ := T
      simp only at HTu
      generalize vname x = nm at *
      clear HM HTk hm HI4
      go_wp2_with fail
      refine hN.mono ?_
      clear hN k1
      rintro e w2 ⟨rfl, b2⟩
      have hT := HTu.out w2 b2
      clear b2 HTu
      go_wp2_with fail
      refine hT.mono ?_
      clear hT
      rintro e w3 ⟨rfl, r3, r4⟩
      by_cases h0 : te = 0
      · subst h0
        have HE := Lib.hid (r3 rfl)
        clear r3 r4
        obtain ⟨n', hn'⟩ : ∃ n', n + 1 = n' := ⟨_, rfl⟩
        have q1 : IntKind.i64.wrap ((n : Int) + 1) = (n' : Int) := by rw [IntWalk.i64_in _ (by omega)]; omega
        rw [hn'] at HE
        have hn2 : n' ≤ i + 1 := by omega
        clear hn'
        go_wp2_with fail
        exact ⟨⟨i + 1, n', by rw [Int.natCast_add]; rfl, rfl, by omega, hn2, HE⟩, by simp only [intOf]; omega⟩
      · have h0i : ¬ (te : Int) = 0 := by omega
        have HE := Lib.hid (r4 h0)
        clear r3 r4
        go_wp2_with fail
        go_ret2
        rw [HE.out.1, HE.out.2.1]
        exact ⟨rfl, HE.out.2.2.1, MBut.of HE.out.2.2.2⟩
  obtain rfl : i = av.length := by omega
  have hki : ¬ (av.length : Int) < (av.length : Int) := by omega
  have HE : Hid (keepL ks av 0 d = (n, 0, d') ∧ RefD wr xb d' ∧ But xb w wr ∧ Inv 1000 d') := by
    obtain ⟨h1, h2, h3, h4, h5, h6, h7⟩ := HI.out
    rw [List.take_length] at h5
    exact ⟨h5, h1, h2, h6.mono (by omega)⟩
  clear HI R0
  have hz := HZ.out
  rw [HE.out.1] at hz
  by_cases hn0 : n = 0
  · subst hn0
    rw [if_neg (fun h => absurd h.2 (Nat.lt_irrefl 0))] at hz
    have HZ2 := Lib.hid hz
    clear hz HZ
    go_wp2_with fail
    go_ret2
    rw [← HZ2.out]
    exact ⟨rfl, HE.out.2.1, MBut.of HE.out.2.2.1⟩
  · have hni0 : ¬ (n : Int) = 0 := by omega
    rw [if_pos ⟨rfl, Nat.pos_of_ne_zero hn0⟩] at hz
    have HZ2 := Lib.hid hz
    have hS := rsync_call HE.out.2.2.2 (Nat.le_refl _) wr HE.out.2.1
    generalize sync d' = Y at *
    obtain ⟨ye, yd⟩ := Y
    simp only at HZ2 hS
    clear hz HZ
    go_wp2_with fail
    refine hS.mono ?_
    clear hS
    rintro e w6 ⟨rfl, r6, k6⟩
    have HF : Hid (RefD w6 xb yd ∧ MBut xb w w6) := ⟨r6, (MBut.of HE.out.2.2.1).trans k6⟩
    clear r6 k6
    go_wp2_with fail
    go_ret2
    rw [← HZ2.out]
    exact ⟨rfl, HF.out⟩
end Go.Proofs.YtpimdbnhpbjlkaaGreatDoor.vt
/-! VzN -/
namespace Go.Proofs.YtpimdbnhpbjlkaaGreatDoor.vt
set_option linter.unusedVariables false
open dk (Bs File Dk turn sync read fuse crash Right Sorted count get used without Inv Named)

theorem sub_len : ∀ {l N : List Bs}, l.Nodup → (∀ x ∈ l, x ∈ N) → l.length ≤ N.length
  | [], _, _, _ => Nat.zero_le _
  | a :: r, N, hn, hs => by
    obtain ⟨h1, h2⟩ := List.pairwise_cons.1 hn
    have ha := hs a List.mem_cons_self
    have h3 := sub_len (l := r) (N := N.erase a) h2 fun x hx => (List.mem_erase_of_ne (fun e => h1 x hx e.symm)).2 (hs x (List.mem_cons_of_mem _ hx))
    have h4 := List.length_erase_of_mem ha
    have h5 := List.length_pos_of_mem ha
    rw [List.length_cons]
    omega
theorem names_nodup {l : List File} (h : Sorted l) : (l.map (·.1)).Nodup := by
  rw [List.Nodup, List.pairwise_map]
  refine List.Pairwise.imp ?_ h
  intro a b hab e
  rw [e] at hab
  exact dk.lt_irr _ hab
/-- What holds behind t acts. -/
structure Nv (t : Nat) (d : Dk) : Prop where
  r : Right d
  nm : ∃ N : List Bs, N.length ≤ t ∧ (∀ f ∈ d.lasts, f.1 ∈ N) ∧ (∀ f ∈ d.seen, f.1 ∈ N) ∧ (∀ c ∈ d.pend, c.name ∈ N)
  b : d.pend.length + d.seen.length ≤ 3 * t
  s : ∀ c ∈ d.pend, c.s.length ≤ 140737488355328
  f : d.fused = true → 0 ≤ d.left ∧ d.left ≤ 9223372036854775807
section
variable {t : Nat} {d : Dk}
theorem Nv.inv (h : Nv t d) : Inv (4 * t) d := by
  obtain ⟨N, h1, h2, _⟩ := h.nm
  have hl := sub_len (names_nodup h.r.so) (N := N) fun x hx => by
    obtain ⟨f, hf, rfl⟩ := List.mem_map.1 hx
    exact h2 f hf
  rw [List.length_map] at hl
  exact ⟨h.r, by have := h.b; omega, h.s, h.f⟩
theorem Nv.seen (h : Nv t d) : d.seen.length ≤ t := by
  obtain ⟨N, h1, _, h2, _⟩ := h.nm
  have hl := sub_len (names_nodup h.r.sorted) (N := N) fun x hx => by
    obtain ⟨f, hf, rfl⟩ := List.mem_map.1 hx
    exact h2 f hf
  rw [List.length_map] at hl
  omega
theorem Nv.mono {t' : Nat} (h : Nv t d) (k : t ≤ t') : Nv t' d := by
  obtain ⟨N, h1, h2⟩ := h.nm
  exact ⟨h.r, ⟨N, by omega, h2⟩, by have := h.b; omega, h.s, h.f⟩
theorem nv_fresh {cap : Nat} (h : cap ≤ 1048576) : Nv 0 (dk.fresh cap) := ⟨dk.fresh_right h, ⟨[], Nat.le_refl _, fun f hf => (by cases hf), fun f hf => (by cases hf), fun c hc => (by cases hc)⟩, Nat.le_refl _, fun c hc => (by cases hc), fun hf => (by cases hf)⟩
theorem done_names {l : List File} {N : List Bs} (h : ∀ f ∈ l, f.1 ∈ N) (c : dk.Call) (hc : c.name ∈ N) (n : Nat) : ∀ f ∈ dk.done l c n, f.1 ∈ N := by
  intro f hf
  unfold dk.done at hf
  split at hf
  · exact h f hf
  · split at hf
    · rcases dk.mem_put.1 hf with rfl | ⟨hf, _⟩
      · exact hc
      · exact h f hf
    · split at hf
      · rcases dk.mem_put.1 hf with rfl | ⟨hf, _⟩
        · exact hc
        · exact h f hf
      · exact h f (dk.mem_without.1 hf).1
theorem again_names {N : List Bs} : ∀ (p : List dk.Call) {l : List File} (k : Nat), (∀ f ∈ l, f.1 ∈ N) → (∀ c ∈ p, c.name ∈ N) → ∀ f ∈ dk.again l p k, f.1 ∈ N
  | [], l, k, h, _ => h
  | c :: r, l, k, h, hp => by
    unfold dk.again
    exact again_names r _ (done_names h c (hp c List.mem_cons_self) _) fun x hx => hp x (List.mem_cons_of_mem _ hx)
theorem Nv.put (h : Nv t d) (n s : Bs) (hs : s.length ≤ 140737488355328) : Nv (t + 1) (turn d ⟨2, n, s⟩).2 := by
  have hi := dk.inv_turn h.inv ⟨2, n, s⟩ hs
  rcases dk.turn_cases d ⟨2, n, s⟩ with e | ⟨_, hg, hu, e⟩
  · rw [e]; exact h.mono (Nat.le_succ t)
  · rw [e] at hi ⊢
    obtain ⟨e1, e2, e3, e4, e5⟩ := dk.spend_parts { d with seen := dk.done d.seen ⟨2, n, s⟩ (dk.steps ⟨2, n, s⟩), pend := d.pend ++ [⟨2, n, s⟩] }
    obtain ⟨N, h1, h2, h3, h4⟩ := h.nm
    refine ⟨hi.r, ⟨n :: N, by rw [List.length_cons]; omega, fun f hf => ?_, fun f hf => ?_, fun c hc => ?_⟩, ?_, hi.s, hi.f⟩
    · rw [e3] at hf; exact List.mem_cons_of_mem _ (h2 f hf)
    · rw [e2] at hf
      have hf2 : f ∈ dk.done d.seen ⟨2, n, s⟩ (dk.steps ⟨2, n, s⟩) := hf
      exact done_names (N := n :: N) (fun f hf => List.mem_cons_of_mem _ (h3 f hf)) ⟨2, n, s⟩ List.mem_cons_self _ f hf2
    · rw [e4] at hc
      rcases List.mem_append.1 hc with hc | hc
      · exact List.mem_cons_of_mem _ (h4 c hc)
      · rw [List.mem_singleton.1 hc]; exact List.mem_cons_self
    · rw [e4, e2]
      have h5 := dk.done_le d.seen ⟨2, n, s⟩ (dk.steps ⟨2, n, s⟩)
      have h6 := h.b
      show (d.pend ++ [(⟨2, n, s⟩ : dk.Call)]).length + (dk.done d.seen ⟨2, n, s⟩ (dk.steps ⟨2, n, s⟩)).length ≤ _
      rw [List.length_append, List.length_singleton]
      omega
theorem Nv.drop (h : Nv t d) (n : Bs) : Nv t (turn d ⟨3, n, []⟩).2 := by
  have hi := dk.inv_turn h.inv ⟨3, n, []⟩ (by show 0 ≤ _; omega)
  rcases dk.turn_cases d ⟨3, n, []⟩ with e | ⟨h0, hg, hu, e⟩
  · rw [e]; exact h
  · have hgs : get d.seen n ≠ none := by
      intro hn
      unfold dk.turn at h0
      split at h0
      · exact absurd (show (1 : Nat) = 0 from h0) (by decide)
      · split at h0
        · exact absurd (show (8 : Nat) = 0 from h0) (by decide)
        · rw [if_pos ⟨rfl, hn⟩] at h0
          exact absurd (show (6 : Nat) = 0 from h0) (by decide)
    have hd : dk.done d.seen ⟨3, n, []⟩ (dk.steps ⟨3, n, []⟩) = without d.seen n := by unfold dk.done dk.steps; simp
    rw [e] at hi ⊢
    obtain ⟨e1, e2, e3, e4, e5⟩ := dk.spend_parts { d with seen := dk.done d.seen ⟨3, n, []⟩ (dk.steps ⟨3, n, []⟩), pend := d.pend ++ [⟨3, n, []⟩] }
    obtain ⟨N, h1, h2, h3, h4⟩ := h.nm
    have hmem : ∃ s, (n, s) ∈ d.seen := by
      cases hgg : get d.seen n with
      | none => exact absurd hgg hgs
      | some s => exact ⟨s, dk.get_some hgg⟩
    obtain ⟨s, hms⟩ := hmem
    have hlt : (without d.seen n).length + 1 ≤ d.seen.length := by
      have : (without d.seen n).length < d.seen.length := by
        unfold dk.without
        rw [List.length_filter_lt_length_iff_exists]
        exact ⟨_, hms, by simp⟩
      omega
    refine ⟨hi.r, ⟨N, h1, fun f hf => ?_, fun f hf => ?_, fun c hc => ?_⟩, ?_, hi.s, hi.f⟩
    · rw [e3] at hf; exact h2 f hf
    · rw [e2] at hf
      have hf2 : f ∈ dk.done d.seen ⟨3, n, []⟩ (dk.steps ⟨3, n, []⟩) := hf
      rw [hd] at hf2
      exact h3 f (dk.mem_without.1 hf2).1
    · rw [e4] at hc
      rcases List.mem_append.1 hc with hc | hc
      · exact h4 c hc
      · rw [List.mem_singleton.1 hc]; exact h3 _ hms
    · rw [e4, e2]
      have h6 := h.b
      show (d.pend ++ [(⟨3, n, []⟩ : dk.Call)]).length + (dk.done d.seen ⟨3, n, []⟩ (dk.steps ⟨3, n, []⟩)).length ≤ _
      rw [List.length_append, List.length_singleton, hd]
      omega
theorem Nv.sync (h : Nv t d) : Nv t (sync d).2 := by
  have hi := dk.inv_sync h.inv
  have hsn := h.seen
  unfold dk.sync at hi ⊢
  split at hi
  · next ho => rw [if_pos ho]; exact h
  · next ho =>
    rw [if_neg ho]
    obtain ⟨e1, e2, e3, e4, e5⟩ := dk.spend_parts { d with lasts := d.seen, pend := [] }
    obtain ⟨N, h1, h2, h3, h4⟩ := h.nm
    refine ⟨hi.r, ⟨N, h1, fun f hf => ?_, fun f hf => ?_, fun c hc => ?_⟩, ?_, hi.s, hi.f⟩
    · rw [e3] at hf; exact h3 f hf
    · rw [e2] at hf; exact h3 f hf
    · rw [e4] at hc; cases hc
    · rw [e4, e2]
      show ([] : List dk.Call).length + d.seen.length ≤ _
      simp only [List.length_nil]
      omega
theorem Nv.crash (h : Nv t d) (k : Int) : Nv t (crash d k).2 := by
  have hi := dk.inv_crash h.inv k
  unfold dk.crash at hi ⊢
  split at hi
  · next ho => rw [if_pos ho]; exact h
  · next ho =>
    rw [if_neg ho]
    obtain ⟨N, h1, h2, h3, h4⟩ := h.nm
    have ha := again_names d.pend k.toNat h2 h4
    have hso : Sorted (dk.again d.lasts d.pend k.toNat) := dk.again_sorted h.r.so _ _
    have hl := sub_len (names_nodup hso) (N := N) fun x hx => by
      obtain ⟨f, hf, rfl⟩ := List.mem_map.1 hx
      exact ha f hf
    rw [List.length_map] at hl
    refine ⟨hi.r, ⟨N, h1, ha, ha, fun c hc => (by cases hc)⟩, ?_, hi.s, hi.f⟩
    show ([] : List dk.Call).length + (dk.again d.lasts d.pend k.toNat).length ≤ _
    simp only [List.length_nil]
    omega
theorem Nv.fuse (h : Nv t d) (n : Int) (hn : n ≤ 9223372036854775807) : Nv t (fuse d n) := by
  have hi := dk.inv_fuse h.inv n hn
  exact ⟨hi.r, h.nm, h.b, hi.s, hi.f⟩
theorem Nv.putV (h : Nv t d) (s : Bs) (hs : s.length ≤ 140737488355328) : Nv (t + 1) (putV d s).2.2 := by
  have h1 := h.put (vname (dg.sum s)) s hs
  unfold vt.putV
  split
  · exact h.mono (Nat.le_succ t)
  · split
    · exact h.mono (Nat.le_succ t)
    · split
      · exact h1
      · split
        · exact h1.sync
        · exact h1.sync
theorem Nv.keepL {ks : List Bs} : ∀ (l : List Bs) (n : Nat) {d : Dk}, Nv t d → Nv t (keepL ks l n d).2.2
  | [], _, _, h => h
  | q :: r, n, d, h => by
    rw [vt.keepL]
    split
    · exact Nv.keepL r n h
    · split
      · exact h.drop _
      · exact Nv.keepL r _ (h.drop _)
theorem Nv.keepV (h : Nv t d) (ks : List Bs) : Nv t (keepV d ks).2.2 := by
  have h1 := Nv.keepL (ks := ks) (allV d.seen) 0 h
  unfold vt.keepV
  split
  · exact h1.sync
  · exact h1
end
end Go.Proofs.YtpimdbnhpbjlkaaGreatDoor.vt
/-! VzA -/
namespace Go.Proofs.YtpimdbnhpbjlkaaGreatDoor.vt
set_option linter.unusedVariables false
open Go.RowKit
open fl (S S_size S_append S_inj)
open rw (Arr But below_box bnext below_drew below_drewN Fr Own)
open dk (Bs File Dk PD Step Nu Inv Live turn sync read fuse crash Right count strSh RefD)

structure Ak where
  kind : Int
  s : Bs
  t : Bs
  l : List Bs
  n : Int
def play (d : Dk) (a : Ak) : Dk :=
  if a.kind = 1 then (putV d a.s).2.2 else if a.kind = 4 then (keepV d (a.l.map dg.sum)).2.2 else if a.kind = 5 then (turn d ⟨2, vname (dg.sum a.s), a.t⟩).2 else if a.kind = 6 then fuse d a.n else if a.kind = 7 then (crash d a.n).2 else if a.kind = 8 then (turn d ⟨2, a.s, a.t⟩).2 else d
def akC (a : Ak) (lv : Value) : Array Value := #[.int .i64 a.kind, .string (S a.s), .string (S a.t), lv, .int .i64 a.n]
structure Fk (a : Ak) : Prop where
  s : a.s.length ≤ 140737488351232
  t : a.t.length ≤ 140737488351232
  l : a.l.length ≤ 40 ∧ ∀ x ∈ a.l, x.length ≤ 140737488351232
  n : a.n ≤ 9223372036854775807 ∧ -9223372036854775808 ≤ a.n
theorem play_nv {t : Nat} {d : Dk} (h : Nv t d) {a : Ak} (ha : Fk a) : Nv (t + 1) (play d a) := by
  have hs := ha.s
  have ht := ha.t
  have hn := ha.n
  unfold play
  split
  · exact h.putV _ (by omega)
  · split
    · exact (h.keepV _).mono (Nat.le_succ t)
    · split
      · exact h.put _ _ (by omega)
      · split
        · exact (h.fuse _ hn.1).mono (Nat.le_succ t)
        · split
          · exact (h.crash _).mono (Nat.le_succ t)
          · split
            · exact h.put _ _ (by omega)
            · exact h.mono (Nat.le_succ t)
theorem rput2_call {xb : Nat} {d : Dk} (nm t1 : Bs) (hi : Inv 400 d) (ht : t1.length ≤ 140737488351232) (W : World) (hW : RefD W xb d) :
    Calls Tryz.prog 32 #[.pointer (some ⟨xb, 0, none⟩), .agg #[.int .i64 2, .string (S nm), .string (S t1)]] W fun e w' => e = .returned (.int .i64 ((turn d ⟨2, nm, t1⟩).1 : Nat)) ∧ RefD w' xb (turn d ⟨2, nm, t1⟩).2 ∧ MBut xb W w' :=
  rturn_call ⟨2, nm, t1⟩ hi (by decide) (.inr (.inl rfl)) (by show t1.length ≤ _; omega) W hW
theorem ut_mild {w w' : World} {v : Value} {l : List Bs} (h : Ut w v l) (k : dg.Mild w.heap.size w w') : Ut w' v l := by
  have h2 : Ut (ret w' w) v l := h.later (below_ret k)
  exact h2
set_option maxHeartbeats 4000000 in
set_option maxRecDepth 100000 in
theorem act_1 {w0 w : World} {vb p xb t : Nat} {d : Dk} (a : Ak) (lv : Value) (hk : a.kind = 1) (ht : t ≤ 100) (hd : Nv t d) (ha : Fk a) (hU : ∀ w', dg.Mild w0.heap.size w0 w' → Ut w' lv a.l) (h : Vy [] w0 w vb p xb d d) :
    Calls Tryz.prog 9 #[.pointer (some ⟨vb, 0, none⟩), .pointer (some ⟨p, 0, none⟩), .pointer (some ⟨xb, 0, none⟩), .agg (akC a lv)] w fun e w' => e = .returned (.bool true) ∧ Vy [] w0 w' vb p xb (play d a) (play d a) := by
  obtain ⟨kd, s, t1, l, n⟩ := a
  simp only at hk
  subst hk
  have hs := ha.s
  have ht1 := ha.t
  have hl := ha.l
  have hn := ha.n
  simp only at hs ht1 hl hn hU
  have hi : Inv 400 d := hd.inv.mono (by omega)
  have hpl : play d ⟨1, s, t1, l, n⟩ = (putV d s).2.2 := by simp [play]
  rw [hpl]
  have X1 := Lib.hid (h.box #[.int .i64 1, .string (S s), .string (S t1), lv, .int .i64 n])
  unfold akC
  obtain ⟨W1, hW1⟩ : ∃ W1, w.alloc (.cells #[.int .i64 1, .string (S s), .string (S t1), lv, .int .i64 n] 36) = W1 := ⟨_, rfl⟩
  rw [hW1] at X1
  have c0 : W1.cell? ⟨w.heap.size, 0, none⟩ = some (.int .i64 1) := X1.out.arr.cell rfl
  have HU := Lib.hid hU
  have HI := Lib.hid (And.intro hi hd)
  have c1 : W1.cell? ⟨w.heap.size, 1, none⟩ = some (.string (S s)) := X1.out.arr.cell rfl
  have hP := X1.out.prog fun w1 hv => put_call s (hi.mono (by decide)) hv
  have HT := Lib.hid fun W (hW : RefD W xb d) => rput_call s hs (hi.mono (by decide)) W hW
  generalize putV d s = Z at *
  obtain ⟨zs, ze, zd⟩ := Z
  simp only at hP HT
  clear h ha hU hi hd hpl X1
  go_enter Tryz.func9, Tryz.ntmps9
  go_wp2_with fail
  refine hP.mono ?_
  clear hP c0 c1 hW1
  rintro e w2 ⟨rfl, v2⟩
  have V2 := Lib.hid v2
  have c1 : w2.cell? ⟨w.heap.size, 1, none⟩ = some (.string (S s)) := V2.out.arr.cell rfl
  have hT := v2.ref (HT.out w2 v2.refd)
  clear v2 HT
  go_wp2_with fail
  refine hT.mono ?_
  clear hT c1
  rintro e w3 ⟨rfl, v3⟩
  have V3 := Lib.hid v3
  clear v3 V2
  go_wp2_with fail
  go_ret
  exact ⟨rfl, V3.out.drop⟩
set_option maxHeartbeats 4000000 in
set_option maxRecDepth 100000 in
theorem act_2 {w0 w : World} {vb p xb t : Nat} {d : Dk} (a : Ak) (lv : Value) (hk : a.kind = 2) (ht : t ≤ 100) (hd : Nv t d) (ha : Fk a) (hU : ∀ w', dg.Mild w0.heap.size w0 w' → Ut w' lv a.l) (h : Vy [] w0 w vb p xb d d) :
    Calls Tryz.prog 9 #[.pointer (some ⟨vb, 0, none⟩), .pointer (some ⟨p, 0, none⟩), .pointer (some ⟨xb, 0, none⟩), .agg (akC a lv)] w fun e w' => e = .returned (.bool true) ∧ Vy [] w0 w' vb p xb (play d a) (play d a) := by
  obtain ⟨kd, s, t1, l, n⟩ := a
  simp only at hk
  subst hk
  have hs := ha.s
  have ht1 := ha.t
  have hl := ha.l
  have hn := ha.n
  simp only at hs ht1 hl hn hU
  have hi : Inv 400 d := hd.inv.mono (by omega)
  have hpl : play d ⟨2, s, t1, l, n⟩ = d := by simp [play]
  rw [hpl]
  have X1 := Lib.hid (h.box #[.int .i64 2, .string (S s), .string (S t1), lv, .int .i64 n])
  unfold akC
  obtain ⟨W1, hW1⟩ : ∃ W1, w.alloc (.cells #[.int .i64 2, .string (S s), .string (S t1), lv, .int .i64 n] 36) = W1 := ⟨_, rfl⟩
  rw [hW1] at X1
  have c0 : W1.cell? ⟨w.heap.size, 0, none⟩ = some (.int .i64 2) := X1.out.arr.cell rfl
  have HU := Lib.hid hU
  have HI := Lib.hid (And.intro hi hd)
  have c1 : W1.cell? ⟨w.heap.size, 1, none⟩ = some (.string (S s)) := X1.out.arr.cell rfl
  obtain ⟨q, hq⟩ : ∃ q, dg.sum s = q := ⟨_, rfl⟩
  have hS := sum_call s (by omega) W1 X1.out.keys
  rw [hq] at hS
  have HG := Lib.hid fun W (hV : Vy [(w.heap.size, #[.int .i64 2, .string (S s), .string (S t1), lv, .int .i64 n])] w0 W vb p xb d d) => hV.tell fun w1 hv => get_call q hi.r hv
  have HT := Lib.hid fun W (hW : RefD W xb d) => rget_call q (hi.mono (by decide)) W hW
  have HH := Lib.hid fun W (hV : Vy [(w.heap.size, #[.int .i64 2, .string (S s), .string (S t1), lv, .int .i64 n])] w0 W vb p xb d d) => hV.tell fun w1 hv => has_call q hi.r hv
  generalize getV d q = Z at *
  obtain ⟨zs, ze⟩ := Z
  simp only at HG HT HH
  clear h ha hU hi hd hpl hq
  go_enter Tryz.func9, Tryz.ntmps9
  go_wp2_with fail
  refine hS.mono ?_
  clear hS c0 c1 hW1
  rintro e w1 ⟨rfl, b1⟩
  have V1 := Lib.hid (X1.out.below b1)
  have hG := HG.out w1 V1.out
  clear b1 HG X1
  go_wp2_with fail
  refine hG.mono ?_
  clear hG
  rintro e w2 ⟨rfl, b2⟩
  have V2 := Lib.hid (V1.out.below b2)
  have hT := V2.out.ref (HT.out w2 V2.out.refd)
  clear b2 HT V1
  go_wp2_with fail
  refine hT.mono ?_
  clear hT
  rintro e w3 ⟨rfl, v3⟩
  have V3 := Lib.hid v3
  have hH := HH.out w3 v3
  clear v3 V2 HH
  by_cases h0 : ze = 0
  · subst h0
    rw [decide_eq_true rfl] at hH
    go_wp2_with fail
    refine hH.mono ?_
    clear hH
    rintro e w4 ⟨rfl, b4⟩
    have V4 := Lib.hid (V3.out.below b4)
    clear b4 V3
    go_wp2_with fail
    go_ret
    exact ⟨rfl, V4.out.drop⟩
  · have h0i : ((ze : Int) == 0) = false := by rw [beq_eq_false_iff_ne]; omega
    have h0d : decide ((ze : Int) = 0) = false := decide_eq_false (by omega)
    rw [decide_eq_false h0] at hH
    go_wp2_with fail
    refine hH.mono ?_
    clear hH
    rintro e w4 ⟨rfl, b4⟩
    have V4 := Lib.hid (V3.out.below b4)
    clear b4 V3
    go_wp2_with fail
    go_ret
    exact ⟨rfl, V4.out.drop⟩
set_option maxHeartbeats 4000000 in
set_option maxRecDepth 100000 in
theorem act_3 {w0 w : World} {vb p xb t : Nat} {d : Dk} (a : Ak) (lv : Value) (hk : a.kind = 3) (ht : t ≤ 100) (hd : Nv t d) (ha : Fk a) (hU : ∀ w', dg.Mild w0.heap.size w0 w' → Ut w' lv a.l) (h : Vy [] w0 w vb p xb d d) :
    Calls Tryz.prog 9 #[.pointer (some ⟨vb, 0, none⟩), .pointer (some ⟨p, 0, none⟩), .pointer (some ⟨xb, 0, none⟩), .agg (akC a lv)] w fun e w' => e = .returned (.bool true) ∧ Vy [] w0 w' vb p xb (play d a) (play d a) := by
  obtain ⟨kd, s, t1, l, n⟩ := a
  simp only at hk
  subst hk
  have hs := ha.s
  have ht1 := ha.t
  have hl := ha.l
  have hn := ha.n
  simp only at hs ht1 hl hn hU
  have hi : Inv 400 d := hd.inv.mono (by omega)
  have hpl : play d ⟨3, s, t1, l, n⟩ = d := by simp [play]
  rw [hpl]
  have X1 := Lib.hid (h.box #[.int .i64 3, .string (S s), .string (S t1), lv, .int .i64 n])
  unfold akC
  obtain ⟨W1, hW1⟩ : ∃ W1, w.alloc (.cells #[.int .i64 3, .string (S s), .string (S t1), lv, .int .i64 n] 36) = W1 := ⟨_, rfl⟩
  rw [hW1] at X1
  have c0 : W1.cell? ⟨w.heap.size, 0, none⟩ = some (.int .i64 3) := X1.out.arr.cell rfl
  have HU := Lib.hid hU
  have HI := Lib.hid (And.intro hi hd)
  have c1 : W1.cell? ⟨w.heap.size, 1, none⟩ = some (.string (S s)) := X1.out.arr.cell rfl
  obtain ⟨q, hq⟩ : ∃ q, s = q := ⟨_, rfl⟩
  rw [hq] at c1
  have HG := Lib.hid fun W (hV : Vy [(w.heap.size, #[.int .i64 3, .string (S s), .string (S t1), lv, .int .i64 n])] w0 W vb p xb d d) => hV.tell fun w1 hv => get_call q hi.r hv
  have HT := Lib.hid fun W (hW : RefD W xb d) => rget_call q (hi.mono (by decide)) W hW
  have HH := Lib.hid fun W (hV : Vy [(w.heap.size, #[.int .i64 3, .string (S s), .string (S t1), lv, .int .i64 n])] w0 W vb p xb d d) => hV.tell fun w1 hv => has_call q hi.r hv
  generalize getV d q = Z at *
  obtain ⟨zs, ze⟩ := Z
  simp only at HG HT HH
  have hG := HG.out W1 X1.out
  clear h ha hU hi hd hpl hq HG
  go_enter Tryz.func9, Tryz.ntmps9
  go_wp2_with fail
  refine hG.mono ?_
  clear hG c0 c1 hW1
  rintro e w2 ⟨rfl, b2⟩
  have V2 := Lib.hid (X1.out.below b2)
  have hT := V2.out.ref (HT.out w2 V2.out.refd)
  clear b2 HT X1
  go_wp2_with fail
  refine hT.mono ?_
  clear hT
  rintro e w3 ⟨rfl, v3⟩
  have V3 := Lib.hid v3
  have hH := HH.out w3 v3
  clear v3 V2 HH
  by_cases h0 : ze = 0
  · subst h0
    rw [decide_eq_true rfl] at hH
    go_wp2_with fail
    refine hH.mono ?_
    clear hH
    rintro e w4 ⟨rfl, b4⟩
    have V4 := Lib.hid (V3.out.below b4)
    clear b4 V3
    go_wp2_with fail
    go_ret
    exact ⟨rfl, V4.out.drop⟩
  · have h0i : ((ze : Int) == 0) = false := by rw [beq_eq_false_iff_ne]; omega
    have h0d : decide ((ze : Int) = 0) = false := decide_eq_false (by omega)
    rw [decide_eq_false h0] at hH
    go_wp2_with fail
    refine hH.mono ?_
    clear hH
    rintro e w4 ⟨rfl, b4⟩
    have V4 := Lib.hid (V3.out.below b4)
    clear b4 V3
    go_wp2_with fail
    go_ret
    exact ⟨rfl, V4.out.drop⟩
set_option maxHeartbeats 4000000 in
set_option maxRecDepth 100000 in
theorem act_4 {w0 w : World} {vb p xb t : Nat} {d : Dk} (a : Ak) (lv : Value) (hk : a.kind = 4) (ht : t ≤ 100) (hd : Nv t d) (ha : Fk a) (hU : ∀ w', dg.Mild w0.heap.size w0 w' → Ut w' lv a.l) (h : Vy [] w0 w vb p xb d d) :
    Calls Tryz.prog 9 #[.pointer (some ⟨vb, 0, none⟩), .pointer (some ⟨p, 0, none⟩), .pointer (some ⟨xb, 0, none⟩), .agg (akC a lv)] w fun e w' => e = .returned (.bool true) ∧ Vy [] w0 w' vb p xb (play d a) (play d a) := by
  obtain ⟨kd, s, t1, l, n⟩ := a
  simp only at hk
  subst hk
  have hs := ha.s
  have ht1 := ha.t
  have hl := ha.l
  have hn := ha.n
  simp only at hs ht1 hl hn hU
  have hi : Inv 400 d := hd.inv.mono (by omega)
  have hpl : play d ⟨4, s, t1, l, n⟩ = (keepV d (l.map dg.sum)).2.2 := by simp [play]
  rw [hpl]
  have X1 := Lib.hid (h.box #[.int .i64 4, .string (S s), .string (S t1), lv, .int .i64 n])
  unfold akC
  obtain ⟨W1, hW1⟩ : ∃ W1, w.alloc (.cells #[.int .i64 4, .string (S s), .string (S t1), lv, .int .i64 n] 36) = W1 := ⟨_, rfl⟩
  rw [hW1] at X1
  have c0 : W1.cell? ⟨w.heap.size, 0, none⟩ = some (.int .i64 4) := X1.out.arr.cell rfl
  have HU := Lib.hid hU
  have HI := Lib.hid (And.intro hi hd)
  have c3 : W1.cell? ⟨w.heap.size, 3, none⟩ = some (lv) := X1.out.arr.cell rfl
  obtain ⟨la, lc, rfl⟩ : ∃ a c, lv = .slice a l.length c := by obtain ⟨a, c, e, _⟩ := hU W1 X1.out.m; exact ⟨a, c, e⟩
  have HSu := Lib.hid fun W (hK : dg.Keys W) (hu : Ut W (.slice la l.length lc) l) => sums_call (.slice la l.length lc) l (fun x hx => by have := hl.2 x hx; omega) (by have := hl.1; omega) W hK hu
  have hsn := hd.seen
  have HK : Hid (∀ W, ∀ w1 v B, Vo (besd [(w.heap.size, #[.int .i64 4, .string (S s), .string (S t1), .slice la l.length lc, .int .i64 n])] xb d) w1 W vb p d → Own strSh W B v (l.map dg.sum) → Calls Tryz.prog 28 #[.pointer (some ⟨vb, 0, none⟩), v] W fun e w' => e = .returned (.tuple #[.int .i64 ((keepV d (l.map dg.sum)).1 : Nat), .int .i64 ((keepV d (l.map dg.sum)).2.1 : Nat)]) ∧ Vo (besd [(w.heap.size, #[.int .i64 4, .string (S s), .string (S t1), .slice la l.length lc, .int .i64 n])] xb d) w1 w' vb p (keepV d (l.map dg.sum)).2.2) := fun W w1 v B hv ho =>
    keep_call (w := W) v (l.map dg.sum) (by rw [List.length_map]; have := hl.1; omega) (fun q hq => by
      obtain ⟨z, _, rfl⟩ := List.mem_map.1 hq
      rw [dg.sum_length]; decide) (j := 400) (by decide) (by omega) hi hv (rw.Own.sl strSh ho)
  have HR : Hid (∀ W v B, RefD W xb d → Own strSh W B v (l.map dg.sum) → Calls Tryz.prog 30 #[.pointer (some ⟨xb, 0, none⟩), v] W fun e w' => e = .returned (.tuple #[.int .i64 ((keepV d (l.map dg.sum)).1 : Nat), .int .i64 ((keepV d (l.map dg.sum)).2.1 : Nat)]) ∧ RefD w' xb (keepV d (l.map dg.sum)).2.2 ∧ MBut xb W w') := fun W v B hr ho =>
    rkeep_call v (l.map dg.sum) (by rw [List.length_map]; have := hl.1; omega) (j := 400) (by decide) (by omega) hi W hr ho
  generalize keepV d (l.map dg.sum) = Z at *
  obtain ⟨zn, ze, zd⟩ := Z
  simp only at HK HR
  have hS := HSu.out W1 X1.out.keys (HU.out W1 X1.out.m)
  clear h ha hU hi hd hpl hsn
  go_enter Tryz.func9, Tryz.ntmps9
  go_wp2_with fail
  refine hS.mono ?_
  clear hS c0 c3 hW1
  rintro e w1 ⟨u1, rfl, o1, b1⟩
  have hK := (X1.out.below b1).prog fun wb hv => HK.out w1 wb u1 _ hv o1
  clear b1 X1 HK o1
  go_wp2_with fail
  refine hK.mono ?_
  clear hK
  rintro e w2 ⟨rfl, v2⟩
  have V2 := Lib.hid v2
  have c3 : w2.cell? ⟨w.heap.size, 3, none⟩ = some (.slice la l.length lc) := V2.out.arr.cell rfl
  have hS := HSu.out w2 V2.out.keys (HU.out w2 V2.out.m)
  clear v2 HSu
  go_wp2_with fail
  refine hS.mono ?_
  clear hS c3
  rintro e w3 ⟨u3, rfl, o3, b3⟩
  have V3 := Lib.hid (V2.out.below b3)
  have hR := V3.out.ref (HR.out w3 u3 _ V3.out.refd o3)
  clear o3 b3 V2 HR
  go_wp2_with fail
  refine hR.mono ?_
  clear hR
  rintro e w4 ⟨rfl, v4⟩
  have V4 := Lib.hid v4
  clear v4 V3
  go_wp2_with fail
  go_ret
  exact ⟨rfl, V4.out.drop⟩
set_option maxHeartbeats 4000000 in
set_option maxRecDepth 100000 in
theorem act_5 {w0 w : World} {vb p xb t : Nat} {d : Dk} (a : Ak) (lv : Value) (hk : a.kind = 5) (ht : t ≤ 100) (hd : Nv t d) (ha : Fk a) (hU : ∀ w', dg.Mild w0.heap.size w0 w' → Ut w' lv a.l) (h : Vy [] w0 w vb p xb d d) :
    Calls Tryz.prog 9 #[.pointer (some ⟨vb, 0, none⟩), .pointer (some ⟨p, 0, none⟩), .pointer (some ⟨xb, 0, none⟩), .agg (akC a lv)] w fun e w' => e = .returned (.bool true) ∧ Vy [] w0 w' vb p xb (play d a) (play d a) := by
  obtain ⟨kd, s, t1, l, n⟩ := a
  simp only at hk
  subst hk
  have hs := ha.s
  have ht1 := ha.t
  have hl := ha.l
  have hn := ha.n
  simp only at hs ht1 hl hn hU
  have hi : Inv 400 d := hd.inv.mono (by omega)
  have hpl : play d ⟨5, s, t1, l, n⟩ = (turn d ⟨2, vname (dg.sum s), t1⟩).2 := by simp [play]
  rw [hpl]
  have X1 := Lib.hid (h.box #[.int .i64 5, .string (S s), .string (S t1), lv, .int .i64 n])
  unfold akC
  obtain ⟨W1, hW1⟩ : ∃ W1, w.alloc (.cells #[.int .i64 5, .string (S s), .string (S t1), lv, .int .i64 n] 36) = W1 := ⟨_, rfl⟩
  rw [hW1] at X1
  have c0 : W1.cell? ⟨w.heap.size, 0, none⟩ = some (.int .i64 5) := X1.out.arr.cell rfl
  have HU := Lib.hid hU
  have HI := Lib.hid (And.intro hi hd)
  have c1 : W1.cell? ⟨w.heap.size, 1, none⟩ = some (.string (S s)) := X1.out.arr.cell rfl
  have hS := sum_call s (by omega) W1 X1.out.keys
  have hH := Lib.hid fun W => hex_call (dg.sum s) (by rw [dg.sum_length]; decide) W
  have hvn : (⟨#[98]⟩ : ByteArray) ++ S (dg.hex (dg.sum s)) = S (vname (dg.sum s)) := by
    show S [98] ++ S (dg.hex (dg.sum s)) = _
    rw [S_append]; rfl
  have hxz := S_size (dg.hex (dg.sum s))
  have hxl : (dg.hex (dg.sum s)).length = 64 := by rw [dg.hex_length, dg.sum_length]
  generalize vname (dg.sum s) = nm at *
  generalize dg.hex (dg.sum s) = hx at *
  generalize dg.sum s = q at *
  have HP := Lib.hid fun W (hV : Vy [(w.heap.size, #[.int .i64 5, .string (S s), .string (S t1), lv, .int .i64 n])] w0 W vb p xb d d) => hV.prog fun w1 hv => vput_call nm t1 (hi.mono (by decide)) (by omega) hv
  have HT := Lib.hid fun W (hW : RefD W xb d) => rput2_call nm t1 hi ht1 W hW
  generalize turn d ⟨2, nm, t1⟩ = Z at *
  obtain ⟨ze, zd⟩ := Z
  simp only at HP HT
  clear h ha hU hi hd hpl
  go_enter Tryz.func9, Tryz.ntmps9
  go_wp2_with fail
  refine hS.mono ?_
  clear hS c0 c1 hW1
  rintro e w1 ⟨rfl, b1⟩
  have V1 := Lib.hid (X1.out.below b1)
  have hHc := hH.out w1
  clear b1 X1 hH
  go_wp2_with fail
  refine hHc.mono ?_
  clear hHc
  rintro e w2 ⟨rfl, b2⟩
  have V2 := Lib.hid (V1.out.below b2)
  clear b2 V1
  go_wp2_with fail
  have Y1 := Lib.hid (V2.out.below (below_drew (Below.refl w2.heap.size w2)))
  have k0 : w2.drew.cell? ⟨w.heap.size, 2, none⟩ = some (.string (S t1)) := Y1.out.arr.cell rfl
  clear V2
  go_region_held3 (fun W => W.cell? ⟨w.heap.size, 2, none⟩ = some (.string (S t1)))
    (first | (with_reducible exact k0) | go_keep)
    (first | (go_at_call 31; with_reducible refine (HP.out _ Y1.out).mono ?_; rintro e w3 ⟨rfl, v3⟩; have Y2 := Lib.hid v3; clear k0; have k0 : w3.cell? ⟨w.heap.size, 2, none⟩ = some (.string (S t1)) := v3.arr.cell rfl; clear v3) | (go_at_call 32; with_reducible refine (Y2.out.ref (HT.out _ Y2.out.refd)).mono ?_; rintro e w4 ⟨rfl, v4⟩; have Y3 := Lib.hid v4; clear k0; have k0 : w4.cell? ⟨w.heap.size, 2, none⟩ = some (.string (S t1)) := v4.arr.cell rfl; clear v4))
  all_goals (
    have Y4 := Y3
    clear k0 Y3 Y2 Y1 HP HT
    go_wp2_with fail
    go_ret
    exact ⟨rfl, Y4.out.drop⟩)
theorem rcrash_call {xb : Nat} {d : Dk} {n : Int} (hi : Inv 400 d) (hn : n ≤ 9223372036854775807 ∧ -9223372036854775808 ≤ n) (w : World) (h : RefD w xb d) :
    Calls Tryz.prog 36 #[.pointer (some ⟨xb, 0, none⟩), .int .i64 n] w fun e w' => e = .returned (.int .i64 ((crash d n).1 : Nat)) ∧ RefD w' xb (crash d n).2 ∧ MBut xb w w' := by
  have rm := hi.rm (by decide)
  refine (dk.refcrash_any xb d n ⟨hn.2, hn.1⟩ hi.r ⟨rm.p, rm.l⟩ hi.s w h).mono ?_
  rintro e w' ⟨he, r, k⟩
  exact ⟨he, r, MBut.of k⟩
set_option maxHeartbeats 4000000 in
set_option maxRecDepth 100000 in
theorem act_7 {w0 w : World} {vb p xb t : Nat} {d : Dk} (a : Ak) (lv : Value) (hk : a.kind = 7) (ht : t ≤ 100) (hd : Nv t d) (ha : Fk a) (hU : ∀ w', dg.Mild w0.heap.size w0 w' → Ut w' lv a.l) (h : Vy [] w0 w vb p xb d d) :
    Calls Tryz.prog 9 #[.pointer (some ⟨vb, 0, none⟩), .pointer (some ⟨p, 0, none⟩), .pointer (some ⟨xb, 0, none⟩), .agg (akC a lv)] w fun e w' => e = .returned (.bool true) ∧ Vy [] w0 w' vb p xb (play d a) (play d a) := by
  obtain ⟨kd, s, t1, l, n⟩ := a
  simp only at hk
  subst hk
  have hs := ha.s
  have ht1 := ha.t
  have hl := ha.l
  have hn := ha.n
  simp only at hs ht1 hl hn hU
  have hi : Inv 400 d := hd.inv.mono (by omega)
  have hpl : play d ⟨7, s, t1, l, n⟩ = (crash d n).2 := by simp [play]
  rw [hpl]
  have X1 := Lib.hid (h.box #[.int .i64 7, .string (S s), .string (S t1), lv, .int .i64 n])
  unfold akC
  obtain ⟨W1, hW1⟩ : ∃ W1, w.alloc (.cells #[.int .i64 7, .string (S s), .string (S t1), lv, .int .i64 n] 36) = W1 := ⟨_, rfl⟩
  rw [hW1] at X1
  have c0 : W1.cell? ⟨w.heap.size, 0, none⟩ = some (.int .i64 7) := X1.out.arr.cell rfl
  have HU := Lib.hid hU
  have HI := Lib.hid (And.intro hi hd)
  have HP := Lib.hid fun W (hV : Vy [(w.heap.size, #[.int .i64 7, .string (S s), .string (S t1), lv, .int .i64 n])] w0 W vb p xb d d) => hV.prog fun w1 hv => vcrash_call n (hi.mono (by decide)) hv
  have HT := Lib.hid fun W (hW : RefD W xb d) => rcrash_call hi hn W hW
  generalize crash d n = Z at *
  obtain ⟨ze, zd⟩ := Z
  simp only at HP HT
  clear h ha hU hi hd hpl
  go_enter Tryz.func9, Tryz.ntmps9
  go_wp2_with fail
  clear c0 hW1
  have Y1 := Lib.hid (X1.out.below (below_drew (Below.refl W1.heap.size W1)))
  have k0 : W1.drew.cell? ⟨w.heap.size, 4, none⟩ = some (.int .i64 n) := Y1.out.arr.cell rfl
  clear X1
  go_region_held3 (fun W => W.cell? ⟨w.heap.size, 4, none⟩ = some (.int .i64 n))
    (first | (with_reducible exact k0) | go_keep)
    (first | (go_at_call 35; with_reducible refine (HP.out _ Y1.out).mono ?_; rintro e w3 ⟨rfl, v3⟩; have Y2 := Lib.hid v3; clear k0; have k0 : w3.cell? ⟨w.heap.size, 4, none⟩ = some (.int .i64 n) := v3.arr.cell rfl; clear v3) | (go_at_call 36; with_reducible refine (Y2.out.ref (HT.out _ Y2.out.refd)).mono ?_; rintro e w4 ⟨rfl, v4⟩; have Y3 := Lib.hid v4; clear k0; have k0 : w4.cell? ⟨w.heap.size, 4, none⟩ = some (.int .i64 n) := v4.arr.cell rfl; clear v4))
  all_goals (
    have Y4 := Y3
    clear k0 Y3 Y2 Y1 HP HT
    go_wp2_with fail
    go_ret
    exact ⟨rfl, Y4.out.drop⟩)
set_option maxHeartbeats 4000000 in
set_option maxRecDepth 100000 in
theorem act_8 {w0 w : World} {vb p xb t : Nat} {d : Dk} (a : Ak) (lv : Value) (hk : a.kind = 8) (ht : t ≤ 100) (hd : Nv t d) (ha : Fk a) (hU : ∀ w', dg.Mild w0.heap.size w0 w' → Ut w' lv a.l) (h : Vy [] w0 w vb p xb d d) :
    Calls Tryz.prog 9 #[.pointer (some ⟨vb, 0, none⟩), .pointer (some ⟨p, 0, none⟩), .pointer (some ⟨xb, 0, none⟩), .agg (akC a lv)] w fun e w' => e = .returned (.bool true) ∧ Vy [] w0 w' vb p xb (play d a) (play d a) := by
  obtain ⟨kd, s, t1, l, n⟩ := a
  simp only at hk
  subst hk
  have hs := ha.s
  have ht1 := ha.t
  have hl := ha.l
  have hn := ha.n
  simp only at hs ht1 hl hn hU
  have hi : Inv 400 d := hd.inv.mono (by omega)
  have hpl : play d ⟨8, s, t1, l, n⟩ = (turn d ⟨2, s, t1⟩).2 := by simp [play]
  rw [hpl]
  have X1 := Lib.hid (h.box #[.int .i64 8, .string (S s), .string (S t1), lv, .int .i64 n])
  unfold akC
  obtain ⟨W1, hW1⟩ : ∃ W1, w.alloc (.cells #[.int .i64 8, .string (S s), .string (S t1), lv, .int .i64 n] 36) = W1 := ⟨_, rfl⟩
  rw [hW1] at X1
  have c0 : W1.cell? ⟨w.heap.size, 0, none⟩ = some (.int .i64 8) := X1.out.arr.cell rfl
  have HU := Lib.hid hU
  have HI := Lib.hid (And.intro hi hd)
  have HP := Lib.hid fun W (hV : Vy [(w.heap.size, #[.int .i64 8, .string (S s), .string (S t1), lv, .int .i64 n])] w0 W vb p xb d d) => hV.prog fun w1 hv => vput_call s t1 (hi.mono (by decide)) (by omega) hv
  have HT := Lib.hid fun W (hW : RefD W xb d) => rput2_call s t1 hi ht1 W hW
  generalize turn d ⟨2, s, t1⟩ = Z at *
  obtain ⟨ze, zd⟩ := Z
  simp only at HP HT
  clear h ha hU hi hd hpl
  go_enter Tryz.func9, Tryz.ntmps9
  go_wp2_with fail
  clear c0 hW1
  have Y1 := Lib.hid (X1.out.below (below_drew (Below.refl W1.heap.size W1)))
  have k0 : W1.drew.cell? ⟨w.heap.size, 1, none⟩ = some (.string (S s)) ∧ W1.drew.cell? ⟨w.heap.size, 2, none⟩ = some (.string (S t1)) := ⟨Y1.out.arr.cell rfl, Y1.out.arr.cell rfl⟩
  clear X1
  go_region_held3 (fun W => W.cell? ⟨w.heap.size, 1, none⟩ = some (.string (S s)) ∧ W.cell? ⟨w.heap.size, 2, none⟩ = some (.string (S t1)))
    (first | (with_reducible exact k0) | go_keep)
    (first | (go_at_call 31; with_reducible refine (HP.out _ Y1.out).mono ?_; rintro e w3 ⟨rfl, v3⟩; have Y2 := Lib.hid v3; clear k0; have k0 : w3.cell? ⟨w.heap.size, 1, none⟩ = some (.string (S s)) ∧ w3.cell? ⟨w.heap.size, 2, none⟩ = some (.string (S t1)) := ⟨v3.arr.cell rfl, v3.arr.cell rfl⟩; clear v3) | (go_at_call 32; with_reducible refine (Y2.out.ref (HT.out _ Y2.out.refd)).mono ?_; rintro e w4 ⟨rfl, v4⟩; have Y3 := Lib.hid v4; clear k0; have k0 : w4.cell? ⟨w.heap.size, 1, none⟩ = some (.string (S s)) ∧ w4.cell? ⟨w.heap.size, 2, none⟩ = some (.string (S t1)) := ⟨v4.arr.cell rfl, v4.arr.cell rfl⟩; clear v4))
  all_goals (
    have Y4 := Y3
    clear k0 Y3 Y2 Y1 HP HT
    go_wp2_with fail
    go_ret
    exact ⟨rfl, Y4.out.drop⟩)
set_option maxHeartbeats 4000000 in
set_option maxRecDepth 100000 in
theorem act_6 {w0 w : World} {vb p xb t : Nat} {d : Dk} (a : Ak) (lv : Value) (hk : a.kind = 6) (ht : t ≤ 100) (hd : Nv t d) (ha : Fk a) (hU : ∀ w', dg.Mild w0.heap.size w0 w' → Ut w' lv a.l) (h : Vy [] w0 w vb p xb d d) :
    Calls Tryz.prog 9 #[.pointer (some ⟨vb, 0, none⟩), .pointer (some ⟨p, 0, none⟩), .pointer (some ⟨xb, 0, none⟩), .agg (akC a lv)] w fun e w' => e = .returned (.bool true) ∧ Vy [] w0 w' vb p xb (play d a) (play d a) := by
  obtain ⟨kd, s, t1, l, n⟩ := a
  simp only at hk
  subst hk
  have hs := ha.s
  have ht1 := ha.t
  have hl := ha.l
  have hn := ha.n
  simp only at hs ht1 hl hn hU
  have hi : Inv 400 d := hd.inv.mono (by omega)
  have hpl : play d ⟨6, s, t1, l, n⟩ = fuse d n := by simp [play]
  rw [hpl]
  have X1 := Lib.hid (h.box #[.int .i64 6, .string (S s), .string (S t1), lv, .int .i64 n])
  unfold akC
  obtain ⟨W1, hW1⟩ : ∃ W1, w.alloc (.cells #[.int .i64 6, .string (S s), .string (S t1), lv, .int .i64 n] 36) = W1 := ⟨_, rfl⟩
  rw [hW1] at X1
  have c0 : W1.cell? ⟨w.heap.size, 0, none⟩ = some (.int .i64 6) := X1.out.arr.cell rfl
  have HU := Lib.hid hU
  have HI := Lib.hid (And.intro hi hd)
  have c4 : W1.cell? ⟨w.heap.size, 4, none⟩ = some (.int .i64 n) := X1.out.arr.cell rfl
  have hP := X1.out.prog fun w1 hv => vfuse_call n ⟨hn.2, hn.1⟩ hv
  have HT : Hid (∀ W, RefD W xb d → Calls Tryz.prog 34 #[.pointer (some ⟨xb, 0, none⟩), .int .i64 n] W fun e w' => e = .returned (.tuple #[]) ∧ RefD w' xb (fuse d n) ∧ MBut xb W w') := fun W hW => (dk.reffuse_any xb d n W hW).mono fun e w' ⟨he, r, k⟩ => ⟨he, r, MBut.of k⟩
  generalize fuse d n = zd at *
  clear h ha hU hi hd hpl X1
  go_enter Tryz.func9, Tryz.ntmps9
  go_wp2_with fail
  refine hP.mono ?_
  clear hP c0 c4 hW1
  rintro e w2 ⟨rfl, v2⟩
  have V2 := Lib.hid v2
  have c4 : w2.cell? ⟨w.heap.size, 4, none⟩ = some (.int .i64 n) := V2.out.arr.cell rfl
  have hT := v2.ref (HT.out w2 v2.refd)
  clear v2 HT
  go_wp2_with fail
  refine hT.mono ?_
  clear hT c4
  rintro e w3 ⟨rfl, v3⟩
  have V3 := Lib.hid v3
  clear v3 V2
  go_wp2_with fail
  go_ret
  exact ⟨rfl, V3.out.drop⟩
set_option maxHeartbeats 4000000 in
set_option maxRecDepth 100000 in
theorem act_other {w0 w : World} {vb p xb t : Nat} {d : Dk} (a : Ak) (lv : Value) (hk : a.kind < 1 ∨ 8 < a.kind) (ht : t ≤ 100) (hd : Nv t d) (ha : Fk a) (hU : ∀ w', dg.Mild w0.heap.size w0 w' → Ut w' lv a.l) (h : Vy [] w0 w vb p xb d d) :
    Calls Tryz.prog 9 #[.pointer (some ⟨vb, 0, none⟩), .pointer (some ⟨p, 0, none⟩), .pointer (some ⟨xb, 0, none⟩), .agg (akC a lv)] w fun e w' => e = .returned (.bool true) ∧ Vy [] w0 w' vb p xb (play d a) (play d a) := by
  obtain ⟨kd, s, t1, l, n⟩ := a
  simp only at hk
  skip
  have hs := ha.s
  have ht1 := ha.t
  have hl := ha.l
  have hn := ha.n
  simp only at hs ht1 hl hn hU
  have hi : Inv 400 d := hd.inv.mono (by omega)
  have hpl : play d ⟨kd, s, t1, l, n⟩ = d := by unfold play; rw [if_neg (by show ¬ kd = 1; omega), if_neg (by show ¬ kd = 4; omega), if_neg (by show ¬ kd = 5; omega), if_neg (by show ¬ kd = 6; omega), if_neg (by show ¬ kd = 7; omega), if_neg (by show ¬ kd = 8; omega)]
  rw [hpl]
  have X1 := Lib.hid (h.box #[.int .i64 kd, .string (S s), .string (S t1), lv, .int .i64 n])
  unfold akC
  obtain ⟨W1, hW1⟩ : ∃ W1, w.alloc (.cells #[.int .i64 kd, .string (S s), .string (S t1), lv, .int .i64 n] 36) = W1 := ⟨_, rfl⟩
  rw [hW1] at X1
  have c0 : W1.cell? ⟨w.heap.size, 0, none⟩ = some (.int .i64 kd) := X1.out.arr.cell rfl
  have HU := Lib.hid hU
  have HI := Lib.hid (And.intro hi hd)
  have q1 : (kd == 1) = false := by rw [beq_eq_false_iff_ne]; omega
  have q2 : (kd == 2) = false := by rw [beq_eq_false_iff_ne]; omega
  have q3 : (kd == 3) = false := by rw [beq_eq_false_iff_ne]; omega
  have q4 : (kd == 4) = false := by rw [beq_eq_false_iff_ne]; omega
  have q5 : (kd == 5) = false := by rw [beq_eq_false_iff_ne]; omega
  have q6 : (kd == 6) = false := by rw [beq_eq_false_iff_ne]; omega
  have q7 : (kd == 7) = false := by rw [beq_eq_false_iff_ne]; omega
  have q8 : (kd == 8) = false := by rw [beq_eq_false_iff_ne]; omega
  clear h ha hU hi hd hpl hk
  go_enter Tryz.func9, Tryz.ntmps9
  go_wp2_with fail
  go_ret
  exact ⟨rfl, X1.out.drop⟩
theorem act_call {w0 w : World} {vb p xb t : Nat} {d : Dk} (a : Ak) (lv : Value) (ht : t ≤ 100) (hd : Nv t d) (ha : Fk a) (hU : ∀ w', dg.Mild w0.heap.size w0 w' → Ut w' lv a.l) (h : Vy [] w0 w vb p xb d d) :
    Calls Tryz.prog 9 #[.pointer (some ⟨vb, 0, none⟩), .pointer (some ⟨p, 0, none⟩), .pointer (some ⟨xb, 0, none⟩), .agg (akC a lv)] w fun e w' => e = .returned (.bool true) ∧ Vy [] w0 w' vb p xb (play d a) (play d a) := by
  by_cases h1 : a.kind = 1
  · exact act_1 a lv h1 ht hd ha hU h
  by_cases h2 : a.kind = 2
  · exact act_2 a lv h2 ht hd ha hU h
  by_cases h3 : a.kind = 3
  · exact act_3 a lv h3 ht hd ha hU h
  by_cases h4 : a.kind = 4
  · exact act_4 a lv h4 ht hd ha hU h
  by_cases h5 : a.kind = 5
  · exact act_5 a lv h5 ht hd ha hU h
  by_cases h6 : a.kind = 6
  · exact act_6 a lv h6 ht hd ha hU h
  by_cases h7 : a.kind = 7
  · exact act_7 a lv h7 ht hd ha hU h
  by_cases h8 : a.kind = 8
  · exact act_8 a lv h8 ht hd ha hU h
  exact act_other a lv (by omega) ht hd ha hU h
end Go.Proofs.YtpimdbnhpbjlkaaGreatDoor.vt
/-! VzG -/
namespace Go.Proofs.YtpimdbnhpbjlkaaGreatDoor.vt
set_option linter.unusedVariables false
open Go.RowKit
open fl (S S_size S_append S_inj)
open rw (Arr But below_box bnext below_drew below_drewN Fr Own)
open dk (Bs File Dk PD Step Nu Inv Live turn sync read fuse crash Right count strSh RefD)

instance : Inhabited Ak := ⟨⟨0, [], [], [], 0⟩⟩
/-- A script, cell by cell. -/
def Aks (w : World) (v : Value) (l : List Ak) : Prop := ∃ a c, v = .slice a l.length c ∧ (∀ j (h : j < l.length), ∃ b off lv, a = some ⟨b, off, none⟩ ∧ b < w.heap.size ∧ (∀ i, i < 5 → w.cell? ⟨b, off + j * 5 + i, none⟩ = (akC (l[j]'h) lv)[i]?) ∧ Ut w lv (l[j]'h).l)
theorem Aks.mild {w w' : World} {v : Value} {l : List Ak} (h : Aks w v l) (k : dg.Mild w.heap.size w w') : Aks w' v l := by
  obtain ⟨a, c, e, hc⟩ := h
  refine ⟨a, c, e, fun j hj => ?_⟩
  obtain ⟨b, off, lv, h1, h2, h3, h4⟩ := hc j hj
  exact ⟨b, off, lv, h1, Nat.lt_of_lt_of_le h2 k.size, fun i hi => (World.cell?_of_block (k.block b h2)).trans (h3 i hi), ut_mild h4 k⟩
theorem Aks.at {w : World} {v : Value} {l : List Ak} (h : Aks w v l) {j : Nat} (hj : j < l.length) : ∃ b off c la lc, v = .slice (some ⟨b, off, none⟩) l.length c ∧ (∀ w', dg.Mild w.heap.size w w' → w'.cell? ⟨b, off + j * 5, none⟩ = some (.int .i64 (l[j]'hj).kind) ∧ w'.cell? ⟨b, off + j * 5 + 1, none⟩ = some (.string (S (l[j]'hj).s)) ∧ w'.cell? ⟨b, off + j * 5 + 2, none⟩ = some (.string (S (l[j]'hj).t)) ∧ w'.cell? ⟨b, off + j * 5 + 3, none⟩ = some (.slice la (l[j]'hj).l.length lc) ∧ w'.cell? ⟨b, off + j * 5 + 4, none⟩ = some (.int .i64 (l[j]'hj).n)) ∧ ∀ w', dg.Mild w.heap.size w w' → Ut w' (.slice la (l[j]'hj).l.length lc) (l[j]'hj).l := by
  obtain ⟨a, c, e, hc⟩ := h
  obtain ⟨b, off, lv, h1, h2, h3, h4⟩ := hc j hj
  obtain ⟨la, lc, rfl⟩ : ∃ a c, lv = .slice a (l[j]'hj).l.length c := by obtain ⟨a, c, e, _⟩ := h4; exact ⟨a, c, e⟩
  refine ⟨b, off, c, la, lc, by rw [e, h1], fun w' k => ?_, fun w' k => ut_mild h4 k⟩
  have hb := k.block b h2
  have g : ∀ i, i < 5 → w'.cell? ⟨b, off + j * 5 + i, none⟩ = (akC (l[j]'hj) (.slice la (l[j]'hj).l.length lc))[i]? := fun i hi => (World.cell?_of_block hb).trans (h3 i hi)
  exact ⟨g 0 (by decide), g 1 (by decide), g 2 (by decide), g 3 (by decide), g 4 (by decide)⟩
/-- What great tells. -/
def GO (l : List Ak) (e : Ending) : Prop := ∃ r, e = .returned (.bool r) ∧ (r = false → l.length ≤ 40 ∧ ∀ a ∈ l, a.l.length ≤ 40)
set_option maxHeartbeats 16000000 in
set_option maxRecDepth 100000 in
theorem great_call (v : Value) (l : List Ak) (w : World) (hv : Aks w v l) : Calls Tryz.prog 5 #[v] w fun e w' => GO l e ∧ Below w.heap.size w w' := by
  obtain ⟨va, vc, rfl⟩ : ∃ a c, v = .slice a l.length c := by obtain ⟨a, c, e, _⟩ := hv; exact ⟨a, c, e⟩
  have HV := Lib.hid hv
  clear hv
  by_cases h40 : l.length ≤ 40
  rotate_left
  · have hi40 : (l.length : Int) > 40 := by omega
    go_enter Tryz.func5, Tryz.ntmps5
    go_wp2_with fail
    go_ret
    exact ⟨⟨true, rfl, fun h => by cases h⟩, Below.refl _ _⟩
  have hi40 : ¬ (l.length : Int) > 40 := by omega
  go_enter Tryz.func5, Tryz.ntmps5
  go_wp2_with fail
  go_loopw [3, 4] (fun n i wr => ∃ k t : Nat, i = .int .i64 (k : Nat) ∧ n = .int .i64 (t : Nat) ∧ k ≤ l.length ∧ t ≤ k * 1080000000 ∧ Hid ((∀ j (h : j < l.length), j < k → (l[j]'h).l.length ≤ 40) ∧ Below w.heap.size w wr))
    (fun _ i _ => l.length - (intOf i).toNat)
  case atStart => exact ⟨0, 0, rfl, rfl, Nat.zero_le _, Nat.zero_le _, fun j h hj => by omega, Below.refl _ _⟩
  case round =>
  obtain ⟨k, t, rfl, rfl, hk, ht, HI⟩ := hrel
  by_cases hlt : k < l.length
  · have hki : (k : Int) < (l.length : Int) := by omega
    obtain ⟨b, off, c, la, lc, e, hc, hu⟩ := HV.out.at hlt
    injection e with e1 e2 e3
    subst e1 e3
    have HC : Hid (∀ w', Below w.heap.size w w' → w'.cell? ⟨b, off + k * 5 + 1, none⟩ = some (.string (S (l[k]'hlt).s)) ∧ w'.cell? ⟨b, off + k * 5 + 2, none⟩ = some (.string (S (l[k]'hlt).t)) ∧ w'.cell? ⟨b, off + k * 5 + 3, none⟩ = some (.slice la (l[k]'hlt).l.length lc)) := fun w' h => ⟨(hc w' (dg.Mild.of h)).2.1, (hc w' (dg.Mild.of h)).2.2.1, (hc w' (dg.Mild.of h)).2.2.2.1⟩
    have HU : Hid (∀ w', Below w.heap.size w w' → Ut w' (.slice la (l[k]'hlt).l.length lc) (l[k]'hlt).l) := fun w' h => hu w' (dg.Mild.of h)
    have HQ : Hid ((l[k]'hlt).l.length ≤ 40 → ∀ j (h : j < l.length), j < k + 1 → (l[j]'h).l.length ≤ 40) := fun h j hj hjk => by
      rcases Nat.lt_or_ge j k with h2 | h2
      · exact HI.out.1 j hj h2
      · obtain rfl : j = k := by omega
        exact h
    have HB := Lib.hid HI.out.2
    generalize l[k]'hlt = a at *
    obtain ⟨kd, s, t1, al, n⟩ := a
    simp only at HC HU HQ
    clear e2 hc hu HI
    obtain ⟨c1, c2, c3⟩ := HC.out wr HB.out
    by_cases hal : al.length ≤ 40
    rotate_left
    · have hali : (al.length : Int) > 40 := by omega
      go_wp2_with fail
      go_ret
      exact ⟨⟨true, rfl, fun h => by cases h⟩, HB.out⟩
    have hali : ¬ (al.length : Int) > 40 := by omega
    have HQ2 := Lib.hid (HQ.out hal)
    have hzs := S_size s
    have hzt := S_size t1
    go_upto_region 9 with (fail)
    obtain ⟨f1, hf1⟩ : ∃ f, min s.length 1048576 = f := ⟨_, rfl⟩
    obtain ⟨f2, hf2⟩ : ∃ f, min t1.length 1048576 = f := ⟨_, rfl⟩
    have hf1l : f1 ≤ 1048576 := by omega
    have hf2l : f2 ≤ 1048576 := by omega
    have HF1 : Hid (∀ W, Calls Tryz.prog 23 #[.int .i64 (s.length : Nat)] W fun e w' => e = .returned (.int .i64 (f1 : Nat)) ∧ Below W.heap.size W w') := fun W => by rw [← hf1]; exact few_call s.length W
    have HF2 : Hid (∀ W, Calls Tryz.prog 23 #[.int .i64 (t1.length : Nat)] W fun e w' => e = .returned (.int .i64 (f2 : Nat)) ∧ Below W.heap.size W w') := fun W => by rw [← hf2]; exact few_call t1.length W
    obtain ⟨z1, hz1⟩ : ∃ z : Nat, t + f1 = z := ⟨_, rfl⟩
    obtain ⟨z2, hz2⟩ : ∃ z : Nat, z1 + f2 = z := ⟨_, rfl⟩
    have q1 : IntKind.i64.wrap ((t : Int) + (f1 : Int)) = (z1 : Int) := by rw [IntWalk.i64_in _ (by omega)]; omega
    have q2 : IntKind.i64.wrap ((z1 : Int) + (f2 : Int)) = (z2 : Int) := by rw [IntWalk.i64_in _ (by omega)]; omega
    have hz2l : z2 ≤ k * 1080000000 + 2097152 := by omega
    have HL : Hid (∀ W, Below w.heap.size w W → Calls Tryz.prog 24 #[.slice la al.length lc] W fun e w' => ∃ n : Nat, e = .returned (.int .i64 (n : Nat)) ∧ n ≤ 1073741824 ∧ LO al n ∧ Below W.heap.size W w') := fun W hW => long_call _ al W (HU.out W hW)
    have Y1 := Lib.hid (below_drew HB.out)
    obtain ⟨k1, k2, k3⟩ := HC.out wr.drew Y1.out
    have k0 : wr.drew.cell? ⟨b, off + k * 5 + 1, none⟩ = some (.string (S s)) ∧ wr.drew.cell? ⟨b, off + k * 5 + 2, none⟩ = some (.string (S t1)) ∧ wr.drew.cell? ⟨b, off + k * 5 + 3, none⟩ = some (.slice la al.length lc) := ⟨k1, k2, k3⟩
    clear k1 k2 k3 c1 c2 c3 hf1 hf2 hz1 hz2 HB HQ HU
    go_region_held3 (fun W => W.cell? ⟨b, off + k * 5 + 1, none⟩ = some (.string (S s)) ∧ W.cell? ⟨b, off + k * 5 + 2, none⟩ = some (.string (S t1)) ∧ W.cell? ⟨b, off + k * 5 + 3, none⟩ = some (.slice la al.length lc))
      (first | (with_reducible exact k0) | go_keep)
      (first
        | (go_at_call 23; with_reducible refine (HF1.out _).mono ?_; rintro e w5 ⟨rfl, b5⟩; replace Y1 := Lib.hid (Y1.out.trans (b5.mono Y1.out.size)); clear k0 b5; have k0 := HC.out _ Y1.out)
        | (go_at_call 23; with_reducible refine (HF2.out _).mono ?_; rintro e w6 ⟨rfl, b6⟩; replace Y1 := Lib.hid (Y1.out.trans (b6.mono Y1.out.size)); clear k0 b6; have k0 := HC.out _ Y1.out)
        | (go_at_call 24; with_reducible refine (HL.out _ Y1.out).mono ?_; rintro e w7 ⟨n7, rfl, hn7, -, b7⟩; replace Y1 := Lib.hid (Y1.out.trans (b7.mono Y1.out.size)); clear k0 b7; have k0 := HC.out _ Y1.out))
    all_goals (
      have Y4 := Y1
      obtain ⟨z3, hz3⟩ : ∃ z : Nat, z2 + n7 = z := ⟨_, rfl⟩
      have q3 : IntKind.i64.wrap ((z2 : Int) + (n7 : Int)) = (z3 : Int) := by rw [IntWalk.i64_in _ (by omega)]; omega
      have hz3l : z3 ≤ (k + 1) * 1080000000 := by omega
      clear k0 Y1 HF1 HF2 HL HC q1 q2 hz3 hz2l
      go_wp2_with fail
      exact ⟨⟨k + 1, z3, by rw [Int.natCast_add]; rfl, congrArg (fun z => Value.int .i64 z) q3, by omega, hz3l, HQ2.out, Y4.out⟩, by simp only [intOf]; omega⟩)
  obtain rfl : k = l.length := by omega
  have hki : ¬ (l.length : Int) < (l.length : Int) := by omega
  have HE : Hid ((∀ a ∈ l, a.l.length ≤ 40) ∧ Below w.heap.size w wr) := ⟨fun a ha => by
    obtain ⟨j, hj, rfl⟩ := List.mem_iff_getElem.1 ha
    exact HI.out.1 j hj hj, HI.out.2⟩
  clear HI
  go_wp2_with fail
  go_ret
  exact ⟨⟨_, rfl, fun _ => ⟨h40, HE.out.1⟩⟩, HE.out.2⟩
end Go.Proofs.YtpimdbnhpbjlkaaGreatDoor.vt
/-! VzL -/
namespace Go.Proofs.YtpimdbnhpbjlkaaGreatDoor.vt
set_option linter.unusedVariables false
open Go.RowKit
open fl (S S_size S_append S_inj)
open rw (Arr But below_box bnext below_drew below_drewN Fr Own)
open dk (Bs File Dk PD Step Nu Inv Live turn sync read fuse crash Right count strSh RefD)

/-- What every act that came in is. -/
structure Fk0 (a : Ak) : Prop where
  s : a.s.length ≤ 140737488351232
  t : a.t.length ≤ 140737488351232
  l : ∀ x ∈ a.l, x.length ≤ 140737488351232
  n : a.n ≤ 9223372036854775807 ∧ -9223372036854775808 ≤ a.n
theorem refd_seen {w : World} {xb : Nat} {d : Dk} (h : RefD w xb d) : ∃ a c, w.cell? ⟨xb, 1, none⟩ = some (.slice a d.seen.length c) ∧ rw.Sl dk.fileSh w (.slice a d.seen.length c) d.seen := by
  obtain ⟨sv, lv, pv, ha, hs, _⟩ := h.a
  have hs2 := hs
  obtain ⟨sa, sc, rfl, _⟩ := hs2
  exact ⟨sa, sc, ha.cell rfl, hs⟩
set_option maxRecDepth 100000 in
theorem used_any (F : Nat → Prop) (p : Nat) (d : Dk) (w : World) (h : PD w F p d) :
    Calls Tryz.prog 10 #[.pointer (some ⟨p, 0, none⟩)] w fun e w' => e = .returned (.int .i64 (dk.used d.seen : Nat)) ∧ w' = w := by
  obtain ⟨bs, bl, Fs, Fl, pv, ts, fz, h1, _, hf, hF⟩ := h
  have c2 := h1.cell (j := 2) (v := .int .i64 (dk.used d.seen : Nat)) rfl
  generalize dk.used d.seen = u at *
  clear h1 hf hF
  go_enter Tryz.func10, Tryz.ntmps10
  go_wp2
  go_ret
  exact ⟨rfl, rfl⟩
set_option maxHeartbeats 16000000 in
set_option maxRecDepth 100000 in
theorem plays_any (cap : Int) (v : Value) (l : List Ak) (W : World) (hK : dg.Keys W) (hv : Aks W v l) (hF : ∀ a ∈ l, Fk0 a) :
    Calls Tryz.prog 3 #[.int .i64 cap, v] W fun e w' => e = .returned (.bool true) ∧ dg.Mild W.heap.size W w' := by
  obtain ⟨va, vc, rfl⟩ : ∃ a c, v = .slice a l.length c := by obtain ⟨a, c, e, _⟩ := hv; exact ⟨a, c, e⟩
  have HAl := Lib.hid fun w (b : Below W.heap.size W w) => alive_call w (hK.below b hK.pos)
  have HK := Lib.hid hK
  have HV := Lib.hid (And.intro hv hF)
  clear hK hv hF
  have hAl := HAl.out W (Below.refl _ _)
  go_enter Tryz.func3, Tryz.ntmps3
  go_wp2_with fail
  refine hAl.mono ?_
  clear hAl
  rintro e w0 ⟨rfl, b0⟩
  have B0 := Lib.hid b0
  have hG := great_call (.slice va l.length vc) l w0 (HV.out.1.mild (dg.Mild.of b0))
  clear b0
  go_wp2_with fail
  refine hG.mono ?_
  clear hG
  rintro e w1 ⟨⟨r, rfl, hr⟩, b1⟩
  have B1 := Lib.hid (B0.out.trans (b1.mono B0.out.size))
  clear b1 B0
  cases r with
  | true =>
    have hAl := HAl.out w1 B1.out
    clear hr
    go_wp2_with fail
    refine hAl.mono ?_
    clear hAl
    rintro e w2 ⟨rfl, b2⟩
    have B2 := Lib.hid (B1.out.trans (b2.mono B1.out.size))
    clear b2
    go_wp2_with fail
    go_ret
    exact ⟨rfl, dg.Mild.of B2.out⟩
  | false =>
  have HM := Lib.hid (hr rfl)
  have hl40 := HM.out.1
  clear hr HAl
  have hN := dk.pnew_any cap w1
  go_wp2_with fail
  refine hN.mono ?_
  clear hN
  rintro e w2 hN2
  have hR := dk.refnew_any cap w2
  rcases hN2 with ⟨hc, rfl, rfl⟩ | ⟨c, rfl, hc2, p, rfl, hP, b2⟩
  · go_wp2_with fail
    refine hR.mono ?_
    clear hR
    rintro e w3 (⟨_, rfl, rfl⟩ | ⟨c', hc', hc2', _⟩)
    · have hO := open_nil w3
      clear hc
      go_wp2_with fail
      refine hO.mono ?_
      clear hO
      rintro e w4 ⟨rfl, rfl⟩
      go_wp2_with fail
      go_ret
      exact ⟨rfl, dg.Mild.of B1.out⟩
    · omega
  go_wp2_with fail
  refine hR.mono ?_
  clear hR
  rintro e w3 (⟨hc', rfl, rfl⟩ | ⟨c', hc', hc2', rfl, hx, b3⟩)
  · omega
  obtain rfl : c' = c := by omega
  have hO := open_call p w3
  have H3 : Hid (Live w1 w3 p (dk.fresh c') ∧ RefD w3 w2.heap.size (dk.fresh c') ∧ w1.heap.size ≤ w2.heap.size) := ⟨(Live.new (Below.refl w1.heap.size w1) hP b2).below b3, hx, b2.size⟩
  have HN0 : Hid (Nv 0 (dk.fresh c')) := nv_fresh hc2
  clear hP hx b2 b3 hc' hc2 hc2'
  generalize w2.heap.size = xb at *
  generalize dk.fresh c' = d0 at *
  go_wp2_with fail
  refine hO.mono ?_
  clear hO
  rintro e w4 ⟨vb, rfl, hg, ha, b4⟩
  have V4 : Hid (Vy [] w1 w4 vb p xb d0 d0) := by
    have hl := H3.out.1.below b4
    refine ⟨⟨w1, dg.Mild.of (Below.refl _ _), rfl, ⟨hl, ha, Nat.le_trans H3.out.1.since.size hg, HK.out.below B1.out HK.out.pos, H3.out.2.1.below b4, fun x hx => (by cases hx)⟩⟩, H3.out.2.2⟩
  clear hg ha b4 H3
  go_wp2_with fail
  go_loopw [9] (fun i wr => ∃ k : Nat, i = .int .i64 (k : Nat) ∧ k ≤ l.length ∧ Hid (∃ d, Nv k d ∧ Vy [] w1 wr vb p xb d d))
    (fun i _ => l.length - (intOf i).toNat)
  case atStart => exact ⟨0, rfl, Nat.zero_le _, d0, HN0.out, V4.out⟩
  case round =>
  obtain ⟨k, rfl, hk, HI⟩ := hrel
  obtain ⟨d, HI⟩ := HI.out
  replace HI := Lib.hid HI
  by_cases hlt : k < l.length
  · have hki : (k : Int) < (l.length : Int) := by omega
    obtain ⟨b, off, c, la, lc, e, hc, hu⟩ := HV.out.1.at hlt
    injection e with e1 e2 e3
    subst e1 e3
    have hmem := List.getElem_mem hlt
    have hf0 := HV.out.2 _ hmem
    have hl40a := HM.out.2 _ hmem
    have MW : Hid (∀ w', dg.Mild w1.heap.size w1 w' → dg.Mild W.heap.size W w') := fun w' h => (dg.Mild.of B1.out).trans (h.mono B1.out.size)
    generalize l[k]'hlt = a at *
    have hfk : Fk a := ⟨hf0.s, hf0.t, ⟨hl40a, hf0.l⟩, hf0.n⟩
    have HA : Hid (∀ w, Vy [] w1 w vb p xb d d → Calls Tryz.prog 9 #[.pointer (some ⟨vb, 0, none⟩), .pointer (some ⟨p, 0, none⟩), .pointer (some ⟨xb, 0, none⟩), .agg #[.int .i64 a.kind, .string (S a.s), .string (S a.t), .slice la a.l.length lc, .int .i64 a.n]] w fun e w' => e = .returned (.bool true) ∧ Vy [] w1 w' vb p xb (play d a) (play d a)) := fun w hw =>
      act_call a (.slice la a.l.length lc) (t := k) (by omega) HI.out.1 hfk (fun w' h => hu w' (MW.out w' h)) hw
    have HN1 : Hid (Nv (k + 1) (play d a)) := play_nv HI.out.1 hfk
    have Y1 := Lib.hid (HI.out.2.below (below_drew (Below.refl wr.heap.size wr)))
    obtain ⟨c0, c1, c2, c3, c4⟩ := hc wr.drew (MW.out _ Y1.out.m)
    generalize play d a = D at *
    obtain ⟨kd, sa1, sb1, al, an⟩ := a
    simp only at HA c0 c1 c2 c3 c4
    have hNi : Inv 400 D := HN1.out.inv.mono (by omega)
    have hrm := hNi.rm (by decide)
    have hus := hNi.r.used
    have hcp := hNi.r.cap
    have HUs := Lib.hid fun w (h : Vy [] w1 w vb p xb D D) => h.tell fun wz hv => hv.tell fun F hp => used_any F p D w hp
    have HRu := Lib.hid fun (v : Value) (w : World) (h : rw.Sl dk.fileSh w v D.seen) => dk.refused_any v D.seen (Nat.le_trans hrm.s (by decide)) (by omega) w h
    have HPe := Lib.hid fun w (h : Vy [] w1 w vb p xb D D) => h.tell fun wz hv => vpending_call hv
    have HCo := Lib.hid fun w (h : Vy [] w1 w vb p xb D D) => dk.refcount_any xb D hrm.p hNi.s w h.refd
    have HOf := Lib.hid fun w (h : Vy [] w1 w vb p xb D D) => h.tell fun wz hv => hv.tell fun F hp => dk.off_any F p D w hp
    have HRo := Lib.hid fun w (h : Vy [] w1 w vb p xb D D) => dk.refoff_any xb D w h.refd
    have HAl := Lib.hid fun w (h : Vy [] w1 w vb p xb D D) => h.tell fun wz hv => all_call (hNi.mono (by decide)) hv
    have HRa := Lib.hid fun w (h : Vy [] w1 w vb p xb D D) => rall_call (hNi.mono (by decide)) w h.refd
    have hal : (allV D.seen).length ≤ 1000000 := Nat.le_trans (allV_len _) (Nat.le_trans hrm.s (by decide))
    have HSm := Lib.hid fun v u w (h1 : Ut w v (allV D.seen)) (h2 : Ut w u (allV D.seen)) => same_call v u (allV D.seen) hal w h1 h2
    have HSe := Lib.hid fun w (h : Vy [] w1 w vb p xb D D) => refd_seen h.refd
    generalize allV D.seen = av at *
    generalize dk.used D.seen = us at *
    generalize count D.pend = ct at *
    generalize dk.off D = of at *
    clear HI hc hu hf0 hl40a hfk hmem e2 hNi hrm hus hcp hal HM MW
    go_upto_region 11 with (fail)
    go_region_law
      (first
        | (go_simp; go_at_call 9; refine (HA.out _ Y1.out).mono ?_; rintro e w5 ⟨rfl, v5⟩; have V5 := Lib.hid v5; clear c0 c1 c2 c3 c4; obtain ⟨sa, sc, s1, s2⟩ := HSe.out _ v5; have S2 := Lib.hid s2; clear v5 s2 HA Y1 HSe)
        | (go_simp; go_at_call 10; refine (HUs.out _ V5.out).mono ?_; rintro e w6 ⟨rfl, rfl⟩)
        | (go_simp; go_at_call 11; refine (HRu.out _ _ S2.out).mono ?_; rintro e w6 ⟨rfl, rfl⟩)
        | (go_simp; go_at_call 12; refine (HPe.out _ V5.out).mono ?_; rintro e w6 ⟨rfl, rfl⟩)
        | (go_simp; go_at_call 13; refine (HCo.out _ V5.out).mono ?_; rintro e w7 ⟨rfl, b7⟩; have V7 := Lib.hid (V5.out.below b7); clear b7 s1 S2 V5)
        | (go_simp; go_at_call 14; refine (HOf.out _ V7.out).mono ?_; rintro e w8 ⟨rfl, rfl⟩)
        | (go_simp; go_at_call 15; refine (HRo.out _ V7.out).mono ?_; rintro e w8 ⟨rfl, rfl⟩)
        | (go_simp; go_at_call 17; refine (HAl.out _ V7.out).mono ?_; rintro e w9 ⟨v9, rfl, o9, b9⟩; have V9 := Lib.hid (And.intro (V7.out.below b9) o9); clear b9 o9 V7)
        | (go_simp; go_at_call 18; refine (HRa.out _ V9.out.1).mono ?_; rintro e wa ⟨va2, rfl, oa, ba⟩; have VA := Lib.hid (And.intro (V9.out.1.below ba) (And.intro (V9.out.2.below strSh ba) oa)); clear ba oa V9)
        | (go_simp; go_at_call 16; refine (HSm.out _ _ _ (own_ut VA.out.2.1) (own_ut VA.out.2.2)).mono ?_; rintro e wb ⟨rfl, bb⟩; have VB := Lib.hid (VA.out.1.below bb); clear bb VA))
    all_goals (
      have VC := VB
      clear VB HUs HRu HPe HCo HOf HRo HAl HRa HSm
      go_wp2_with fail
      exact ⟨⟨k + 1, by rw [Int.natCast_add]; rfl, by omega, D, HN1.out, VC.out⟩, by simp only [intOf]; omega⟩)
  obtain rfl : k = l.length := by omega
  have hki : ¬ (l.length : Int) < (l.length : Int) := by omega
  have HE : Hid (dg.Mild W.heap.size W wr) := (dg.Mild.of B1.out).trans (HI.out.2.m.mono B1.out.size)
  clear HI
  go_wp2_with fail
  go_ret
  exact ⟨rfl, HE.out⟩
end Go.Proofs.YtpimdbnhpbjlkaaGreatDoor.vt
/-! VzRows -/
namespace Go.Proofs.YtpimdbnhpbjlkaaGreatDoor.vt
open Go.ChangeShapes Go.WideShapes Go.ChangeAt Go.RowKit
open fl (S S_of)
open rw (addr_add)
open dk (Bs strSh)
set_option linter.unusedVariables false

def Lite {H : Type} (d : DataW H) (t : TypeId) : Prop := ∀ n ∈ d.weights Tryz.prog t, n ≤ reachBytes
theorem weights_in {H : Type} {e : TypeId} {n : Nat} : ∀ {es : List (DataW H)} {d : DataW H}, d ∈ es → n ∈ d.weights Tryz.prog e → n ∈ DataW.weightsAll Tryz.prog e es
  | x :: r, d, h, hn => by
    rw [DataW.weightsAll, List.mem_append]
    rcases List.mem_cons.1 h with rfl | h
    · exact .inl hn
    · exact .inr (weights_in h hn)
theorem lite_slice {H : Type} {t e : TypeId} {es sp : List (DataW H)} (ht : Tryz.prog.underlying t = some (.slice e)) (h : Lite (.slice es sp) t) : ∀ d ∈ es, Lite d e := by
  unfold Lite at *
  simp only [DataW.weights, ht] at h
  exact fun d hd n hn => h n (List.mem_cons_of_mem _ (List.mem_append.2 (.inl (weights_in hd hn))))
theorem lite_arg {H : Type} {ts : List TypeId} {ds : List (DataW H)} (h : (DataW.weightsEach Tryz.prog ts ds).all (· ≤ reachBytes) = true) {j : Nat} {t : TypeId} {d : DataW H} (ht : ts[j]? = some t) (hd : ds[j]? = some d) : Lite d t := fun n hn => by
  have := List.all_eq_true.1 h _ (DataW.weights_mem_each ht hd n hn)
  simpa using this
section
variable {H : Type} {enc : TypeId × Value → H} {W : World}
theorem str_of {fuel : Nat} {cs : List Value} {x : DataW H × List MemPlace} (h : DataW.trod enc Tryz.prog W 0 (fun _ => true) true fuel 9 cs = some x) (hw : Lite x.1 9) : ∃ l : List UInt8, cs = [.string (S l)] ∧ l.length ≤ reachBytes := by
  obtain ⟨s, rfl, d0, _⟩ := DataW.trod_string Tryz.underlying9 h
  refine ⟨s.data.toList, by rw [S_of], ?_⟩
  subst d0
  exact hw _ (by simp [DataW.weights])
theorem reach47 : reachBytes ≤ 140737488351232 := by decide
theorem int_of {fuel : Nat} {cs : List Value} {x : DataW H × List MemPlace} (h : DataW.trod enc Tryz.prog W 0 (fun _ => true) true fuel 3 cs = some x) : ∃ n : Int, cs = [.int .i64 n] ∧ n ≤ 9223372036854775807 ∧ -9223372036854775808 ≤ n := by
  obtain ⟨p, rfl, _, wp⟩ := DataW.trod_int Tryz.underlying3 h
  have bp : -9223372036854775808 ≤ p ∧ p ≤ 9223372036854775807 := by simpa [Lit.wf, IntKind.min, IntKind.max, IntKind.signed, IntKind.bits] using wp
  exact ⟨p, rfl, bp.2, bp.1⟩
/-- A struct's field. -/
theorem field_of {fuel : Nat} {cs : List Value} {x : DataW H × List MemPlace} {t : TypeId} {fs : Array Field} (ht : Tryz.prog.underlying t = some (.struct fs)) (h : DataW.trod enc Tryz.prog W 0 (fun _ => true) true fuel t cs = some x) (hw : Lite x.1 t) (i : Nat) (t' : TypeId) (o : Nat) (hm : fs[i]?.map (fun f => (f.type, f.offset)) = some (t', o)) :
    ∃ n y, DataW.trod enc Tryz.prog W 0 (fun _ => true) true n t' ((cs.drop o).take (Tryz.prog.cellsOf t')) = some y ∧ Lite y.1 t' := by
  obtain ⟨xs, n, rfl, rfl, hl, hxl, hx⟩ := DataW.trod_struct ht h
  obtain ⟨f, hf, he⟩ := Option.map_eq_some_iff.1 hm
  cases he
  have hi : i < xs.length := by
    rw [hxl]
    obtain ⟨h1, _⟩ := Array.getElem?_eq_some_iff.1 hf
    exact h1
  have h1 := hx i f hf
  rw [List.getElem?_eq_getElem hi] at h1
  refine ⟨n, xs[i], h1, fun m hm => hw m ?_⟩
  simp only [DataW.weights, ht]
  refine DataW.weights_mem_each (j := i) (t := f.type) (d := xs[i].1) ?_ ?_ m hm
  · simp [hf]
  · simp [List.getElem?_eq_getElem hi]
theorem struct_len {fuel : Nat} {cs : List Value} {x : DataW H × List MemPlace} {t : TypeId} {fs : Array Field} (ht : Tryz.prog.underlying t = some (.struct fs)) (h : DataW.trod enc Tryz.prog W 0 (fun _ => true) true fuel t cs = some x) : cs.length = Tryz.prog.cellsOf t := by
  obtain ⟨xs, n, rfl, rfl, hl, hxl, hx⟩ := DataW.trod_struct ht h
  exact hl
set_option maxRecDepth 100000 in
theorem texts_of {fuel : Nat} {cs : List Value} {x : DataW H × List MemPlace} (hf : DataW.trod enc Tryz.prog W 0 (fun _ => true) true fuel 34 cs = some x) (hw : Lite x.1 34) : ∃ v l, cs = [v] ∧ Ut W v l ∧ ∀ e ∈ l, e.length ≤ 140737488351232 := by
  rcases Deep.open_slice Tryz.underlying34 hf with ⟨hcs, hx⟩ | ⟨x, len, cap, m, n, D, Pl, hcs, _, hl, hm, hmm, hx, hcell⟩
  · exact ⟨_, [], hcs, ⟨none, 0, rfl, .inl rfl⟩, fun e he => by cases he⟩
  · simp only [if_true] at hmm
    subst hx
    have e1 : Tryz.prog.cellsOf 9 = 1 := by kernel_rfl
    rw [e1] at hcell
    have hls := lite_slice Tryz.underlying34 hw
    have liteI : ∀ i, i < len → Lite (D i) 9 := fun i hi => hls _ (List.mem_map.2 ⟨i, List.mem_range.2 hi, rfl⟩)
    have key : ∀ i, i < len → ∃ k : Bs, W.cell? (x.add i) = some (.string (S k)) ∧ k.length ≤ reachBytes := fun i hi => by
      obtain ⟨cs', h1, h2⟩ := hcell i (by omega)
      obtain ⟨k, rfl, hk⟩ := str_of h2 (liteI i hi)
      obtain ⟨_, _, hc⟩ := World.cells?_some h1
      have := hc 0 (by decide)
      rw [Deep.add_add] at this
      exact ⟨k, by simpa using this, hk⟩
    obtain ⟨f, hfr⟩ := Deep.choose_lt key
    refine ⟨_, (List.range len).map f, hcs, ⟨some x, cap, by simp, ?_⟩, ?_⟩
    · by_cases h0 : len = 0
      · subst h0
        exact .inl (by simp)
      · obtain ⟨b, off, spot⟩ := x
        have h00 := (hfr 0 (by omega)).1
        have hspot : spot = none := by simpa [Addr.add] using World.cell?_spot h00
        subst hspot
        refine .inr ⟨b, off, rfl, by have := World.block_lt_of_cell? W _ h00; rw [addr_add] at this; exact this, fun j hj => ?_⟩
        have hj' : j < len := by simpa using hj
        have h1 := (hfr j hj').1
        rw [addr_add] at h1
        simp only [List.getElem_map, List.getElem_range]
        exact h1
    · intro k hk
      obtain ⟨i, hi, rfl⟩ := List.mem_map.1 hk
      rw [List.mem_range] at hi
      exact Nat.le_trans (hfr i hi).2 reach47
set_option maxRecDepth 100000 in
theorem act_of {fuel : Nat} {cs : List Value} {x : DataW H × List MemPlace} (h : DataW.trod enc Tryz.prog W 0 (fun _ => true) true fuel 36 cs = some x) (hw : Lite x.1 36) :
    ∃ a : Ak, (∃ lv, cs = (akC a lv).toList ∧ Ut W lv a.l) ∧ Fk0 a := by
  have hu := Tryz.underlying36
  have hl : cs.length = 5 := (struct_len hu h).trans (by kernel_rfl)
  obtain ⟨c0, c1, c2, c3, c4, rfl⟩ : ∃ c0 c1 c2 c3 c4, cs = [c0, c1, c2, c3, c4] := by
    match cs, hl with
    | [a, b, c, d, e], _ => exact ⟨a, b, c, d, e, rfl⟩
  have eI : Tryz.prog.cellsOf 3 = 1 := by kernel_rfl
  have eS : Tryz.prog.cellsOf 9 = 1 := by kernel_rfl
  have eL : Tryz.prog.cellsOf 34 = 1 := by kernel_rfl
  obtain ⟨_, y0, f0, _⟩ := field_of hu h hw 0 3 0 rfl
  obtain ⟨_, y1, f1, g1⟩ := field_of hu h hw 1 9 1 rfl
  obtain ⟨_, y2, f2, g2⟩ := field_of hu h hw 2 9 2 rfl
  obtain ⟨_, y3, f3, g3⟩ := field_of hu h hw 3 34 3 rfl
  obtain ⟨_, y4, f4, _⟩ := field_of hu h hw 4 3 4 rfl
  simp only [eI, eS, eL, List.drop_zero, List.drop_succ_cons, List.take_succ_cons, List.take_zero] at f0 f1 f2 f3 f4
  obtain ⟨k0, e0, _⟩ := int_of f0
  obtain ⟨k1, e1, b1⟩ := str_of f1 g1
  obtain ⟨k2, e2, b2⟩ := str_of f2 g2
  obtain ⟨lv, k3, e3, u3, b3⟩ := texts_of f3 g3
  obtain ⟨k4, e4, b4⟩ := int_of f4
  simp only [List.cons.injEq, and_true] at e0 e1 e2 e3 e4
  subst e0 e1 e2 e3 e4
  exact ⟨⟨k0, k1, k2, k3, k4⟩, ⟨_, rfl, u3⟩, ⟨Nat.le_trans b1 reach47, Nat.le_trans b2 reach47, b3, b4⟩⟩
set_option maxRecDepth 100000 in
/-- What the reading of a script gives. -/
theorem aks_of {a : Option Addr} {len cap : Nat} {d : DataW H} {p : List MemPlace}
    (h : DataW.Trod enc Tryz.prog W 0 (fun _ => true) true 22 (.slice a len cap) d p) (hw : Lite d 22) :
    ∃ al : List Ak, Aks W (.slice a len cap) al ∧ ∀ a ∈ al, Fk0 a := by
  obtain ⟨fuel, hf⟩ := h
  rcases Deep.open_slice Tryz.underlying22 hf with ⟨hcs, hx⟩ | ⟨x, l', c', m, n, D, Pl, hcs, _, hl, hm, hmm, hx, hcell⟩
  · simp [Value.cells] at hcs
    obtain ⟨rfl, rfl, rfl⟩ := hcs
    exact ⟨[], ⟨none, 0, rfl, fun j hj => by cases hj⟩, fun a ha => by cases ha⟩
  · simp [Value.cells] at hcs
    obtain ⟨rfl, rfl, rfl⟩ := hcs
    simp only [if_true] at hmm
    simp only [Prod.mk.injEq] at hx
    obtain ⟨rfl, _⟩ := hx
    have e4 : Tryz.prog.cellsOf 36 = 5 := by kernel_rfl
    rw [e4] at hcell
    have hls := lite_slice Tryz.underlying22 hw
    have liteI : ∀ i, i < len → Lite (D i) 36 := fun i hi => hls _ (List.mem_map.2 ⟨i, List.mem_range.2 hi, rfl⟩)
    have key : ∀ i, i < len → ∃ k : Ak, (∃ lv, (∀ j, j < 5 → W.cell? (x.add (i * 5 + j)) = (akC k lv)[j]?) ∧ Ut W lv k.l) ∧ Fk0 k := fun i hi => by
      obtain ⟨cs', h1, h2⟩ := hcell i (by omega)
      obtain ⟨k, ⟨lv, rfl, hu⟩, hk⟩ := act_of h2 (liteI i hi)
      obtain ⟨_, _, hc⟩ := World.cells?_some h1
      refine ⟨k, ⟨lv, fun j hj => ?_, hu⟩, hk⟩
      have := hc j hj
      rw [Deep.add_add] at this
      rw [← Array.getElem?_toList]
      exact this
    obtain ⟨f, hfr⟩ := Deep.choose_lt key
    refine ⟨(List.range len).map f, ⟨some x, cap, by simp, fun j hj => ?_⟩, fun a ha => ?_⟩
    · have hj' : j < len := by simpa using hj
      obtain ⟨⟨lv, h1, hu⟩, _⟩ := hfr j hj'
      obtain ⟨b, off, spot⟩ := x
      have h00 := h1 0 (by omega)
      obtain ⟨⟨lv0, h10, -⟩, -⟩ := hfr 0 (by omega)
      have hspot : spot = none := by simpa [Addr.add] using World.cell?_spot ((h10 0 (by omega)).trans rfl)
      subst hspot
      simp only [List.getElem_map, List.getElem_range]
      refine ⟨b, off, lv, rfl, by have := World.block_lt_of_cell? W _ (h00.trans rfl); rw [addr_add] at this; exact this, fun i hi => ?_, hu⟩
      have := h1 i hi
      rw [addr_add] at this
      rw [Nat.add_assoc]
      exact this
    · obtain ⟨i, hi, rfl⟩ := List.mem_map.1 ha
      rw [List.mem_range] at hi
      exact (hfr i hi).2
end
theorem mild_trod {H : Type} {enc : TypeId × Value → H} {P : Program} {t : TypeId} (hl : laidOutB P = true) (hr : P.readableRec t = true) (hrow : t < P.types.size) {W W' : World} {v : Value} {d : DataW H} {ps : List MemPlace}
    (h : DataW.Trod enc P W 0 (fun _ => true) true t v d ps) (hb : dg.Mild W.heap.size W W') (hlt : ∀ x ∈ ps, x.block < W.heap.size) :
    DataW.Trod enc P W' 0 (fun b => decide (b < W.heap.size)) true t v d ps :=
  WideElems.Trod_stays hl hr hrow h (fun x hx => (below_ret hb).same (hlt x hx)) (fun x hx => by simpa using hlt x hx)
end Go.Proofs.YtpimdbnhpbjlkaaGreatDoor.vt
