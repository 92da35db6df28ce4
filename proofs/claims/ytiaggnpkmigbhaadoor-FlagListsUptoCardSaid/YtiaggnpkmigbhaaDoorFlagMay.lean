/-
  The closures that say which bytes may stand where: what they are made of, what they answer.
-/
import Derived.Test.YtiaggnpkmigbhaaDoorFlagAtomR
import Derived.Lib.AtoiErrMem
import Derived.Lib.Bytealg
import Derived.Deep.QuietTactic
import Derived.BigQuiet
namespace Go.Proofs.YtiaggnpkmigbhaaDoor.fl
open Go.RowKit

structure FromAt (lo hi : Nat) (b1 b2 : Nat) (W : World) : Prop where
  c1 : W.cell? ⟨b1, 0, none⟩ = some (.int .u8 (lo : Nat))
  c2 : W.cell? ⟨b2, 0, none⟩ = some (.int .u8 (hi : Nat))
structure InAt (row : List UInt8) (b : Nat) (W : World) : Prop where
  c : W.cell? ⟨b, 0, none⟩ = some (.string (S row))
structure ButAt (lo hi : Nat) (row : List UInt8) (B1 B2 b1 b2 b3 : Nat) (W : World) : Prop where
  m : W.cell? ⟨B1, 0, none⟩ = some (.func (.func 75) #[] #[.pointer (some ⟨b1, 0, none⟩), .pointer (some ⟨b2, 0, none⟩)])
  n : W.cell? ⟨B2, 0, none⟩ = some (.func (.func 76) #[] #[.pointer (some ⟨b3, 0, none⟩)])
  f : FromAt lo hi b1 b2 W
  i : InAt row b3 W

theorem old_cell {B : Nat} {w w' : World} {b : Nat} {v : Value} (h : w.cell? ⟨b, 0, none⟩ = some v) (hb : Below B w w') (hB : w.heap.size ≤ B) : w'.cell? ⟨b, 0, none⟩ = some v :=
  (hb.cell (p := ⟨b, 0, none⟩) (Nat.lt_of_lt_of_le (Lib.lt_of_cell h) hB)).trans h
theorem FromAt.later {lo hi b1 b2 : Nat} {w w' : World} (h : FromAt lo hi b1 b2 w) (hb : Below w.heap.size w w') : FromAt lo hi b1 b2 w' :=
  ⟨old_cell h.c1 hb (Nat.le_refl _), old_cell h.c2 hb (Nat.le_refl _)⟩
theorem InAt.later {row : List UInt8} {b : Nat} {w w' : World} (h : InAt row b w) (hb : Below w.heap.size w w') : InAt row b w' := ⟨old_cell h.c hb (Nat.le_refl _)⟩
theorem ButAt.later {lo hi : Nat} {row : List UInt8} {B1 B2 b1 b2 b3 : Nat} {w w' : World} (h : ButAt lo hi row B1 B2 b1 b2 b3 w) (hb : Below w.heap.size w w') : ButAt lo hi row B1 B2 b1 b2 b3 w' :=
  ⟨old_cell h.m hb (Nat.le_refl _), old_cell h.n hb (Nat.le_refl _), h.f.later hb, h.i.later hb⟩

theorem makeFunc_eq (fn : Fn) (first cap : Array Value) (w : World) : (Instr.makeFunc fn first cap).run Tryd.prog w = .ok (.func fn first cap) w := rfl
theorem heap_alloc_size (w : World) (o : Obj) : (w.alloc o).heap.size = w.heap.size + 1 := by simp

set_option maxRecDepth 100000 in
theorem from_any (lo hi : Nat) (w : World) :
    Calls Tryd.prog 60 #[.int .u8 (lo : Nat), .int .u8 (hi : Nat)] w fun e w' => e = .returned (.func (.func 75) #[] #[.pointer (some ⟨w.heap.size, 0, none⟩), .pointer (some ⟨w.heap.size + 1, 0, none⟩)]) ∧ FromAt lo hi w.heap.size (w.heap.size + 1) w' ∧ w'.heap.size = w.heap.size + 2 ∧ Below w.heap.size w w' := by
  have hmf := makeFunc_eq
  go_enter Tryd.func60, Tryd.ntmps60
  go_wp2
  go_ret
  refine ⟨rfl, ⟨?_, ?_⟩, by simp, ((Below.refl _ _).alloc (Nat.le_refl _) _).alloc (by simp) _⟩
  · rw [World.cell?_alloc_past _ _ _ (by simp), World.cell?_alloc_at _ _ _ _ rfl]; rfl
  · rw [World.cell?_alloc_at _ _ _ _ (by simp)]; rfl

set_option maxRecDepth 100000 in
theorem in_any (row : List UInt8) (w : World) :
    Calls Tryd.prog 61 #[.string (S row)] w fun e w' => e = .returned (.func (.func 76) #[] #[.pointer (some ⟨w.heap.size, 0, none⟩)]) ∧ InAt row w.heap.size w' ∧ w'.heap.size = w.heap.size + 1 ∧ Below w.heap.size w w' := by
  have hmf := makeFunc_eq
  go_enter Tryd.func61, Tryd.ntmps61
  go_wp2
  go_ret
  refine ⟨rfl, ⟨?_⟩, by simp, (Below.refl _ _).alloc (Nat.le_refl _) _⟩
  rw [World.cell?_alloc_at _ _ _ _ rfl]; rfl

set_option maxRecDepth 100000 in
theorem but_any (g1 g2 : Nat) (l1 l2 : Array Value) (w : World) :
    Calls Tryd.prog 59 #[.func (.func g1) #[] l1, .func (.func g2) #[] l2] w fun e w' => e = .returned (.func (.func 74) #[] #[.pointer (some ⟨w.heap.size, 0, none⟩), .pointer (some ⟨w.heap.size + 1, 0, none⟩)]) ∧ w'.cell? ⟨w.heap.size, 0, none⟩ = some (.func (.func g1) #[] l1) ∧ w'.cell? ⟨w.heap.size + 1, 0, none⟩ = some (.func (.func g2) #[] l2) ∧ w'.heap.size = w.heap.size + 2 ∧ Below w.heap.size w w' := by
  have hmf := makeFunc_eq
  go_enter Tryd.func59, Tryd.ntmps59
  go_wp2
  go_ret
  refine ⟨rfl, ?_, ?_, by simp, ((Below.refl _ _).alloc (Nat.le_refl _) _).alloc (by simp) _⟩
  · rw [World.cell?_alloc_past _ _ _ (by simp), World.cell?_alloc_at _ _ _ _ rfl]; rfl
  · rw [World.cell?_alloc_at _ _ _ _ (by simp)]; rfl

/-- What the three made of 'but' have in common. -/
theorem but_made (lo hi : Nat) (row : List UInt8) {w w1 w2 w3 : World}
    (hf : FromAt lo hi w.heap.size (w.heap.size + 1) w1) (s1 : w1.heap.size = w.heap.size + 2) (b1 : Below w.heap.size w w1)
    (hi' : InAt row w1.heap.size w2) (s2 : w2.heap.size = w1.heap.size + 1) (b2 : Below w1.heap.size w1 w2)
    (c1 : w3.cell? ⟨w2.heap.size, 0, none⟩ = some (.func (.func 75) #[] #[.pointer (some ⟨w.heap.size, 0, none⟩), .pointer (some ⟨w.heap.size + 1, 0, none⟩)]))
    (c2 : w3.cell? ⟨w2.heap.size + 1, 0, none⟩ = some (.func (.func 76) #[] #[.pointer (some ⟨w1.heap.size, 0, none⟩)]))
    (b3 : Below w2.heap.size w2 w3) :
    ButAt lo hi row w2.heap.size (w2.heap.size + 1) w.heap.size (w.heap.size + 1) w1.heap.size w3 ∧ Below w.heap.size w w3 :=
  ⟨⟨c1, c2, (hf.later b2).later b3, hi'.later b3⟩, (b1.trans (b2.mono (by omega))).trans (b3.mono (by omega))⟩

set_option maxRecDepth 100000 in
theorem inAtom_any (w : World) :
    Calls Tryd.prog 44 #[] w fun e w' => ∃ B1 B2 b1 b2 b3, e = .returned (.func (.func 74) #[] #[.pointer (some ⟨B1, 0, none⟩), .pointer (some ⟨B2, 0, none⟩)]) ∧ ButAt 33 126 atomSpecials B1 B2 b1 b2 b3 w' ∧ Below w.heap.size w w' := by
  have hf := from_any 33 126
  have hi := in_any atomSpecials
  have hb := but_any 75 76
  rw [show S atomSpecials = ⟨#[40, 41, 123, 37, 42, 34, 92, 93]⟩ from rfl] at hi
  go_enter Tryd.func44, Tryd.ntmps44
  go_wp2_with fail
  refine (hf _).mono ?_
  rintro e w1 ⟨rfl, f1, s1, b1⟩
  go_wp2_with fail
  refine (hi _).mono ?_
  rintro e w2 ⟨rfl, f2, s2, b2⟩
  go_wp2_with fail
  refine (hb _ _ _).mono ?_
  rintro e w3 ⟨rfl, c1, c2, s3, b3⟩
  have hm := but_made 33 126 atomSpecials f1 s1 b1 f2 s2 b2 c1 (by rw [s1]; exact c2) b3
  clear hf hi hb f1 s1 b1 f2 s2 b2 c1 c2 s3 b3
  go_wp2_with fail
  go_ret
  exact ⟨_, _, _, _, _, rfl, hm.1, hm.2⟩

set_option maxRecDepth 100000 in
theorem from1_any (lo hi b1 b2 : Nat) (c : UInt8) (w : World) (h : FromAt lo hi b1 b2 w) :
    Calls Tryd.prog 75 #[.int .u8 (c.toNat : Nat), .pointer (some ⟨b1, 0, none⟩), .pointer (some ⟨b2, 0, none⟩)] w fun e w' => e = .returned (.bool (decide (lo ≤ c.toNat) && decide (c.toNat ≤ hi))) ∧ Below w.heap.size w w' := by
  have c1 := h.c1
  have c2 := h.c2
  generalize c.toNat = x
  by_cases h1 : lo ≤ x
  · have i1 : (lo : Int) ≤ (x : Int) := by omega
    by_cases h2 : x ≤ hi
    · have i2 : (x : Int) ≤ (hi : Int) := by omega
      rw [decide_eq_true h1, decide_eq_true h2]
      clear h h1 h2
      go_enter Tryd.func75, Tryd.ntmps75
      go_wp2
      go_ret
      exact ⟨rfl, Below.refl _ _⟩
    · have i2 : ¬ (x : Int) ≤ (hi : Int) := by omega
      rw [decide_eq_true h1, decide_eq_false h2]
      clear h h1 h2
      go_enter Tryd.func75, Tryd.ntmps75
      go_wp2
      go_ret
      exact ⟨rfl, Below.refl _ _⟩
  · have i1 : ¬ (lo : Int) ≤ (x : Int) := by omega
    rw [decide_eq_false h1, Bool.false_and]
    clear h h1
    go_enter Tryd.func75, Tryd.ntmps75
    go_wp2
    go_ret
    exact ⟨rfl, Below.refl _ _⟩

set_option maxRecDepth 100000 in
theorem index_any (s : ByteArray) (c : Int) (w : World) :
    Calls Tryd.prog 85 #[.string s, .int .u8 c] w fun e w' => e = .returned (.int .i64 (Lib.indexByte s.data.toList c.toNat.toUInt8)) ∧ w' = w := by
  go_enter Tryd.func85, Tryd.ntmps85
  go_wp2
  rw [run_callFunc_extern Tryd.func95 (by kernel_rfl) (by kernel_rfl) (by kernel_rfl) (e := Extern.BytealgIndexByte.indexByte) (by kernel_rfl), Lib.run_indexByteString]
  simp only [Result.andThen]
  rw [Oper.upon_value]
  go_wp2
  go_ret
  exact ⟨rfl, rfl⟩
theorem index_mem (c : UInt8) : ∀ l : List UInt8, (0 ≤ Lib.indexByte l c) = (c ∈ l)
  | [] => by simp [Lib.indexByte]
  | b :: l => by
    have ih := index_mem c l
    have hge := Lib.indexByte_ge l c
    rw [Lib.indexByte]
    apply propext
    by_cases hb : b = c
    · subst hb
      simp
    · have hb' : (b == c) = false := by simp [hb]
      rw [if_neg (by simp [hb])]
      simp only [List.mem_cons]
      have hc : ¬ c = b := fun e => hb e.symm
      rw [← ih]
      by_cases h1 : Lib.indexByte l c = -1
      · rw [h1]; simp [hc]
      · rw [if_neg (by simpa using h1)]
        constructor
        · intro h; right; omega
        · intro h; rcases h with h | h
          · exact absurd h hc
          · omega

set_option maxRecDepth 100000 in
theorem in1_any (row : List UInt8) (b : Nat) (c : UInt8) (w : World) (h : InAt row b w) :
    Calls Tryd.prog 76 #[.int .u8 (c.toNat : Nat), .pointer (some ⟨b, 0, none⟩)] w fun e w' => e = .returned (.bool (decide (c ∈ row))) ∧ Below w.heap.size w w' := by
  have c1 := h.c
  have hx := index_any (S row) (c.toNat : Nat)
  rw [S_data, Int.toNat_natCast, show c.toNat.toUInt8 = c by simp] at hx
  have hm := index_mem c row
  generalize Lib.indexByte row c = q at *
  go_enter Tryd.func76, Tryd.ntmps76
  go_wp2_with (first | (go_at_call 85; refine (hx _).mono ?_; rintro e w' ⟨rfl, rfl⟩) | go_in)
  all_goals go_ret
  all_goals exact ⟨rfl, Below.refl _ _⟩

def mayb (lo hi : Nat) (row : List UInt8) (c : UInt8) : Bool := decide (lo ≤ c.toNat) && decide (c.toNat ≤ hi) && !decide (c ∈ row)

set_option maxRecDepth 100000 in
theorem but1_any (lo hi : Nat) (row : List UInt8) (B1 B2 b1 b2 b3 : Nat) (c : UInt8) (w : World) (h : ButAt lo hi row B1 B2 b1 b2 b3 w) :
    Calls Tryd.prog 74 #[.int .u8 (c.toNat : Nat), .pointer (some ⟨B1, 0, none⟩), .pointer (some ⟨B2, 0, none⟩)] w fun e w' => e = .returned (.bool (mayb lo hi row c)) ∧ Below w.heap.size w w' := by
  have cm := h.m
  have cn := h.n
  have hf := from1_any lo hi b1 b2 c w h.f
  have hi' := fun W (hb : Below w.heap.size w W) => in1_any row b3 c W (h.i.later hb)
  have hdef : Hid (mayb lo hi row c = (decide (lo ≤ c.toNat) && decide (c.toNat ≤ hi) && !decide (c ∈ row))) := rfl
  generalize mayb lo hi row c = r at *
  generalize (decide (lo ≤ c.toNat) && decide (c.toNat ≤ hi)) = p at *
  generalize decide (c ∈ row) = q at *
  generalize c.toNat = x at *
  have fin : ∀ t : Bool, (p && !q) = t → Ending.returned (Value.bool t) = Ending.returned (Value.bool r) := fun t ht => by rw [hdef.out, ht]
  have FIN := Lib.hid fin
  clear hdef fin
  go_enter Tryd.func74, Tryd.ntmps74
  go_wp2_with fail
  refine hf.mono ?_
  rintro e w1 ⟨rfl, b1⟩
  have cn1 := old_cell cn b1 (Nat.le_refl _)
  have hi1 := hi' w1 b1
  clear hf hi' h cm cn
  cases p with
  | false =>
    go_wp2_with fail
    go_ret
    exact ⟨FIN.out false rfl, b1⟩
  | true =>
    go_wp2_with fail
    refine hi1.mono ?_
    rintro e w2 ⟨rfl, b2⟩
    go_wp2_with fail
    go_ret
    exact ⟨FIN.out (!q) (Bool.true_and _), b1.trans (b2.mono b1.size)⟩

/-- 'all', over whatever the closure is made of: J says how it lies. -/
theorem all_steps (p : UInt8 → Bool) (l : List UInt8) (k : Nat) (h : k < l.length) (hp : p l[k] = false) : l.all p = false := by
  rw [List.all_eq_false]
  exact ⟨l[k], List.getElem_mem h, by rw [hp]; decide⟩
theorem all_whole (p : UInt8 → Bool) (l : List UInt8) (H : ∀ j (h : j < l.length), j < l.length → p l[j] = true) : l.all p = true := by
  rw [List.all_eq_true]
  intro x hx
  obtain ⟨j, hj, e⟩ := List.getElem_of_mem hx
  rw [← e]; exact H j hj hj

set_option maxRecDepth 100000 in
theorem all_any (lo hi : Nat) (row : List UInt8) (B1 B2 b1 b2 b3 : Nat) (l : List UInt8) (hl : l.length ≤ 140737488355328) (w : World) (hA : ButAt lo hi row B1 B2 b1 b2 b3 w) :
    Calls Tryd.prog 43 #[.string (S l), .func (.func 74) #[] #[.pointer (some ⟨B1, 0, none⟩), .pointer (some ⟨B2, 0, none⟩)]] w fun e w' => e = .returned (.bool (l.all (mayb lo hi row))) ∧ Below w.heap.size w w' := by
  have hz := S_size l
  have hc := fun c W (hb : Below w.heap.size w W) => but1_any lo hi row B1 B2 b1 b2 b3 c W (hA.later hb)
  clear hA
  have HC := Lib.hid hc
  clear hc
  go_enter Tryd.func43, Tryd.ntmps43
  go_wp2
  go_loopw [8] (fun i wr => ∃ k : Nat, i = .int .i64 k ∧ k ≤ l.length ∧ Hid (∀ j (h : j < l.length), j < k → mayb lo hi row l[j] = true) ∧ Below w.heap.size w wr)
    (fun i _ => l.length - (intOf i).toNat)
  case atStart => exact ⟨0, rfl, Nat.zero_le _, Lib.hid (fun j _ h => absurd h (by omega)), Below.refl _ _⟩
  case round =>
    obtain ⟨k, rfl, hk, HN, hB⟩ := hrel
    by_cases hlt : k < l.length
    · have hlt' : k < (S l).size := by rw [S_size]; exact hlt
      obtain ⟨d, hd⟩ : ∃ d, l[k]'hlt = d := ⟨_, rfl⟩
      have hx : ((S l)[k]'hlt').toNat = d.toNat := by rw [S_get l k hlt hlt', hd]
      have hki : (k : Int) < (l.length : Int) := by omega
      have hcd := HC.out d _ hB
      cases hm : mayb lo hi row d with
      | false =>
        have HM := Lib.hid (all_steps (mayb lo hi row) l k hlt (by rw [hd, hm]))
        rw [hm] at hcd
        clear HC HN hd hm
        go_wp2_with fail
        refine hcd.mono ?_
        rintro e w2 ⟨rfl, b2⟩
        go_wp2_with fail
        go_ret
        exact ⟨by rw [HM.out]; rfl, hB.trans (b2.mono hB.size)⟩
      | true =>
        rw [hm] at hcd
        have HNN : Hid (∀ j (h : j < l.length), j < k + 1 → mayb lo hi row l[j] = true) := fun j h hj => by
          by_cases h2 : j < k
          · exact HN.out j h h2
          · obtain rfl : j = k := by omega
            rw [hd]; exact hm
        clear hd hm HN
        go_wp2_with fail
        refine hcd.mono ?_
        rintro e w2 ⟨rfl, b2⟩
        go_wp2_with fail
        go_roundw
        case rel => exact ⟨k + 1, by go_num, by omega, HNN, hB.trans (b2.mono hB.size)⟩
        case measure => simp [intOf]; omega
    · obtain rfl : k = l.length := by omega
      have HM := Lib.hid (all_whole (mayb lo hi row) l HN.out)
      clear HN HC
      go_wp2_with fail
      go_ret
      exact ⟨by rw [HM.out]; rfl, hB⟩

theorem mayb_atom (c : UInt8) : mayb 33 126 atomSpecials c = atomByte c := rfl
theorem S_empty_no {l : List UInt8} (h : 0 < l.length) : (S l).toList.isEmpty = false := by
  rw [← decide_eq_emptyBytes]
  exact decide_eq_false (fun e => by
    have := congrArg ByteArray.size e
    rw [S_size] at this
    simp at this
    rw [this] at h
    simp at h)

set_option maxRecDepth 100000 in
theorem atom_any (l : List UInt8) (hl : l.length ≤ 140737488355328) (w : World) :
    Calls Tryd.prog 28 #[.string (S l)] w fun e w' => e = .returned (.bool (atom l)) ∧ Below w.heap.size w w' := by
  by_cases h0 : 0 < l.length
  · have hz := S_size l
    have hemp := S_empty_no h0
    have hat : Hid (atom l = l.all atomByte) := by
      unfold atom
      rw [decide_eq_true h0, Bool.and_true]
      rfl
    have ha := fun B1 B2 b1 b2 b3 W hA => all_any 33 126 atomSpecials B1 B2 b1 b2 b3 l hl W hA
    rw [show mayb 33 126 atomSpecials = atomByte from funext mayb_atom] at ha
    have hi := inAtom_any w
    go_enter Tryd.func28, Tryd.ntmps28
    go_wp2_with fail
    refine hi.mono ?_
    rintro e w1 ⟨B1, B2, b1, b2, b3, rfl, hA, hb⟩
    have h2 := ha B1 B2 b1 b2 b3 w1 hA
    clear ha hA hi
    go_wp2_with fail
    refine h2.mono ?_
    rintro e w2 ⟨rfl, hb2⟩
    go_wp2_with fail
    go_ret
    exact ⟨by rw [hat.out]; rfl, hb.trans (hb2.mono hb.size)⟩
  · have hn : l = [] := List.eq_nil_of_length_eq_zero (by omega)
    subst hn
    change Calls Tryd.prog 28 #[.string ⟨#[]⟩] w _
    go_enter Tryd.func28, Tryd.ntmps28
    go_wp2_with fail
    go_ret
    exact ⟨rfl, Below.refl _ _⟩

end Go.Proofs.YtiaggnpkmigbhaaDoor.fl
