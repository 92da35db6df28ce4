/-
  What the program's rising answers, where the library's sort does: the numbers laid into a map, gone over in whatever order, sorted.
-/
import Derived.Test.YtbaeillecojilaaDoorSeqNormP
import Derived.Maps.OwnSet
import Derived.Maps.RangeWalk
namespace Go.Proofs.YtbaeillecojilaaDoor.sq
open Go.RowKit Go.Maps

/-- slices.Sort sorts a row of at most N numbers in its place, and nothing else turns. -/
def SortAt (N : Nat) : Prop :=
  (∀ (g cap : Nat) (d : List Nat) (w : World), d.length ≤ N → g < w.heap.size → (∀ j (h : j < d.length), w.cell? ⟨g, j, none⟩ = some (.int .u64 (d[j] : Nat)) ∧ w.frozen? ⟨g, j, none⟩ = false) →
    Calls Tryd.prog 47 #[.slice (some ⟨g, 0, none⟩) d.length cap] w fun e w' => e = .returned (.tuple #[]) ∧
      (∃ d', List.Perm d' d ∧ d'.Pairwise (· ≤ ·) ∧ ∀ j (h : j < d'.length), w'.cell? ⟨g, j, none⟩ = some (.int .u64 (d'[j] : Nat))) ∧ Below g w w' ∧ w.heap.size ≤ w'.heap.size) ∧
  ∀ (w : World), Calls Tryd.prog 47 #[.slice none 0 0] w fun e w' => e = .returned (.tuple #[]) ∧ Below w.heap.size w w'

theorem lawK : Keyed Tryd.prog 31 := int_keyed Tryd.underlying31
abbrev unitR : Value → Option (DataW Unit × List MemPlace) := unitElem (H := Unit)
theorem wf64 {n : Nat} (h : n < 18446744073709551616) : (Lit.int .u64 (n : Int)).wf = true := by
  have h0 : IntKind.u64.min = 0 := by decide
  have h1 : IntKind.u64.max = 18446744073709551615 := by decide
  simp only [Lit.wf, Bool.and_eq_true, decide_eq_true_eq, h0, h1]
  omega
theorem of_wf64 {x : Int} (h : (Lit.int .u64 x).wf = true) : ∃ n : Nat, x = n ∧ n < 18446744073709551616 := by
  have h0 : IntKind.u64.min = 0 := by decide
  have h1 : IntKind.u64.max = 18446744073709551615 := by decide
  simp only [Lit.wf, Bool.and_eq_true, decide_eq_true_eq, h0, h1] at h
  refine ⟨x.toNat, ?_, ?_⟩ <;> omega
theorem same64 (a b : Nat) : (Lit.int .u64 (a : Int)).sameKey (.int .u64 (b : Int)) = decide (a = b) := by
  unfold Lit.sameKey
  rw [Bool.eq_iff_iff]
  simp
  omega

/-- The step over a set of numbers. -/
theorem next_set {P : Program} (w : World) {ops : Array Oper} {rest : List Oper} {o : Oper} {a : Act} {Q : Exit → Act → World → Prop}
    (hg : o.guard = none) (it : Operand) (hop : o.op = Op.next it false) (k : TypeId) (K : Keyed P k) (hk : P.underlying k = some (.int .u64))
    (b r n : Nat) (D : DataW Unit) (left : Lit → Bool) (cnt : Nat) (hit : a.eval it = .pointer (some ⟨r, 0, none⟩)) (h : w.ranges P k unitR b r n D left cnt)
    (hDone : cnt = 0 → (∀ kl, left kl = false) → wpList P ops Q rest (a.put o.dst (.tuple #[.bool false])) w)
    (hMore : ∀ (x : Nat) (w' : World) (cnt' : Nat), x < 18446744073709551616 → left (.int .u64 (x : Int)) = true → w'.ranges P k unitR b r n D (fun z => left z && !z.sameKey (.int .u64 (x : Int))) cnt' → cnt' < cnt →
      w.grownBy w' (some r) → w'.heap.size = w.heap.size → (Instr.entry (.pointer (some ⟨r, 0, none⟩))).run P w' = .ok (.tuple #[.int .u64 (x : Int), .agg #[]]) w' → wpList P ops Q rest (a.put o.dst (.tuple #[.bool true, .int .u64 (x : Int), .agg #[]])) w') :
    wpList P ops Q (o :: rest) a w :=
  wpList_next_ranges (β := Unit) w hg it hop k K unitR (Value.int .u64) (fun _ => .agg #[]) (fun key kl hkey => by obtain ⟨x, rfl, _⟩ := Maps.keyOf_int_inv hk hkey; exact ⟨x, rfl⟩) (fun v y hv => ⟨(), (unitElem_inv hv).1⟩)
    b r n D left cnt hit h hDone (fun x c kl y w' cnt' hkey hlk hv hat hrg hlt hgr hsz hen => by
      obtain ⟨x', ex, rfl, hwx⟩ := Maps.keyOf_int_inv hk hkey
      cases ex
      obtain ⟨m, rfl, hm⟩ := of_wf64 hwx
      exact hMore m w' cnt' hm hlk hrg hlt hgr hsz hen)

/-- What the map holds behind k numbers. -/
def Holds (of : List Nat) (D : DataW Unit) : Prop := ∀ x : Nat, x < 18446744073709551616 → (Maps.has D (.int .u64 (x : Int)) = true ↔ x ∈ of ∧ x ≠ 0)
theorem holds_start : Holds [] (.map []) := fun x _ => by
  constructor
  · intro h; rw [has_eq] at h; simp at h
  · intro h; simp at h
theorem holds_nought {of : List Nat} {D : DataW Unit} {k : Nat} (h : Holds (of.take k) D) (hk : k < of.length) (h0 : of[k] = 0) : Holds (of.take (k + 1)) D := fun x hx => by
  rw [h x hx, List.take_succ_eq_append_getElem hk, h0, List.mem_append, List.mem_singleton]
  constructor
  · rintro ⟨h1, h2⟩; exact ⟨.inl h1, h2⟩
  · rintro ⟨h1 | h1, h2⟩
    · exact ⟨h1, h2⟩
    · exact absurd h1 h2
theorem holds_put {of : List Nat} {D : DataW Unit} {k n : Nat} (h : Holds (of.take k) D) (hk : k < of.length) (hn : of[k] = n) (h0 : n ≠ 0) (hD : IsMap D) (d : DataW Unit) : Holds (of.take (k + 1)) (D.put (.int .u64 (n : Int)) d) := fun x hx => by
  rw [List.take_succ_eq_append_getElem hk, hn, List.mem_append, List.mem_singleton]
  by_cases hxn : x = n
  · subst hxn
    rw [has_put_same (k := .int .u64 (x : Int)) hD trivial]
    simp [h0]
  · rw [has_put_other (k := .int .u64 (n : Int)) (k' := .int .u64 (x : Int)) (by simp; omega), h x hx]
    constructor
    · rintro ⟨h1, h2⟩; exact ⟨.inl h1, h2⟩
    · rintro ⟨h1 | h1, h2⟩
      · exact ⟨h1, h2⟩
      · exact absurd h1 hxn
/-- What has come of the map so far. -/
structure Came (of : List Nat) (left : Lit → Bool) (L : List Nat) : Prop where
  nodup : L.Nodup
  lt : ∀ x ∈ L, x < 18446744073709551616
  mem : ∀ x ∈ L, x ∈ of ∧ x ≠ 0
  left : ∀ x : Nat, x < 18446744073709551616 → (left (.int .u64 (x : Int)) = true ↔ (x ∈ of ∧ x ≠ 0) ∧ x ∉ L)
theorem Came.start {of : List Nat} {D : DataW Unit} (h : Holds of D) : Came of (Maps.has D) [] :=
  ⟨List.nodup_nil, fun x h => by simp at h, fun x h => by simp at h, fun x hx => by rw [h x hx]; simp⟩
theorem Came.next {of : List Nat} {left : Lit → Bool} {L : List Nat} (h : Came of left L) {x : Nat} (hx : x < 18446744073709551616) (hl : left (.int .u64 (x : Int)) = true) : Came of (fun z => left z && !z.sameKey (.int .u64 (x : Int))) (L ++ [x]) := by
  obtain ⟨h1, h2⟩ := (h.left x hx).1 hl
  refine ⟨?_, fun y hy => ?_, fun y hy => ?_, fun y hy => ?_⟩
  · rw [List.nodup_append]
    refine ⟨h.nodup, by simp, fun a ha b hb => ?_⟩
    rw [List.mem_singleton] at hb
    subst hb
    intro e
    exact h2 (e ▸ ha)
  · rcases List.mem_append.1 hy with hy | hy
    · exact h.lt y hy
    · rw [List.mem_singleton] at hy; rw [hy]; exact hx
  · rcases List.mem_append.1 hy with hy | hy
    · exact h.mem y hy
    · rw [List.mem_singleton] at hy; rw [hy]; exact h1
  · rw [Bool.and_eq_true, h.left y hy, same64, List.mem_append, List.mem_singleton]
    constructor
    · rintro ⟨⟨a, b⟩, c⟩
      refine ⟨a, ?_⟩
      rintro (d | d)
      · exact b d
      · subst d; simp at c
    · rintro ⟨a, b⟩
      exact ⟨⟨a, fun d => b (.inl d)⟩, by simp only [Bool.not_eq_true', decide_eq_false_iff_not]; exact fun d => b (.inr d)⟩
theorem Came.rising {of : List Nat} {left : Lit → Bool} {L L' : List Nat} (h : Came of left L) (h64 : ∀ x ∈ of, x < 18446744073709551616) (h0 : ∀ kl, left kl = false) (hp : List.Perm L' L) (hs : L'.Pairwise (· ≤ ·)) : Rising of L' := by
  refine ⟨?_, fun x => ?_⟩
  · have hn : L'.Nodup := hp.nodup_iff.2 h.nodup
    have := hs.and hn
    exact this.imp fun ⟨a, b⟩ => by omega
  · rw [hp.mem_iff]
    constructor
    · exact h.mem x
    · intro hx
      by_cases hm : x ∈ L
      · exact hm
      · have := (h.left x (h64 x hx.1)).2 ⟨hx, hm⟩
        rw [h0] at this
        cases this

set_option maxHeartbeats 4000000 in
set_option maxRecDepth 100000 in
theorem rise_at (N : Nat) (hN : N ≤ 1000000) (hS : SortAt N) : RiseAt N := by
  intro a cap of hl h64 w hr
  obtain ⟨hS1, hS2⟩ := hS
  have H64 := Lib.hid h64
  obtain ⟨i0, hi, hz0, hz1, hz2⟩ := info_parts info64
  have hmm := @run_makeMap Tryd.prog
  have hol : of.length ≤ 1000000 := by omega
  have HS1 := Lib.hid hS1
  have HS2 := Lib.hid hS2
  have HL := Lib.hid hl
  have hb0 : Below w.heap.size w (w.alloc (.map #[] 0)) := (Below.refl _ _).alloc (Nat.le_refl _) _
  have HB0 := Lib.hid hb0
  have HR := Lib.hid hr
  clear hS1 hS2 h64 hl hr hb0
  go_enter Tryd.func33, Tryd.ntmps33
  go_wp2_with fail
  go_loopw [11] (fun i wr => ∃ (k : Nat) (D : DataW Unit), i = .int .i64 k ∧ k ≤ of.length ∧ Hid (wr.ownsMap Tryd.prog 31 unitR w.heap.size k D) ∧ Hid (Holds (of.take k) D) ∧ Below w.heap.size w wr)
    (fun i _ => of.length - (intOf i).toNat)
  case atStart => exact ⟨0, .map [], rfl, Nat.zero_le _, Lib.hid (World.ownsMap_made _ _ _ _), Lib.hid holds_start, HB0.out⟩
  case round =>
    obtain ⟨k, D, rfl, hk, HM, HH, hB⟩ := hrel
    have hBs := hB.size
    by_cases hlt : k < of.length
    · obtain ⟨b, off, rfl, hb, ck⟩ := row64_cell (HR.out.later hB) hlt
      have hki : (k : Int) < (of.length : Int) := by omega
      obtain ⟨x, hx⟩ : ∃ x, of[k]'hlt = x := ⟨_, rfl⟩
      have hx64 := H64.out x (by rw [← hx]; exact List.getElem_mem hlt)
      rw [hx] at ck
      by_cases h0 : x = 0
      · have hq : ((x : Int) == 0) = true := by rw [h0]; rfl
        have hq2 : ((x : Int) != 0) = false := by rw [h0]; rfl
        have HH2 := Lib.hid (holds_nought HH.out hlt (by rw [hx, h0]))
        have HM2 := Lib.hid (HM.out.mono (Nat.le_succ k))
        clear HH HM h0 hx
        go_wp2_with fail
        go_roundw
        case rel => exact ⟨k + 1, D, by go_num, by omega, HM2, HH2, hB⟩
        case measure => simp [intOf]; omega
      · have hq : ((x : Int) == 0) = false := by rw [beq_eq_false_iff_ne]; omega
        have hq2 : ((x : Int) != 0) = true := by simp; omega
        have hkey := keyOf_int_mk (P := Tryd.prog) Tryd.underlying31 (wf64 hx64)
        have HH2 := Lib.hid (holds_put HH.out hlt hx h0 HM.out.isMap (.agg []))
        clear HH h0 hx
        go_wp2_with (first
          | (at_mapUpdate; refine wpList_mapUpdate_own _ rfl _ _ _ 71 rfl 31 72 lawK Tryd.underlying71 unitR w.heap.size k _ rfl HM.out (by unfold maxLen; omega) _ _ _ rfl rfl hkey _ [] unitElem_mk ?_; intro w1 hown1 hgrow1)
          | fail)
        have HM2 := Lib.hid hown1
        have hB2 : Below w.heap.size w w1 := hB.grown hgrow1 hBs (fun j hj => by cases hj; exact Nat.le_refl _)
        clear hown1 hgrow1 HM hkey
        go_wp2_with fail
        go_roundw
        case rel => exact ⟨k + 1, _, by go_num, by omega, HM2, HH2, hB2⟩
        case measure => simp [intOf]; omega
    · obtain rfl : k = of.length := by omega
      have HH2 := HH.out
      rw [List.take_length] at HH2
      have HD := Lib.hid (Came.start HH2)
      have hsz := HM.out.size_le
      clear HH HH2 hlt HB0 HR
      go_wp2_with (first
        | (at_range; refine wpList_range_own _ rfl _ 71 rfl 31 72 lawK Tryd.underlying71 unitR w.heap.size of.length _ rfl HM.out ?_; intro w0 hrg0 hg0 hs0)
        | fail)
      have hB0 : Below w.heap.size w w0 := hB.grown hg0 hBs (fun j hj => by cases hj)
      obtain ⟨r, hr⟩ : ∃ r, wr.heap.size = r := ⟨_, rfl⟩
      rw [hr] at hrg0 hs0 hBs ⊢
      have HRG0 := Lib.hid hrg0
      clear hrg0 HM hg0 hB hr
      go_frame
      go_loopw [6] (fun v wq => ∃ (left : Lit → Bool) (cnt n c : Nat) (a : Option Addr) (L : List Nat), v = .slice a n c ∧ n + cnt ≤ of.length ∧ Hid (n = L.length) ∧ Hid (n = 0 → a = none ∧ c = 0) ∧ Hid (wq.ranges Tryd.prog 31 unitR w.heap.size r of.length D left cnt) ∧ Hid (Came of left L) ∧ Hid (wq.ownsRow (r + 1) 31 1 (.slice a n c) n (cells64 L)) ∧ Hid (r < wq.heap.size) ∧ Below w.heap.size w wq)
        (fun _ wq => wq.rangeLeft w.heap.size r)
      case atStart => exact ⟨_, _, 0, 0, none, [], rfl, by omega, Lib.hid rfl, Lib.hid (fun _ => ⟨rfl, rfl⟩), HRG0, HD, Lib.hid (World.ownsRow_nil _ _ _ _), Lib.hid (by omega), hB0⟩
      case round =>
        obtain ⟨left, cnt, n, c, a', L, rfl, hnc, HNL, HNIL, HRG, HCM, HO, HRS, hBq⟩ := hrel
        have hown := HO.out.lt
        have HOL : Hid (∀ j, (Value.slice a' n c).ownBlock = some j → r + 1 ≤ j) := Lib.hid (fun j hj => (hown j hj).1)
        clear hown
        go_wp2_with (first
          | (at_next; refine next_set _ rfl _ rfl 31 lawK Tryd.underlying31 w.heap.size r of.length _ _ _ rfl HRG.out ?_ ?_)
          | fail)
        · intro _ hl0
          by_cases hn0 : n = 0
          · obtain ⟨rfl, rfl⟩ := HNIL.out hn0
            have hLe : L = [] := List.eq_nil_of_length_eq_zero (by have := HNL.out; omega)
            subst hLe
            subst hn0
            have HRI := Lib.hid (HCM.out.rising H64.out hl0 (List.Perm.refl []) List.Pairwise.nil)
            clear HRG HCM HO HOL HNIL HNL hl0
            go_wp2_with fail
            refine (HS2.out _).mono ?_
            rintro e w6 ⟨rfl, b6⟩
            have hB6 := hBq.trans (b6.mono hBq.size)
            clear b6 hBq
            go_wp2_with fail
            go_ret
            exact ⟨⟨[], none, 0, rfl, .inl rfl, HRI.out, Nat.zero_le _⟩, hB6⟩
          · have hnL := HNL.out
            subst hnL
            obtain ⟨g, rfl, hg1, hg2⟩ := own_slice HO.out (by omega) rfl
            have hsort := HS1.out g c L wr (by have := HL.out; omega) hg2 (fun j hj => ⟨by
              rw [HO.out.cellAt j (by omega)]
              simp [cells64, List.getElem?_eq_getElem hj], HO.out.frozenAt j⟩)
            have HRI : Hid (∀ L', List.Perm L' L → L'.Pairwise (· ≤ ·) → Rising of L') := Lib.hid (fun L' h1 h2 => HCM.out.rising H64.out hl0 h1 h2)
            have hgw : w.heap.size ≤ g := by omega
            clear HRG HCM HO HOL HNIL HNL hl0
            go_wp2_with fail
            refine hsort.mono ?_
            rintro e w6 ⟨rfl, ⟨L', hperm, hpw, hcells⟩, b6, hs6⟩
            have hB6 := hBq.trans (b6.mono hgw)
            have hLL := hperm.length_eq
            have HRO : Hid (Row64 w6 (some ⟨g, 0, none⟩) L') := Lib.hid (.inr ⟨g, 0, rfl, by omega, fun j hj => by rw [Nat.zero_add]; exact hcells j hj⟩)
            have HRI2 := Lib.hid (HRI.out L' hperm hpw)
            have HLL : Hid (L'.length = L.length) := hLL
            clear b6 hBq hsort hperm hpw hcells HRI hLL
            go_wp2_with fail
            go_ret
            exact ⟨⟨L', some ⟨g, 0, none⟩, c, by rw [HLL.out]; rfl, HRO.out, HRI2.out, by rw [HLL.out]; omega⟩, hB6⟩
        · intro x w1 cnt1 hx64 hlf hrg1 hltc hg1 hs1 hen
          have hle_0 := Lib.hid (HRG.out.left_eq)
          have HRG1 := Lib.hid hrg1
          have HCM1 := Lib.hid (HCM.out.next hx64 hlf)
          have HO1 := Lib.hid (HO.out.kept hg1 (by
            by_cases hz : (Value.slice a' n c).ownBlock = none
            · exact .inl hz
            · refine .inr (fun e => ?_)
              have := HOL.out r e
              omega))
          have hB1 : Below w.heap.size w w1 := hBq.grown hg1 hBq.size (fun j hj => by cases hj; exact hBs)
          have hB1s := hB1.size
          have hr1 : r < w1.heap.size := by rw [hs1]; exact HRS.out
          clear hrg1 hlf hg1 hBq HRG HCM HO hs1 HRS
          go_wp2_with (at_builtin; refine wpList_append_own _ rfl _ _ 32 rfl (r + 1) 31 i0 (.int .u64 0) 1 8 Tryd.underlying32 hi hz0 hz1 hz2 rfl (by decide) _ _ _ rfl (HO1.out.alloc _) ⟨w1.heap.size, 0, none⟩ 1 1 [.int .u64 (x : Nat)] rfl rfl ?c1 ?c2 ?c3 ?c4 ?c5 ?_)
          case c1 =>
            intro j u hj
            match j, hj with
            | 0, hj => simp at hj; subst hj; simp [Addr.add]
          case c2 => intro u hu; simp at hu; subst hu; rfl
          case c3 => unfold maxLen; omega
          case c4 => omega
          case c5 => simp; omega
          intro v5 w5 hown' hgrow hnil
          have hB5 : Below w.heap.size w w5 := (hB1.alloc hB1s _).grown hgrow (by simp; omega) (fun j hj => by have := HOL.out j hj; omega)
          obtain ⟨g5, c5, hv5, hg5, _⟩ := hown'.form (by omega)
          subst hv5
          have HRG5 := Lib.hid ((HRG1.out.alloc (.cells #[.int .u64 (x : Nat)] 31)).kept hgrow (fun e => by have := HOL.out _ e.symm; omega) (fun e => by have := HOL.out _ e.symm; omega))
          have HO5 : Hid (w5.ownsRow (r + 1) 31 1 (.slice (some ⟨g5, 0, none⟩) (n + 1) c5) (n + 1) (cells64 (L ++ [x]))) := by
            refine Lib.hid ?_
            rw [cells64_snoc]
            exact hown'
          have HRS5 : Hid (r < w5.heap.size) := Lib.hid (by have := hgrow.size; simp at this; omega)
          have HNL5 : Hid (n + 1 = (L ++ [x]).length) := Lib.hid (by have := HNL.out; simp; omega)
          have hle1 := HRG5.out.left_eq
          have hle0 := hle_0.out
          clear hown' hgrow hnil HO1 hB1 hB1s hr1 HRG1 HOL HNIL HNL hen
          go_wp2_with fail
          go_roundw
          case rel => exact ⟨_, cnt1, n + 1, c5, some ⟨g5, 0, none⟩, L ++ [x], rfl, by omega, HNL5, Lib.hid (fun h => by omega), HRG5, HCM1, HO5, HRS5, hB5⟩
          case measure => rw [hle1, hle0]; exact hltc
end Go.Proofs.YtbaeillecojilaaDoor.sq
