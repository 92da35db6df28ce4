/-
  PROVED: the law WordBoxes of layer 4 (word): for every string and every choice of small letters, what a mailbox is called it is called again, and INBOX goes by any letters; the call answers true and leaves its arguments as they were. Conditions: none but that the library's listed variables hold at the start what the program's text lays there (tied).
-/
import Derived.Test.YtgmopbgcimekhaaDoorRows
import Derived.Test.YtgmopbgcimekhaaDoorCards
import Derived.Test.YtgmopbgcimekhaaDoorTie
import Derived.Test.YtgmopbgcimekhaaDoorWordLaid
import Derived.Test.YtgmopbgcimekhaaDoorWordBoxes
import Derived.WalkKit
import Derived.ShutString
import Derived.SizedLaws
import Derived.SevenTiedAt
import Derived.ChangeOld
namespace Go.Proofs.YtgmopbgcimekhaaDoor.wordBoxes
open Go.ChangeShapes Go.WideShapes Go.ChangeAt Go.RowKit
open Go.ChangeMaps (open_string shut_string)
set_option linter.unusedVariables false

theorem laidOut : laidOutB Tryd.prog = true := by kernel_rfl
theorem cellsB : Tryd.prog.cellsOf 4 = 1 := by kernel_rfl
theorem cellsA : Tryd.prog.cellsOf 36 = 5 := by kernel_rfl

theorem okWide_array5 {W : World} {r : Reach} {base : Nat} {v : Value} (h : Value.okWide Tryd.prog W r base 36 v) : ∃ cs : Array Value, v = .agg cs := by
  have ht := Tryd.underlying36
  simp only [Value.okWide, ht] at h
  obtain ⟨cs, h1, _⟩ := h
  exact ⟨cs, h1⟩

/-- The five values of the array. -/
theorem open5 {H : Type} {enc : TypeId × Value → H} {W : World} {cs : Array Value} {d : DataW H} {p : List MemPlace}
    (h : DataW.Trod enc Tryd.prog W 0 (fun _ => true) true 36 (.agg cs) d p) : ∃ b0 b1 b2 b3 b4 : Bool, cs = #[.bool b0, .bool b1, .bool b2, .bool b3, .bool b4] := by
  obtain ⟨fuel, hf⟩ := h
  obtain ⟨xs, m, rfl, _, hlen, hn, hel⟩ := DataW.trod_array Tryd.underlying36 hf
  rw [cellsA] at hlen
  simp only [Value.cells] at hlen hel
  obtain ⟨l⟩ := cs
  simp only at hlen hel
  match l, hlen with
  | [c0, c1, c2, c3, c4], _ =>
    have g : ∀ i (hi : i < 5), ∃ b, ([c0, c1, c2, c3, c4].drop (i * 1)).take 1 = [.bool b] := fun i hi => by
      have h0 := hel i hi
      rw [cellsB, List.getElem?_eq_getElem (by omega)] at h0
      obtain ⟨b, e, _⟩ := DataW.trod_bool Tryd.underlying4 h0
      exact ⟨b, e⟩
    obtain ⟨b0, e0⟩ := g 0 (by decide)
    obtain ⟨b1, e1⟩ := g 1 (by decide)
    obtain ⟨b2, e2⟩ := g 2 (by decide)
    obtain ⟨b3, e3⟩ := g 3 (by decide)
    obtain ⟨b4, e4⟩ := g 4 (by decide)
    simp at e0 e1 e2 e3 e4
    subst e0 e1 e2 e3 e4
    exact ⟨b0, b1, b2, b3, b4, rfl⟩

set_option maxRecDepth 100000 in
theorem lifted (os : Os) (started : os.Started) (H : Type) (enc : TypeId × Value → H) :
    ReturnsInHanded {} Tryd.checked os 8 .any (fun w args => (Rows.wordBoxesSpec.pre enc Tryd.prog Tryd.f8 [] false w args ∧ laidMetH Tryd.prog wo.laid3 w) ∧ sizedMet enc Tryd.prog Tryd.f8 (OpenSpec.ofChange Rows.wordBoxesSpec) false w args)
      (Rows.wordBoxesSpec.post enc Tryd.prog Tryd.f8 false true false false) := by
  refine returnsInHanded_of_change_and (C := Tryd.checked) (X := fun w _ => laidMetH Tryd.prog wo.laid3 w) (fun _ _ _ hh h => h.of_heap hh) wo.own started (by kernel_rfl) Tryd.func8
    (ChangeSpec.witness_shaped (enc := enc) (C := Tryd.checked) (os := os) (X := fun w _ => laidMetH Tryd.prog wo.laid3 w) false (World.doorLaid Tryd.prog 400 os) #[.string ⟨#[]⟩, .agg #[.bool false, .bool false, .bool false, .bool false, .bool false]] 8 rfl (World.shaped_of_RefB (by kernel_rfl) (by kernel_rfl)) (by kernel_rfl) (by kernel_rfl) (by kernel_rfl) (wo.door_met3 os _)) ?_
  intro W base args ds gs before hval0 hW _ hsz0 hL _
  have hsz : (DataW.weightsEach Tryd.prog (Tryd.f8.params.toList ++ Rows.wordBoxesSpec.plain.varTypes Tryd.prog) (ds ++ gs)).all (· ≤ reachBytes) = true := hsz0
  clear hsz0
  have hval : ∀ (j : Nat) t v, Tryd.f8.params[j]? = some t → args[j]? = some v → Value.okWide Tryd.prog W .any base t v := hval0
  have hW' := hW
  obtain ⟨p, q, hA0, hV, rfl, hfz, hnd⟩ := hW
  have hA : DataW.TrodAll enc Tryd.prog W 0 (fun _ => true) true Tryd.f8.params.toList args.toList ds p := hA0
  rw [Tryd.params8] at hA hval hsz
  obtain ⟨v0, vs0, d0, ds0, p0, q0, hargs, rfl, rfl, h0, r0⟩ := trodAll_cons hA
  obtain ⟨v1, vs1, d1, ds1, p1, q1, rfl, rfl, rfl, h1, r1⟩ := trodAll_cons r0
  obtain ⟨rfl, rfl, rfl⟩ := trodAll_nil r1
  obtain rfl : args = #[v0, v1] := by cases args; simp_all
  obtain ⟨rfl, rfl⟩ := trodVars_none hV
  obtain ⟨s0, rfl, rfl, rfl, w0⟩ := open_string Tryd.underlying9 (hval 0 9 v0 rfl rfl) h0
  obtain ⟨cs, rfl⟩ := okWide_array5 (hval 1 36 v1 rfl rfl)
  have k1 := h1
  have lt1 : ∀ x ∈ p1, x.block < W.heap.size := by obtain ⟨m, hm⟩ := k1; exact DataW.trod_lt m _ _ _ hm
  obtain ⟨b0, b1, b2, b3, b4, rfl⟩ := open5 h1
  clear hA0 hval0
  have hr0 := sized_string hsz (j := 0) (t := 9) rfl rfl
  have hs0 : s0.data.toList.length ≤ 140737488351232 := by
    simp only [reachBytes] at hr0
    omega
  have key := wo.wordboxes_any s0.data.toList (Nat.le_trans hs0 (by decide)) b0 b1 b2 b3 b4 W (wo.tab3 hL)
  simp only [wo.S_of] at key
  refine key.mono fun e W' ⟨he, hg⟩ => ?_
  subst he
  exact ⟨_, rfl, _, _, _, [], _, [], hW', trodAll_cons_mk (shut_bool Tryd.underlying4 _) trodAll_mk0, trodAll_cons_mk (shut_string Tryd.underlying9 w0) (trodAll_cons_mk (Below.trod laidOut (by kernel_rfl) (of_decide_eq_true (by kernel_rfl)) k1 hg lt1) trodAll_mk0), rfl, hg.frame _, fun h => by cases h⟩

theorem row_holds : Rows.WordBoxesSaid :=
  OpenClaim.holds_of_wide 8 Tryd.f8 rfl rfl rfl rfl rfl rfl rfl ⟨rfl, rfl, rfl, rfl, rfl⟩ rfl rfl rfl rfl rfl (by kernel_rfl) Tryd.func8 (by kernel_rfl)
    (of_decide_eq_true (by kernel_rfl)) (by unfold Func.isWrapper; first | (rw [if_pos (by decide +kernel)]; kernel_rfl) | (rw [if_neg (by decide +kernel)]; exact ⟨rfl, rfl⟩))
    (fun os started H enc _ => lifted os started H enc)

theorem proved : Rows.WordBoxesCardSaid :=
  Claim7.holds_tied_plain_at .later [] [.data, .data, .data] true Rows.wordBoxesCard.stood.harness Rows.wordBoxesCard.stood.looks
    row_holds (fun _ h => by cases h) (by kernel_rfl) (fun _ h => by cases h) wordBoxes_row_tie rfl ⟨rfl, rfl⟩ (by kernel_rfl) rfl
    (fun f fn hf hfn => by
      obtain rfl : f = 8 := Option.some.inj ((show Tryd.prog.funcNamed "posthorn/posthornlaw04.WordBoxes" = some 8 by kernel_rfl).symm.trans hf) |>.symm
      obtain rfl : fn = Tryd.f8 := (Option.some.inj (Tryd.func8.symm.trans hfn)).symm
      exact ⟨by kernel_rfl, fun j t ht => by
        rw [Tryd.params8] at ht
        have hm : t ∈ [9, 36] := by simpa using Array.mem_of_getElem? ht
        have hall : ([9, 36].all fun u => !Tryd.prog.wantsStandIn u) = true := by kernel_rfl
        exact (show Tryd.prog.wantsStandIn t = false by simpa using List.all_eq_true.1 hall t hm)⟩)
    (by kernel_rfl)
#print axioms proved
end Go.Proofs.YtgmopbgcimekhaaDoor.wordBoxes
