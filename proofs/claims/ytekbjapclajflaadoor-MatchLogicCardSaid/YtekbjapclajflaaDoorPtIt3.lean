/-
  The iterator over a message's fields.
-/
import Derived.Test.YtekbjapclajflaaDoorPtIt2
namespace Go.Proofs.YtekbjapclajflaaDoor.pt
open Go.RowKit Go.Shelf fl
attribute [local go_sem] Oper.semAt_some

/-! ### A region that draws, in a round: taken as one outside (no operation of it defers) -/
theorem oper_round {n : Nat} {P : Program} {l : Nat} {o : Oper} {a : Act} {w : World} {K : Act → World → Prop} {Q : Exit → Act → World → Prop} (hnd : ∀ c, o.op ≠ .defer c)
    (h : o.wpIn Fence.wide n P a w K Q) : o.wpIn (Fence.wide.inRound l) n P a w K Q := by
  unfold Oper.wpIn at h ⊢
  rw [Oper.semAt_plain _ _ _ hnd] at h ⊢
  exact h
theorem region_round {n : Nat} {P : Program} {l id : Nat} {ops : Array Oper} {a : Act} {w : World} {Q : Exit → Act → World → Prop} (hm : P.follows .mixedOrders = true) (hnd : ∀ (j : Nat) (o : Oper), ops[j]? = some o → ∀ c, o.op ≠ .defer c)
    (h : wpAnyIn Fence.wide n P .any ops Q ops.size (Array.replicate ops.size false) a w.drew) : (Code.region id ops true).wpIn (Fence.wide.inRound l) n P Q a w := by
  refine wpIn_region_any hm ?_
  have go : ∀ (fuel : Nat) (listed : Array Bool) (a : Act) (w : World), wpAnyIn Fence.wide n P .any ops Q fuel listed a w → wpAnyIn (Fence.wide.inRound l) n P .any ops Q fuel listed a w := by
    intro fuel
    induction fuel with
    | zero => exact fun _ _ _ h => h
    | succ fuel ih =>
      intro listed a w h
      refine ⟨h.1, fun i hi => ?_⟩
      refine wpOpIn_mono (fun a' w' h' => ih _ a' w' h') ?_
      have h2 := h.2 i hi
      unfold wpOpIn at h2 ⊢
      cases ho : ops[i]? with
      | none => rw [ho] at h2; exact h2
      | some o =>
        rw [ho] at h2
        dsimp only at h2 ⊢
        split at h2
        · next hw => rw [if_pos hw]; exact oper_round (hnd i o ho) h2
        · next hw => rw [if_neg hw]; exact h2
  exact go _ _ _ _ h
theorem no_defer {ops : Array Oper} (h : (ops.toList.all fun o => match o.op with | .defer _ => false | _ => true) = true) : ∀ (j : Nat) (o : Oper), ops[j]? = some o → ∀ c, o.op ≠ .defer c := fun j o ho c hc => by
  have hm : o ∈ ops.toList := by
    rw [← Array.getElem?_toList] at ho
    exact List.mem_of_getElem? ho
  have h2 := List.all_eq_true.1 h o hm
  rw [hc] at h2
  cases h2

theorem trim_any (s : List UInt8) (hs : s.length ≤ 140737488355328) (w : World) :
    Calls Tryd.prog 40 #[.string (S s), .string ⟨#[32, 9]⟩] w fun e w' => e = .returned (.string (S (Lib.trimS s [32, 9]))) ∧ Below w.heap.size w w' := by
  have h := Any.strings_Trim_laid Tryd.lays160 (by kernel_rfl) (S s) ⟨#[32, 9]⟩ w (by rw [S_size]; omega) (by decide) (ascii_of_all (by decide))
  rw [S_data] at h
  exact h

theorem unf_size (ls : List (List UInt8)) : (unf ls).flatten.length = ls.flatten.length := by
  have h := runP_size ls
  unfold unf
  simp only [List.flatten_append, List.flatten_cons, List.flatten_nil, List.append_nil, List.length_append]
  exact h
theorem mem_size : ∀ {l : List (List UInt8)} {x : List UInt8}, x ∈ l → x.length ≤ l.flatten.length
  | y :: l, x, h => by
    simp only [List.flatten_cons, List.length_append]
    rcases List.mem_cons.1 h with e | h
    · subst e; omega
    · have := mem_size h; omega
theorem idx58_room {l : List UInt8} {i : Nat} (h : Lib.indexByte l 58 = i) : i + 1 ≤ l.length := by
  have := (Lib.indexByte_some h).1
  have := (List.getElem?_eq_some_iff.1 this).1
  omega
theorem fieldsU_append (a b : List (List UInt8)) : fieldsU (a ++ b) = fieldsU a ++ fieldsU b := by unfold fieldsU; rw [List.filterMap_append]

/-- Behind an iterator's own loop: what has turned is what is told, or new. -/
theorem it_end {D : Nat} {O O0 O' O3 C : Nat → Prop} {W W0 Wd W3 : World} (B0 : Below W.heap.size W W0) (hD : W0.heap.size ≤ D) (hC : ∀ k, k < W.heap.size → C k → O k) (hO0 : ∀ k, O0 k → C k ∧ (O k ∨ (W.heap.size ≤ k ∧ k < W0.heap.size)))
    (hM : Moved C O0 O' W0 Wd) (hDd : Wd.heap[D]? = some (.deferred (some []))) (nD : ¬ O' D) (h3 : Step O' O3 Wd W3) :
    W3.heap[D]? = some (.deferred (some [])) ∧ Frm O3 W3 (W3.putObj D (.deferred none)) ∧ Moved O O O3 W (W3.putObj D (.deferred none)) := by
  have hdl := (Array.getElem?_eq_some_iff.1 hDd).1
  have nD3 : ¬ O3 D := fun h' => by
    rcases h3.own D h' with h' | h'
    · exact nD h'
    · omega
  have z0 := B0.size
  have z1 := hM.size
  have z3 := h3.size
  have zp : (W3.putObj D (.deferred none)).heap.size = W3.heap.size := by simp [World.putObj]
  refine ⟨(h3.block D hdl nD).trans hDd, frm_put _ _ _ _ nD3, ⟨h3.os.trans (hM.os.trans B0.os), h3.tape.trans (hM.tape.trans B0.tape), h3.output.trans (hM.output.trans B0.output), by omega, fun k hk hn => ?_, fun k hk => ?_⟩⟩
  · have hk0 : ¬ C k := fun h' => hn (hC k hk h')
    refine (World.putObj_heap_other (by omega)).trans ((h3.block k (by omega) (fun h' => ?_)).trans ((hM.block k (by omega) hk0).trans (B0.block k hk)))
    rcases hM.own k h' with h' | h'
    · exact hk0 (hO0 k h').1
    · omega
  · rw [zp]
    rcases h3.own k hk with h' | h'
    · rcases hM.own k h' with h' | h'
      · rcases (hO0 k h').2 with h' | h'
        · exact .inl h'
        · exact .inr ⟨h'.1, by omega⟩
      · exact .inr ⟨by omega, by omega⟩
    · exact .inr ⟨by omega, h'.2⟩

set_option maxRecDepth 100000 in
theorem fields_any (s : ByteArray) (w : World) :
    Calls Tryd.prog 31 #[.string s] w fun e w' => e = .returned (.func (.func 37) #[] #[.pointer (some ⟨w.heap.size, 0, none⟩)]) ∧ w' = w.alloc (.cells #[.string s] 9) := by
  have hmf : ∀ (fn : Fn) (first cap : Array Value) (w : World), (Instr.makeFunc fn first cap).run Tryd.prog w = .ok (.func fn first cap) w := makeFunc_eq
  go_enter Tryd.func31, Tryd.ntmps31
  go_wp2
  go_ret
  exact ⟨rfl, rfl⟩

abbrev Fd2 : Type := List UInt8 × List UInt8
def encF (p : Fd2) : Array Value := #[.string (S p.1), .string (S p.2)]
/-- Between two folded lines. -/
def FC (y : Nat) (yv : Value) (J : List Fd2 → (Nat → Prop) → World → Prop) (d : List Fd2) (O : Nat → Prop) (W : World) (Oo : Nat → Prop) : Prop :=
  J d Oo W ∧ Boxed W y 52 yv ∧ (∀ k, O k ↔ Oo k ∨ k = y) ∧ ¬ Oo y
def FI (y : Nat) (yv : Value) (J : List Fd2 → (Nat → Prop) → World → Prop) (pre : List (List UInt8)) (O : Nat → Prop) (W : World) : Prop := ∃ Oo, FC y yv J (fieldsU pre) O W Oo
def FX (xs : List Fd2) (Jx : List Fd2 → (Nat → Prop) → World → Prop) (c : Code) (_ : List (List UInt8)) (O : Nat → Prop) (W : World) : Prop :=
  c = .ret ∧ ∃ pre, pre <+: xs ∧ Jx pre O W
theorem FI.dep {y : Nat} {yv : Value} {J : List Fd2 → (Nat → Prop) → World → Prop} (hJ : Dep J) : Dep (FI y yv J) := by
  rintro s O X Y ⟨Oo, h1, h2, h3, h4⟩ hf
  exact ⟨Oo, hJ _ _ _ _ h1 (hf.less fun k hk => (h3 k).2 (.inl hk)), hf.boxed h2 ((h3 _).2 (.inr rfl)), h3, h4⟩
theorem FX.dep {xs : List Fd2} {Jx : List Fd2 → (Nat → Prop) → World → Prop} (hJ : Dep Jx) (c : Code) : Dep (FX xs Jx c) := by
  rintro s O X Y ⟨hc, pre, h1, h2⟩ hf
  exact ⟨hc, pre, h1, hJ _ _ _ _ h2 hf⟩
theorem fc_told {y : Nat} {yv : Value} {J : List Fd2 → (Nat → Prop) → World → Prop} {d d' : List Fd2} {O Oo O3 : Nat → Prop} {W Wj W3 : World}
    (h : FC y yv J d O W Oo) (hj : Below W.heap.size W Wj) (h3 : Step Oo O3 Wj W3) :
    (J d' O3 W3 → ∃ O', FC y yv J d' O' W3 O3 ∧ Step O O' W W3) ∧ Step O O3 W W3 := by
  obtain ⟨h1, h2, h5, h6⟩ := h
  have js := hj.size
  have ly := h2.lt
  have s5 : Step O O3 W W3 := ⟨h3.os.trans hj.os, h3.tape.trans hj.tape, h3.output.trans hj.output, by have := h3.size; omega, fun k hk hn => (h3.block k (by omega) (fun h' => hn ((h5 k).2 (.inl h')))).trans (hj.block k hk), fun k hk => by
    rcases h3.own k hk with h' | h'
    · exact .inl ((h5 k).2 (.inl h'))
    · exact .inr ⟨by omega, h'.2⟩⟩
  refine ⟨fun hJ3 => ⟨fun k => O3 k ∨ k = y, ⟨hJ3, (h3.block y (by omega) h6).trans ((hj.block y ly).trans h2), fun _ => Iff.rfl, fun h' => ?_⟩, s5.weak (fun _ h => h) (fun k hk => ?_)⟩, s5⟩
  · rcases h3.own y h' with h' | h'
    · exact h6 h'
    · omega
  · rcases hk with hk | hk
    · exact .inl hk
    · exact .inr (.inl ((h5 k).2 (.inr hk)))

set_option maxRecDepth 100000 in
set_option maxHeartbeats 4000000 in
theorem fields_push (n : Nat) (hn : 10 ≤ n) (bm : Nat) (hbm : 0 < bm) (M : Int) (m : List UInt8) (hm : m.length < 4294967281) (w : World) (hB : Boxed w bm 9 (.string (S m))) (hM : w.cell? ⟨0, 0, none⟩ = some (.int .i64 M)) :
    Push n Tryd.prog 37 #[.pointer (some ⟨bm, 0, none⟩)] encF (fun k => k = 0 ∨ k = bm) (fun _ => False) (fields m) w := by
  intro lp J Jx O W hW hO hJ hJx hY h0
  have hBW := hW.boxed hB (.inr rfl)
  have hMW := hW.cell hM (.inl rfl)
  clear hB hM
  obtain ⟨yv, hyv⟩ : ∃ yv : Value, (.func (.yield lp) #[] #[]) = yv := ⟨_, rfl⟩
  have hblt := hBW.lt
  have hn1 : 1 ≤ n := by omega
  have mixed : Tryd.prog.follows .mixedOrders = true := by kernel_rfl
  obtain ⟨WA, hWA⟩ : ∃ WA, W.alloc (.cells #[yv] 52) = WA := ⟨_, rfl⟩
  have sA : WA.heap.size = W.heap.size + 1 := by rw [← hWA]; simp
  have bA : Below W.heap.size W WA := by rw [← hWA]; exact (Below.refl _ W).alloc (Nat.le_refl _) _
  have yA : Boxed WA W.heap.size 52 yv := by rw [← hWA]; exact Boxed.new W _ _
  have mA : Boxed WA bm 9 (.string (S m)) := by rw [← hWA]; exact hBW.alloc _
  have cA := (bA.cell (p := ⟨0, 0, none⟩) (by show 0 < W.heap.size; omega)).trans hMW
  have hcb := mA.cell
  have hcd : (WA.drew).cell? ⟨bm, 0, none⟩ = some (.string (S m)) := hcb
  have hz := S_size m
  have hhs := hsize_any m hm M WA.drew cA
  have hhl := hsize_le m
  have e1 := S_take m (hsize m)
  change (S m).extract 0 (hsize m) = S (head m) at e1
  have hhd : (head m).length ≤ m.length := by unfold head; rw [List.length_take]; omega
  have HF : Hid (fields m = fieldsU (unf (lines (head m)))) := Lib.hid rfl
  generalize hsize m = hz0 at *
  generalize head m = h at *
  have g1 : (0 : Int) ≤ (hz0 : Int) := by omega
  have g2 : (hz0 : Int) ≤ (m.length : Int) := by omega
  refine callsIn_of_wp_marks Tryd.func37 rfl trivial ?_ rfl
  simp only [Tryd.ntmps37, List.size_toArray, List.length_cons, List.length_nil, Nat.reduceAdd, Nat.reduceSub, Array.replicate_succ, Array.replicate_zero, List.push_toArray, List.append_toArray, List.nil_append, List.cons_append]
  gi_wp2_with fail
  rw [hWA]
  generalize hQ : Exit.then _ _ = QQ
  have H : ∀ w1, Below WA.heap.size WA w1 → QQ Exit.normal { tmps := #[yv, .pointer (some ⟨bm, 0, none⟩), .pointer (some ⟨W.heap.size, 0, none⟩), undef, undef, .string (S m), .string (S m), .int .i64 (hz0 : Nat), .string (S h), .func (.func 44) #[] #[.pointer (some ⟨w1.heap.size, 0, none⟩)], undef, undef, undef, undef, undef, undef, undef, undef, undef, undef, undef, undef, undef, undef, undef, undef, undef, undef], defers := [] } (w1.alloc (.cells #[.string (S h)] 9)) := by
    intro w1 b1A
    rw [← hQ]
    clear hQ
    gi_wp2_with fail
    obtain ⟨W0, hW0⟩ : ∃ W0, w1.alloc (.cells #[.string (S h)] 9) = W0 := ⟨_, rfl⟩
    obtain ⟨bh, hbh⟩ : ∃ bh, w1.heap.size = bh := ⟨_, rfl⟩
    have s1 := b1A.size
    have s0 : W0.heap.size = bh + 1 := by rw [← hW0, ← hbh]; simp
    have b1W : Below W.heap.size W w1 := bA.trans (b1A.mono (by omega))
    have B0 : Below W.heap.size W W0 := by rw [← hW0]; exact b1W.alloc (by omega) _
    have y0 : Boxed W0 W.heap.size 52 yv := by rw [← hW0]; exact Boxed.alloc ((b1A.block _ yA.lt).trans yA) _
    have h00 : Boxed W0 bh 9 (.string (S h)) := by rw [← hW0, ← hbh]; exact Boxed.new w1 _ _
    have m00 := (B0.cell (p := ⟨0, 0, none⟩) (by show 0 < W.heap.size; omega)).trans hMW
    have n0 : ∀ k, O k → k < W.heap.size := fun k hk => (hO k hk).1
    have HP := unfolded_push (n - 1) (by omega) bh (by omega) M h (by omega) W0 h00 m00
    have hsz := unf_size (lines h)
    have hls := lines_size h
    have hmem : ∀ x ∈ unf (lines h), x.length ≤ m.length := fun x hx => by have := mem_size hx; omega
    have HM := Lib.hid hmem
    rw [hW0, hbh]
    clear hW0 hsz hls hmem hcb hcd hhs
    obtain ⟨b, hb⟩ : ∃ b, W.heap.size = b := ⟨_, rfl⟩
    rw [hb] at hblt y0 n0 ⊢
    refine wpIn_push (n := n) hn1 (gf := 44) (lb := #[.pointer (some ⟨bh, 0, none⟩)]) rfl (enters_of Tryd.func44 (by kernel_rfl) rfl)
      HP (Frm.refl _ _) (by omega) (fun _ h => h.elim) (fun _ => rfl)
      (FI b yv J) (FX (fields m) Jx) (FI.dep hJ) (FX.dep hJx) (fun k => O k ∨ k = b)
      (fun k hk => by rcases hk with hk | hk; exact ⟨by have := n0 k hk; omega, by have := n0 k hk; have := (hO k hk).2; omega⟩; exact ⟨by omega, by omega⟩)
      ⟨O, show J [] O W0 from hJ _ _ _ _ h0 (Below.frm B0 (fun k hk => by have := n0 k hk; omega)), y0, fun _ => Iff.rfl, fun h => by have := n0 _ h; omega⟩
      (fun x => { tmps := #[yv, .pointer (some ⟨bm, 0, none⟩), .pointer (some ⟨b, 0, none⟩), .string (S x), undef, .string (S m), .string (S m), .int .i64 (hz0 : Nat), .string (S h), .func (.func 44) #[] #[.pointer (some ⟨bh, 0, none⟩)], .string (S x), undef, undef, undef, undef, undef, undef, undef, undef, undef, undef, undef, undef, undef, undef, undef, undef, undef], defers := [] }) ?assign ?body ?done ?stop
    case assign =>
      intro l2 x W K hK
      gi_wp2
      exact hK
    case body =>
      rintro l2 pre x post Oi Wi hx ⟨Oo, hFC⟩ hOb
      have HU := Lib.hid hFC
      have hy := hFC.2.1
      have hcy := hy.cell
      have hxl := HM.out x (by rw [hx]; simp)
      have hsn := fieldsU_snoc pre x
      have hzx := S_size x
      have hidx := fun W => Tryd.strings_IndexByte (S x) 58 W
      simp only [S_data, show ((58 : Int)).toNat.toUInt8 = 58 from rfl] at hidx
      have hn3 : 1 ≤ n - 1 - 1 := by omega
      have hge := Lib.indexByte_ge x 58
      have HOo : Hid (∀ k, Oo k → k < Wi.heap.size) := Lib.hid (fun k hk => hOb k ((HU.out.2.2.1 k).2 (.inl hk)))
      by_cases hi : Lib.indexByte x 58 ≤ 0
      · have hfo : fieldOf x = none := by unfold fieldOf; rw [if_pos hi]
        have hsn' : fieldsU (pre ++ [x]) = fieldsU pre := by rw [hsn, hfo]; simp
        have HS := Lib.hid hsn'
        clear hsn hsn' hfo hx hFC
        generalize Lib.indexByte x 58 = i at *
        gi_wp2_with fail
        refine ⟨trivial, ?_⟩
        refine (CallsIn.inRound l2 (callsIn_wide.2 (hidx _))).mono ?_
        rintro e w2 ⟨rfl, hw2⟩
        rw [hw2]
        clear hw2
        gi_wp2_with fail
        exact ⟨Oi, ⟨Oo, by rw [HS.out]; exact HU.out⟩, Moved.refl _ _ _⟩
      · obtain ⟨i, hin⟩ : ∃ i : Nat, Lib.indexByte x 58 = i := ⟨(Lib.indexByte x 58).toNat, by omega⟩
        have hrm := idx58_room hin
        have hfo : fieldOf x = some (x.take i, Lib.trimS (x.drop (i + 1)) [32, 9]) := by unfold fieldOf; rw [if_neg hi, hin]; rfl
        have hsn' : fieldsU (pre ++ [x]) = fieldsU pre ++ [(x.take i, Lib.trimS (x.drop (i + 1)) [32, 9])] := by rw [hsn, hfo]; simp
        have hpost : fields m = fieldsU pre ++ (x.take i, Lib.trimS (x.drop (i + 1)) [32, 9]) :: fieldsU post := by
          rw [HF.out, hx, show pre ++ x :: post = (pre ++ [x]) ++ post by simp, fieldsU_append, hsn']; simp
        have HY := Lib.hid (fun W1 h1 h2 => hY _ _ _ Oo W1 hpost h1 h2)
        have hc2 := fun W => trim_any (x.drop (i + 1)) (by rw [List.length_drop]; omega) W
        have htl : (Lib.trimS (x.drop (i + 1)) [32, 9]).length ≤ x.length := by
          unfold Lib.trimS Lib.trimLeftS Lib.trimRightS
          refine Nat.le_trans (List.IsSuffix.length_le (List.dropWhile_suffix _)) ?_
          rw [List.length_reverse]
          refine Nat.le_trans (List.IsSuffix.length_le (List.dropWhile_suffix _)) ?_
          rw [List.length_reverse, List.length_drop]
          omega
        have hc1 := fun W => pk.clone_any (S (x.take i)) W (by rw [S_size, List.length_take]; omega)
        have hc3 := fun W => pk.clone_any (S (Lib.trimS (x.drop (i + 1)) [32, 9])) W (by rw [S_size]; omega)
        have e1 := S_take x i
        have e2 := S_drop x (i + 1)
        have HS := Lib.hid hsn'
        have HPo := Lib.hid hpost
        rw [hin] at hidx
        have hi0 : ¬ (i : Int) ≤ 0 := by omega
        have HT2 : Hid (x.drop (i + 1) = x.drop (i + 1)) := Lib.hid rfl
        clear hsn hsn' hfo hx hFC hpost hi hin htl hY hge HT2
        generalize Lib.trimS (x.drop (i + 1)) [32, 9] = v at *
        generalize x.take i = a at *
        generalize x.drop (i + 1) = r at *
        obtain ⟨q, hq⟩ : ∃ q, i + 1 = q := ⟨_, rfl⟩
        have w4 : IntKind.i64.wrap ((i : Int) + 1) = (q : Int) := wrapi (by omega) (by omega)
        rw [hq] at e2
        have k1 : (0 : Int) ≤ (i : Int) := by omega
        have k2 : (i : Int) ≤ (x.length : Int) := by omega
        have k3 : (0 : Int) ≤ (q : Int) := by omega
        have k4 : (q : Int) ≤ (x.length : Int) := by omega
        clear hq hrm
        subst hyv
        gi_wp2_with fail
        refine ⟨trivial, ?_⟩
        refine (CallsIn.inRound l2 (callsIn_wide.2 (hidx _))).mono ?_
        rintro e w2 ⟨rfl, hw2⟩
        rw [hw2]
        clear hw2
        gi_wp2_with fail
        have hn4 : 1 ≤ n - 1 - 1 - 1 := by omega
        have hyc : Boxed Wi.drew b 52 (.func (.yield lp) #[] #[]) := hy
        have bc : Below Wi.heap.size Wi Wi.drew := (Below.refl _ Wi).drew
        clear hy
        generalize hQ2 : Exit.then _ _ = Q2
        have H2 : ∀ w5 W3 ans, Below Wi.heap.size Wi w5 → Hid ((ans = true ∧ ∃ O', J (fieldsU pre ++ [(a, v)]) O' W3 ∧ Step Oo O' w5 W3) ∨ (ans = false ∧ ∃ O', Jx (fieldsU pre ++ [(a, v)]) O' W3 ∧ Step Oo O' w5 W3)) → Q2 Exit.normal { tmps := #[.func (.yield lp) #[] #[], .pointer (some ⟨bm, 0, none⟩), .pointer (some ⟨b, 0, none⟩), .string (S x), .int .i64 (i : Nat), .string (S m), .string (S m), .int .i64 (hz0 : Nat), .string (S h), .func (.func 44) #[] #[.pointer (some ⟨bh, 0, none⟩)], .string (S x), .string (S x), .int .i64 (i : Nat), .int .i64 (i : Nat), .bool false, .func (.yield lp) #[] #[], .string (S x), .int .i64 (i : Nat), .string (S a), .string (S a), .string (S x), .int .i64 (i : Nat), .int .i64 (q : Nat), .string (S r), .string (S v), .string (S v), .bool ans, .bool (!ans)], defers := [] } W3 := by
          intro w5 W3 ans b5 hans
          rw [← hQ2]
          clear hQ2 hyc bc hcy
          rcases hans.out with ⟨rfl, O3, hJ3, hk3⟩ | ⟨rfl, O3, hJx3, hk3⟩
          · obtain ⟨O4, u4, s4⟩ := (fc_told HU.out b5 hk3).1 hJ3
            gi_wp2_with fail
            exact ⟨O4, ⟨O3, by rw [HS.out]; exact u4⟩, s4⟩
          · have s4 := (fc_told (d' := []) HU.out b5 hk3).2
            gi_wp2_with fail
            exact ⟨O3, ⟨rfl, _, ⟨fieldsU post, by rw [HPo.out]; simp⟩, hJx3⟩, s4⟩
        refine region_round mixed (no_defer (by kernel_rfl)) ?_
        have hpan : ∀ c a w, Q2 (.panic c) a w → False := by rw [← hQ2]; exact fun _ _ _ h => h
        refine wpAnyIn_take (i := 1) (v := .string (S x)) rfl rfl (by kernel_rfl) (by kernel_rfl) (by kernel_rfl) (fun c _ w h => (hpan c _ w h).elim) ⟨Or.inl ⟨by rfl, fun w => by go_simp⟩, fun _ => rfl⟩ ?_
        refine wpAnyIn_take (i := 2) (v := .int .i64 (i : Nat)) rfl rfl (by kernel_rfl) (by kernel_rfl) (by kernel_rfl) (fun c _ w h => (hpan c _ w h).elim) ⟨Or.inl ⟨by rfl, fun w => by go_simp⟩, fun _ => rfl⟩ ?_
        refine wpAnyIn_take (i := 3) (v := .string (S a)) rfl rfl (by kernel_rfl) (by kernel_rfl) (by kernel_rfl) (fun c _ w h => (hpan c _ w h).elim) ⟨Or.inl ⟨by rfl, fun w => by go_simp⟩, fun _ => rfl⟩ ?_
        refine wpAnyIn_take (i := 5) (v := .string (S x)) rfl rfl (by kernel_rfl) (by kernel_rfl) (by kernel_rfl) (fun c _ w h => (hpan c _ w h).elim) ⟨Or.inl ⟨by rfl, fun w => by go_simp⟩, fun _ => rfl⟩ ?_
        refine wpAnyIn_take (i := 6) (v := .int .i64 (i : Nat)) rfl rfl (by kernel_rfl) (by kernel_rfl) (by kernel_rfl) (fun c _ w h => (hpan c _ w h).elim) ⟨Or.inl ⟨by rfl, fun w => by go_simp⟩, fun _ => rfl⟩ ?_
        refine wpAnyIn_take (i := 7) (v := .int .i64 (q : Nat)) rfl rfl (by kernel_rfl) (by kernel_rfl) (by kernel_rfl) (fun c _ w h => (hpan c _ w h).elim) ⟨Or.inl ⟨by rfl, fun w => by go_simp⟩, fun _ => rfl⟩ ?_
        refine wpAnyIn_take (i := 8) (v := .string (S r)) rfl rfl (by kernel_rfl) (by kernel_rfl) (by kernel_rfl) (fun c _ w h => (hpan c _ w h).elim) ⟨Or.inl ⟨by rfl, fun w => by go_simp⟩, fun _ => rfl⟩ ?_
        refine wpAnyIn_ready (rs := [0, 4]) (by kernel_rfl) (by simp) ?_
        refine AllReadyIn.cons rfl (fun K hK => ?_) ?_
        · skip
          go_simp
          refine hK _ _ ?_
          clear hK K
          refine wpAnyIn_ready (rs := [4]) (by kernel_rfl) (by simp) ?_
          refine AllReadyIn.cons rfl (fun K hK => ?_) AllReadyIn.nil
          go_simp
          gi_wp2_with (refine ⟨trivial, ?_⟩; gi_at_call 30; refine (callsIn_wide.2 (hc1 _)).mono ?_; rintro e w3 ⟨rfl, b3⟩; replace hyc : Boxed w3 b 52 (.func (.yield lp) #[] #[]) := (b3.block _ hyc.lt).trans hyc; replace bc : Below Wi.heap.size Wi w3 := bc.trans (b3.mono bc.size); clear b3; have hcw3 := hyc.cell)
          try (refine hK _ _ ?_; clear hK K)
          refine wpAnyIn_ready (rs := [9]) (by kernel_rfl) (by simp) ?_
          refine AllReadyIn.cons rfl (fun K hK => ?_) AllReadyIn.nil
          go_simp
          gi_wp2_with (refine ⟨trivial, ?_⟩; gi_at_call 40; refine (callsIn_wide.2 (hc2 _)).mono ?_; rintro e w6 ⟨rfl, b3⟩; replace hyc : Boxed w6 b 52 (.func (.yield lp) #[] #[]) := (b3.block _ hyc.lt).trans hyc; replace bc : Below Wi.heap.size Wi w6 := bc.trans (b3.mono bc.size); clear b3; have hcw6 := hyc.cell)
          try (refine hK _ _ ?_; clear hK K)
          refine wpAnyIn_ready (rs := [10]) (by kernel_rfl) (by simp) ?_
          refine AllReadyIn.cons rfl (fun K hK => ?_) AllReadyIn.nil
          go_simp
          gi_wp2_with (refine ⟨trivial, ?_⟩; gi_at_call 30; refine (callsIn_wide.2 (hc3 _)).mono ?_; rintro e w5 ⟨rfl, b3⟩; replace hyc : Boxed w5 b 52 (.func (.yield lp) #[] #[]) := (b3.block _ hyc.lt).trans hyc; replace bc : Below Wi.heap.size Wi w5 := bc.trans (b3.mono bc.size); clear b3; have hcw5 := hyc.cell)
          try (refine hK _ _ ?_; clear hK K)
          refine wpAnyIn_ready (rs := [11]) (by kernel_rfl) (by simp) ?_
          refine AllReadyIn.cons rfl (fun K hK => ?_) AllReadyIn.nil
          obtain ⟨fn, tmps, assign, body, hyy, hR⟩ := HY.out _ (hJ _ _ _ _ HU.out.1 (Below.frm bc (fun k hk => HOo.out k hk))) (fun k hk => Nat.lt_of_lt_of_le (HOo.out k hk) bc.size)
          simp only [encF] at hyy
          go_simp
          gi_wp2_with (refine (RoundIn.any hR).mono ?_; rintro e W3 h3; obtain ⟨ans, rfl, hans⟩ := told_ans h3)
          try (refine hK _ _ ?_; clear hK K)
          refine wpAnyIn_ready (rs := [12]) (by kernel_rfl) (by simp) ?_
          refine AllReadyIn.cons rfl (fun K hK => ?_) AllReadyIn.nil
          go_simp
          refine hK _ _ ?_
          clear hK K
          refine wpAnyIn_done (by kernel_rfl) ?_ _
          exact H2 _ _ _ bc hans
        refine AllReadyIn.cons rfl (fun K hK => ?_) AllReadyIn.nil
        go_simp
        gi_wp2_with (refine ⟨trivial, ?_⟩; gi_at_call 30; refine (callsIn_wide.2 (hc1 _)).mono ?_; rintro e w3 ⟨rfl, b3⟩; replace hyc : Boxed w3 b 52 (.func (.yield lp) #[] #[]) := (b3.block _ hyc.lt).trans hyc; replace bc : Below Wi.heap.size Wi w3 := bc.trans (b3.mono bc.size); clear b3; have hcw3 := hyc.cell)
        try (refine hK _ _ ?_; clear hK K)
        refine wpAnyIn_ready (rs := [0, 9]) (by kernel_rfl) (by simp) ?_
        refine AllReadyIn.cons rfl (fun K hK => ?_) ?_
        · skip
          go_simp
          refine hK _ _ ?_
          clear hK K
          refine wpAnyIn_ready (rs := [9]) (by kernel_rfl) (by simp) ?_
          refine AllReadyIn.cons rfl (fun K hK => ?_) AllReadyIn.nil
          go_simp
          gi_wp2_with (refine ⟨trivial, ?_⟩; gi_at_call 40; refine (callsIn_wide.2 (hc2 _)).mono ?_; rintro e w6 ⟨rfl, b3⟩; replace hyc : Boxed w6 b 52 (.func (.yield lp) #[] #[]) := (b3.block _ hyc.lt).trans hyc; replace bc : Below Wi.heap.size Wi w6 := bc.trans (b3.mono bc.size); clear b3; have hcw6 := hyc.cell)
          try (refine hK _ _ ?_; clear hK K)
          refine wpAnyIn_ready (rs := [10]) (by kernel_rfl) (by simp) ?_
          refine AllReadyIn.cons rfl (fun K hK => ?_) AllReadyIn.nil
          go_simp
          gi_wp2_with (refine ⟨trivial, ?_⟩; gi_at_call 30; refine (callsIn_wide.2 (hc3 _)).mono ?_; rintro e w5 ⟨rfl, b3⟩; replace hyc : Boxed w5 b 52 (.func (.yield lp) #[] #[]) := (b3.block _ hyc.lt).trans hyc; replace bc : Below Wi.heap.size Wi w5 := bc.trans (b3.mono bc.size); clear b3; have hcw5 := hyc.cell)
          try (refine hK _ _ ?_; clear hK K)
          refine wpAnyIn_ready (rs := [11]) (by kernel_rfl) (by simp) ?_
          refine AllReadyIn.cons rfl (fun K hK => ?_) AllReadyIn.nil
          obtain ⟨fn, tmps, assign, body, hyy, hR⟩ := HY.out _ (hJ _ _ _ _ HU.out.1 (Below.frm bc (fun k hk => HOo.out k hk))) (fun k hk => Nat.lt_of_lt_of_le (HOo.out k hk) bc.size)
          simp only [encF] at hyy
          go_simp
          gi_wp2_with (refine (RoundIn.any hR).mono ?_; rintro e W3 h3; obtain ⟨ans, rfl, hans⟩ := told_ans h3)
          try (refine hK _ _ ?_; clear hK K)
          refine wpAnyIn_ready (rs := [12]) (by kernel_rfl) (by simp) ?_
          refine AllReadyIn.cons rfl (fun K hK => ?_) AllReadyIn.nil
          go_simp
          refine hK _ _ ?_
          clear hK K
          refine wpAnyIn_done (by kernel_rfl) ?_ _
          exact H2 _ _ _ bc hans
        refine AllReadyIn.cons rfl (fun K hK => ?_) AllReadyIn.nil
        go_simp
        gi_wp2_with (refine ⟨trivial, ?_⟩; gi_at_call 40; refine (callsIn_wide.2 (hc2 _)).mono ?_; rintro e w6 ⟨rfl, b3⟩; replace hyc : Boxed w6 b 52 (.func (.yield lp) #[] #[]) := (b3.block _ hyc.lt).trans hyc; replace bc : Below Wi.heap.size Wi w6 := bc.trans (b3.mono bc.size); clear b3; have hcw6 := hyc.cell)
        try (refine hK _ _ ?_; clear hK K)
        refine wpAnyIn_ready (rs := [0, 10]) (by kernel_rfl) (by simp) ?_
        refine AllReadyIn.cons rfl (fun K hK => ?_) ?_
        · skip
          go_simp
          refine hK _ _ ?_
          clear hK K
          refine wpAnyIn_ready (rs := [10]) (by kernel_rfl) (by simp) ?_
          refine AllReadyIn.cons rfl (fun K hK => ?_) AllReadyIn.nil
          go_simp
          gi_wp2_with (refine ⟨trivial, ?_⟩; gi_at_call 30; refine (callsIn_wide.2 (hc3 _)).mono ?_; rintro e w5 ⟨rfl, b3⟩; replace hyc : Boxed w5 b 52 (.func (.yield lp) #[] #[]) := (b3.block _ hyc.lt).trans hyc; replace bc : Below Wi.heap.size Wi w5 := bc.trans (b3.mono bc.size); clear b3; have hcw5 := hyc.cell)
          try (refine hK _ _ ?_; clear hK K)
          refine wpAnyIn_ready (rs := [11]) (by kernel_rfl) (by simp) ?_
          refine AllReadyIn.cons rfl (fun K hK => ?_) AllReadyIn.nil
          obtain ⟨fn, tmps, assign, body, hyy, hR⟩ := HY.out _ (hJ _ _ _ _ HU.out.1 (Below.frm bc (fun k hk => HOo.out k hk))) (fun k hk => Nat.lt_of_lt_of_le (HOo.out k hk) bc.size)
          simp only [encF] at hyy
          go_simp
          gi_wp2_with (refine (RoundIn.any hR).mono ?_; rintro e W3 h3; obtain ⟨ans, rfl, hans⟩ := told_ans h3)
          try (refine hK _ _ ?_; clear hK K)
          refine wpAnyIn_ready (rs := [12]) (by kernel_rfl) (by simp) ?_
          refine AllReadyIn.cons rfl (fun K hK => ?_) AllReadyIn.nil
          go_simp
          refine hK _ _ ?_
          clear hK K
          refine wpAnyIn_done (by kernel_rfl) ?_ _
          exact H2 _ _ _ bc hans
        refine AllReadyIn.cons rfl (fun K hK => ?_) AllReadyIn.nil
        go_simp
        gi_wp2_with (refine ⟨trivial, ?_⟩; gi_at_call 30; refine (callsIn_wide.2 (hc3 _)).mono ?_; rintro e w5 ⟨rfl, b3⟩; replace hyc : Boxed w5 b 52 (.func (.yield lp) #[] #[]) := (b3.block _ hyc.lt).trans hyc; replace bc : Below Wi.heap.size Wi w5 := bc.trans (b3.mono bc.size); clear b3; have hcw5 := hyc.cell)
        try (refine hK _ _ ?_; clear hK K)
        refine wpAnyIn_ready (rs := [0]) (by kernel_rfl) (by simp) ?_
        refine AllReadyIn.cons rfl (fun K hK => ?_) AllReadyIn.nil
        go_simp
        refine hK _ _ ?_
        clear hK K
        refine wpAnyIn_ready (rs := [11]) (by kernel_rfl) (by simp) ?_
        refine AllReadyIn.cons rfl (fun K hK => ?_) AllReadyIn.nil
        obtain ⟨fn, tmps, assign, body, hyy, hR⟩ := HY.out _ (hJ _ _ _ _ HU.out.1 (Below.frm bc (fun k hk => HOo.out k hk))) (fun k hk => Nat.lt_of_lt_of_le (HOo.out k hk) bc.size)
        simp only [encF] at hyy
        go_simp
        gi_wp2_with (refine (RoundIn.any hR).mono ?_; rintro e W3 h3; obtain ⟨ans, rfl, hans⟩ := told_ans h3)
        try (refine hK _ _ ?_; clear hK K)
        refine wpAnyIn_ready (rs := [12]) (by kernel_rfl) (by simp) ?_
        refine AllReadyIn.cons rfl (fun K hK => ?_) AllReadyIn.nil
        go_simp
        refine hK _ _ ?_
        clear hK K
        refine wpAnyIn_done (by kernel_rfl) ?_ _
        exact H2 _ _ _ bc hans
    case done =>
      rintro D O' Wd hD ⟨Oo, hFC⟩ hMv nD hDd
      obtain ⟨e1, e2, e3⟩ := it_end (O := O) (O3 := Oo) B0 hD (fun k hk hc => by rcases hc with (hc | hc) | hc; exact hc; omega; exact hc.elim) (fun k hk => ⟨.inl hk, by rcases hk with hk | hk; exact .inl hk; exact .inr ⟨by omega, by omega⟩⟩) hMv hDd nD ((Moved.refl O' O' Wd).weak (fun _ h => h) (fun k hk => .inl ((hFC.2.2.1 k).2 (.inl hk))))
      gi_wp2
      refine ⟨by simp, .inl ⟨_, _, rfl, run_takeDeferred e1, ?_⟩⟩
      exact ⟨_, results_none rfl _ _ _, ⟨_, rfl⟩, .inl ⟨Oo, hJ _ _ _ _ (show J (fields m) Oo Wd by rw [HF.out]; exact hFC.1) e2, e3.weak (fun _ h => .inl h) (fun _ h => .inl h)⟩⟩
    case stop =>
      rintro D c pre O' Wd hD hpre ⟨rfl, pre', g1, g2⟩ hMv nD hDd
      obtain ⟨e1, e2, e3⟩ := it_end (O := O) (O3 := O') B0 hD (fun k hk hc => by rcases hc with (hc | hc) | hc; exact hc; omega; exact hc.elim) (fun k hk => ⟨.inl hk, by rcases hk with hk | hk; exact .inl hk; exact .inr ⟨by omega, by omega⟩⟩) hMv hDd nD (Moved.refl O' O' Wd)
      gi_wp2
      refine ⟨by simp, .inl ⟨_, _, rfl, run_takeDeferred e1, ?_⟩⟩
      exact ⟨_, results_none rfl _ _ _, ⟨_, rfl⟩, .inr ⟨pre', g1, O', hJx _ _ _ _ g2 e2, e3.weak (fun _ h => .inl h) (fun _ h => .inl h)⟩⟩
  clear hQ
  first | (gi_region_with_o (first
    | (refine ⟨trivial, ?_⟩; gi_at_call 29; refine (callsIn_wide.2 hhs).mono ?_; rintro e w1 ⟨rfl, b1⟩; have mB : Boxed w1 bm 9 (.string (S m)) := (b1.block _ mA.lt).trans mA; have hcB := mB.cell)
    | (refine ⟨trivial, ?_⟩; gi_at_call 38; refine (callsIn_wide.2 (unfolded_any (S h) _)).mono ?_; rintro e w2 ⟨rfl, rfl⟩))) | fail
  all_goals exact H _ ((Below.refl _ WA).drew.trans b1)
end Go.Proofs.YtekbjapclajflaaDoor.pt
