/-
  The iterator over a header's lines, each with those that go on with it.
-/
import Derived.Test.YtekbjapclajflaaDoorPtIt1
import Derived.Deep.AppendLies
namespace Go.Proofs.YtekbjapclajflaaDoor.pt
open Go.RowKit Go.Shelf fl
attribute [local go_sem] Oper.semAt_some

theorem wpListIn_append_lies {F : Fence} {n : Nat} {P : Program} (w : World) {ops : Array Oper} {rest : List Oper} {o : Oper} {a : Act} {Q : Exit → Act → World → Prop}
    (hg : o.guard = none) (s x : Operand) (t : TypeId) (hop : o.op = Op.call { callee := Callee.builtin Builtin.append, args := #[s, x], argTypes := #[t, t] })
    (base : Nat) (e : TypeId) (i : TypeInfo) (z : Value) (size bytes : Nat) (h1 : P.underlying t = some (.slice e)) (h2 : P.info? e = some i) (h3 : i.zero = some z) (h4 : i.size = size) (h5 : i.bytes = bytes) (h6 : z.cells.size = size) (h7 : 0 < size)
    (v : Value) (k : Nat) (xs : List Value) (hs : a.eval s = v) (hown : w.ownsRow base e size v k xs) (ad : Addr) (m c : Nat) (news : List Value) (hx : a.eval x = .slice (some ad) m c) (hn : news.length = m * size)
    (hc : ∀ j u, news[j]? = some u → w.cell? (ad.add j) = some u) (h1c : ∀ u ∈ news, u.oneCell' = true) (hm : 0 < m) (b1 : k + m ≤ maxLen) (b2 : (k + m) * bytes ≤ 140737488355328) (b3 : base ≤ w.heap.size)
    (hK : ∀ g cap w', w'.ownsRow base e size (.slice (some ⟨g, 0, none⟩) (k + m) cap) (k + m) (xs ++ news) → w.grownBy w' v.ownBlock → (v.ownBlock = some g ∨ g = w.heap.size) → g < w'.heap.size → wpListIn F n P ops Q rest (a.put o.dst (.slice (some ⟨g, 0, none⟩) (k + m) cap)) w') :
    wpListIn F n P ops Q (o :: rest) a w := by
  refine wpListIn_plain hg fun K hK' => ?_
  obtain ⟨g, cap, w', hrun, r1, r2, r3, r4⟩ := run_append_lies (P := P) w t o.type base e i z size bytes h1 h2 h3 h4 h5 h6 h7 v k xs hown ad m c news hn hc h1c hm b1 b2 b3 w.heap.size rfl
  unfold Oper.wpIn
  refine ⟨?_, ?_⟩
  · simp [Oper.about, hop, resolve, Target.leads, Sem.run_pure]
  · rw [Oper.semAt_plain F _ _ (by rw [hop]; intro c hc'; cases hc')]
    simp [execOp, hop, resolve, invoke, builtin, hs, hx, hrun, Result.andThen]
    exact hK' _ _ (hK g cap w' r1 r2 r3 r4)

theorem RoundIn.inRound {m : Nat} {P : Program} {l : Nat} {f : FuncId} {tmps : Array Value} {assign body : Code} {w : World} {R : Ending → World → Prop} (l2 : Nat)
    (h : RoundIn Fence.wide m P l f tmps assign body w R) : RoundIn (Fence.wide.inRound l2) m P l f tmps assign body w R := h
theorem told_ans {e : Ending} {A B : Prop} (h : (e = .returned (.bool true) ∧ A) ∨ (e = .returned (.bool false) ∧ B)) : ∃ ans : Bool, e = .returned (.bool ans) ∧ Hid ((ans = true ∧ A) ∨ (ans = false ∧ B)) := by
  rcases h with ⟨rfl, h⟩ | ⟨rfl, h⟩
  · exact ⟨true, rfl, .inl ⟨rfl, h⟩⟩
  · exact ⟨false, rfl, .inr ⟨rfl, h⟩⟩
theorem join_none (l : List (List UInt8)) : Lib.join l [] = l.flatten := by
  cases l with
  | nil => rfl
  | cons x r => rw [Lib.join_cons]; simp [Lib.joinTail]
/-- strings.Join of a row of one's own, nothing between. -/
theorem join_own (base : Nat) (v : Value) (l : List (List UInt8)) (hne : l ≠ []) (w : World) (h : w.ownsRow base 9 1 v l.length (cellsS l)) (hn : l.length ≤ 140737488355328) (hl : l.flatten.length ≤ 140737488355328) :
    Calls Tryd.prog 47 #[v, .string ⟨#[]⟩] w fun e w' => e = .returned (.string (S l.flatten)) ∧ Below w.heap.size w w' := by
  rcases own_row rfl h with ⟨h0, _⟩ | ⟨g, cap, rfl, hg, hlt, hcap, hc⟩
  · exact absurd h0 hne
  · have e1 : (l.map S).map (fun x : ByteArray => x.data.toList) = l := by
      rw [List.map_map]
      conv => rhs; rw [← List.map_id l]
      exact List.map_congr_left fun x _ => S_data x
    have hj := Tryd.strings_Join g 0 cap (l.map S) ⟨#[]⟩ w (fun j x hx => by
      have hjl : j < l.length := by
        have := (List.getElem?_eq_some_iff.1 hx).1
        simpa using this
      rw [hc j hjl]
      rw [List.getElem?_map, List.getElem?_eq_getElem hjl] at hx
      simp only [Option.map_some, Option.some.injEq] at hx
      rw [hx]) hlt (by rw [List.length_map]; exact hn) (by rw [List.length_map]; exact hcap)
    rw [e1, show (⟨#[]⟩ : ByteArray).data.toList = [] from rfl, join_none, List.length_map] at hj
    exact hj hl

set_option maxRecDepth 100000 in
theorem unfolded_any (s : ByteArray) (w : World) :
    Calls Tryd.prog 38 #[.string s] w fun e w' => e = .returned (.func (.func 44) #[] #[.pointer (some ⟨w.heap.size, 0, none⟩)]) ∧ w' = w.alloc (.cells #[.string s] 9) := by
  have hmf : ∀ (fn : Fn) (first cap : Array Value) (w : World), (Instr.makeFunc fn first cap).run Tryd.prog w = .ok (.func fn first cap) w := makeFunc_eq
  go_enter Tryd.func38, Tryd.ntmps38
  go_wp2
  go_ret
  exact ⟨rfl, rfl⟩

/-- Between two lines: what is kept of the loop that is told, the box of the loop's function, the box of the lines under way and their row. -/
def UC (y b base : Nat) (yv : Value) (J : List (List UInt8) → (Nat → Prop) → World → Prop) (d cur : List (List UInt8)) (O : Nat → Prop) (W : World) (Oo : Nat → Prop) (v : Value) : Prop :=
  J d Oo W ∧ Boxed W y 75 yv ∧ Boxed W b 24 v ∧ W.ownsRow base 9 1 v cur.length (cellsS cur) ∧
    (∀ k, O k ↔ Oo k ∨ k = y ∨ k = b ∨ some k = v.ownBlock) ∧ ¬ Oo y ∧ ¬ Oo b ∧ ∀ g, v.ownBlock = some g → ¬ Oo g
def UI (y b base : Nat) (yv : Value) (J : List (List UInt8) → (Nat → Prop) → World → Prop) (pre : List (List UInt8)) (O : Nat → Prop) (W : World) : Prop :=
  ∃ Oo v, UC y b base yv J (runP pre).1 (runP pre).2 O W Oo v
/-- Behind a round that was told to stop. -/
def UX (y b : Nat) (xs : List (List UInt8)) (Jx : List (List UInt8) → (Nat → Prop) → World → Prop) (c : Code) (_ : List (List UInt8)) (O : Nat → Prop) (W : World) : Prop :=
  c = .ret ∧ ∃ Oo pre, pre <+: xs ∧ Jx pre Oo W ∧ (∀ k, Oo k → O k) ∧ ¬ Oo y ∧ ¬ Oo b
theorem UI.dep {y b base : Nat} {yv : Value} {J : List (List UInt8) → (Nat → Prop) → World → Prop} (hJ : Dep J) : Dep (UI y b base yv J) := by
  rintro s O X Y ⟨Oo, v, h1, h2, h3, h4, h5, h6, h7, h8⟩ hf
  exact ⟨Oo, v, hJ _ _ _ _ h1 (hf.less fun k hk => (h5 k).2 (.inl hk)), hf.boxed h2 ((h5 _).2 (.inr (.inl rfl))), hf.boxed h3 ((h5 _).2 (.inr (.inr (.inl rfl)))), hf.own h4 (fun g hg => (h5 g).2 (.inr (.inr (.inr hg.symm)))), h5, h6, h7, h8⟩
theorem UX.dep {y b : Nat} {xs : List (List UInt8)} {Jx : List (List UInt8) → (Nat → Prop) → World → Prop} (hJ : Dep Jx) (c : Code) : Dep (UX y b xs Jx c) := by
  rintro s O X Y ⟨hc, Oo, pre, h1, h2, h3, h4⟩ hf
  exact ⟨hc, Oo, pre, h1, hJ _ _ _ _ h2 (hf.less h3), h3, h4⟩

theorem ui_append {y b base : Nat} {yv v : Value} {J : List (List UInt8) → (Nat → Prop) → World → Prop} {d cur : List (List UInt8)} {O Oo : Nat → Prop} {W w1 : World} {tmp : Obj} {g cap : Nat} {x : List UInt8} (hJ : Dep J) (hyb : y ≠ b)
    (h : UC y b base yv J d cur O W Oo v) (hO : ∀ k, O k → k < W.heap.size)
    (hown : w1.ownsRow base 9 1 (.slice (some ⟨g, 0, none⟩) (cur.length + 1) cap) (cur.length + 1) (cellsS cur ++ [.string (S x)])) (hgrow : (W.alloc tmp).grownBy w1 v.ownBlock) (hat : v.ownBlock = some g ∨ g = (W.alloc tmp).heap.size) :
    ∃ O', UC y b base yv J d (cur ++ [x]) O' (w1.setCell ⟨b, 0, none⟩ (.slice (some ⟨g, 0, none⟩) (cur.length + 1) cap)) Oo (.slice (some ⟨g, 0, none⟩) (cur.length + 1) cap) ∧ Step O O' W (w1.setCell ⟨b, 0, none⟩ (.slice (some ⟨g, 0, none⟩) (cur.length + 1) cap)) := by
  obtain ⟨h1, h2, h3, h4, h5, h6, h7, h8⟩ := h
  have hy1 : Boxed w1 y _ yv := (h2.alloc tmp).kept hgrow ((h2.alloc tmp).not_row (by decide) (h4.alloc tmp))
  have hb1 : Boxed w1 b _ v := (h3.alloc tmp).kept hgrow ((h3.alloc tmp).not_row (by decide) (h4.alloc tmp))
  have hlt : ∀ k, Oo k → k < W.heap.size := fun k hk => hO k ((h5 k).2 (.inl hk))
  have f1 : Frm Oo W w1 := (frm_alloc Oo W tmp hlt).trans (Frm.grown hgrow fun k hk => ⟨by have := hlt k hk; simp; omega, fun e => h8 k e.symm hk⟩)
  have f2 : Frm Oo w1 (w1.setCell ⟨b, 0, none⟩ (.slice (some ⟨g, 0, none⟩) (cur.length + 1) cap)) := frm_set _ _ _ _ h7
  have ng : ¬ Oo g := fun h => by
    rcases hat with e | e
    · exact h8 g e h
    · have := hlt g h; rw [e] at this; simp at this; omega
  have gs := hgrow.size
  simp at gs
  have hgl := (hown.lt g rfl).2
  have nb := hb1.not_row (by decide) hown
  refine ⟨fun k => Oo k ∨ k = y ∨ k = b ∨ k = g, ⟨hJ _ _ _ _ h1 (f1.trans f2), hy1.other hyb _, hb1.set _, ?_, fun k => by simp [Value.ownBlock], h6, h7, fun g' hg' => ?_⟩, ⟨hgrow.os, hgrow.tape, hgrow.output, by simp; omega, fun k hk hn => ?_, fun k hk => ?_⟩⟩
  · rw [cellsS_snoc, List.length_append, List.length_singleton]
    exact hown.kept (grownBy_setCell' w1 b _) (.inr (fun e => nb e.symm))
  · simp [Value.ownBlock] at hg'
    exact hg' ▸ ng
  · have n1 : k ≠ b := fun e => hn ((h5 k).2 (.inr (.inr (.inl e))))
    have n2 : some k ≠ v.ownBlock := fun e => hn ((h5 k).2 (.inr (.inr (.inr e))))
    exact (Below.heap_setCell w1 ⟨b, 0, none⟩ _ k n1).trans ((hgrow.block k (by simp; omega) n2).trans (Below.heap_alloc W tmp k hk))
  · rcases hk with hk | hk | hk | hk
    · exact .inl ((h5 k).2 (.inl hk))
    · exact .inl ((h5 k).2 (.inr (.inl hk)))
    · exact .inl ((h5 k).2 (.inr (.inr (.inl hk))))
    · subst hk
      rcases hat with e | e
      · exact .inl ((h5 k).2 (.inr (.inr (.inr e.symm))))
      · simp at e
        exact .inr ⟨by omega, by simpa using hgl⟩
theorem ui_told {y b base : Nat} {yv v : Value} {J : List (List UInt8) → (Nat → Prop) → World → Prop} {d cur d' : List (List UInt8)} {O Oo O3 : Nat → Prop} {W Wj W3 : World} (hJ : Dep J) (hyb : y ≠ b)
    (h : UC y b base yv J d cur O W Oo v) (hO : ∀ k, O k → k < W.heap.size) (hj : Below W.heap.size W Wj) (h3 : Step Oo O3 Wj W3) (hJ3 : J d' O3 W3) :
    Boxed W3 b 24 v ∧ ∃ O', UC y b base yv J d' [] O' (W3.setCell ⟨b, 0, none⟩ (.slice none 0 0)) O3 (.slice none 0 0) ∧ Step O O' W (W3.setCell ⟨b, 0, none⟩ (.slice none 0 0)) := by
  obtain ⟨h1, h2, h4, _, h5, h6, h7, _⟩ := h
  have hlt : ∀ k, O k → k < W.heap.size := hO
  have js := hj.size
  have ly := h2.lt
  have lb := h4.lt
  have y3 : Boxed W3 y _ yv := (h3.block y (by omega) h6).trans ((hj.block y ly).trans h2)
  have b3 : Boxed W3 b _ v := (h3.block b (by omega) h7).trans ((hj.block b lb).trans h4)
  have n6 : ¬ O3 y := fun h' => by rcases h3.own y h' with h' | h'; exact h6 h'; omega
  have n7 : ¬ O3 b := fun h' => by rcases h3.own b h' with h' | h'; exact h7 h'; omega
  refine ⟨b3, fun k => O3 k ∨ k = y ∨ k = b, ⟨hJ _ _ _ _ hJ3 (frm_set _ _ _ _ n7), y3.other hyb _, b3.set _, World.ownsRow_nil _ _ _ _, fun k => by simp [Value.ownBlock], n6, n7, fun g hg => by simp [Value.ownBlock] at hg⟩, ⟨h3.os.trans hj.os, h3.tape.trans hj.tape, h3.output.trans hj.output, by have := h3.size; simp; omega, fun k hk hn => ?_, fun k hk => ?_⟩⟩
  · have n1 : k ≠ b := fun e => hn ((h5 k).2 (.inr (.inr (.inl e))))
    exact (Below.heap_setCell W3 ⟨b, 0, none⟩ _ k n1).trans ((h3.block k (by omega) (fun h' => hn ((h5 k).2 (.inl h')))).trans (hj.block k hk))
  · rcases hk with hk | hk | hk
    · rcases h3.own k hk with h' | h'
      · exact .inl ((h5 k).2 (.inl h'))
      · exact .inr ⟨by omega, by simpa using h'.2⟩
    · exact .inl ((h5 k).2 (.inr (.inl hk)))
    · exact .inl ((h5 k).2 (.inr (.inr (.inl hk))))

/-- Behind a call of the loop that is told: all that is kept. -/
theorem ui_out {y b base : Nat} {yv v : Value} {J : List (List UInt8) → (Nat → Prop) → World → Prop} {d cur : List (List UInt8)} {O Oo O3 : Nat → Prop} {W Wj W3 : World}
    (h : UC y b base yv J d cur O W Oo v) (hj : Below W.heap.size W Wj) (h3 : Step Oo O3 Wj W3) : Step O O3 W W3 ∧ ¬ O3 y ∧ ¬ O3 b := by
  obtain ⟨_, h2, h4, _, h5, h6, h7, _⟩ := h
  have js := hj.size
  have ly := h2.lt
  have lb := h4.lt
  refine ⟨⟨h3.os.trans hj.os, h3.tape.trans hj.tape, h3.output.trans hj.output, by have := h3.size; omega, fun k hk hn => ?_, fun k hk => ?_⟩, fun h' => ?_, fun h' => ?_⟩
  · exact (h3.block k (by omega) (fun h' => hn ((h5 k).2 (.inl h')))).trans (hj.block k hk)
  · rcases h3.own k hk with h' | h'
    · exact .inl ((h5 k).2 (.inl h'))
    · exact .inr ⟨by omega, h'.2⟩
  · rcases h3.own y h' with h' | h'
    · exact h6 h'
    · omega
  · rcases h3.own b h' with h' | h'
    · exact h7 h'
    · omega
/-- Behind the loop's function: what has turned is what is told, or new. -/
theorem ui_end {b D : Nat} {O O' O3 : Nat → Prop} {W W0 Wd W3 : World} (hb : W.heap.size = b) (B0 : Below b W W0) (s0 : W0.heap.size = b + 5) (hD : W0.heap.size ≤ D)
    (hM : Moved (fun k => (O k ∨ k = b ∨ k = b + 1) ∨ k = b + 2) (fun k => O k ∨ k = b ∨ k = b + 1) O' W0 Wd) (hDd : Wd.heap[D]? = some (.deferred (some []))) (nD : ¬ O' D) (h3 : Step O' O3 Wd W3) (n1 : ¬ O3 b) (n2 : ¬ O3 (b + 1)) :
    W3.heap[D]? = some (.deferred (some [])) ∧ Frm O3 W3 (W3.putObj D (.deferred none)) ∧ Moved (fun k => O k ∨ False) O O3 W (W3.putObj D (.deferred none)) := by
  have hdl := (Array.getElem?_eq_some_iff.1 hDd).1
  have nD3 : ¬ O3 D := fun h' => by
    rcases h3.own D h' with h' | h'
    · exact nD h'
    · omega
  have z1 := hM.size
  have z3 := h3.size
  have zp : (W3.putObj D (.deferred none)).heap.size = W3.heap.size := by simp [World.putObj]
  refine ⟨(h3.block D hdl nD).trans hDd, frm_put _ _ _ _ nD3, ⟨h3.os.trans (hM.os.trans B0.os), h3.tape.trans (hM.tape.trans B0.tape), h3.output.trans (hM.output.trans B0.output), by omega, fun k hk hn => ?_, fun k hk => ?_⟩⟩
  · have hk0 : ¬ ((O k ∨ k = b ∨ k = b + 1) ∨ k = b + 2) := fun h' => by
      rcases h' with (h' | h' | h') | h'
      · exact hn (.inl h')
      · omega
      · omega
      · omega
    refine (World.putObj_heap_other (by omega)).trans ((h3.block k (by omega) (fun h' => ?_)).trans ((hM.block k (by omega) hk0).trans (B0.block k (by omega))))
    rcases hM.own k h' with h' | h'
    · exact hk0 (.inl h')
    · omega
  · rw [zp]
    rcases h3.own k hk with h' | h'
    · rcases hM.own k h' with (h' | h' | h') | h'
      · exact .inl h'
      · exact absurd (h' ▸ hk) n1
      · exact absurd (h' ▸ hk) n2
      · exact .inr ⟨by omega, by omega⟩
    · exact .inr ⟨by omega, h'.2⟩

set_option maxRecDepth 100000 in
set_option maxHeartbeats 4000000 in
theorem unfolded_push (n : Nat) (hn : 6 ≤ n) (bm : Nat) (hbm : 0 < bm) (M : Int) (t : List UInt8) (ht : t.length < 4294967281) (w : World) (hB : Boxed w bm 9 (.string (S t))) (hM : w.cell? ⟨0, 0, none⟩ = some (.int .i64 M)) :
    Push n Tryd.prog 44 #[.pointer (some ⟨bm, 0, none⟩)] (fun x : List UInt8 => #[.string (S x)]) (fun k => k = 0 ∨ k = bm) (fun _ => False) (unf (lines t)) w := by
  intro lp J Jx O W hW hO hJ hJx hY h0
  have hBW := hW.boxed hB (.inr rfl)
  have hMW := hW.cell hM (.inl rfl)
  clear hB hM
  obtain ⟨yv, hyv⟩ : ∃ yv : Value, (.func (.yield lp) #[] #[]) = yv := ⟨_, rfl⟩
  have hblt := hBW.lt
  have hcb := hBW.cell
  have hn1 : 1 ≤ n := by omega
  refine callsIn_of_wp_marks Tryd.func44 rfl trivial ?_ rfl
  simp only [Tryd.ntmps44, List.size_toArray, List.length_cons, List.length_nil, Nat.reduceAdd, Nat.reduceSub, Array.replicate_succ, Array.replicate_zero, List.push_toArray, List.append_toArray, List.nil_append, List.cons_append]
  gi_wp2_with (refine ⟨trivial, ?_⟩; gi_at_call 45; refine (callsIn_wide.2 (splitSeq_any (S t) ⟨#[13, 10]⟩ _)).mono ?_; rintro e w1 ⟨rfl, rfl⟩)
  obtain ⟨W0, hW0⟩ : ∃ W0, ((((W.alloc (.cells #[yv] 75)).alloc (.cells #[.slice none 0 0] 24)).alloc (.cells #[.string (S t)] 9)).alloc (.cells #[.string ⟨#[13, 10]⟩] 9)).alloc (.cells #[.int .i64 0] 3) = W0 := ⟨_, rfl⟩
  obtain ⟨b, hb⟩ : ∃ b, W.heap.size = b := ⟨_, rfl⟩
  have s0 : W0.heap.size = b + 5 := by rw [← hW0, ← hb]; simp
  have B0 : Below b W W0 := by rw [← hW0, ← hb]; exact (((((Below.refl _ W).alloc (Nat.le_refl _) _).alloc (by simp) _).alloc (by simp; omega) _).alloc (by simp; omega) _).alloc (by simp; omega) _
  have y0 : Boxed W0 b 75 yv := by rw [← hW0, ← hb]; exact ((((Boxed.new W _ _).alloc _).alloc _).alloc _).alloc _
  have l0 : Boxed W0 (b + 1) 24 (.slice none 0 0) := by
    rw [← hW0, ← hb]
    have h := Boxed.new (W.alloc (.cells #[yv] 75)) 24 (.slice none 0 0)
    rw [World.size_alloc] at h
    exact ((h.alloc _).alloc _).alloc _
  have q0 : SqAt (b + 2) M t W0 := by
    have h1 := Boxed.new ((W.alloc (.cells #[yv] 75)).alloc (.cells #[.slice none 0 0] 24)) 9 (.string (S t))
    have h2 := Boxed.new (((W.alloc (.cells #[yv] 75)).alloc (.cells #[.slice none 0 0] 24)).alloc (.cells #[.string (S t)] 9)) 9 (.string ⟨#[13, 10]⟩)
    have h3 := Boxed.new ((((W.alloc (.cells #[yv] 75)).alloc (.cells #[.slice none 0 0] 24)).alloc (.cells #[.string (S t)] 9)).alloc (.cells #[.string ⟨#[13, 10]⟩] 9)) 3 (.int .i64 0)
    simp only [World.size_alloc, hb] at h1 h2 h3
    rw [← hW0]
    exact ⟨(h1.alloc _).alloc _, (h2.alloc _).cell, h3.cell, by rw [hW0]; exact (B0.cell (p := ⟨0, 0, none⟩) (by show 0 < b; omega)).trans hMW⟩
  have n0 : ∀ k, O k → k < b := fun k hk => by have := (hO k hk).1; omega
  have hfo : ∀ k, (O k ∨ k = b ∨ k = b + 1) → k < W0.heap.size ∧ ¬ sqR (b + 2) k := by
    intro k hk
    unfold sqR
    rcases hk with hk | hk | hk
    · have h1 := hO k hk
      have h2 := n0 k hk
      omega
    · omega
    · omega
  have HP := splitSeq_push (n - 1) (by omega) (b + 2) (by omega) M t ht W0 (by omega) q0
  rw [show W.heap.size + 1 + 1 = W.heap.size + 2 from rfl, show W.heap.size + 1 + 1 + 1 = W.heap.size + 3 from rfl, hW0, hb]
  rw [hb] at hblt
  clear hW0
  refine wpIn_push (n := n) hn1 (gf := 69) (lb := #[.pointer (some ⟨b + 3, 0, none⟩), .pointer (some ⟨b + 2, 0, none⟩), .pointer (some ⟨b + 4, 0, none⟩)]) rfl (enters_of Tryd.func69 (by kernel_rfl) rfl)
    HP (Frm.refl _ _) (by unfold sqR; omega) (by omega) (fun _ => rfl)
    (UI b (b + 1) b yv J) (UX b (b + 1) (unf (lines t)) Jx) (UI.dep hJ) (UX.dep hJx) (fun k => O k ∨ k = b ∨ k = b + 1)
    hfo
    ⟨O, .slice none 0 0, show J [] O W0 from hJ _ _ _ _ h0 (Below.frm B0 n0), y0, l0, World.ownsRow_nil _ _ _ _, fun k => by simp [Value.ownBlock], fun h => by have := n0 _ h; omega, fun h => by have := n0 _ h; omega, fun g hg => by simp [Value.ownBlock] at hg⟩
    (fun x => { tmps := #[yv, .pointer (some ⟨bm, 0, none⟩), .pointer (some ⟨b, 0, none⟩), .pointer (some ⟨b + 1, 0, none⟩), .string (S x), .string (S t), .func (.func 69) #[] #[.pointer (some ⟨b + 3, 0, none⟩), .pointer (some ⟨b + 2, 0, none⟩), .pointer (some ⟨b + 4, 0, none⟩)], .string (S x), undef, undef, undef, undef, undef, undef, undef, undef, undef, undef, undef, undef, undef, undef, undef, undef, undef, undef, undef, undef, undef], defers := [] }) ?assign ?body ?done ?stop
  case assign =>
    intro l2 x W K hK
    gi_wp2
    exact hK
  case body =>
    rintro l2 pre x post Oi Wi hx ⟨Oo, v, hUC⟩ hOb
    have HU := Lib.hid hUC
    obtain ⟨hJi, hy, hl, hrow, hOi, ny, nl, nv⟩ := hUC
    have hcy := hy.cell
    have hcl := hl.cell
    have hsz := runP_size pre
    have hls := lines_size t
    have hcn := runP_count pre
    have hlc := lines_count t
    rw [hx] at hls hlc
    simp only [List.flatten_append, List.flatten_cons, List.length_append, List.length_cons] at hls hlc
    have hlt : (runP pre).2.flatten.length ≤ t.length := by omega
    have hct : (runP pre).2.length ≤ t.length := by omega
    have HP' := Lib.hid (fun (h1 : (runP pre).2 ≠ []) (h2 : goesOn x = false) => unf_part hx h1 h2)
    have HX := Lib.hid hx
    have hgo := fun W => goesOn_any x W
    have HOut := Lib.hid (fun (h1 : (runP pre).2 ≠ []) (h2 : goesOn x = false) => runP_out (ls := pre) h1 h2)
    have HIn := Lib.hid (fun (h : (runP pre).2 = [] ∨ goesOn x = true) => runP_in (ls := pre) (l := x) h)
    obtain ⟨rp, hrp⟩ : ∃ rp, runP (pre ++ [x]) = rp := ⟨_, rfl⟩
    have HRP := Lib.hid hrp
    rw [hrp] at HOut HIn
    have HUI : Hid (∀ O W, (∃ Oo v, UC b (b + 1) b yv J rp.1 rp.2 O W Oo v) → UI b (b + 1) b yv J (pre ++ [x]) O W) := Lib.hid fun O W h => by rw [← hrp] at h; exact h
    clear hrp hls hlc hsz hcn hx HX HRP
    generalize (runP pre).1 = d at *
    generalize (runP pre).2 = cur at *
    clear hJi hOi ny nl nv
    have hn3 : 1 ≤ n - 1 - 1 := by omega
    obtain ⟨i0, hi, hz0, hz1, hz2⟩ := info_parts infoS
    cases hc : cur with
    | nil =>
      subst hc
      obtain ⟨va, vc, hva⟩ : ∃ va vc, v = .slice va 0 vc := by
        rcases own_row rfl hrow with ⟨_, h⟩ | ⟨g, cap, h, _, _, _, _⟩
        · exact ⟨_, _, h⟩
        · exact ⟨_, _, h⟩
      subst hva
      have HI := Lib.hid (HIn.out (.inl rfl))
      clear HIn HOut HP'
      gi_wp2_with fail
      refine ⟨trivial, ?_⟩
      gi_wp2_with (gi_at_builtin; refine wpListIn_append_lies _ rfl _ _ 24 rfl b 9 i0 (.string ⟨#[]⟩) 1 16 Tryd.underlying24 hi hz0 hz1 hz2 rfl (by decide) _ _ _ rfl (hrow.alloc _) ⟨Wi.heap.size, 0, none⟩ 1 1 [.string (S x)] rfl rfl (cell_one_new _ _ _) (by simp [Value.oneCell']) (by omega) (by unfold maxLen; simp only [List.length_nil]; omega) (by simp only [List.length_nil]; omega) (by have := hl.lt; simp only [World.size_alloc]; omega) ?_; intro g' cap' w1 hown' hgrow hat hlt'; have hb1 := (hl.alloc _).kept hgrow (hl.not_row (by decide) hrow); have hc1 := hb1.cell; have hf1 := hb1.frozen)
      obtain ⟨O', u1, u2⟩ := ui_append hJ (by omega) HU.out hOb hown' hgrow hat
      exact ⟨O', HUI.out _ _ ⟨_, _, by rw [HI.out]; exact u1⟩, u2⟩
    | cons c0 cr =>
      have hpos : 0 < cur.length := by rw [hc]; simp
      have hne : cur ≠ [] := by rw [hc]; simp
      clear hc
      rcases own_row rfl hrow with ⟨h0, _⟩ | ⟨g, cap, rfl, _, _, _, _⟩
      · exact absurd h0 hne
      have hpi : (cur.length : Int) > 0 := by omega
      cases hgx : goesOn x with
      | true =>
        rw [hgx] at hgo
        have HI := Lib.hid (HIn.out (.inr hgx))
        clear HIn HOut HP' hgx
        gi_wp2_with fail
        refine ⟨trivial, ?_⟩
        refine (CallsIn.inRound l2 (callsIn_wide.2 (hgo _))).mono ?_
        rintro e w1 ⟨rfl, hw1⟩
        rw [hw1]
        clear hw1
        gi_wp2_with (gi_at_builtin; refine wpListIn_append_lies _ rfl _ _ 24 rfl b 9 i0 (.string ⟨#[]⟩) 1 16 Tryd.underlying24 hi hz0 hz1 hz2 rfl (by decide) _ _ _ rfl (hrow.alloc _) ⟨Wi.heap.size, 0, none⟩ 1 1 [.string (S x)] rfl rfl (cell_one_new _ _ _) (by simp [Value.oneCell']) (by omega) (by unfold maxLen; omega) (by omega) (by have := hl.lt; simp only [World.size_alloc]; omega) ?_; intro g' cap' w1 hown' hgrow hat hlt'; have hb1 := (hl.alloc _).kept hgrow (hl.not_row (by decide) hrow); have hc1 := hb1.cell; have hf1 := hb1.frozen)
        obtain ⟨O', u1, u2⟩ := ui_append hJ (by omega) HU.out hOb hown' hgrow hat
        exact ⟨O', HUI.out _ _ ⟨_, _, by rw [HI.out]; exact u1⟩, u2⟩
      | false =>
        rw [hgx] at hgo
        have HI := Lib.hid (HOut.out hne hgx)
        obtain ⟨post', hpost⟩ := HP'.out hne hgx
        have HY := Lib.hid (fun W1 h1 h2 => hY d cur.flatten post' Oo W1 hpost h1 h2)
        have HOo : Hid (∀ k, Oo k → k < Wi.heap.size) := Lib.hid (fun k hk => hOb k ((HU.out.2.2.2.2.1 k).2 (.inl hk)))
        have HPo := Lib.hid hpost
        clear HIn HOut HP' hgx hpost hY
        subst hyv
        gi_wp2_with fail
        refine ⟨trivial, ?_⟩
        refine (CallsIn.inRound l2 (callsIn_wide.2 (hgo _))).mono ?_
        rintro e w1 ⟨rfl, hw1⟩
        rw [hw1]
        clear hw1
        gi_wp2_with fail
        have hn4 : 1 ≤ n - 1 - 1 - 1 := by omega
        have mixed : Tryd.prog.follows .mixedOrders = true := by kernel_rfl
        have hrowd : (Wi.drew).ownsRow b 9 1 (.slice (some ⟨g, 0, none⟩) cur.length cap) cur.length (cellsS cur) := hrow
        gi_region_with_o (first
          | (refine ⟨trivial, ?_⟩; gi_at_call 47; refine (CallsIn.inRound l2 (callsIn_wide.2 (join_own b _ cur hne _ hrowd (by omega) (by omega)))).mono ?_; rintro e w2 ⟨rfl, b2d⟩; have b2 : Below Wi.heap.size Wi w2 := (Below.refl _ Wi).drew.trans b2d; have hy2 : Boxed w2 b 75 (.func (.yield lp) #[] #[]) := (b2.block _ hy.lt).trans hy; have hcy2 := hy2.cell; obtain ⟨fn, tmps, assign, body, hyy, hR⟩ := HY.out w2 (hJ _ _ _ _ HU.out.1 (Below.frm b2 (fun k hk => HOo.out k hk))) (fun k hk => Nat.lt_of_lt_of_le (HOo.out k hk) b2.size))
          | (refine (RoundIn.inRound l2 (RoundIn.any hR)).mono ?_; rintro e W3 h3; obtain ⟨ans, rfl, hans⟩ := told_ans h3))
        all_goals
          (rcases hans.out with ⟨rfl, O3, hJ3, hk3⟩ | ⟨rfl, O3, hJx3, hk3⟩
           · obtain ⟨hb3, O4, u4, s4⟩ := ui_told hJ (by omega) HU.out hOb b2 hk3 hJ3
             have hc3 := hb3.cell
             have hf3 := hb3.frozen
             clear hl hy hcy hcl hrow hrowd hcy2 hy2
             have hrow4 := u4.2.2.2.1
             have hl4 := u4.2.2.1
             have hs4 : (W3.setCell ⟨b + 1, 0, none⟩ (.slice none 0 0)).heap.size = W3.heap.size := by simp
             have hnew := cell_one_new (W3.setCell ⟨b + 1, 0, none⟩ (.slice none 0 0)) (.string (S x)) 9
             rw [hs4] at hnew
             have hO4 : ∀ k, O4 k → k < (W3.setCell ⟨b + 1, 0, none⟩ (.slice none 0 0)).heap.size := fun k hk => by
               rcases s4.own k hk with h' | h'
               · have := hOb k h'
                 have := s4.size
                 omega
               · exact h'.2
             have hb4 : b ≤ W3.heap.size + 1 := by have := hb3.lt; omega
             gi_wp2_with (gi_at_builtin; refine wpListIn_append_lies _ rfl _ _ 24 rfl b 9 i0 (.string ⟨#[]⟩) 1 16 Tryd.underlying24 hi hz0 hz1 hz2 rfl (by decide) _ _ _ rfl (hrow4.alloc _) ⟨W3.heap.size, 0, none⟩ 1 1 [.string (S x)] rfl rfl hnew (by simp [Value.oneCell']) (by omega) (by unfold maxLen; simp only [List.length_nil]; omega) (by simp only [List.length_nil]; omega) (by rw [World.size_alloc, hs4]; exact hb4) ?_; intro g' cap' w1 hown' hgrow hat hlt'; have hb1 := (hl4.alloc _).kept hgrow (hl4.not_row (by decide) hrow4); have hc1 := hb1.cell; have hf1 := hb1.frozen)
             obtain ⟨O', u1, u2⟩ := ui_append hJ (by omega) u4 hO4 hown' hgrow hat
             exact ⟨O', HUI.out _ _ ⟨_, _, by rw [HI.out]; exact u1⟩, s4.trans u2 (fun _ h => h)⟩
           · obtain ⟨s5, n5, n6⟩ := ui_out HU.out b2 hk3
             gi_wp2_with fail
             exact ⟨O3, ⟨rfl, O3, _, ⟨post', by rw [HPo.out]; simp⟩, hJx3, fun _ h => h, n5, n6⟩, s5⟩)
  case done =>
    rintro D O' Wd hD ⟨Oo, v, hUC⟩ hMv nD hDd
    have HU := Lib.hid hUC
    obtain ⟨hJi, hy, hl, hrow, hOi, ny, nl, nv⟩ := hUC
    have hsz := runP_size (lines t)
    have hls := lines_size t
    have hcn := runP_count (lines t)
    have hlc := lines_count t
    have hne : (runP (lines t)).2 ≠ [] := fun h => by
      have := runP_nil h
      rcases idx2_cases t with h1 | ⟨i, h1, _⟩
      · rw [lines_one h1] at this; cases this
      · rw [lines_cut h1] at this; cases this
    have hlt : (runP (lines t)).2.flatten.length ≤ t.length := by omega
    have hct : (runP (lines t)).2.length ≤ t.length + 1 := by omega
    have hxs : unf (lines t) = (runP (lines t)).1 ++ (runP (lines t)).2.flatten :: [] := rfl
    have HX := Lib.hid hxs
    have HY := Lib.hid (fun W1 h1 h2 => hY _ _ [] Oo W1 hxs h1 h2)
    clear hxs hsz hls hcn hlc
    generalize (runP (lines t)).1 = d at *
    generalize (runP (lines t)).2 = cur at *
    have hcy := hy.cell
    have hcl := hl.cell
    have hOd : ∀ k, O' k → k < Wd.heap.size := fun k hk => by
      have := hMv.size
      rcases hMv.own k hk with h' | h'
      · have := (hfo k h').1; omega
      · exact h'.2
    have HOo : Hid (∀ k, Oo k → k < Wd.heap.size) := Lib.hid (fun k hk => hOd k ((hOi k).2 (.inl hk)))
    rcases own_row rfl hrow with ⟨h0', _⟩ | ⟨g, cap, rfl, _, _, _, _⟩
    · exact absurd h0' hne
    clear hJi hOi ny nl nv hY
    subst hyv
    have mixed : Tryd.prog.follows .mixedOrders = true := by kernel_rfl
    have hrowd : (Wd.drew).ownsRow b 9 1 (.slice (some ⟨g, 0, none⟩) cur.length cap) cur.length (cellsS cur) := hrow
    gi_wp2_with fail
    gi_region_with_o (first
      | (refine ⟨trivial, ?_⟩; gi_at_call 47; refine (callsIn_wide.2 (join_own b _ cur hne _ hrowd (by omega) (by omega))).mono ?_; rintro e w2 ⟨rfl, b2d⟩; have b2 : Below Wd.heap.size Wd w2 := (Below.refl _ Wd).drew.trans b2d; have hy2 : Boxed w2 b 75 (.func (.yield lp) #[] #[]) := (b2.block _ hy.lt).trans hy; have hcy2 := hy2.cell; obtain ⟨fn, tmps, assign, body, hyy, hR⟩ := HY.out w2 (hJ _ _ _ _ HU.out.1 (Below.frm b2 (fun k hk => HOo.out k hk))) (fun k hk => Nat.lt_of_lt_of_le (HOo.out k hk) b2.size))
      | (refine (RoundIn.any hR).mono ?_; rintro e W3 h3; obtain ⟨ans, rfl, hans⟩ := told_ans h3))
    all_goals
      (rcases hans.out with ⟨rfl, O3, hJ3, hk3⟩ | ⟨rfl, O3, hJx3, hk3⟩
       · obtain ⟨s5, n5, n6⟩ := ui_out HU.out b2 hk3
         obtain ⟨e1, e2, e3⟩ := ui_end hb B0 s0 hD hMv hDd nD s5 n5 n6
         refine ⟨by simp, .inl ⟨_, _, rfl, run_takeDeferred e1, ?_⟩⟩
         exact ⟨_, results_none rfl _ _ _, ⟨_, rfl⟩, .inl ⟨O3, hJ _ _ _ _ (show J (unf (lines t)) O3 W3 by rw [HX.out]; exact hJ3) e2, e3⟩⟩
       · obtain ⟨s5, n5, n6⟩ := ui_out HU.out b2 hk3
         obtain ⟨e1, e2, e3⟩ := ui_end hb B0 s0 hD hMv hDd nD s5 n5 n6
         refine ⟨by simp, .inl ⟨_, _, rfl, run_takeDeferred e1, ?_⟩⟩
         exact ⟨_, results_none rfl _ _ _, ⟨_, rfl⟩, .inr ⟨_, ⟨[], by rw [HX.out]; simp⟩, O3, hJx _ _ _ _ hJx3 e2, e3⟩⟩)
  case stop =>
    rintro D c pre O' Wd hD hpre ⟨rfl, Oo, pre', g1, g2, g3, g4, g5⟩ hMv nD hDd
    have hz := hMv.size
    have g6 : Moved (fun k => (O k ∨ k = b ∨ k = b + 1) ∨ k = b + 2) (fun k => O k ∨ k = b ∨ k = b + 1) Oo W0 Wd := hMv.weak (fun _ h => h) (fun k hk => .inl (g3 k hk))
    obtain ⟨e1, e2, e3⟩ := ui_end hb B0 s0 hD g6 hDd (fun h => nD (g3 _ h)) (Moved.refl _ _ _) g4 g5
    gi_wp2
    refine ⟨by simp, .inl ⟨_, _, rfl, run_takeDeferred e1, ?_⟩⟩
    exact ⟨_, results_none rfl _ _ _, ⟨_, rfl⟩, .inr ⟨pre', g1, Oo, hJx _ _ _ _ g2 e2, e3⟩⟩
end Go.Proofs.YtekbjapclajflaaDoor.pt
