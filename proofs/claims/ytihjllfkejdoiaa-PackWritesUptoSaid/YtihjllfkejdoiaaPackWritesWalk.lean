/-
  posthornlaw01.PackWrites answers true.
-/
import Derived.Test.YtihjllfkejdoiaaPackAlive
import Derived.Test.YtihjllfkejdoiaaPackRef
namespace Go.Proofs.Ytihjllfkejdoiaa.pk
open Go.RowKit

theorem info22 : (Try.prog.info? 22).map (fun i => (i.zero, i.size, i.bytes)) = some (some (.int .u64 0), 1, 8) := by kernel_rfl

/-- An append whose run is known, at an operation that its guard lets by. -/
theorem wpList_append_at {P : Program} {w : World} {ops : Array Oper} {rest : List Oper} {o : Oper} {a : Act} {Q : Exit → Act → World → Prop} (s x : Operand) (t : TypeId)
    (hw : Region.wanted o (yielded ops a.tmps) = true)
    (ho : o.op = .call { callee := .builtin .append, args := #[s, x], argTypes := #[t, t] }) (vs vx v' : Value) (w' : World) (hs : a.eval s = vs) (hx : a.eval x = vx)
    (hr : (Builtin.append_ #[t, t] o.type #[vs, vx]).run P w = .ok v' w') (h : wpList P ops Q rest (a.put o.dst v') w') : wpList P ops Q (o :: rest) a w :=
  wpList_step fun K hK => by
    rw [if_pos hw]
    unfold Oper.wp execOp
    simp only [ho, resolve, invoke, builtin, Sem.run_bind, Sem.run_pure, Result.andThen_ok, List.map_toArray, List.map_cons, List.map_nil, hs, hx, hr]
    exact hK _ _ h

theorem row_of_own {w : World} {base : Nat} {v : Value} {l : List Nat} (h : w.ownsRow base 22 1 v l.length (l.map fun x : Nat => Value.int .u64 (x : Int))) :
    ∃ a' cap', v = .slice a' l.length cap' ∧ Row64 w a' l := by
  rcases h.2 with ⟨rfl, h0⟩ | ⟨g, cap, cur, rfl, hg, hh, hn, hcap, hsz, htake⟩
  · have : l = [] := List.length_eq_zero_iff.1 h0
    subst this
    exact ⟨none, 0, rfl, Or.inl rfl⟩
  · refine ⟨_, _, rfl, Or.inr ⟨g, 0, rfl, lt_of_at hh, fun j hj => ?_⟩⟩
    rw [Nat.zero_add, h.cellAt j (by omega)]
    simp [List.getElem?_eq_getElem hj]

/-- 'append([]uint64(nothing), l...)': a slice of the same numbers; nothing that was there has changed. -/
theorem append_copy (w : World) (a : Option Addr) (cap : Nat) (l : List Nat) (hlen : l.length ≤ 1048576) (hrow : Row64 w a l) (hnil : a = none → cap = 0 ∧ l = []) :
    ∃ v' w', (Builtin.append_ #[23, 23] 23 #[.slice (some ⟨w.heap.size, 0, none⟩) 0 0, .slice a l.length cap]).run Try.prog (w.alloc (.cells #[] 22)) = .ok v' w' ∧
      (∃ a' cap', v' = .slice a' l.length cap' ∧ Row64 w' a' l) ∧ Below w.heap.size w w' := by
  obtain ⟨i0, hi, hz0, hz1, hz2⟩ := info_parts info22
  have hown := World.ownsRow_made (base := w.heap.size) (e := 22) (size := 1) w #[] 0 (Nat.le_refl _) (by unfold maxLen; omega) (by simp)
  have hb0 : Below w.heap.size w (w.alloc (.cells #[] 22)) := (Below.refl _ w).alloc (Nat.le_refl _) _
  cases a with
  | none =>
    obtain ⟨rfl, rfl⟩ := hnil rfl
    have h := run_append_owned_none (P := Try.prog) (w := w.alloc (.cells #[] 22)) w.heap.size 23 23 22 i0 1 Try.underlying23 hi _ 0 [] hown
    exact ⟨_, _, h, ⟨_, _, rfl, Or.inl rfl⟩, hb0⟩
  | some ad =>
    have hnews : ∀ j u, (l.map fun x : Nat => Value.int .u64 (x : Int))[j]? = some u → (w.alloc (.cells #[] 22)).cell? (ad.add j) = some u := by
      intro j u hj
      rcases hrow with rfl | ⟨b, off, hab, hbw, hcell⟩
      · simp at hj
      · obtain rfl : ad = ⟨b, off, none⟩ := Option.some.inj hab
        have hjl : j < l.length := by
          rcases Nat.lt_or_ge j l.length with h | h
          · exact h
          · rw [List.getElem?_eq_none (by simpa using h)] at hj; cases hj
        have e : ((⟨b, off, none⟩ : Addr).add j) = ⟨b, off + j, none⟩ := by unfold Addr.add; split <;> simp_all
        rw [e, World.cell?_alloc_past _ _ _ hbw, hcell j hjl]
        simpa [List.getElem?_eq_getElem hjl] using hj
    obtain ⟨v', w', hrun, hown', hgrow, _⟩ := run_append_own (P := Try.prog) (w := w.alloc (.cells #[] 22)) w.heap.size 23 23 22 i0 (.int .u64 0) 1 8 Try.underlying23 hi hz0 hz1 hz2 rfl (by decide) _ 0 [] hown ad l.length cap
      (l.map fun x : Nat => Value.int .u64 (x : Int)) (by simp) hnews (by intro u hu; obtain ⟨x, _, rfl⟩ := List.mem_map.1 hu; rfl) (by unfold maxLen; omega) (by omega) (by simp)
    rw [Nat.zero_add, List.nil_append] at hown'
    exact ⟨v', w', hrun, row_of_own hown', hb0.grown hgrow (by simp) (fun k hk => (hown.lt k hk).1)⟩

set_option maxHeartbeats 4000000 in
set_option maxRecDepth 100000 in
theorem packwrites_any (n : Nat) (hn : n < 18446744073709551616) (s : List UInt8) (a : Option Addr) (cap : Nat) (l : List Nat) (hl : ∀ x ∈ l, x < 18446744073709551616)
    (hs : s.length ≤ 1048576) (hlen : l.length ≤ 1048576) (w : World) (hrow : Row64 w a l) (hnil : a = none → cap = 0 ∧ l = []) :
    Calls Try.prog 3 #[.int .u64 n, .string (S s), .slice a l.length cap] w fun e w' => e = .returned (.bool true) ∧ Below w.heap.size w w' := by
  obtain ⟨c, hc⟩ : ∃ c, c = l.length := ⟨_, rfl⟩
  have hcl : c ≤ 1048576 := by omega
  rw [← hc]
  have HC := Lib.hid hc
  have HL := Lib.hid hl
  have HR := Lib.hid hrow
  have HN := Lib.hid hnil
  have HE := Lib.hid hlen
  clear hc hl hlen hrow hnil
  go_enter Try.func3, Try.ntmps3
  go_wp2_with fail
  refine (alive_any w).mono ?_
  rintro e w1 ⟨rfl, hb1⟩
  go_wp2_with fail
  refine (num_any n hn w1).mono ?_
  rintro e w2 ⟨rfl, hb2⟩
  have hB2 : Below w.heap.size w w2 := hb1.trans (hb2.mono hb1.size)
  clear hb1 hb2
  go_wp2_with fail
  refine (refnum_any n hn w2).mono ?_
  rintro e w3 ⟨rfl, hb3⟩
  have hB3 : Below w.heap.size w w3 := hB2.trans (hb3.mono hB2.size)
  clear hB2 hb3
  go_wp2_with fail
  refine (text_any s (by omega) w3).mono ?_
  rintro e w4 ⟨rfl, hb4⟩
  have hB4 : Below w.heap.size w w4 := hB3.trans (hb4.mono hB3.size)
  clear hB3 hb4
  go_wp2_with fail
  refine (reftext_any s (by omega) w4).mono ?_
  rintro e w5 ⟨rfl, hb5⟩
  have hB5 : Below w.heap.size w w5 := hB4.trans (hb5.mono hB4.size)
  clear hB4 hb5
  have hR5 := HR.out.of_below hB5
  obtain ⟨v6, w6, hrun, ⟨a', cap', rfl, hrow6⟩, hb6⟩ := append_copy w5 a cap l HE.out hR5 HN.out
  have hnums := nums_row a' cap' l HL.out (by have := HE.out; omega) w6 hrow6
  have hB6 : Below w.heap.size w w6 := hB5.trans (hb6.mono hB5.size)
  have hR6 := HR.out.of_below hB6
  have HNu := Lib.hid hnums
  have HR6 := Lib.hid hR6
  rw [← HC.out] at hrun
  have HRun := Lib.hid hrun
  clear hB5 hb6 hrow6 hnums hR5 hR6 hrun
  go_wp2_with (at_builtin; refine wpList_append_at _ _ _ rfl rfl _ _ _ _ rfl rfl HRun.out ?_)
  have hn1 := HNu.out
  rw [← HC.out] at hn1
  refine hn1.mono ?_
  rintro e w7 ⟨rfl, hb7⟩
  have hB7 : Below w.heap.size w w7 := hB6.trans (hb7.mono hB6.size)
  clear hB6 hb7 hn1
  have hn2 := refnums_row a cap l HL.out HE.out w7 (HR.out.of_below hB7)
  rw [← HC.out] at hn2
  have HN2 := Lib.hid hn2
  clear hn2
  go_wp2_with fail
  refine HN2.out.mono ?_
  rintro e w8 ⟨rfl, hb8⟩
  have hB8 : Below w.heap.size w w8 := hB7.trans (hb8.mono hB7.size)
  clear hB7 hb8
  go_wp2
  go_ret
  exact ⟨rfl, hB8⟩
end Go.Proofs.Ytihjllfkejdoiaa.pk
