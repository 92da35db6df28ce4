/-
  What the program's New, Waits, Size, Deaf, Twin answer; Feed of a deaf one.
-/
import Derived.Test.YtnpikjobjmffgaaDoorLinFeed
import Derived.Lib.LazyBuf
namespace Go.Proofs.YtnpikjobjmffgaaDoor.li
open Go.RowKit

set_option maxRecDepth 100000 in
theorem new_any (w : World) (h3 : 3 ≤ w.heap.size) :
    Calls Tryd.prog 9 #[] w fun e w' => e = .returned (.pointer (some ⟨w.heap.size, 0, none⟩)) ∧ Fd w' w.heap.size (.slice none 0 0) st0 ∧ Below w.heap.size w w' := by
  go_enter Tryd.func9, Tryd.ntmps9
  go_wp2
  go_ret
  exact ⟨rfl, ⟨h3, Arr.new w 50 #[.slice none 0 0, .int .i64 0, .bool false], World.ownsRow_nil _ _ _ _⟩, (Below.refl _ _).alloc (Nat.le_refl _) _⟩

theorem own_len {w : World} {B : Nat} {e : TypeId} {size : Nat} {v : Value} {n : Nat} {xs : List Value} (h : w.ownsRow B e size v n xs) : ∃ a c, v = .slice a n c := by
  rcases h.2 with ⟨rfl, rfl⟩ | ⟨g, cap, cur, rfl, _⟩
  · exact ⟨_, _, rfl⟩
  · exact ⟨_, _, rfl⟩
def waits (st : St) : Nat := st.part - st.text.length

set_option maxHeartbeats 1000000 in
set_option maxRecDepth 100000 in
theorem waits_q (q : Nat) (v : Value) (st : St) (hst : st.ok) (w : World) (hF : Fd w q v st) :
    Calls Tryd.prog 14 #[.pointer (some ⟨q, 0, none⟩)] w fun e w' => e = .returned (.int .i64 (waits st : Nat)) ∧ ∃ m, w' = w.drewN m := by
  obtain ⟨t, p, d⟩ := st
  have h1 : t.length ≤ 8192 := hst.t
  have h2 : p ≤ 8192 := hst.p
  have hr := hF.r
  obtain ⟨a, c, rfl⟩ := own_len hr
  have c0 : w.cell? ⟨q, 0, none⟩ = some (.slice a t.length c) := hF.c0
  have c1 := hF.c1
  have hw : IntKind.i64.wrap ((p : Int) - (t.length : Int)) = (p : Int) - (t.length : Int) := IntWalk.i64_in _ (by omega)
  have hm : max ((p : Int) - (t.length : Int)) 0 = ((p - t.length : Nat) : Int) := by omega
  have hres : Hid (waits ⟨t, p, d⟩ = p - t.length) := Lib.hid rfl
  clear hF hr hst
  generalize p - t.length = x at *
  generalize t.length = n at *
  go_enter Tryd.func14, Tryd.ntmps14
  go_wp2
  go_quiet (fail)
  go_wp2
  go_ret
  exact ⟨by rw [hres.out]; rfl, _, rfl⟩
set_option maxRecDepth 100000 in
theorem size_q (q : Nat) (v : Value) (st : St) (w : World) (hF : Fd w q v st) :
    Calls Tryd.prog 15 #[.pointer (some ⟨q, 0, none⟩)] w fun e w' => e = .returned (.int .i64 (st.text.length : Nat)) ∧ w' = w := by
  obtain ⟨a, c, rfl⟩ := own_len hF.r
  have c0 := hF.a.cell (j := 0) (v := .slice a st.text.length c) rfl
  clear hF
  generalize st.text.length = n at *
  go_enter Tryd.func15, Tryd.ntmps15
  go_wp2
  go_ret
  exact ⟨rfl, rfl⟩
set_option maxRecDepth 100000 in
theorem deaf_q (q : Nat) (v : Value) (st : St) (w : World) (hF : Fd w q v st) :
    Calls Tryd.prog 16 #[.pointer (some ⟨q, 0, none⟩)] w fun e w' => e = .returned (.bool st.deaf) ∧ w' = w := by
  have c2 := hF.a.cell (j := 2) (v := .bool st.deaf) rfl
  clear hF
  generalize st.deaf = b at *
  go_enter Tryd.func16, Tryd.ntmps16
  go_wp2
  go_ret
  exact ⟨rfl, rfl⟩

theorem waits_any (q : Nat) (v : Value) (st : St) (hst : st.ok) (w : World) (hF : Fd w q v st) :
    Calls Tryd.prog 14 #[.pointer (some ⟨q, 0, none⟩)] w fun e w' => e = .returned (.int .i64 (waits st : Nat)) ∧ Below w.heap.size w w' :=
  (waits_q q v st hst w hF).mono fun e w' ⟨h, m, e2⟩ => ⟨h, by rw [e2]; exact ⟨rfl, rfl, rfl, Nat.le_refl _, fun _ _ => rfl⟩⟩
theorem size_any (q : Nat) (v : Value) (st : St) (w : World) (hF : Fd w q v st) :
    Calls Tryd.prog 15 #[.pointer (some ⟨q, 0, none⟩)] w fun e w' => e = .returned (.int .i64 (st.text.length : Nat)) ∧ Below w.heap.size w w' :=
  (size_q q v st w hF).mono fun e w' ⟨h, e2⟩ => ⟨h, by rw [e2]; exact Below.refl _ _⟩
theorem deaf_any (q : Nat) (v : Value) (st : St) (w : World) (hF : Fd w q v st) :
    Calls Tryd.prog 16 #[.pointer (some ⟨q, 0, none⟩)] w fun e w' => e = .returned (.bool st.deaf) ∧ Below w.heap.size w w' :=
  (deaf_q q v st w hF).mono fun e w' ⟨h, e2⟩ => ⟨h, by rw [e2]; exact Below.refl _ _⟩

set_option maxRecDepth 100000 in
theorem feed_deaf (q : Nat) (v : Value) (st : St) (hd : st.deaf = true) (s : ByteArray) (w : World) (hF : Fd w q v st) :
    Calls Tryd.prog 10 #[.pointer (some ⟨q, 0, none⟩), .string s] w fun e w' => e = .returned (.slice none 0 0) ∧ Below w.heap.size w w' := by
  have c2 := hF.a.cell (j := 2) (v := .bool true) (by show some (Value.bool st.deaf) = _; rw [hd])
  clear hF
  go_enter Tryd.func10, Tryd.ntmps10
  go_wp2_with fail
  go_step3
  go_wp2_with fail
  first | rw [Exit.noGoto_ret] | skip
  go_ret
  exact ⟨rfl, Below.refl _ _⟩
/-- Feed, whatever the feeder. -/
theorem feed_all (q : Nat) (v0 : Value) (st : St) (hst : st.ok) (s : List UInt8) (hs : s.length ≤ 1000000000) (w : World) (hF : Fd w q v0 st) (hE : Errs w) :
    Calls Tryd.prog 10 #[.pointer (some ⟨q, 0, none⟩), .string (S s)] w fun e w' => ∃ lv v, e = .returned lv ∧ Fed w q v0 st s w.heap.size lv v w' := by
  cases hd : st.deaf with
  | false => exact feed_any q v0 st hst hd s hs w hF hE
  | true =>
    refine (feed_deaf q v0 st hd (S s) w hF).mono ?_
    rintro e w' ⟨rfl, hb⟩
    have hr := run_deaf hd s
    exact ⟨_, v0, rfl, ⟨by rw [hr]; exact hF.later hb, by rw [hr]; exact World.ownsRow_nil _ _ _ _, Apart.of_below hb, fun k hk => .inl hk⟩⟩

set_option maxHeartbeats 1000000 in
set_option maxRecDepth 100000 in
theorem clone_any (v : Value) (t : List UInt8) (ht : t.length ≤ 1000000) (w : World) (ho : w.ownsRow 3 5 1 v t.length (Lib.byteCells t)) :
    Calls Tryd.prog 23 #[v] w fun e w' => (∃ a' c', e = .returned (.slice a' t.length c') ∧ w'.ownsRow w.heap.size 5 1 (.slice a' t.length c') t.length (Lib.byteCells t)) ∧ Below w.heap.size w w' := by
  obtain ⟨i0, hi, hz0, hz1, hz2⟩ := info_parts infoU8
  have heq := fun (W : World) (a : Option Addr) (l c : Nat) => run_eql_slice_nil (P := Tryd.prog) W 48 5 a l c Tryd.underlying48
  rcases ho.2 with ⟨rfl, h0⟩ | ⟨g, cap, cur, rfl, hg, hh, hn, hcap, hsz, htake⟩
  · have hnil : t = [] := List.length_eq_zero_iff.1 h0
    subst hnil
    go_enter Tryd.func23, Tryd.ntmps23
    go_wp2
    go_ret
    exact ⟨⟨none, 0, rfl, World.ownsRow_nil _ _ _ _⟩, Below.refl _ _⟩
  · have hnews : ∀ j u, (Lib.byteCells t)[j]? = some u → (w.alloc (.cells #[] 5)).cell? ((⟨g, 0, none⟩ : Addr).add j) = some u := by
      intro j u hj
      have hjl : j < t.length := by
        have := (List.getElem?_eq_some_iff.1 hj).1
        rwa [Lib.byteCells_length] at this
      rw [addr_add, Nat.zero_add]
      have hlt : g < w.heap.size := (Array.getElem?_eq_some_iff.1 hh).1
      rw [((Below.refl w.heap.size w).alloc (Nat.le_refl _) (.cells #[] 5)).cell (p := ⟨g, j, none⟩) hlt, ho.cellAt j (by omega)]
      exact hj
    have hlit : (w.alloc (.cells #[] 5)).ownsRow w.heap.size 5 1 (.slice (some ⟨w.heap.size, 0, none⟩) 0 0) 0 [] := World.ownsRow_lit w #[] 0 (Nat.le_refl _) (by decide) rfl
    have hones : ∀ u ∈ Lib.byteCells t, u.oneCell' = true := by intro u hu; simp [Lib.byteCells] at hu; obtain ⟨_, _, rfl⟩ := hu; rfl
    have hbl := Lib.byteCells_length t
    have HB : Hid (Below w.heap.size w (w.alloc (.cells #[] 5))) := (Below.refl _ _).alloc (Nat.le_refl _) _
    have HLT := Lib.hid hlit.lt
    clear ho hh hsz htake
    generalize Lib.byteCells t = xs at *
    go_enter Tryd.func23, Tryd.ntmps23
    go_wp2_with (at_builtin; refine wpList_append_own _ rfl _ _ 48 rfl w.heap.size 5 i0 (.int .u8 0) 1 1 Tryd.underlying48 hi hz0 hz1 hz2 rfl (by decide) _ _ _ rfl hlit ⟨g, 0, none⟩ t.length cap xs rfl (by omega) hnews hones ?c1 ?c2 ?c3 ?_)
    case c1 => unfold maxLen; omega
    case c2 => omega
    case c3 => simp
    intro v5 w5 hown' hgrow hnil
    have hb5 : Below w.heap.size w w5 := HB.out.grown hgrow (by simp) (fun j hj => (HLT.out j hj).1)
    have hown5 : w5.ownsRow w.heap.size 5 1 v5 t.length xs := by simpa using hown'
    obtain ⟨a5, c5, rfl⟩ := own_len hown5
    have HH := Lib.hid (And.intro hown5 hb5)
    clear hown' hgrow hnil hown5 hb5
    go_wp2_with fail
    go_ret
    exact ⟨⟨_, _, rfl, HH.out.1⟩, HH.out.2⟩

set_option maxHeartbeats 2000000 in
set_option maxRecDepth 100000 in
theorem twin_any (q : Nat) (v : Value) (st : St) (hst : st.ok) (w : World) (hF : Fd w q v st) :
    Calls Tryd.prog 19 #[.pointer (some ⟨q, 0, none⟩)] w fun e w' => (∃ p v', e = .returned (.pointer (some ⟨p, 0, none⟩)) ∧ w.heap.size ≤ p ∧ Fd w' p v' st ∧ ∀ k, v'.ownBlock = some k → w.heap.size ≤ k) ∧ Below w.heap.size w w' := by
  have hcl := fun W (hW : Fd W q v st) => clone_any v st.text (by have := hst.t; omega) W hW.r
  obtain ⟨t, p, d⟩ := st
  have hF0 := Lib.hid hF
  have c0 := hF.c0
  have c1 := hF.c1
  have c2 := hF.c2
  have hlt := hF.a.lt
  have HCL := Lib.hid hcl
  clear hF hcl
  go_enter Tryd.func19, Tryd.ntmps19
  go_upto_region 3 with (fail)
  go_region_held3 (fun w' => w'.cell? ⟨q, 0, none⟩ = some v ∧ w'.cell? ⟨q, 1, none⟩ = some (.int .i64 (p : Nat)) ∧ w'.cell? ⟨q, 2, none⟩ = some (.bool d))
    (first
      | go_keep
      | exact ⟨(hb4.cell (p := ⟨q, _, none⟩) hlt).trans c0, (hb4.cell (p := ⟨q, _, none⟩) hlt).trans c1, (hb4.cell (p := ⟨q, _, none⟩) hlt).trans c2⟩
      | exact ⟨c0, c1, c2⟩)
    ((go_at_call 23; refine (HCL.out _ hF0.out.drew).mono ?_; rintro e w4 ⟨⟨a4, c4, rfl, hv4⟩, hb4⟩))
  have hb : Below w.heap.size w w4 := ((Below.refl w.heap.size w).drew).trans hb4
  have h3 : 3 ≤ w.heap.size := Nat.le_trans hF0.out.b (Nat.le_of_lt hlt)
  have HH : Hid (Fd (w4.alloc (.cells #[.slice a4 t.length c4, .int .i64 (p : Nat), .bool d] 50)) w4.heap.size (.slice a4 t.length c4) ⟨t, p, d⟩ ∧ Below w.heap.size w (w4.alloc (.cells #[.slice a4 t.length c4, .int .i64 (p : Nat), .bool d] 50))) :=
    ⟨⟨Nat.le_trans h3 hb.size, Arr.new w4 50 _, (ownsRow_lower hv4 h3).alloc _⟩, hb.alloc hb.size _⟩
  have HS := Lib.hid hb.size
  have HL := Lib.hid hv4.lt
  clear hb hb4 hv4
  go_wp2_with fail
  go_ret
  exact ⟨⟨_, _, rfl, HS.out, HH.out.1, fun k hk => (HL.out k hk).1⟩, HH.out.2⟩
end Go.Proofs.YtnpikjobjmffgaaDoor.li
