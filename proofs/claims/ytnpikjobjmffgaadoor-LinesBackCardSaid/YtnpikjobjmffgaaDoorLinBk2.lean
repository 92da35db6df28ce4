/-
  What the law's plain and digits answer.
-/
import Derived.Test.YtnpikjobjmffgaaDoorLinBk1
import Derived.Test.YtnpikjobjmffgaaDoorLinMem
import Derived.Deep.RegionWith
import Derived.BigRegion
namespace Go.Proofs.YtnpikjobjmffgaaDoor.li
open Go.RowKit

theorem conv_nil (w : World) : (convert 48 9 (.slice none 0 0)).run Tryd.prog w = .ok (.string ⟨#[]⟩) w := by kernel_rfl
/-- 'string(b)' of a row that the call owns. -/
theorem conv_any (w : World) (B : Nat) (v : Value) (l : List UInt8) (h : w.ownsRow B 5 1 v l.length (Lib.byteCells l)) :
    (convert 48 9 v).run Tryd.prog w = .ok (.string (S l)) w := by
  rcases h.2 with ⟨rfl, h0⟩ | ⟨g, cap, cur, rfl, hg, hh, hn, hcap, hsz, htake⟩
  · have hl : l = [] := List.length_eq_zero_iff.1 h0
    subst hl
    exact conv_nil w
  · refine conv_lie w g 0 cap l (fun i hi => ?_)
    rw [Nat.zero_add, h.cellAt i (by omega)]
    simp [Lib.byteCells, List.getElem?_eq_getElem hi]
theorem plain_take (l : List UInt8) (k : Nat) (h : k < l.length) : plain (l.take (k + 1)) = plain (l.take k) ++ (if isPlain l[k] = true then [l[k]] else []) := by
  unfold plain
  rw [List.take_succ_eq_append_getElem h, List.filter_append]
  congr 1
  by_cases hp : isPlain l[k] = true
  · rw [if_pos hp, List.filter_cons_of_pos hp]; rfl
  · rw [if_neg hp, List.filter_cons_of_neg hp]; rfl
theorem byte_news (X : World) (z : Nat) : ∀ j u, ([.int .u8 (z : Nat)] : List Value)[j]? = some u → (X.alloc (.cells #[.int .u8 (z : Nat)] 5)).cell? ((⟨X.heap.size, 0, none⟩ : Addr).add j) = some u := by
  intro j u hj
  match j, hj with
  | 0, hj => simp at hj; subst hj; simp [Addr.add]
theorem byte_ones (z : Nat) : ∀ u ∈ ([.int .u8 (z : Nat)] : List Value), u.oneCell' = true := by intro u hu; simp at hu; subst hu; rfl

set_option maxHeartbeats 4000000 in
set_option maxRecDepth 100000 in
theorem plain_any (l : List UInt8) (hl : l.length ≤ 140737488351232) (w : World) :
    Calls Tryd.prog 17 #[.string (S l)] w fun e w' => e = .returned (.string (S (plain l))) ∧ Below w.heap.size w w' := by
  obtain ⟨i0, hi, hz0, hz1, hz2⟩ := info_parts infoU8
  have hz := S_size l
  go_enter Tryd.func17, Tryd.ntmps17
  go_wp2_with fail
  go_loopw [3, 4] (fun v i wr => ∃ k : Nat, i = .int .i64 k ∧ k ≤ l.length ∧ Hid (wr.ownsRow w.heap.size 5 1 v (plain (l.take k)).length (Lib.byteCells (plain (l.take k)))) ∧ Below w.heap.size w wr)
    (fun _ i _ => l.length - (intOf i).toNat)
  case atStart => exact ⟨0, rfl, Nat.zero_le _, Lib.hid (World.ownsRow_nil _ _ _ _), Below.refl _ _⟩
  case round =>
    obtain ⟨k, rfl, hk, HO, hB⟩ := hrel
    have hBs := hB.size
    have hpl := plain_le (l.take k)
    rw [List.length_take] at hpl
    by_cases hlt : k < l.length
    · have hlt' : k < (S l).size := by rw [S_size]; exact hlt
      have HT := Lib.hid (plain_take l k hlt)
      obtain ⟨c, hc⟩ : ∃ c, l[k]'hlt = c := ⟨_, rfl⟩
      have hx : ((S l)[k]'hlt').toNat = c.toNat := by rw [S_get l k hlt hlt', hc]
      have hki : (k : Int) < (l.length : Int) := by omega
      rw [hc] at HT
      clear hc
      have hcn : ∀ z : UInt8, c = z ↔ c.toNat = z.toNat := fun z => ⟨fun h => by rw [h], fun h => UInt8.toNat_inj.1 h⟩
      by_cases hbad : c = 13 ∨ c = 10 ∨ c = 123 ∨ c = 125
      · have HT2 : Hid (plain (l.take (k + 1)) = plain (l.take k)) := Lib.hid (by
          rw [HT.out]
          rcases hbad with rfl | rfl | rfl | rfl <;> simp [isPlain])
        have HO2 : Hid (wr.ownsRow w.heap.size 5 1 u3 (plain (l.take (k + 1))).length (Lib.byteCells (plain (l.take (k + 1))))) := Lib.hid (by rw [HT2.out]; exact HO.out)
        clear HT HT2 HO hcn hpl
        rcases hbad with rfl | rfl | rfl | rfl
        all_goals (
          go_wp2_with fail
          go_roundw
          case rel => exact ⟨k + 1, by go_num, by omega, HO2, hB⟩
          case measure => simp [intOf]; omega)
      · have hn : c ≠ 13 ∧ c ≠ 10 ∧ c ≠ 123 ∧ c ≠ 125 := by
          refine ⟨fun h => hbad (.inl h), fun h => hbad (.inr (.inl h)), fun h => hbad (.inr (.inr (.inl h))), fun h => hbad (.inr (.inr (.inr h)))⟩
        have h1 : c.toNat ≠ 13 := fun h => hn.1 ((hcn 13).2 h)
        have h2 : c.toNat ≠ 10 := fun h => hn.2.1 ((hcn 10).2 h)
        have h3 : c.toNat ≠ 123 := fun h => hn.2.2.1 ((hcn 123).2 h)
        have h4 : c.toNat ≠ 125 := fun h => hn.2.2.2 ((hcn 125).2 h)
        have HT2 : Hid (plain (l.take (k + 1)) = plain (l.take k) ++ [c]) := Lib.hid (by
          rw [HT.out, if_pos (by simp [isPlain, hn])])
        obtain ⟨y, hy⟩ : ∃ y, y = c.toNat := ⟨_, rfl⟩
        have HY := Lib.hid hy
        rw [← hy] at hx h1 h2 h3 h4
        have q1 : ((y : Int) != 13) = true := by rw [bne_iff_ne]; omega
        have q2 : ((y : Int) != 10) = true := by rw [bne_iff_ne]; omega
        have q3 : ((y : Int) != 123) = true := by rw [bne_iff_ne]; omega
        have q4 : ((y : Int) != 125) = true := by rw [bne_iff_ne]; omega
        clear HT hcn hn hbad hy h1 h2 h3 h4
        go_wp2_with (at_builtin; refine wpList_append_own _ rfl _ _ 48 rfl w.heap.size 5 i0 (.int .u8 0) 1 1 Tryd.underlying48 hi hz0 hz1 hz2 rfl (by decide) _ _ _ rfl (HO.out.alloc _) ⟨wr.heap.size, 0, none⟩ 1 1 [.int .u8 (y : Nat)] rfl rfl (byte_news _ y) (byte_ones y) ?c1 ?c2 ?c3 ?_)
        case c1 => unfold maxLen; omega
        case c2 => omega
        case c3 => simp; omega
        intro v6 w6 hown' hgrow hnil
        have hB6 : Below w.heap.size w w6 := (hB.alloc hBs _).grown hgrow (by simp; omega) (fun k hk => (HO.out.lt k hk).1)
        have HO6 : Hid (w6.ownsRow w.heap.size 5 1 v6 (plain (l.take (k + 1))).length (Lib.byteCells (plain (l.take (k + 1))))) := Lib.hid (by
          rw [HT2.out, List.length_append, List.length_singleton, show Lib.byteCells (plain (l.take k) ++ [c]) = Lib.byteCells (plain (l.take k)) ++ [.int .u8 (c.toNat : Nat)] by simp [Lib.byteCells], ← HY.out]
          exact hown')
        clear hown' hgrow hnil HO hB hBs
        go_wp2_with fail
        go_roundw
        case rel => exact ⟨k + 1, by go_num, by omega, HO6, hB6⟩
        case measure => simp [intOf]; omega
    · obtain rfl : k = l.length := by omega
      rw [List.take_length] at HO
      have hcv := conv_any wr w.heap.size u3 (plain l) HO.out
      clear HO hpl
      go_wp2_with fail
      go_ret
      exact ⟨rfl, hB⟩

theorem bcell {W w1 : World} (hb : Below W.heap.size W w1) : ∀ b o, b < W.heap.size → w1.cell? ⟨b, o, none⟩ = W.cell? ⟨b, o, none⟩ := fun b o h => hb.cell (p := ⟨b, o, none⟩) h
set_option maxHeartbeats 4000000 in
set_option maxRecDepth 100000 in
theorem digits_any : ∀ (n : Nat), n ≤ 100000 → ∀ (w : World),
    Calls Tryd.prog 18 #[.int .i64 (n : Nat)] w fun e w' => e = .returned (.string (S (dec n))) ∧ Below w.heap.size w w' := by
  intro n
  induction n using Nat.strongRecOn with
  | _ n ih =>
    intro hn w
    have hib := isByte_u8
    have hbo := byteOf_u8
    have hcv := conv1
    by_cases h10 : n < 10
    · have hu := Lib.hid (dec_small h10)
      have hx1 : IntKind.i64.wrap (48 + (n : Int)) = ((48 + n : Nat) : Int) := by rw [show 48 + (n : Int) = ((48 + n : Nat) : Int) by omega]; exact IntWalk.i64_in _ (by omega)
      have hx2 : IntKind.u8.wrap ((48 + n : Nat) : Int) = ((48 + n : Nat) : Int) := by rw [IntKind.wrap_u8]; omega
      have hi10 : (n : Int) < 10 := by omega
      have hby : Hid (UInt8.ofNat (48 + n) = 48 + UInt8.ofNat n) := Lib.hid (by
        apply UInt8.toNat_inj.1
        rw [UInt8.toNat_add, UInt8.toNat_ofNat', UInt8.toNat_ofNat']
        show _ = (48 + n % 256) % 256
        omega)
      clear ih
      go_enter Tryd.func18, Tryd.ntmps18
      go_wp2
      go_ret
      exact ⟨by rw [hu.out, ← hby.out]; rfl, (Below.refl _ w).alloc (Nat.le_refl _) _⟩
    · obtain ⟨q, hq⟩ : ∃ q : Nat, q = n / 10 := ⟨_, rfl⟩
      obtain ⟨c, hc⟩ : ∃ c : Nat, c = 48 + n % 10 := ⟨_, rfl⟩
      have HI := Lib.hid (ih q (by omega) (by omega))
      have hx0 : IntKind.i64.wrap ((n : Int) / 10) = (q : Int) := by
        rw [IntWalk.i64_in _ (by omega)]; omega
      have hx0' : IntKind.i64.wrap ((n : Int).tdiv 10) = (q : Int) := by
        rw [Int.tdiv_eq_ediv_of_nonneg (by omega)]; exact hx0
      have hx1 : IntKind.i64.wrap (48 + (n : Int).tmod 10) = (c : Int) := by
        rw [Int.tmod_eq_emod_of_nonneg (by omega), IntWalk.i64_in _ (by omega)]; omega
      have hx2 : IntKind.u8.wrap (c : Int) = (c : Int) := by
        rw [IntKind.wrap_u8]; omega
      have hi10 : ¬ (n : Int) < 10 := by omega
      have hby : UInt8.ofNat c = 48 + UInt8.ofNat (n % 10) := by
        rw [hc]
        apply UInt8.toNat_inj.1
        rw [UInt8.toNat_add, UInt8.toNat_ofNat', UInt8.toNat_ofNat']
        show _ = (48 + n % 10 % 256) % 256
        omega
      have hu : Hid (dec n = dec q ++ [UInt8.ofNat c]) := Lib.hid (by rw [dec_big (by omega), hby, hq])
      have hl := dec_length 5 q (by omega)
      have hz := S_size (dec q)
      have hz1 : (S (dec q)).size ≤ 10 := by omega
      have hz2 : ∀ c : UInt8, (S [c]).size = 1 := fun c => rfl
      clear ih h10 hl hz hq hc hby
      go_enter Tryd.func18, Tryd.ntmps18
      go_wp2_with fail
      go_region_with (go_at_call 18; refine (HI.out _).mono ?_; rintro e w1 ⟨rfl, hb1⟩; have hc1 := bcell hb1)
      all_goals go_wp2
      all_goals go_ret
      all_goals refine ⟨by rw [hu.out, S_append]; rfl, ?_⟩
      all_goals first
        | exact ((Below.refl _ w).alloc (Nat.le_refl _) _).drew.trans (hb1.mono (by simp))
        | exact ((Below.refl _ w).drew.trans (hb1.mono (by simp))).alloc (by have := hb1.size; simpa using this) _
end Go.Proofs.YtnpikjobjmffgaaDoor.li
