/-
  Members as text: the document's Text, Read.
-/
import Derived.Test.YtmgmhnohocamfaaGreatQmP8
namespace Go.Proofs.YtmgmhnohocamfaaGreat.qm
set_option linter.unusedVariables false
open Go.RowKit
open rw (Arr But Own bnext below_box below_drew below_drewN)
open pk (RD At dec S S_size S_data)

theorem conv_by {w : World} {B : Nat} {v : Value} {l : Bs} (h : Own bySh w B v l) (hl : l ≠ []) : (convert 114 9 v).run Tryz.prog w = .ok (.string (S l)) w :=
  pk.conv_own w B v l hl (bytes_own h)
set_option maxHeartbeats 4000000 in
set_option maxRecDepth 100000 in
theorem rtext_any (v : Value) (l : List Int) (hl : l.length ≤ 140737488355328) (w : World) (h : Ns w v l) :
    Calls Tryz.prog 37 #[v] w fun e w' => e = .returned (.string (S (textL l))) ∧ Below w.heap.size w w' := by
  have hR := rright_any v l hl w h
  obtain ⟨a, c, rfl⟩ := sl_form h
  obtain ⟨T, hT⟩ : ∃ T, textL l = T := ⟨_, rfl⟩
  rw [hT]
  obtain ⟨r, hr⟩ : ∃ r, right l = r := ⟨_, rfl⟩
  rw [hr] at hR
  cases r with
  | false =>
    have : T = [] := by rw [← hT]; simp [textL, hr]
    subst this
    clear hr h hT
    go_enter Tryz.func37, Tryz.ntmps37
    go_wp2_with fail
    with_reducible refine hR.mono ?_
    clear hR
    rintro e w2 ⟨rfl, b2⟩
    have B2 := Lib.hid b2
    clear b2
    go_wp2_with fail
    go_ret
    exact ⟨rfl, B2.out⟩
  | true =>
    have hlen := right_len hr
    have hT2 : UInt8.ofNat l.length :: l.map ofI = T := by rw [← hT]; simp [textL, hr]
    obtain ⟨N, hN⟩ : ∃ n, l.length = n := ⟨_, rfl⟩
    rw [hN] at hR hlen h hT2 ⊢
    have HN := Lib.hid hN
    have HS := Lib.hid h
    have HR := Lib.hid hr
    have HT := Lib.hid hT2
    have f0 : IntKind.u8.wrap (N : Int) = (N : Int) := by rw [IntKind.wrap_u8]; omega
    clear h hN hr hT hT2
    go_enter Tryz.func37, Tryz.ntmps37
    go_wp2_with fail
    with_reducible refine hR.mono ?_
    clear hR
    rintro e w2 ⟨rfl, b2⟩
    have H0 : Hid (Own bySh (w2.alloc (.cells #[.int .u8 (N : Nat)] 5)) w.heap.size (.slice (some ⟨w2.heap.size, 0, none⟩) 1 1) (UInt8.ofNat N :: (l.take 0).map ofI) ∧ Below w.heap.size w (w2.alloc (.cells #[.int .u8 (N : Nat)] 5))) := by
      have k := below_box w2 (.cells #[.int .u8 (N : Nat)] 5)
      have o := Own.lit bySh w2 [UInt8.ofNat N] (by simp) (by simp)
      rw [rw.cellsG_one] at o
      have e : bySh.enc (UInt8.ofNat N) = [.int .u8 (N : Nat)] := by
        have : (UInt8.ofNat N).toNat = N := by simp; omega
        simp only [bySh, this]
      rw [e] at o
      exact ⟨own_mono o b2.size, b2.trans (k.mono b2.size)⟩
    clear b2
    go_wp2_with fail
    generalize w2.alloc (.cells #[.int .u8 (N : Nat)] 5) = w3 at *
    go_loopw [3, 4] (fun o i wr => ∃ (k : Nat), i = .int .i64 k ∧ k ≤ N ∧ Hid (Own bySh wr w.heap.size o (UInt8.ofNat N :: (l.take k).map ofI) ∧ Below w.heap.size w wr))
      (fun _ i _ => N - (intOf i).toNat)
    case atStart => exact ⟨0, rfl, Nat.zero_le _, H0⟩
    case round =>
      obtain ⟨k, rfl, hk, HO⟩ := hrel
      by_cases hlt : k < N
      · have hki : (k : Int) < (N : Int) := by omega
        have hkl : k < l.length := by rw [HN.out]; exact hlt
        have HS2 := HS.out.later _ HO.out.2
        rw [← HN.out] at HS2
        obtain ⟨b, off, c3, e, hb3, c0⟩ := slN_at HS2 hkl
        injection e with e1 e2 e3
        subst e1 e3
        clear e2
        have hx5 := right_mem HR.out (List.getElem_mem hkl)
        have hnx : UInt8.ofNat N :: (l.take (k + 1)).map ofI = (UInt8.ofNat N :: (l.take k).map ofI) ++ [ofI (l[k]'hkl)] := by
          rw [List.take_succ_eq_append_getElem hkl, List.map_append]; rfl
        obtain ⟨x, hx⟩ : ∃ x, l[k]'hkl = x := ⟨_, rfl⟩
        rw [hx] at c0 hx5 hnx
        obtain ⟨y, hy⟩ : ∃ y : Nat, x.toNat = y := ⟨_, rfl⟩
        obtain rfl : x = (y : Int) := by omega
        have hyo : (ofI (y : Int)).toNat = y := by simp [ofI]; omega
        obtain ⟨o', w', h1, h2, h3⟩ := rw.append_one bySh w.heap.size _ _ (ofI (y : Int)) (by rw [List.length_cons, List.length_map, List.length_take]; omega) wr HO.out.1 HO.out.2.size
        rw [← hnx] at h2
        have e : bySh.enc (ofI (y : Int)) = [.int .u8 (y : Nat)] := by simp only [bySh, hyo]
        rw [e] at h1
        have HR1 := Lib.hid h1
        have HO3 : Hid (Own bySh w' w.heap.size o' (UInt8.ofNat N :: (l.take (k + 1)).map ofI) ∧ Below w.heap.size w w') := ⟨h2, HO.out.2.trans h3⟩
        have f1 : IntKind.u8.wrap (y : Int) = (y : Int) := by
          have := hx5
          rw [IntKind.wrap_u8]; omega
        clear HO h1 h2 h3 hnx HS2 hb3 hx hkl hx5 hy hyo e
        go_wp2_with (at_builtin; refine rw.wpList_append_at _ _ _ rfl rfl _ _ _ _ rfl rfl HR1.out ?_)
        exact ⟨⟨k + 1, by rw [Int.natCast_add]; rfl, by omega, HO3.out⟩, by simp only [intOf]; omega⟩
      · obtain rfl : k = N := by omega
        have hki : ¬ (k : Int) < (k : Int) := by omega
        have hcv := conv_by HO.out.1 (by simp)
        rw [← HN.out, List.take_length, HN.out, HT.out] at hcv
        have HB := Lib.hid HO.out.2
        clear HO
        go_wp2
        go_ret
        exact ⟨rfl, HB.out⟩
end Go.Proofs.YtmgmhnohocamfaaGreat.qm
