/-
  What the program's Unhex answers: the bytes whose digits these are, or none.
-/
import Derived.Test.YtpimdbnhpbjlkaaGreatDoorDigUn
import Derived.Test.YtpimdbnhpbjlkaaGreatDoorDigHexP
namespace Go.Proofs.YtpimdbnhpbjlkaaGreatDoor.dg
open Go.RowKit

theorem ib_any (a : UInt8) (w : World) :
    Calls Tryz.prog 94 #[.string ⟨#[48, 49, 50, 51, 52, 53, 54, 55, 56, 57, 97, 98, 99, 100, 101, 102]⟩, .int .u8 (a.toNat : Nat)] w fun e w' => e = .returned (.int .i64 (Lib.indexByte digits a)) ∧ w' = w := by
  have h := Tryz.strings_IndexByte ⟨#[48, 49, 50, 51, 52, 53, 54, 55, 56, 57, 97, 98, 99, 100, 101, 102]⟩ (a.toNat : Nat) w
  have e : ((a.toNat : Nat) : Int).toNat.toUInt8 = a := by simp
  rw [e] at h
  exact h
theorem or16 {p q : Nat} (hp : p < 16) (hq : q < 16) : bits .or .i64 ((p : Int) * 16) (q : Int) = ((16 * p + q : Nat) : Int) := by
  have : ∀ i j : Fin 16, bits .or .i64 ((i.1 : Int) * 16) (j.1 : Int) = ((16 * i.1 + j.1 : Nat) : Int) := by decide +kernel
  exact this ⟨p, hp⟩ ⟨q, hq⟩

set_option maxHeartbeats 4000000 in
set_option maxRecDepth 100000 in
theorem unhex_any (l : List UInt8) (hl : l.length ≤ 140737488355328) (w : World) :
    Calls Tryz.prog 87 #[.string (S l)] w fun e w' => e = .returned (.tuple #[.string (S (unhex l)), .bool (good l)]) ∧ Below w.heap.size w w' := by
  obtain ⟨i0, hi, hz0, hz1, hz2⟩ := info_parts infoU8
  have hz := S_size l
  obtain ⟨B, hB0⟩ : ∃ B, B = w.heap.size := ⟨_, rfl⟩
  have hBw : B ≤ w.heap.size := by omega
  have HB0 := Lib.hid hB0
  clear hB0
  go_enter Tryz.func87, Tryz.ntmps87
  by_cases hodd : l.length % 2 = 1
  · have hne : (((l.length : Int) % 2) != 0) = true := by simp; omega
    have hu : unhex l = [] := by unfold unhex; rw [odd_bad hodd]; rfl
    have hg : good l = false := odd_bad hodd
    have HU := Lib.hid (And.intro hu hg)
    clear hu hg hodd
    go_wp2
    refine bodyPost_ret (results_tmp2 rfl _ _ _) rfl ⟨?_, Below.refl _ _⟩
    rw [HU.out.1, HU.out.2]
    rfl
  · obtain ⟨q, hq⟩ : ∃ q, l.length = 2 * q := ⟨l.length / 2, by omega⟩
    have hne : (((l.length : Int) % 2) != 0) = false := by simp; omega
    have hdiv : (l.length : Int) / 2 = (q : Int) := by omega
    have HQ := Lib.hid hq
    clear hodd
    have hql : q ≤ 140737488355328 := by omega
    clear hq
    go_wp2
    go_loopw [4, 15] (fun v i wr => ∃ j : Nat, i = .int .i64 j ∧ j ≤ q ∧ (j = 0 → v = .slice none 0 0) ∧ Hid (∀ i (h : i < l.length), i < 2 * j → dg l[i] = true) ∧ Hid (wr.ownsRow B 5 1 v (vals (l.take (2 * j))).length (Lib.byteCells (vals (l.take (2 * j))))) ∧ Below B w wr)
      (fun _ i _ => q - (intOf i).toNat)
    case atStart => exact ⟨0, rfl, Nat.zero_le _, fun _ => rfl, Lib.hid (fun i _ h => absurd h (by omega)), Lib.hid (World.ownsRow_nil _ _ _ _), Below.refl _ _⟩
    case round =>
      obtain ⟨j, rfl, hj, hv0, HD, HO, hB⟩ := hrel
      have hBs : B ≤ wr.heap.size := Nat.le_trans hBw hB.size
      by_cases hlt : j < q
      · clear hv0
        have h0 : 2 * j < l.length := by have := HQ.out; omega
        have h1 : 2 * j + 1 < l.length := by have := HQ.out; omega
        have h0' : 2 * j < (S l).size := by rw [S_size]; exact h0
        have h1' : 2 * j + 1 < (S l).size := by rw [S_size]; exact h1
        obtain ⟨a, ha⟩ : ∃ a, l[2 * j]'h0 = a := ⟨_, rfl⟩
        obtain ⟨b, hb⟩ : ∃ b, l[2 * j + 1]'h1 = b := ⟨_, rfl⟩
        have hvt := vals_take l j h1
        rw [ha, hb] at hvt
        have hvl := vals_take_length l j (by omega)
        have hx0 : ((S l)[2 * j]'h0').toNat = a.toNat := by rw [S_get l _ h0 h0', ha]
        have hx1 : ((S l)[2 * j + 1]'h1').toNat = b.toNat := by rw [S_get l _ h1 h1', hb]
        have hng0 : dg a = false → good l = false := fun h => not_good h0 (by rw [ha]; exact h)
        have hng1 : dg b = false → good l = false := fun h => not_good h1 (by rw [hb]; exact h)
        have hI0 : (0 : Int) ≤ 2 * (j : Int) := by omega
        have hI1 : 2 * (j : Int) < (l.length : Int) := by omega
        have hI2 : 2 * (j : Int) + 1 < (l.length : Int) := by omega
        have t0 : (2 * (j : Int)).toNat = 2 * j := by omega
        have t1 : (2 * (j : Int) + 1).toNat = 2 * j + 1 := by omega
        have hji : (j : Int) < (q : Int) := by omega
        have hca := ib_any a
        have hcb := ib_any b
        have HDD : Hid (dg a = true → dg b = true → ∀ i (h : i < l.length), i < 2 * (j + 1) → dg l[i] = true) := fun da db i h hij => by
          by_cases h2 : i < 2 * j
          · exact HD.out i h h2
          · rcases (by omega : i = 2 * j ∨ i = 2 * j + 1) with rfl | rfl
            · rw [ha]; exact da
            · rw [hb]; exact db
        have HVT := Lib.hid hvt
        have HVL := Lib.hid hvl
        clear hvt hvl ha hb HD
        have hBw0 : Below w.heap.size w wr := by rw [← HB0.out]; exact hB
        have bad : good l = false → unhex l = [] ∧ good l = false := fun h => ⟨by unfold unhex; rw [h]; rfl, h⟩
        cases hda : dg a with
        | false =>
          rw [(dg_facts a).2 hda] at hca
          have HNG := Lib.hid (bad (hng0 hda))
          have HCB := Lib.hid hcb
          clear HDD hng0 hng1 bad hda HO hcb
          generalize Lib.indexByte digits b = lo at *
          go_wp2_with fail
          refine (hca _).mono ?_
          rintro e w' ⟨rfl, rfl⟩
          go_wp2_with fail
          refine (HCB.out _).mono ?_
          rintro e w'' ⟨rfl, rfl⟩
          go_wp2_with fail
          refine bodyPost_ret (results_tmp2 rfl _ _ _) rfl ⟨?_, hBw0⟩
          rw [HNG.out.1, HNG.out.2]
          rfl
        | true =>
          obtain ⟨pa, _, ea⟩ := (dg_facts a).1 hda
          rw [ea] at hca
          cases hdb : dg b with
          | false =>
            rw [(dg_facts b).2 hdb] at hcb
            have HNG := Lib.hid (bad (hng1 hdb))
            have HCB := Lib.hid hcb
            clear HDD hng0 hng1 bad hda hdb HO hcb ea
            generalize place a = pl at *
            go_wp2_with fail
            refine (hca _).mono ?_
            rintro e w' ⟨rfl, rfl⟩
            go_wp2_with fail
            refine (HCB.out _).mono ?_
            rintro e w'' ⟨rfl, rfl⟩
            go_wp2_with fail
            refine bodyPost_ret (results_tmp2 rfl _ _ _) rfl ⟨?_, hBw0⟩
            rw [HNG.out.1, HNG.out.2]
            rfl
          | true =>
            obtain ⟨pb, _, eb⟩ := (dg_facts b).1 hdb
            rw [eb] at hcb
            have HDD2 := Lib.hid (HDD.out hda hdb)
            have ht8 : ((two8 a b).toNat : Nat) = 16 * place a + place b := by unfold two8; rw [UInt8.toNat_ofNat']; omega
            have hor := or16 pa pb
            have HCB := Lib.hid hcb
            clear HDD hng0 hng1 bad hda hdb hcb ea eb
            obtain ⟨c, hc⟩ : ∃ c, c = two8 a b := ⟨_, rfl⟩
            rw [← hc] at ht8
            have HC := Lib.hid hc
            have HT8 := Lib.hid ht8
            clear hc ht8
            generalize place a = pl at *
            generalize place b = ql at *
            have hsum : 16 * pl + ql < 256 := by omega
            go_wp2_with fail
            refine (hca _).mono ?_
            rintro e w' ⟨rfl, rfl⟩
            go_wp2_with fail
            refine (HCB.out _).mono ?_
            rintro e w'' ⟨rfl, rfl⟩
            have hpl0 : decide ((pl : Int) < 0) = false := by simp
            have hql0 : decide ((ql : Int) < 0) = false := by simp
            have hp00 : (0 : Int) ≤ (pl : Int) ∧ (0 : Int) ≤ (ql : Int) := by omega
            go_wp2_with (at_builtin; refine wpList_append_own _ rfl _ _ 81 rfl B 5 i0 (.int .u8 0) 1 1 Tryz.underlying81 hi hz0 hz1 hz2 rfl (by decide) _ _ _ rfl (HO.out.alloc _) ⟨w''.heap.size, 0, none⟩ 1 1 [.int .u8 (16 * (pl : Int) + (ql : Int))] rfl rfl ?c1 ?c2 ?c3 ?c4 ?c5 ?_)
            case c1 =>
              intro j u hj
              match j, hj with
              | 0, hj => simp at hj; subst hj; simp [Addr.add]
            case c2 => intro u hu; simp at hu; subst hu; rfl
            case c3 => have := HVL.out; unfold maxLen; omega
            case c4 => have := HVL.out; omega
            case c5 => simp; omega
            intro v' w1 hown' hgrow hnil
            have hb1 : Below B w w1 := (hB.alloc hBs _).grown hgrow (by simp; omega) (fun k hk => (HO.out.lt k hk).1)
            have hown2 : w1.ownsRow B 5 1 v' (vals (l.take (2 * (j + 1)))).length (Lib.byteCells (vals (l.take (2 * (j + 1))))) := by
              rw [HVT.out, ← HC.out, List.length_append, Lib.byteCells_append]
              have e : (16 * (pl : Int) + (ql : Int)) = ((c.toNat : Nat) : Int) := by have := HT8.out; omega
              rw [e] at hown'
              exact hown'
            have HO2 := Lib.hid hown2
            clear hown2 hown' hgrow HO
            go_wp2_with fail
            go_roundw
            case rel => exact ⟨j + 1, by go_num, by omega, fun h => absurd h (by omega), HDD2, HO2, hb1⟩
            case measure => simp [intOf]; omega
      · obtain rfl : j = q := by omega
        have htk : l.take (2 * j) = l := List.take_of_length_le (by have := HQ.out; omega)
        have hg : good l = true := (good_iff l).2 ⟨by have := HQ.out; omega, fun i h => HD.out i h (by have := HQ.out; omega)⟩
        have hu : unhex l = vals l := by unfold unhex; rw [hg]; rfl
        have HU := Lib.hid (And.intro hu hg)
        rw [htk] at HO
        have hvl := vals_length hg
        rw [HB0.out] at hB
        clear hu hg HD htk
        by_cases hnil : j = 0
        · subst hnil
          obtain rfl := hv0 rfl
          have hvn : vals l = [] := List.length_eq_zero_iff.1 (by have := HQ.out; omega)
          have HVN := Lib.hid hvn
          have hcv := conv_nil wr
          clear HO hvl hvn
          go_wp2_with fail
          refine bodyPost_ret (results_tmp2 rfl _ _ _) rfl ⟨?_, hB⟩
          rw [HU.out.1, HU.out.2, HVN.out]
          rfl
        · have hcv := conv_own wr _ _ _ (fun h => hnil (by have := HQ.out; rw [h, List.length_nil] at hvl; omega)) HO.out
          clear HO hv0 hvl
          go_wp2_with fail
          refine bodyPost_ret (results_tmp2 rfl _ _ _) rfl ⟨?_, hB⟩
          rw [HU.out.1, HU.out.2]
          rfl
end Go.Proofs.YtpimdbnhpbjlkaaGreatDoor.dg
