/-
  The reference's Sum: the padded row.
-/
import Derived.Test.YtpimdbnhpbjlkaaGreatDoorDigBlock
import Derived.Test.YtpimdbnhpbjlkaaGreatDoorDigPad
import Derived.Test.YtpimdbnhpbjlkaaGreatDoorDigBytes
import Derived.Deep.CutRange
import Derived.StillTailTactics
import Derived.Deep.AppendLies
import Derived.Deep.RegionLaw
import Derived.Deep.RegionHeld3
import Derived.Test.YtpimdbnhpbjlkaaGreatDoorDigSpread
import Derived.Deep.Upon
import Derived.Lib.ConvBytes
import Derived.Lib.BufferWrite
import Derived.Lib.VarintMem
namespace Go.Proofs.YtpimdbnhpbjlkaaGreatDoor.dg
open Go.RowKit

theorem info_u8 : (Tryz.prog.info? 5).map (fun i => (i.zero, i.size, i.bytes)) = some (some (.int .u8 0), 1, 1) := by kernel_rfl

/-- []byte(s): what is known of the row. -/
theorem came_bytes (w : World) (l : List UInt8) :
    Came (Lib.bytesWorld w 5 (S l)) 1 (some ⟨w.heap.size, 0, none⟩) w.heap.size 0 l.length (grownCap w (S l).size 0 5) (Lib.byteCells l) where
  le := grownCap_ge w (S l).size 0 5
  addr := fun _ => rfl
  lt := fun _ => by rw [Lib.bytesWorld_size]; omega
  oldsLen := by rw [Lib.byteCells_length, Nat.mul_one]
  olds := fun j u hj => by
    have hlt : j < l.length := by
      have := (List.getElem?_eq_some_iff.1 hj).1
      rwa [Lib.byteCells_length] at this
    rw [Nat.zero_add, Lib.bytesWorld_cell w _ (S l) j hlt, ← hj, S_data]
    unfold Lib.byteCells
    rw [List.getElem?_map, List.getElem?_eq_getElem hlt, List.getD_eq_getElem?_getD, List.getElem?_eq_getElem hlt]
    rfl
  spare := fun j hj => by
    have h := Lib.bytesWorld_at_new w 5 (S l)
    have hs : (Lib.bytesCells w 5 (S l)).size = grownCap w (S l).size 0 5 := by
      have := grownCap_ge w (S l).size 0 5
      unfold Lib.bytesCells
      rw [Array.size_append, Array.size_map, Array.size_replicate]
      show (S l).size + _ = _
      omega
    constructor
    · rw [cell_of_row _ _ _ _ _ _ h, Array.getElem?_eq_getElem (by omega)]
      rfl
    · simp only [World.frozen?, h]
      simp
      omega

/-- The row behind the text: the bytes ks have been appended to []byte(l). -/
def Grow (w0 : World) (l : List UInt8) (ks : List UInt8) (v : Value) (w : World) : Prop :=
  ∃ r, Upon (Lib.bytesWorld w0 5 (S l)) 5 1 (some ⟨w0.heap.size, 0, none⟩) w0.heap.size 0 l.length (grownCap w0 (S l).size 0 5) (Lib.byteCells l) w v ks.length (Lib.byteCells ks) r
theorem Grow.start (w0 : World) (l : List UInt8) : Grow w0 l [] (.slice (some ⟨w0.heap.size, 0, none⟩) l.length (grownCap w0 (S l).size 0 5)) (Lib.bytesWorld w0 5 (S l)) :=
  ⟨0, Upon.start (came_bytes w0 l)⟩
theorem Grow.alloc {w0 : World} {l ks : List UInt8} {v : Value} {w : World} (h : Grow w0 l ks v w) (o : Obj) : Grow w0 l ks v (w.alloc o) :=
  h.imp fun _ h => h.alloc (came_bytes w0 l) o
theorem Grow.drew {w0 : World} {l ks : List UInt8} {v : Value} {w : World} (h : Grow w0 l ks v w) : Grow w0 l ks v w.drew :=
  h.imp fun _ h => h.drew (came_bytes w0 l)
theorem Grow.shape {w0 : World} {l ks : List UInt8} {v : Value} {w : World} (h : Grow w0 l ks v w) : ∃ a' c', v = .slice a' (l.length + ks.length) c' :=
  let ⟨_, h⟩ := h; h.shape
/-- Of what was there nothing has turned (of the tape nothing is said). -/
structure Mild (B : Nat) (w w' : World) : Prop where
  os : w'.os = w.os
  output : w'.output = w.output
  size : w.heap.size ≤ w'.heap.size
  block : ∀ k, k < B → w'.heap[k]? = w.heap[k]?
theorem Mild.of {B : Nat} {w w' : World} (h : Below B w w') : Mild B w w' := ⟨h.os, h.output, h.size, h.block⟩
theorem Mild.trans {B : Nat} {a b c : World} (h : Mild B a b) (k : Mild B b c) : Mild B a c :=
  ⟨k.os.trans h.os, k.output.trans h.output, Nat.le_trans h.size k.size, fun i hi => (k.block i hi).trans (h.block i hi)⟩
theorem Mild.mono {B B' : Nat} {w w' : World} (h : Mild B w w') (hB : B' ≤ B) : Mild B' w w' := ⟨h.os, h.output, h.size, fun k hk => h.block k (Nat.lt_of_lt_of_le hk hB)⟩
theorem Mild.frame {W w' : World} (h : Mild W.heap.size W w') (may : MemPlace → Prop) : W.keptBut w' may := by
  refine ⟨h.os, h.output, fun i hi => ?_⟩
  rw [h.block i hi]
  split <;> simp_all
theorem Grow.mild {w0 : World} {l ks : List UInt8} {v : Value} {w : World} (h : Grow w0 l ks v w) : Mild w0.heap.size w0 w := by
  obtain ⟨r, h⟩ := h
  have hk := h.kept
  have hs := hk.size
  rw [Lib.bytesWorld_size] at hs
  refine ⟨hk.1, hk.2.1, by omega, fun k hk' => ?_⟩
  rw [hk.block (i := k) (by rw [Lib.bytesWorld_size]; omega) (fun p ⟨j, _, e⟩ hb => by subst e; have hb' : w0.heap.size = k := hb; omega)]
  exact Lib.bytesWorld_at_old w0 _ _ k hk'
/-- Where the bytes lie. -/
theorem Grow.lies {w0 : World} {l ks m : List UInt8} {v : Value} {w : World} (hm : l ++ ks = m) (h : Grow w0 l ks v w) (hc : grownCap w0 (S l).size 0 5 ≤ maxLen) (hpos : 0 < ks.length) :
    ∃ g o c, v = .slice (some ⟨g, o, none⟩) m.length c ∧ m.length ≤ c ∧ ∀ i (hi : i < m.length), w.cell? ⟨g, o + i, none⟩ = some (.int .u8 (m[i].toNat : Nat)) := by
  subst hm
  obtain ⟨r, h⟩ := h
  obtain ⟨g, o, c, rfl, hle, _, hcell⟩ := h.value (came_bytes w0 l) hc (.inr hpos)
  refine ⟨g, o, c, by rw [List.length_append], by rw [List.length_append]; exact hle, fun i hi => ?_⟩
  rw [hcell i (by rw [List.length_append] at hi; rw [Nat.mul_one]; exact hi), ← Lib.byteCells_append]
  unfold Lib.byteCells
  rw [List.getElem?_map, List.getElem?_eq_getElem hi]
  rfl
/-- One byte more. -/
theorem Grow.more {w0 : World} {l ks : List UInt8} {v : Value} {w : World} (x : UInt8) {r m : Nat} {b : Value} (hm : m = ks.length + 1) (hb : b = .int .u8 (x.toNat : Nat)) (h : Upon (Lib.bytesWorld w0 5 (S l)) 5 1 (some ⟨w0.heap.size, 0, none⟩) w0.heap.size 0 l.length (grownCap w0 (S l).size 0 5) (Lib.byteCells l) w v m (Lib.byteCells ks ++ [b]) r) : Grow w0 l (ks ++ [x]) v w := by
  subst hm hb
  refine ⟨r, ?_⟩
  rw [Lib.byteCells_append, List.length_append]
  exact h
theorem src_one (W : World) (c : Int) : Src Tryz.prog 1 81 (.slice (some ⟨W.heap.size, 0, none⟩) 1 1) 1 [.int .u8 c] (W.alloc (.cells #[.int .u8 c] 5)) :=
  Src.ofSlice _ Tryz.underlying81 ⟨W.heap.size, 0, none⟩ 1 1 [.int .u8 c] rfl (by intro j u hj; match j, hj with | 0, hj => simp at hj; subst hj; simp [Addr.add]) (by intro u hu; simp at hu; subst hu; rfl)
/-- The bytes p lie at (g, o). -/
def Lie (w : World) (g o : Nat) (p : List UInt8) : Prop := ∀ i (hi : i < p.length), w.cell? ⟨g, o + i, none⟩ = some (.int .u8 (p[i].toNat : Nat))
theorem Lie.lt {w : World} {g o : Nat} {p : List UInt8} (h : Lie w g o p) (hp : 0 < p.length) : g < w.heap.size := World.block_lt_of_cell? _ _ (h 0 hp)
theorem Lie.of {w w' : World} {g o : Nat} {p : List UInt8} (h : Lie w g o p) (hb : w'.heap[g]? = w.heap[g]?) : Lie w' g o p := fun i hi => (World.cell?_of_block (w := w) (a := ⟨g, o + i, none⟩) hb).trans (h i hi)

theorem Mild.setRow {B : Nat} {w w' : World} (h : Mild B w w') {g : Nat} (hg : B ≤ g) (cs : Array Value) : Mild B w (w'.setRow g cs) :=
  ⟨h.os, h.output, by rw [size_setRow]; exact h.size, fun k hk => (setRow_other _ _ _ _ (by omega)).trans (h.block k hk)⟩
theorem Mild.drew {B : Nat} {w w' : World} (h : Mild B w w') : Mild B w w'.drew := ⟨h.os, h.output, h.size, h.block⟩
theorem stCells_size (s : St) : (stCells s).size = 8 := rfl
theorem stCells_all (s : St) : (stCells s).all (·.oneCell') = true := by simp [stCells, Value.oneCell']
theorem st_get (z : St) (k : Nat) (h : k < 8) : (stCells z)[k]? = some (.int .u32 (z.list[k]'h : Nat)) := by
  match k, h with
  | 0, _ => rfl
  | 1, _ => rfl
  | 2, _ => rfl
  | 3, _ => rfl
  | 4, _ => rfl
  | 5, _ => rfl
  | 6, _ => rfl
  | 7, _ => rfl
theorem list_lt {z : St} (hz : z.ok) (k : Nat) (h : k < 8) : z.list[k]'h < 4294967296 := by
  obtain ⟨la, lb, lc, ld, le, lf, lg, lh⟩ := hz
  match k, h with
  | 0, _ => exact la
  | 1, _ => exact lb
  | 2, _ => exact lc
  | 3, _ => exact ld
  | 4, _ => exact le
  | 5, _ => exact lf
  | 6, _ => exact lg
  | 7, _ => exact lh
theorem wpStill_load_row {P : Program} {ops : Array Oper} {w : World} {rest : List Oper} {o : Oper} {a : Act} {Q : Act → Prop} (hgd : o.guard = none) (ty : TypeId) (x : Operand) (ho : o.op = .load ty x)
    (g : Nat) (hx : a.eval x = .pointer (some ⟨g, 0, none⟩)) (t : TypeId) (cs : Array Value) (fr : Nat × Nat) (d : TypeDesc) (hg : w.heap[g]? = some (.cells cs t fr))
    (hu : P.underlying ty = some d) (hd : (match d with | .struct _ | .array _ _ => true | _ => false) = true) (hi : (P.info? ty).map (·.size) = some cs.size)
    (h : wpStill P ops w Q rest (a.put o.dst (.agg cs))) : wpStill P ops w Q (o :: rest) a := by
  refine wpStill_step fun K hK => ?_
  have hw : Region.wanted o (yielded ops a.tmps) = true := by simp [Region.wanted, hgd]
  rw [if_pos hw]
  unfold Oper.still execOp
  simp only [ho, hx, Instr.loadAt, Instr.sureAddr, Sem.run_bind, Sem.run_pure, Result.andThen_ok, run_loadVar_row w g t ty cs fr d hg hu hd hi]
  exact ⟨rfl, hK _ h⟩
theorem slice_bytes (W : World) (g o len c i : Nat) (hc : i + 64 ≤ c) : (Instr.slice 81 (.slice (some ⟨g, o, none⟩) len c) (some (.int .i64 (i : Int))) (some (.int .i64 ((i : Int) + 64))) none).run Tryz.prog W = .ok (.slice (some ⟨g, o + i, none⟩) 64 (c - i)) W := by
  rw [run_slice_lh W 81 _ _ _ (show Tryz.prog.underlying 81 = some (.slice (Tryz.prog.elem 81)) by kernel_rfl) .i64 .i64 (i : Int) ((i : Int) + 64) (by omega) (by omega) (by omega)]
  have hs : (sizeOf (Tryz.prog.elem 81)).run Tryz.prog W = .ok 1 W := by kernel_rfl
  rw [hs]
  have e1 : ((i : Int) + 64).toNat = i + 64 := by omega
  have e2 : ¬ c = i := by omega
  have e3 : i + 64 - i = 64 := by omega
  simp [Result.andThen, sliced, e1, e2, e3, Addr.add]
theorem keyCells_get : ∀ t, t < 64 → keyCells.toArray[t]? = some (.int .u32 (key t : Nat)) := by
  intro t ht
  have : ∀ i : Fin 64, keyCells.toArray[i.1]? = some (.int .u32 (key i.1 : Nat)) := by
    intro i
    rw [List.getElem?_toArray, keyCells_eq, List.getElem?_map]
    unfold key
    rw [List.getD_eq_getElem?_getD, List.getElem?_eq_getElem (show i.1 < keys.length from i.2)]
    rfl
  exact this ⟨t, ht⟩
theorem blk_cells {w : World} {g o j : Nat} {p : List UInt8} (h : Lie w g o p) (hf : 64 * j + 64 ≤ p.length) : ∀ i (hi : i < (blk p j).length), w.cell? ⟨g, (o + 64 * j) + i, none⟩ = some (.int .u8 ((blk p j)[i].toNat : Nat)) := by
  intro i hi
  have hb := blk_length hf
  rw [blk_get hf hi, Nat.add_assoc]
  exact h (64 * j + i) (by omega)

set_option maxHeartbeats 2000000 in
set_option maxRecDepth 100000 in
theorem refsum_any (l : List UInt8) (hl : l.length ≤ 140737488351232) (w : World) :
    Calls Tryz.prog 45 #[.string (S l)] w fun e w' => e = .returned (.string (S (sum l))) ∧ Mild w.heap.size w w' := by
  obtain ⟨i0, hi, hz0, hz1, hz2⟩ := info_parts info_u8
  have hz := S_size l
  have hcv := fun W => Lib.run_convert_string_bytes (P := Tryz.prog) W 9 81 5 (S l) Tryz.underlying9 Tryz.underlying81 Tryz.underlying5
  have hc := came_bytes w l
  have hG := Grow.start w l
  have hcap := grownCap_le_maxLen w (S l).size 0 5 (by rw [hz]; unfold maxLen; omega)
  have HC := Lib.hid hcap
  have HCC := Lib.hid hc
  have HG := Lib.hid hG
  clear hcap hc hG
  go_enter Tryz.func45, Tryz.ntmps45
  obtain ⟨r0, hU0⟩ := HG.out
  have HU0 := Lib.hid hU0
  clear hU0
  go_wp2_with (at_builtin; refine wpList_append_upon _ rfl _ _ 81 81 rfl HCC.out i0 (.int .u8 0) 1 Tryz.underlying81 hi hz0 hz1 hz2 rfl rfl (HU0.out.alloc HCC.out _) _ 1 [.int .u8 128] rfl (src_one _ 128) (by unfold maxLen; simp; omega) (by simp; omega) ?_)
  intro v1 w1 hU1
  have hG1 : Grow w l [128] v1 w1 := Grow.more (ks := []) 128 rfl rfl hU1
  obtain ⟨a1, c1, rfl⟩ := hG1.shape
  have HG1 := Lib.hid hG1
  clear hG1 hU1 HU0 HG
  go_wp2
  go_loopw [3] (fun v wr => ∃ k a c, k ≤ zpad l.length ∧ v = .slice a (l.length + 1 + k) c ∧ Hid (Grow w l (128 :: List.replicate k 0) v wr))
    (fun v _ => l.length + 65 - lenV v)
  case atStart => exact ⟨0, _, _, Nat.zero_le _, rfl, HG1⟩
  case round =>
    clear HG1
    obtain ⟨k, a, c, hk, rfl, HGk⟩ := hrel
    have hzp := zpad_lt l.length
    by_cases hkz : k < zpad l.length
    · have hne := zpad_not hkz
      obtain ⟨n, hn⟩ : ∃ n, n = l.length + 1 + k := ⟨_, rfl⟩
      rw [← hn] at hne HGk ⊢
      have hne' : ((n : Int) % 64 != 56) = true := by simp; omega
      have HN := Lib.hid hn
      have hnl : n ≤ 140737488351232 + 65 := by omega
      have hkl : k < 64 := by omega
      clear hn
      obtain ⟨r, hU⟩ := HGk.out
      have HU := Lib.hid hU
      clear hU HGk
      go_wp2_with (at_builtin; refine wpList_append_upon _ rfl _ _ 81 81 rfl HCC.out i0 (.int .u8 0) 1 Tryz.underlying81 hi hz0 hz1 hz2 rfl rfl (HU.out.alloc HCC.out _) _ 1 [.int .u8 0] rfl (src_one _ 0) (by unfold maxLen; simp; omega) (by simp; omega) ?_)
      intro v2 w2 hU2
      have hG2 : Grow w l (128 :: List.replicate (k + 1) 0) v2 w2 := by
        rw [List.replicate_succ', ← List.cons_append]
        exact Grow.more 0 (by simp) rfl hU2
      obtain ⟨a2, c2, hv2⟩ := hG2.shape
      rw [List.length_cons, List.length_replicate, show l.length + (k + 1 + 1) = l.length + 1 + (k + 1) by omega] at hv2
      subst hv2
      have HG2 := Lib.hid hG2
      clear hG2 hU2 HU
      go_wp2
      go_roundw
      case rel => exact ⟨_, _, _, _, _, _, _, _, ⟨k + 1, _, _, hkz, rfl, HG2⟩, rfl⟩
      case measure => have := HN.out; simp [lenV]; omega
    · obtain rfl : k = zpad l.length := by omega
      have hze := zpad_end l.length
      have hzl := zpad_lt l.length
      obtain ⟨n, hn⟩ : ∃ n, n = l.length + 1 + zpad l.length := ⟨_, rfl⟩
      rw [← hn] at hze HGk ⊢
      have hne' : ((n : Int) % 64 != 56) = false := by simp; omega
      have HN := Lib.hid hn
      have hnl : n ≤ 140737488351232 + 65 := by omega
      have HZ := Lib.hid hze
      clear hn hze
      have hx8 : IntKind.u64.wrap ((l.length : Int) * 8) = ((8 * l.length : Nat) : Int) := by rw [IntKind.wrap_u64]; omega
      have HX := Lib.hid (rfl : 8 * l.length = 8 * l.length)
      obtain ⟨x, hx⟩ : ∃ x, x = 8 * l.length := ⟨_, rfl⟩
      rw [← hx] at hx8
      have hxl : x < 18446744073709551616 := by omega
      have HX2 := Lib.hid hx
      clear hx HX
      go_wp2
      go_loopw [3, 5] (fun v iv wr => ∃ (i : Nat) (a : Option Addr) (c : Nat), iv = .int .i64 i ∧ i ≤ 8 ∧ v = .slice a (n + i) c ∧ Hid (Grow w l (128 :: List.replicate (zpad l.length) 0 ++ bes x i) v wr))
        (fun _ iv _ => 8 - (intOf iv).toNat)
      case atStart => exact ⟨0, _, _, rfl, by omega, rfl, by simpa [bes] using HGk⟩
      case round =>
        clear HGk
        obtain ⟨i, a, c, rfl, hi8, rfl, HGi⟩ := hrel
        by_cases hlt : i < 8
        · have hlen : (128 :: List.replicate (zpad l.length) 0 ++ bes x i).length + l.length = n + i := by
            rw [List.length_append, List.length_cons, List.length_replicate, bes_length]
            have := HN.out
            omega
          have HL := Lib.hid hlen
          clear hlen
          obtain ⟨r, hU⟩ := HGi.out
          have HU := Lib.hid hU
          clear hU HGi
          have h8 : i = 0 ∨ i = 1 ∨ i = 2 ∨ i = 3 ∨ i = 4 ∨ i = 5 ∨ i = 6 ∨ i = 7 := by omega
          obtain rfl | rfl | rfl | rfl | rfl | rfl | rfl | rfl := h8
          · go_wp2_with (at_builtin; refine wpList_append_upon _ rfl _ _ 81 81 rfl HCC.out i0 (.int .u8 0) 1 Tryz.underlying81 hi hz0 hz1 hz2 rfl rfl (HU.out.alloc HCC.out _) _ 1 [.int .u8 _] rfl (src_one _ _) (by unfold maxLen; have := HL.out; omega) (by have := HL.out; omega) ?_)
            intro v2 w2 hU2
            have hG2 : Grow w l (128 :: List.replicate (zpad l.length) 0 ++ bes x 1) v2 w2 := by
              show Grow w l (128 :: List.replicate (zpad l.length) 0 ++ (bes x 0 ++ [be x 0])) v2 w2
              rw [← List.append_assoc]
              refine Grow.more (be x 0) (by simp [bes]) ?_ hU2
              rw [show be x 0 = UInt8.ofNat (x / 72057594037927936) from rfl, UInt8.toNat_ofNat']
              congr 1 <;> omega
            obtain ⟨a2, c2, hv2⟩ := hG2.shape
            have hv3 : l.length + (128 :: List.replicate (zpad l.length) 0 ++ bes x 1 : List UInt8).length = n + 1 := by have := HN.out; simp [bes]; omega
            rw [hv3] at hv2
            subst hv2
            have HG2 := Lib.hid hG2
            clear hG2 hU2 HU
            go_wp2
            go_roundw
            case rel => exact ⟨_, _, _, _, _, _, _, _, _, _, _, _, _, _, _, _, ⟨1, _, _, rfl, by omega, rfl, HG2⟩, rfl⟩
            case measure => simp [intOf]
          · go_wp2_with (at_builtin; refine wpList_append_upon _ rfl _ _ 81 81 rfl HCC.out i0 (.int .u8 0) 1 Tryz.underlying81 hi hz0 hz1 hz2 rfl rfl (HU.out.alloc HCC.out _) _ 1 [.int .u8 _] rfl (src_one _ _) (by unfold maxLen; have := HL.out; omega) (by have := HL.out; omega) ?_)
            intro v2 w2 hU2
            have hG2 : Grow w l (128 :: List.replicate (zpad l.length) 0 ++ bes x 2) v2 w2 := by
              show Grow w l (128 :: List.replicate (zpad l.length) 0 ++ (bes x 1 ++ [be x 1])) v2 w2
              rw [← List.append_assoc]
              refine Grow.more (be x 1) (by simp [bes]) ?_ hU2
              rw [show be x 1 = UInt8.ofNat (x / 281474976710656) from rfl, UInt8.toNat_ofNat']
              congr 1 <;> omega
            obtain ⟨a2, c2, hv2⟩ := hG2.shape
            have hv3 : l.length + (128 :: List.replicate (zpad l.length) 0 ++ bes x 2 : List UInt8).length = n + 2 := by have := HN.out; simp [bes]; omega
            rw [hv3] at hv2
            subst hv2
            have HG2 := Lib.hid hG2
            clear hG2 hU2 HU
            go_wp2
            go_roundw
            case rel => exact ⟨_, _, _, _, _, _, _, _, _, _, _, _, _, _, _, _, ⟨2, _, _, rfl, by omega, rfl, HG2⟩, rfl⟩
            case measure => simp [intOf]
          · go_wp2_with (at_builtin; refine wpList_append_upon _ rfl _ _ 81 81 rfl HCC.out i0 (.int .u8 0) 1 Tryz.underlying81 hi hz0 hz1 hz2 rfl rfl (HU.out.alloc HCC.out _) _ 1 [.int .u8 _] rfl (src_one _ _) (by unfold maxLen; have := HL.out; omega) (by have := HL.out; omega) ?_)
            intro v2 w2 hU2
            have hG2 : Grow w l (128 :: List.replicate (zpad l.length) 0 ++ bes x 3) v2 w2 := by
              show Grow w l (128 :: List.replicate (zpad l.length) 0 ++ (bes x 2 ++ [be x 2])) v2 w2
              rw [← List.append_assoc]
              refine Grow.more (be x 2) (by simp [bes]) ?_ hU2
              rw [show be x 2 = UInt8.ofNat (x / 1099511627776) from rfl, UInt8.toNat_ofNat']
              congr 1 <;> omega
            obtain ⟨a2, c2, hv2⟩ := hG2.shape
            have hv3 : l.length + (128 :: List.replicate (zpad l.length) 0 ++ bes x 3 : List UInt8).length = n + 3 := by have := HN.out; simp [bes]; omega
            rw [hv3] at hv2
            subst hv2
            have HG2 := Lib.hid hG2
            clear hG2 hU2 HU
            go_wp2
            go_roundw
            case rel => exact ⟨_, _, _, _, _, _, _, _, _, _, _, _, _, _, _, _, ⟨3, _, _, rfl, by omega, rfl, HG2⟩, rfl⟩
            case measure => simp [intOf]
          · go_wp2_with (at_builtin; refine wpList_append_upon _ rfl _ _ 81 81 rfl HCC.out i0 (.int .u8 0) 1 Tryz.underlying81 hi hz0 hz1 hz2 rfl rfl (HU.out.alloc HCC.out _) _ 1 [.int .u8 _] rfl (src_one _ _) (by unfold maxLen; have := HL.out; omega) (by have := HL.out; omega) ?_)
            intro v2 w2 hU2
            have hG2 : Grow w l (128 :: List.replicate (zpad l.length) 0 ++ bes x 4) v2 w2 := by
              show Grow w l (128 :: List.replicate (zpad l.length) 0 ++ (bes x 3 ++ [be x 3])) v2 w2
              rw [← List.append_assoc]
              refine Grow.more (be x 3) (by simp [bes]) ?_ hU2
              rw [show be x 3 = UInt8.ofNat (x / 4294967296) from rfl, UInt8.toNat_ofNat']
              congr 1 <;> omega
            obtain ⟨a2, c2, hv2⟩ := hG2.shape
            have hv3 : l.length + (128 :: List.replicate (zpad l.length) 0 ++ bes x 4 : List UInt8).length = n + 4 := by have := HN.out; simp [bes]; omega
            rw [hv3] at hv2
            subst hv2
            have HG2 := Lib.hid hG2
            clear hG2 hU2 HU
            go_wp2
            go_roundw
            case rel => exact ⟨_, _, _, _, _, _, _, _, _, _, _, _, _, _, _, _, ⟨4, _, _, rfl, by omega, rfl, HG2⟩, rfl⟩
            case measure => simp [intOf]
          · go_wp2_with (at_builtin; refine wpList_append_upon _ rfl _ _ 81 81 rfl HCC.out i0 (.int .u8 0) 1 Tryz.underlying81 hi hz0 hz1 hz2 rfl rfl (HU.out.alloc HCC.out _) _ 1 [.int .u8 _] rfl (src_one _ _) (by unfold maxLen; have := HL.out; omega) (by have := HL.out; omega) ?_)
            intro v2 w2 hU2
            have hG2 : Grow w l (128 :: List.replicate (zpad l.length) 0 ++ bes x 5) v2 w2 := by
              show Grow w l (128 :: List.replicate (zpad l.length) 0 ++ (bes x 4 ++ [be x 4])) v2 w2
              rw [← List.append_assoc]
              refine Grow.more (be x 4) (by simp [bes]) ?_ hU2
              rw [show be x 4 = UInt8.ofNat (x / 16777216) from rfl, UInt8.toNat_ofNat']
              congr 1 <;> omega
            obtain ⟨a2, c2, hv2⟩ := hG2.shape
            have hv3 : l.length + (128 :: List.replicate (zpad l.length) 0 ++ bes x 5 : List UInt8).length = n + 5 := by have := HN.out; simp [bes]; omega
            rw [hv3] at hv2
            subst hv2
            have HG2 := Lib.hid hG2
            clear hG2 hU2 HU
            go_wp2
            go_roundw
            case rel => exact ⟨_, _, _, _, _, _, _, _, _, _, _, _, _, _, _, _, ⟨5, _, _, rfl, by omega, rfl, HG2⟩, rfl⟩
            case measure => simp [intOf]
          · go_wp2_with (at_builtin; refine wpList_append_upon _ rfl _ _ 81 81 rfl HCC.out i0 (.int .u8 0) 1 Tryz.underlying81 hi hz0 hz1 hz2 rfl rfl (HU.out.alloc HCC.out _) _ 1 [.int .u8 _] rfl (src_one _ _) (by unfold maxLen; have := HL.out; omega) (by have := HL.out; omega) ?_)
            intro v2 w2 hU2
            have hG2 : Grow w l (128 :: List.replicate (zpad l.length) 0 ++ bes x 6) v2 w2 := by
              show Grow w l (128 :: List.replicate (zpad l.length) 0 ++ (bes x 5 ++ [be x 5])) v2 w2
              rw [← List.append_assoc]
              refine Grow.more (be x 5) (by simp [bes]) ?_ hU2
              rw [show be x 5 = UInt8.ofNat (x / 65536) from rfl, UInt8.toNat_ofNat']
              congr 1 <;> omega
            obtain ⟨a2, c2, hv2⟩ := hG2.shape
            have hv3 : l.length + (128 :: List.replicate (zpad l.length) 0 ++ bes x 6 : List UInt8).length = n + 6 := by have := HN.out; simp [bes]; omega
            rw [hv3] at hv2
            subst hv2
            have HG2 := Lib.hid hG2
            clear hG2 hU2 HU
            go_wp2
            go_roundw
            case rel => exact ⟨_, _, _, _, _, _, _, _, _, _, _, _, _, _, _, _, ⟨6, _, _, rfl, by omega, rfl, HG2⟩, rfl⟩
            case measure => simp [intOf]
          · go_wp2_with (at_builtin; refine wpList_append_upon _ rfl _ _ 81 81 rfl HCC.out i0 (.int .u8 0) 1 Tryz.underlying81 hi hz0 hz1 hz2 rfl rfl (HU.out.alloc HCC.out _) _ 1 [.int .u8 _] rfl (src_one _ _) (by unfold maxLen; have := HL.out; omega) (by have := HL.out; omega) ?_)
            intro v2 w2 hU2
            have hG2 : Grow w l (128 :: List.replicate (zpad l.length) 0 ++ bes x 7) v2 w2 := by
              show Grow w l (128 :: List.replicate (zpad l.length) 0 ++ (bes x 6 ++ [be x 6])) v2 w2
              rw [← List.append_assoc]
              refine Grow.more (be x 6) (by simp [bes]) ?_ hU2
              rw [show be x 6 = UInt8.ofNat (x / 256) from rfl, UInt8.toNat_ofNat']
              congr 1 <;> omega
            obtain ⟨a2, c2, hv2⟩ := hG2.shape
            have hv3 : l.length + (128 :: List.replicate (zpad l.length) 0 ++ bes x 7 : List UInt8).length = n + 7 := by have := HN.out; simp [bes]; omega
            rw [hv3] at hv2
            subst hv2
            have HG2 := Lib.hid hG2
            clear hG2 hU2 HU
            go_wp2
            go_roundw
            case rel => exact ⟨_, _, _, _, _, _, _, _, _, _, _, _, _, _, _, _, ⟨7, _, _, rfl, by omega, rfl, HG2⟩, rfl⟩
            case measure => simp [intOf]
          · go_wp2_with (at_builtin; refine wpList_append_upon _ rfl _ _ 81 81 rfl HCC.out i0 (.int .u8 0) 1 Tryz.underlying81 hi hz0 hz1 hz2 rfl rfl (HU.out.alloc HCC.out _) _ 1 [.int .u8 _] rfl (src_one _ _) (by unfold maxLen; have := HL.out; omega) (by have := HL.out; omega) ?_)
            intro v2 w2 hU2
            have hG2 : Grow w l (128 :: List.replicate (zpad l.length) 0 ++ bes x 8) v2 w2 := by
              show Grow w l (128 :: List.replicate (zpad l.length) 0 ++ (bes x 7 ++ [be x 7])) v2 w2
              rw [← List.append_assoc]
              refine Grow.more (be x 7) (by simp [bes]) ?_ hU2
              rw [show be x 7 = UInt8.ofNat (x / 1) from rfl, UInt8.toNat_ofNat']
              congr 1 <;> omega
            obtain ⟨a2, c2, hv2⟩ := hG2.shape
            have hv3 : l.length + (128 :: List.replicate (zpad l.length) 0 ++ bes x 8 : List UInt8).length = n + 8 := by have := HN.out; simp [bes]; omega
            rw [hv3] at hv2
            subst hv2
            have HG2 := Lib.hid hG2
            clear hG2 hU2 HU
            go_wp2
            go_roundw
            case rel => exact ⟨_, _, _, _, _, _, _, _, _, _, _, _, _, _, _, _, ⟨8, _, _, rfl, by omega, rfl, HG2⟩, rfl⟩
            case measure => simp [intOf]
        · obtain rfl : i = 8 := by omega
          have hpad : l ++ (128 :: List.replicate (zpad l.length) 0 ++ bes x 8) = pad l := by
            unfold pad padz
            rw [HX2.out, List.append_assoc]
          obtain ⟨p, hp⟩ : ∃ p, p = pad l := ⟨_, rfl⟩
          rw [← hp] at hpad
          obtain ⟨g, o, c', hv, hcap', hcells⟩ := Grow.lies hpad HGi.out HC.out (by simp)
          have hM := HGi.out.mild
          have hml := pad_mod l
          have hpl := pad_length l
          rw [← hp] at hml hpl
          have hn8 : p.length = n + 8 := by have := HN.out; omega
          injection hv with e1 e2 e3
          subst e1 e3
          rw [hn8] at hcap'
          have HCP := Lib.hid hcap'
          clear hcap'
          have HP := Lib.hid hp
          have HCELLS := Lib.hid hcells
          have HNN := Lib.hid hn8
          have HML := Lib.hid hml
          clear hp hpad hcells hpl HGi hn8 hml e2
          go_wp2_with fail
          refine (words_any _).mono ?_
          rintro e w1 ⟨rfl, hb1⟩
          go_wp2_with (refine wpList_store_row rfl 105 (.tmp 6) (.tmp 41) rfl w1.heap.size keyCells.toArray rfl rfl 105 _ (heap_alloc_new w1 _) (by kernel_rfl) (by kernel_rfl) (by kernel_rfl) ?_; rw [World.setRow_alloc_new])
          refine (first_any _).mono ?_
          rintro e w2 ⟨rfl, hb2⟩
          go_wp2_with (refine wpList_store_row rfl 107 (.tmp 7) (.tmp 42) rfl w2.heap.size (stCells start) rfl rfl 107 _ (heap_alloc_new w2 _) (by kernel_rfl) (by kernel_rfl) (by kernel_rfl) ?_; rw [World.setRow_alloc_new])
          have hp0 : 0 < p.length := by have := HNN.out; omega
          have hlie : Lie wr g o p := HCELLS.out
          have hg := hlie.lt hp0
          have hbA : Below wr.heap.size wr (w1.alloc (Obj.cells keyCells.toArray 105)) := hb1.alloc hb1.size _
          have aK1 : Arr (w1.alloc (Obj.cells keyCells.toArray 105)) w1.heap.size 105 keyCells.toArray := Arr.new _ _ _
          have hbk := hb1.size
          have hsz1 : (w1.alloc (Obj.cells keyCells.toArray 105)).heap.size = w1.heap.size + 1 := by simp
          generalize w1.alloc (Obj.cells keyCells.toArray 105) = A at *
          have hbs2 := hb2.size
          have aK2 : Arr (w2.alloc (Obj.cells (stCells start) 107)) w1.heap.size 105 keyCells.toArray := Arr.alloc ((hb2.block _ aK1.lt).trans aK1) _
          have aX2 : Arr (w2.alloc (Obj.cells (stCells start) 107)) w2.heap.size 107 (stCells start) := Arr.new _ _ _
          have hbB : Below wr.heap.size wr (w2.alloc (Obj.cells (stCells start) 107)) := (hbA.trans (hb2.mono (by omega))).alloc (by omega) _
          generalize w2.alloc (Obj.cells (stCells start) 107) = B at *
          have hlie2 : Lie B g o p := hlie.of (hbB.block g hg)
          have hmB : Mild w.heap.size w B := hM.trans ((Mild.of hbB).mono hM.size)
          have hkx : w1.heap.size < w2.heap.size := by omega
          have hgk : g < w1.heap.size := by omega
          have hwk : w.heap.size ≤ w1.heap.size := Nat.le_trans hM.size hbk
          clear hbB hbs2 hbA aK1 hsz1 hb1 hb2 hM hlie hbk HCELLS hg
          generalize w1.heap.size = bk at *
          generalize w2.heap.size = bx at *
          have HALL : Hid (Arr B bk 105 keyCells.toArray ∧ Arr B bx 107 (stCells (feed start p 0)) ∧ Lie B g o p ∧ Mild w.heap.size w B) := ⟨aK2, aX2, hlie2, hmB⟩
          clear aK2 aX2 hlie2 hmB
          go_wp2
          go_loopw [8] (fun iv wz => ∃ j : Nat, iv = .int .i64 (64 * j : Nat) ∧ 64 * j ≤ p.length ∧ Hid (Arr wz bk 105 keyCells.toArray ∧ Arr wz bx 107 (stCells (feed start p j)) ∧ Lie wz g o p ∧ Mild w.heap.size w wz))
            (fun iv _ => p.length - (intOf iv).toNat)
          case atStart => exact ⟨0, rfl, by omega, HALL⟩
          case round =>
            clear HALL
            obtain ⟨j, rfl, hj, HJ⟩ := hrel
            by_cases hlt : 64 * j < p.length
            · have hfull : 64 * j + 64 ≤ p.length := by have := HML.out; omega
              have HF := Lib.hid hfull
              obtain ⟨i, hi⟩ : ∃ i, i = 64 * j := ⟨_, rfl⟩
              rw [← hi] at hj hlt hfull ⊢
              have hpn := HNN.out
              have hi1 : (i : Int) < (n : Int) + 8 := by omega
              have hi2 : i + 64 ≤ n + 8 := by omega
              have hw64 : IntKind.i64.wrap ((i : Int) + 64) = (i : Int) + 64 := IntWalk.i64_in _ (by omega)
              have HI := Lib.hid hi
              clear hi hpn
              obtain ⟨aK, aX, hL, hmz⟩ := HJ.out
              have hldK := aK.lt
              go_upto_region 15 with (fail)
              refine wp_region_still_tail 7 (by kernel_rfl) (by kernel_rfl) ?_
              change wpStill _ _ wr.drew (fun a' => wpList _ _ _ _ a' wr.drew) _ _
              simp only [List.take_succ_cons, List.take_zero, List.drop_succ_cons, List.drop_zero]
              have hok := feed_ok start_ok p j
              have hbl := blk_length HF.out
              have hgw : g < wr.heap.size := hL.lt (by omega)
              have hbc := blk_cells hL HF.out
              rw [← HI.out] at hbc
              have hcp := HCP.out
              have hblk := fun cap => block_any (feed start p j) hok (blk p j) hbl g (o + i) cap wr.drew hgw hbc keyCells.toArray keyCells_get
              have hfd : feed start p (j + 1) = press (feed start p j) (blk p j) := rfl
              rw [← hfd] at hblk
              obtain ⟨s1, hs1⟩ : ∃ s1, s1 = feed start p (j + 1) := ⟨_, rfl⟩
              rw [← hs1] at hblk
              have HS1 := Lib.hid hs1
              clear hbc hok hbl hfd hs1 HJ
              generalize feed start p j = s0 at *
              have HFD := Lib.hid hblk
              clear hblk
              refine wpStill_load_row rfl 107 (.tmp 7) rfl bx rfl 107 (stCells s0) (0, 0) _ aX Tryz.underlying107 rfl (by rw [stCells_size]; kernel_rfl) ?_
              have hsl := fun W => slice_bytes W g o (n + 8) c i (by omega)
              repeat still_step
              refine wpStill_load_row rfl 105 (.tmp 6) rfl bk rfl 105 keyCells.toArray (0, 0) _ aK Tryz.underlying105 rfl (by kernel_rfl) ?_
              refine wpStill_nil ?_
              clear hsl
              go_wp2_with fail
              refine (HFD.out (c - i)).mono ?_
              rintro e w4 ⟨rfl, hb4⟩
              have hsz4 := hb4.size
              have hsw : wr.drew.heap.size = wr.heap.size := rfl
              have hbxl := aX.lt
              have aX4 : Arr w4 bx 107 (stCells s0) := (hb4.block bx hbxl).trans aX
              have aK4 : Arr w4 bk 105 keyCells.toArray := (hb4.block bk hldK).trans aK
              have hL4 : Lie w4 g o p := hL.of (hb4.block g hgw)
              have hm4 : Mild w.heap.size w w4 := hmz.drew.trans ((Mild.of hb4).mono hmz.size)
              have HALL : Hid (Arr (w4.setRow bx (stCells s1)) bk 105 keyCells.toArray ∧ Arr (w4.setRow bx (stCells s1)) bx 107 (stCells s1) ∧ Lie (w4.setRow bx (stCells s1)) g o p ∧ Mild w.heap.size w (w4.setRow bx (stCells s1))) :=
                ⟨(setRow_other _ _ _ _ (by omega)).trans aK4, aX4.setRow _, hL4.of (setRow_other _ _ _ _ (by omega)), hm4.setRow (by omega) _⟩
              clear aK hL hmz aX hb4 hL4 hm4 aK4 HFD
              go_wp2_with (refine wpList_store_row rfl 107 (.tmp 7) (.tmp 56) rfl bx (stCells s1) rfl rfl 107 (stCells s0) aX4 (by rw [stCells_size]; kernel_rfl) ((stCells_size s0).trans (stCells_size s1).symm) (stCells_all _) ?_)
              rw [HS1.out] at HALL ⊢
              go_roundw
              case rel =>
                have e : Value.int .i64 ((i : Int) + 64) = .int .i64 ((64 * (j + 1) : Nat) : Int) := by have := HI.out; congr 1; omega
                rw [e]
                exact ⟨j + 1, rfl, by have := HF.out; omega, HALL⟩
              case measure => have := HI.out; simp [intOf]; omega
            · have hje : 64 * j = p.length := by omega
              have hj64 : j = p.length / 64 := by omega
              obtain ⟨aK, aX, hL, hmz⟩ := HJ.out
              have hzok := feed_ok start_ok p j
              have hsum : outs (feed start p j) 8 = sum l := by
                unfold sum
                rw [← HP.out, ← hj64]
              generalize feed start p j = z at *
              have HSUM := Lib.hid hsum
              have hpn := HNN.out
              obtain ⟨i, hi⟩ : ∃ i, i = 64 * j := ⟨_, rfl⟩
              rw [← hi] at hje ⊢
              have hi1 : ¬ (i : Int) < (n : Int) + 8 := by omega
              have hbx8 : w.heap.size ≤ bx := by omega
              clear HJ hsum hj64 hpn hi aK hL HP HNN HML HCP hje hj hlt HC HCC hcv
              obtain ⟨B2, hB2⟩ : ∃ B2, B2 = wr.heap.size := ⟨_, rfl⟩
              have hBx : bx < B2 := by rw [hB2]; exact aX.lt
              have hBw : B2 ≤ wr.heap.size := by omega
              clear hB2
              obtain ⟨wv, hwv⟩ : ∃ wv, wv = wr := ⟨_, rfl⟩
              rw [← hwv] at aX hmz hBw ⊢
              clear hwv
              go_wp2_with fail
              go_loopw [9, 10] (fun v iv wq => ∃ k : Nat, iv = .int .i64 k ∧ k ≤ 8 ∧ Hid (wq.ownsRow B2 5 1 v (outs z k).length (Lib.byteCells (outs z k))) ∧ Below B2 wv wq)
                (fun _ iv _ => 8 - (intOf iv).toNat)
              case atStart => exact ⟨0, rfl, by omega, Lib.hid (World.ownsRow_nil _ _ _ _), Below.refl _ _⟩
              case round =>
                obtain ⟨k, rfl, hk, HO, hB⟩ := hrel
                by_cases hk8 : k < 8
                · have aX2 : Arr wr bx 107 (stCells z) := by
                    have := hB.block bx hBx
                    exact this.trans aX
                  have hget := st_get z k hk8
                  have hylt := list_lt hzok k hk8
                  have hnext := outs_succ z hk8
                  have hol := outs_length z hk
                  obtain ⟨y, hy⟩ : ∃ y, z.list[k]'hk8 = y := ⟨_, rfl⟩
                  rw [hy] at hget hylt hnext
                  have c0 : wr.drew.cell? ⟨bx, k, none⟩ = some (.int .u32 (y : Nat)) := aX2.cell hget
                  have hki : (k : Int) < 8 := by omega
                  have hBs : B2 ≤ wr.heap.size := Nat.le_trans hBw hB.size
                  have HN := Lib.hid hnext
                  have HOL := Lib.hid hol
                  have hcw := cells_word hylt
                  obtain ⟨b0, hb0⟩ : ∃ b0 : Int, b0 = (y : Int) / 16777216 := ⟨_, rfl⟩
                  obtain ⟨b1, hb1⟩ : ∃ b1 : Int, b1 = (y : Int) / 65536 % 256 := ⟨_, rfl⟩
                  obtain ⟨b2, hb2⟩ : ∃ b2 : Int, b2 = (y : Int) / 256 % 256 := ⟨_, rfl⟩
                  obtain ⟨b3, hb3⟩ : ∃ b3 : Int, b3 = (y : Int) % 256 := ⟨_, rfl⟩
                  rw [← hb0, ← hb1, ← hb2, ← hb3] at hcw
                  have v0 : IntKind.u8.wrap ((y : Int) / 16777216) = b0 := by rw [hb0, IntKind.wrap_u8]; omega
                  have v1 : IntKind.u8.wrap ((y : Int) / 65536) = b1 := by rw [hb1, IntKind.wrap_u8]
                  have v2 : IntKind.u8.wrap ((y : Int) / 256) = b2 := by rw [hb2, IntKind.wrap_u8]
                  have v3 : IntKind.u8.wrap (y : Int) = b3 := by rw [hb3, IntKind.wrap_u8]
                  have HCW := Lib.hid hcw
                  clear hb0 hb1 hb2 hb3 hcw
                  clear hget hnext hol hy aX2
                  generalize outs z k = ok at *
                  have hOd : Hid (wr.drew.ownsRow B2 5 1 u9 ok.length (Lib.byteCells ok)) := HO
                  have hn2 : ∀ W : World, ∀ (j : Nat) (u : Value), ([.int .u8 b0, .int .u8 b1, .int .u8 b2, .int .u8 b3] : List Value)[j]? = some u → (W.alloc (.cells #[.int .u8 b0, .int .u8 b1, .int .u8 b2, .int .u8 b3] 5)).cell? ((⟨W.heap.size, 0, none⟩ : Addr).add j) = some u := by
                    intro W j u hj
                    match j, hj with
                    | 0, hj => simp at hj; subst hj; simp [Addr.add]
                    | 1, hj => simp at hj; subst hj; simp [Addr.add]
                    | 2, hj => simp at hj; subst hj; simp [Addr.add]
                    | 3, hj => simp at hj; subst hj; simp [Addr.add]
                  have HN2 := Lib.hid hn2
                  have hone : ∀ u ∈ ([.int .u8 b0, .int .u8 b1, .int .u8 b2, .int .u8 b3] : List Value), u.oneCell' = true := by
                    intro u hu
                    simp at hu
                    rcases hu with rfl | rfl | rfl | rfl <;> rfl
                  have HONE := Lib.hid hone
                  clear hn2 hone
                  have hal : ∀ o, (wr.drew.alloc o).cell? ⟨bx, k, none⟩ = some (.int .u32 (y : Nat)) := fun o => (((Below.refl B2 wr.drew).alloc hBs o).cell (p := ⟨bx, k, none⟩) hBx).trans c0
                  have HAL := Lib.hid hal
                  clear hal
                  go_upto_region 20 with (fail)
                  go_region_held3 (fun w' => w'.cell? ⟨bx, k, none⟩ = some (.int .u32 (y : Nat)))
                    (first | exact c0 | exact HAL.out _ | exact (hbw.cell (p := ⟨bx, k, none⟩) hBx).trans c0 | go_keep)
                    ((refine step_append_lies _ rfl (.tmp 61) (.tmp 81) 81 rfl B2 5 i0 (.int .u8 0) 1 1 Tryz.underlying81 hi hz0 hz1 hz2 rfl (by decide) u9 ok.length (Lib.byteCells ok) (by simp [Act.eval]) (hOd.out.alloc _) ⟨wr.drew.heap.size, 0, none⟩ 4 4 [.int .u8 b0, .int .u8 b1, .int .u8 b2, .int .u8 b3] (by simp [Act.eval]) rfl (HN2.out _) HONE.out (by decide) (by have := HOL.out; unfold maxLen; omega) (by have := HOL.out; omega) (by simp; omega) _ rfl ?_; intro g2 cap2 w' hown' hgrow _ hgl; have hbw : Below B2 wr.drew w' := ((Below.refl B2 wr.drew).alloc hBs _).grown hgrow (by simp; omega) (fun j hj => (hOd.out.lt j hj).1)))
                  have hbq : Below B2 wv w' := hB.drew.trans hbw
                  have hown2 : w'.ownsRow B2 5 1 (Value.slice (some ⟨g2, 0, none⟩) (ok.length + 4) cap2) (ok ++ wbytes y).length (Lib.byteCells (ok ++ wbytes y)) := by
                    rw [List.length_append, Lib.byteCells_append, HCW.out]
                    exact hown'
                  rw [← HN.out] at hown2
                  have HO2 := Lib.hid hown2
                  clear hown2 hown' hOd HO hgrow hbw
                  go_wp2_with fail
                  go_roundw
                  case rel => exact ⟨k + 1, by go_num, by omega, HO2, hbq⟩
                  case measure => simp [intOf]; omega
                · obtain rfl : k = 8 := by omega
                  have hcv := conv_own wr _ _ _ (fun h => by have := outs_length z (Nat.le_refl 8); rw [h] at this; simp at this) HO.out
                  rw [HSUM.out] at hcv
                  have hfin := hmz.trans ((Mild.of hB).mono (Nat.le_trans hbx8 (Nat.le_of_lt hBx)))
                  clear HO
                  go_wp2_with fail
                  go_ret
                  exact ⟨rfl, hfin⟩
end Go.Proofs.YtpimdbnhpbjlkaaGreatDoor.dg
