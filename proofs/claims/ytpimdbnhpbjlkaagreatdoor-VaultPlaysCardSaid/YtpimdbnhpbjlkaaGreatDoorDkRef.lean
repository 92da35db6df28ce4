/-
  What the reference's functions over files answer.
-/
import Derived.Test.YtpimdbnhpbjlkaaGreatDoorDkMath
import Derived.Test.YtpimdbnhpbjlkaaGreatDoorRw
import Derived.Lib.AtoiErrMem
namespace Go.Proofs.YtpimdbnhpbjlkaaGreatDoor.dk
set_option linter.unusedVariables false
open Go.RowKit
open fl (S S_size S_append S_inj str_eq str_ne)
open rw (Arr But Row Own bnext below_box below_drew below_drewN addr_add)

theorem S_list (l : List UInt8) : (S l).toList = l := by rw [ByteArray.toList_eq, fl.S_data]
theorem bytesLess_eq' : ∀ (x y : List UInt8), Op.bytesLess x y = decide (x < y)
  | [], [] => by simp [Op.bytesLess]
  | [], _ :: _ => by simp [Op.bytesLess]
  | _ :: _, [] => by simp [Op.bytesLess]
  | a :: x, b :: y => by
    rw [Op.bytesLess, bytesLess_eq' x y, Bool.eq_iff_iff]
    simp [List.cons_lt_cons_iff]
theorem less_S (a b : Bs) : Op.bytesLess (S a).toList (S b).toList = decide (a < b) := by rw [bytesLess_eq', S_list, S_list]

def fileSh : rw.Sh File where
  t := 74
  st := 39
  k := 2
  bytes := 32
  z := .agg #[.string ⟨#[]⟩, .string ⟨#[]⟩]
  enc := fun f => [.string (S f.1), .string (S f.2)]
  hu := Tryz.underlying39
  hi := by kernel_rfl
  hz := by rfl
  hk := by decide
  hb := by decide
  len := fun _ => rfl
  one := fun x u hu => by
    simp only [List.mem_cons, List.not_mem_nil, or_false] at hu
    rcases hu with rfl | rfl <;> rfl
def callSh : rw.Sh Call where
  t := 70
  st := 40
  k := 3
  bytes := 40
  z := .agg #[.int .i64 0, .string ⟨#[]⟩, .string ⟨#[]⟩]
  enc := fun c => [.int .i64 (c.kind : Nat), .string (S c.name), .string (S c.s)]
  hu := Tryz.underlying40
  hi := by kernel_rfl
  hz := by rfl
  hk := by decide
  hb := by decide
  len := fun _ => rfl
  one := fun x u hu => by
    simp only [List.mem_cons, List.not_mem_nil, or_false] at hu
    rcases hu with rfl | rfl | rfl <;> rfl
abbrev SlF (w : World) (v : Value) (l : List File) : Prop := rw.Sl fileSh w v l
abbrev SlC (w : World) (v : Value) (l : List Call) : Prop := rw.Sl callSh w v l
theorem slF_at {w : World} {a : Option Addr} {l : List File} (h : Row fileSh w a l) {j : Nat} (hj : j < l.length) : ∃ b off, a = some ⟨b, off, none⟩ ∧ b < w.heap.size ∧ w.cell? ⟨b, off + j * 2, none⟩ = some (.string (S l[j].1)) ∧ w.cell? ⟨b, off + j * 2 + 1, none⟩ = some (.string (S l[j].2)) := by
  obtain ⟨b, off, e, hb, hc⟩ := h.at _ hj
  exact ⟨b, off, e, hb, hc 0 (by decide), hc 1 (by decide)⟩
theorem slC_at {w : World} {a : Option Addr} {l : List Call} (h : Row callSh w a l) {j : Nat} (hj : j < l.length) : ∃ b off, a = some ⟨b, off, none⟩ ∧ b < w.heap.size ∧ w.cell? ⟨b, off + j * 3, none⟩ = some (.int .i64 (l[j].kind : Nat)) ∧ w.cell? ⟨b, off + j * 3 + 1, none⟩ = some (.string (S l[j].name)) ∧ w.cell? ⟨b, off + j * 3 + 2, none⟩ = some (.string (S l[j].s)) := by
  obtain ⟨b, off, e, hb, hc⟩ := h.at _ hj
  exact ⟨b, off, e, hb, hc 0 (by decide), hc 1 (by decide), hc 2 (by decide)⟩

theorem get_take (l : List File) (n : Bs) (k : Nat) (hk : k < l.length) (h : ∀ j (h : j < l.length), j < k → l[j].1 ≠ n) (he : l[k].1 = n) : get l n = some l[k].2 := by
  unfold get
  have : l = l.take k ++ l[k] :: l.drop (k + 1) := by rw [← List.drop_eq_getElem_cons hk, List.take_append_drop]
  have hf : (l.take k).find? (fun f => decide (f.1 = n)) = none := by
    rw [List.find?_eq_none]
    intro f hf
    obtain ⟨j, hj, e⟩ := List.getElem_of_mem hf
    rw [List.length_take] at hj
    rw [List.getElem_take] at e
    have := h j (by omega) (by omega)
    rw [e] at this
    simpa using this
  conv => lhs; rw [this, List.find?_append, hf, List.find?_cons]
  simp [he]

set_option maxHeartbeats 1000000 in
set_option maxRecDepth 100000 in
theorem refget_any (a : Option Addr) (cap : Nat) (l : List File) (n : Bs) (hl : l.length ≤ 140737488355328) (w : World) (hr : Row fileSh w a l) :
    Calls Tryz.prog 61 #[.slice a l.length cap, .string (S n)] w fun e w' => e = .returned (.tuple #[.string (S ((get l n).getD [])), .bool (get l n).isSome]) ∧ w' = w := by
  go_enter Tryz.func61, Tryz.ntmps61
  go_wp2
  go_loopw [6] (fun i wr => ∃ k : Nat, i = .int .i64 k ∧ k ≤ l.length ∧ Hid (∀ j (h : j < l.length), j < k → l[j].1 ≠ n) ∧ wr = w)
    (fun i _ => l.length - (intOf i).toNat)
  case atStart => exact ⟨0, rfl, Nat.zero_le _, Lib.hid (fun j _ h => absurd h (by omega)), rfl⟩
  case round =>
    obtain ⟨k, rfl, hk, HN, rfl⟩ := hrel
    by_cases hlt : k < l.length
    · obtain ⟨b, off, rfl, hb, c0, c1⟩ := slF_at hr hlt
      have hki : (k : Int) < (l.length : Int) := by omega
      by_cases he : (l[k]'hlt).1 = n
      · have HG := Lib.hid (get_take l n k hlt HN.out he)
        have hq : ((S (l[k]'hlt).1).toList == (S n).toList) = true := str_eq (by rw [he])
        clear HN hr he
        generalize l[k]'hlt = x at *
        go_wp2
        go_ret2
        exact ⟨by rw [HG.out]; rfl, rfl⟩
      · have hq : ((S (l[k]'hlt).1).toList == (S n).toList) = false := str_ne (fun e => he (S_inj e))
        have HN2 : Hid (∀ j (h : j < l.length), j < k + 1 → l[j].1 ≠ n) := fun j h hj => by
          by_cases h2 : j < k
          · exact HN.out j h h2
          · obtain rfl : j = k := by omega
            exact he
        clear HN he
        generalize l[k]'hlt = x at *
        go_wp2
        go_roundw
        case rel => exact ⟨k + 1, by go_num, by omega, HN2, by first | rfl | trivial⟩
        case measure => simp [intOf]; omega
    · obtain rfl : k = l.length := by omega
      have HG : Hid (get l n = none) := get_eq_none (fun f hf => by
        obtain ⟨j, hj, e⟩ := List.getElem_of_mem hf
        rw [← e]
        exact HN.out j hj hj)
      clear HN hr
      go_wp2
      go_ret2
      exact ⟨by rw [HG.out]; rfl, rfl⟩

set_option maxHeartbeats 2000000 in
set_option maxRecDepth 100000 in
theorem refwithout_any (v : Value) (l : List File) (n : Bs) (hl : l.length ≤ 1000000) (w : World) (hs : SlF w v l) :
    Calls Tryz.prog 83 #[v, .string (S n)] w fun e w' => (∃ u, e = .returned u ∧ Own fileSh w' w.heap.size u (without l n)) ∧ Below w.heap.size w w' := by
  obtain ⟨a, cap, rfl, _, hr, _⟩ := hs
  go_enter Tryz.func83, Tryz.ntmps83
  go_wp2
  go_loopw [5, 6] (fun o i wr => ∃ k : Nat, i = .int .i64 k ∧ k ≤ l.length ∧ Hid (Own fileSh wr w.heap.size o (without (l.take k) n)) ∧ Below w.heap.size w wr)
    (fun _ i _ => l.length - (intOf i).toNat)
  case atStart => exact ⟨0, rfl, Nat.zero_le _, Lib.hid (Own.nil _ _ _), Below.refl _ _⟩
  case round =>
    obtain ⟨k, rfl, hk, HO, hB⟩ := hrel
    by_cases hlt : k < l.length
    · obtain ⟨b, off, rfl, hb, c0, c1⟩ := slF_at (hr.keep _ hB.size (fun b _ _ h => hB.block b h)) hlt
      have hki : (k : Int) < (l.length : Int) := by omega
      have htk : without (l.take (k + 1)) n = without (l.take k) n ++ (if (l[k]'hlt).1 = n then [] else [l[k]'hlt]) := by
        unfold without
        rw [List.take_succ_eq_append_getElem hlt, List.filter_append]
        by_cases h : (l[k]'hlt).1 = n <;> simp [h]
      by_cases he : (l[k]'hlt).1 = n
      · have hq : ((S (l[k]'hlt).1).toList == (S n).toList) = true := str_eq (by rw [he])
        rw [if_pos he, List.append_nil] at htk
        have HO2 := HO.out
        rw [← htk] at HO2
        replace HO2 := Lib.hid HO2
        clear HO he htk
        generalize l[k]'hlt = x at *
        go_wp2
        go_roundw
        case rel => exact ⟨k + 1, by go_num, by omega, HO2, hB⟩
        case measure => simp [intOf]; omega
      · have hq : ((S (l[k]'hlt).1).toList == (S n).toList) = false := str_ne (fun e => he (S_inj e))
        rw [if_neg he] at htk
        obtain ⟨o', w', h1, h2, h3⟩ := rw.append_one fileSh w.heap.size _ (without (l.take k) n) (l[k]'hlt) (by
          have : (without (l.take k) n).length ≤ (l.take k).length := List.length_filter_le _ _
          rw [List.length_take] at this
          omega) wr HO.out hB.size
        rw [← htk] at h2
        have HR := Lib.hid h1
        have HO2 := Lib.hid h2
        have HB2 := Lib.hid (hB.trans h3)
        clear HO he htk h1 h2 h3
        generalize l[k]'hlt = x at *
        go_wp2_with (at_builtin; refine rw.wpList_append_at _ _ _ rfl rfl _ _ _ _ rfl rfl HR.out ?_)
        go_roundw
        case rel => exact ⟨k + 1, by go_num, by omega, HO2, HB2.out⟩
        case measure => simp [intOf]; omega
    · obtain rfl : k = l.length := by omega
      rw [List.take_length] at HO
      go_wp2
      go_ret
      exact ⟨⟨_, rfl, HO.out⟩, hB⟩
end Go.Proofs.YtpimdbnhpbjlkaaGreatDoor.dk
