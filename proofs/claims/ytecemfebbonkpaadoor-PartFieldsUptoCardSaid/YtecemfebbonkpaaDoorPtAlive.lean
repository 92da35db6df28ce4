/-
  What every right program answers: 'alive' answers true.
-/
import Derived.Test.YtecemfebbonkpaaDoorPtField
namespace Go.Proofs.YtecemfebbonkpaaDoor.pt
open Go.RowKit Go.Shelf fl
attribute [local go_sem] Oper.semAt_some

def mA : List UInt8 := [97, 58, 32, 98, 13, 10, 13, 10, 99]
def mB : List UInt8 := [83, 117, 98, 106, 101, 99, 116, 58, 32, 120, 13, 10, 32, 121, 13, 10, 84, 111, 58, 122]
def mC : List UInt8 := [83, 85, 66, 74, 69, 67, 84]
theorem S_list (l : List UInt8) : (S l).toList = l := by rw [ByteArray.toList_eq, S_data]
theorem headA : head mA = [97, 58, 32, 98, 13, 10, 13, 10] := by decide +kernel
theorem textA : text mA = [99] := by decide +kernel
theorem fieldB : found (fields mB) mC = some ([83, 117, 98, 106, 101, 99, 116], [120, 32, 121]) := by decide +kernel
theorem cutC : cutL [104, 101, 108, 108, 111] 1 3 = [101, 108, 108] := by decide +kernel
theorem holdsD : Lib.contains (upper [72, 101, 108, 108, 111]) (upper [69, 76, 76]) = true := by decide +kernel

theorem not_nil (caps : Array Value) (w : World) : (binOp .neq 32 (.func (.func 26) #[] caps) .nilFunc).run Tryd.prog w = .ok (.bool true) w := by
  first
    | rfl
    | simp [binOp, go_sem, Tryd.underlying32]
set_option maxRecDepth 100000 in
theorem alive_any (M : Int) (w : World) (h0 : 0 < w.heap.size) (hM : w.cell? ⟨0, 0, none⟩ = some (.int .i64 M)) :
    Calls Tryd.prog 8 #[] w fun e w' => e = .returned (.bool true) ∧ Below w.heap.size w w' := by
  have c1 := split_any mA (by decide) M w hM
  rw [headA, textA] at c1
  have HF := Lib.hid (fun W h0 hM => field_any mB mC (by decide) (by decide) M W h0 hM)
  rw [fieldB] at HF
  have HCt := Lib.hid (fun W => cut_any [104, 101, 108, 108, 111] (by decide) 1 3 W)
  rw [cutC] at HCt
  have HHo := Lib.hid (fun W h0 hM => holds_any [72, 101, 108, 108, 111] [69, 76, 76] (by decide) (by decide) M W h0 hM)
  rw [holdsD] at HHo
  go_enter Tryd.func8, Tryd.ntmps8
  go_wp2_with fail
  refine c1.mono ?_
  rintro e w1 ⟨rfl, b1⟩
  have h1 : 0 < w1.heap.size := Nat.lt_of_lt_of_le h0 b1.size
  have m1 := (b1.cell (p := ⟨0, 0, none⟩) h0).trans hM
  have c2 := HF.out w1 h1 m1
  clear c1 HF
  go_wp2_with fail
  refine c2.mono ?_
  rintro e w2 ⟨rfl, b2⟩
  have h2 : 0 < w2.heap.size := Nat.lt_of_lt_of_le h1 b2.size
  have m2 := (b2.cell (p := ⟨0, 0, none⟩) h1).trans m1
  have b12 := Below.andThen b1 b2
  have c3 : Calls Tryd.prog 13 #[.string ⟨#[104, 101, 108, 108, 111]⟩, .int .u64 1, .int .u64 3] w2 fun e w' => e = .returned (.string (S [101, 108, 108])) ∧ Below w2.heap.size w2 w' := HCt.out w2
  have k1 : ((S [97, 58, 32, 98, 13, 10, 13, 10]).toList == [97, 58, 32, 98, 13, 10, 13, 10]) = true := by rw [S_list]; rfl
  have k2 : ((S [99]).toList == [99]) = true := by rw [S_list]; rfl
  have k3 : ((S [120, 32, 121]).toList == [120, 32, 121]) = true := by rw [S_list]; rfl
  have k4 : ((S [101, 108, 108]).toList == [101, 108, 108]) = true := by rw [S_list]; rfl
  clear c2 HCt b1 b2
  simp only [value, Option.isSome]
  go_wp2_with fail
  refine c3.mono ?_
  rintro e w3 ⟨rfl, b3⟩
  have h3 : 0 < w3.heap.size := Nat.lt_of_lt_of_le h2 b3.size
  have m3 := (b3.cell (p := ⟨0, 0, none⟩) h2).trans m2
  have b13 := Below.andThen b12 b3
  have c4 : Calls Tryd.prog 19 #[.string ⟨#[72, 101, 108, 108, 111]⟩, .string ⟨#[69, 76, 76]⟩] w3 fun e w' => e = .returned (.bool true) ∧ Below w3.heap.size w3 w' := HHo.out w3 h3 m3
  clear c3 HHo b12 b3
  go_wp2_with fail
  refine c4.mono ?_
  rintro e w4 ⟨rfl, b4⟩
  have b14 := Below.andThen b13 b4
  have hnn := not_nil
  have c5 : Calls Tryd.prog 16 #[.string ⟨#[]⟩] w4 fun e w' => e = .returned (.func (.func 26) #[] #[.pointer (some ⟨w4.heap.size, 0, none⟩)]) ∧ w' = w4.alloc (.cells #[.string ⟨#[]⟩] 9) := fields_any ⟨#[]⟩ w4
  go_wp2_with fail
  refine c5.mono ?_
  rintro e w5 ⟨rfl, rfl⟩
  go_wp2_with fail
  go_ret
  exact ⟨rfl, b14.alloc b14.size _⟩
end Go.Proofs.YtecemfebbonkpaaDoor.pt
