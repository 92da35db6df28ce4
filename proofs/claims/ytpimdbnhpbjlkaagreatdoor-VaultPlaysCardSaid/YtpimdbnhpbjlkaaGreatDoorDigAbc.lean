/-
  The digest of the three letters abc, reckoned word by word, round by round. No walk.
-/
import Derived.Test.YtpimdbnhpbjlkaaGreatDoorDigPad
import Derived.Test.YtpimdbnhpbjlkaaGreatDoorDigHex
namespace Go.Proofs.YtpimdbnhpbjlkaaGreatDoor.dg
open Go.RowKit

def abc : List UInt8 := [97, 98, 99]
def abcBlock : List UInt8 := [97, 98, 99, 128, 0, 0, 0, 0, 0, 0, 0, 0, 0, 0, 0, 0, 0, 0, 0, 0, 0, 0, 0, 0, 0, 0, 0, 0, 0, 0, 0, 0, 0, 0, 0, 0, 0, 0, 0, 0, 0, 0, 0, 0, 0, 0, 0, 0, 0, 0, 0, 0, 0, 0, 0, 0, 0, 0, 0, 0, 0, 0, 0, 24]
theorem abc_block : blk (pad abc) 0 = abcBlock := by decide +kernel
theorem abc_count : (pad abc).length / 64 = 1 := by decide +kernel
theorem abc_w0 : wd abcBlock 0 = 1633837952 := (wd_small (by decide)).trans (by kernel_rfl)
theorem abc_w1 : wd abcBlock 1 = 0 := (wd_small (by decide)).trans (by kernel_rfl)
theorem abc_w2 : wd abcBlock 2 = 0 := (wd_small (by decide)).trans (by kernel_rfl)
theorem abc_w3 : wd abcBlock 3 = 0 := (wd_small (by decide)).trans (by kernel_rfl)
theorem abc_w4 : wd abcBlock 4 = 0 := (wd_small (by decide)).trans (by kernel_rfl)
theorem abc_w5 : wd abcBlock 5 = 0 := (wd_small (by decide)).trans (by kernel_rfl)
theorem abc_w6 : wd abcBlock 6 = 0 := (wd_small (by decide)).trans (by kernel_rfl)
theorem abc_w7 : wd abcBlock 7 = 0 := (wd_small (by decide)).trans (by kernel_rfl)
theorem abc_w8 : wd abcBlock 8 = 0 := (wd_small (by decide)).trans (by kernel_rfl)
theorem abc_w9 : wd abcBlock 9 = 0 := (wd_small (by decide)).trans (by kernel_rfl)
theorem abc_w10 : wd abcBlock 10 = 0 := (wd_small (by decide)).trans (by kernel_rfl)
theorem abc_w11 : wd abcBlock 11 = 0 := (wd_small (by decide)).trans (by kernel_rfl)
theorem abc_w12 : wd abcBlock 12 = 0 := (wd_small (by decide)).trans (by kernel_rfl)
theorem abc_w13 : wd abcBlock 13 = 0 := (wd_small (by decide)).trans (by kernel_rfl)
theorem abc_w14 : wd abcBlock 14 = 0 := (wd_small (by decide)).trans (by kernel_rfl)
theorem abc_w15 : wd abcBlock 15 = 24 := (wd_small (by decide)).trans (by kernel_rfl)
theorem abc_w16 : wd abcBlock 16 = 1633837952 := by
  rw [wd_big (by decide), abc_w14, abc_w9, abc_w1, abc_w0]
  kernel_rfl
theorem abc_w17 : wd abcBlock 17 = 983040 := by
  rw [wd_big (by decide), abc_w15, abc_w10, abc_w2, abc_w1]
  kernel_rfl
theorem abc_w18 : wd abcBlock 18 = 2108187653 := by
  rw [wd_big (by decide), abc_w16, abc_w11, abc_w3, abc_w2]
  kernel_rfl
theorem abc_w19 : wd abcBlock 19 = 1610613702 := by
  rw [wd_big (by decide), abc_w17, abc_w12, abc_w4, abc_w3]
  kernel_rfl
theorem abc_w20 : wd abcBlock 20 = 1050508152 := by
  rw [wd_big (by decide), abc_w18, abc_w13, abc_w5, abc_w4]
  kernel_rfl
theorem abc_w21 : wd abcBlock 21 = 25426944 := by
  rw [wd_big (by decide), abc_w19, abc_w14, abc_w6, abc_w5]
  kernel_rfl
theorem abc_w22 : wd abcBlock 22 = 316456923 := by
  rw [wd_big (by decide), abc_w20, abc_w15, abc_w7, abc_w6]
  kernel_rfl
theorem abc_w23 : wd abcBlock 23 = 3806512014 := by
  rw [wd_big (by decide), abc_w21, abc_w16, abc_w8, abc_w7]
  kernel_rfl
theorem abc_w24 : wd abcBlock 24 = 3357629466 := by
  rw [wd_big (by decide), abc_w22, abc_w17, abc_w9, abc_w8]
  kernel_rfl
theorem abc_w25 : wd abcBlock 25 = 3073800610 := by
  rw [wd_big (by decide), abc_w23, abc_w18, abc_w10, abc_w9]
  kernel_rfl
theorem abc_w26 : wd abcBlock 26 = 3854317833 := by
  rw [wd_big (by decide), abc_w24, abc_w19, abc_w11, abc_w10]
  kernel_rfl
theorem abc_w27 : wd abcBlock 27 = 845560923 := by
  rw [wd_big (by decide), abc_w25, abc_w20, abc_w12, abc_w11]
  kernel_rfl
theorem abc_w28 : wd abcBlock 28 = 2636160359 := by
  rw [wd_big (by decide), abc_w26, abc_w21, abc_w13, abc_w12]
  kernel_rfl
theorem abc_w29 : wd abcBlock 29 = 3968280267 := by
  rw [wd_big (by decide), abc_w27, abc_w22, abc_w14, abc_w13]
  kernel_rfl
theorem abc_w30 : wd abcBlock 30 = 1881225380 := by
  rw [wd_big (by decide), abc_w28, abc_w23, abc_w15, abc_w14]
  kernel_rfl
theorem abc_w31 : wd abcBlock 31 = 3552024379 := by
  rw [wd_big (by decide), abc_w29, abc_w24, abc_w16, abc_w15]
  kernel_rfl
theorem abc_w32 : wd abcBlock 32 = 2482346367 := by
  rw [wd_big (by decide), abc_w30, abc_w25, abc_w17, abc_w16]
  kernel_rfl
theorem abc_w33 : wd abcBlock 33 = 996719219 := by
  rw [wd_big (by decide), abc_w31, abc_w26, abc_w18, abc_w17]
  kernel_rfl
theorem abc_w34 : wd abcBlock 34 = 2952069057 := by
  rw [wd_big (by decide), abc_w32, abc_w27, abc_w19, abc_w18]
  kernel_rfl
theorem abc_w35 : wd abcBlock 35 = 4043988066 := by
  rw [wd_big (by decide), abc_w33, abc_w28, abc_w20, abc_w19]
  kernel_rfl
theorem abc_w36 : wd abcBlock 36 = 176896406 := by
  rw [wd_big (by decide), abc_w34, abc_w29, abc_w21, abc_w20]
  kernel_rfl
theorem abc_w37 : wd abcBlock 37 = 1924104970 := by
  rw [wd_big (by decide), abc_w35, abc_w30, abc_w22, abc_w21]
  kernel_rfl
theorem abc_w38 : wd abcBlock 38 = 2483675966 := by
  rw [wd_big (by decide), abc_w36, abc_w31, abc_w23, abc_w22]
  kernel_rfl
theorem abc_w39 : wd abcBlock 39 = 610538786 := by
  rw [wd_big (by decide), abc_w37, abc_w32, abc_w24, abc_w23]
  kernel_rfl
theorem abc_w40 : wd abcBlock 40 = 2672279444 := by
  rw [wd_big (by decide), abc_w38, abc_w33, abc_w25, abc_w24]
  kernel_rfl
theorem abc_w41 : wd abcBlock 41 = 4037431130 := by
  rw [wd_big (by decide), abc_w39, abc_w34, abc_w26, abc_w25]
  kernel_rfl
theorem abc_w42 : wd abcBlock 42 = 1042573945 := by
  rw [wd_big (by decide), abc_w40, abc_w35, abc_w27, abc_w26]
  kernel_rfl
theorem abc_w43 : wd abcBlock 43 = 657669027 := by
  rw [wd_big (by decide), abc_w41, abc_w36, abc_w28, abc_w27]
  kernel_rfl
theorem abc_w44 : wd abcBlock 44 = 206005234 := by
  rw [wd_big (by decide), abc_w42, abc_w37, abc_w29, abc_w28]
  kernel_rfl
theorem abc_w45 : wd abcBlock 45 = 2215296807 := by
  rw [wd_big (by decide), abc_w43, abc_w38, abc_w30, abc_w29]
  kernel_rfl
theorem abc_w46 : wd abcBlock 46 = 2049510749 := by
  rw [wd_big (by decide), abc_w44, abc_w39, abc_w31, abc_w30]
  kernel_rfl
theorem abc_w47 : wd abcBlock 47 = 106709978 := by
  rw [wd_big (by decide), abc_w45, abc_w40, abc_w32, abc_w31]
  kernel_rfl
theorem abc_w48 : wd abcBlock 48 = 4215179723 := by
  rw [wd_big (by decide), abc_w46, abc_w41, abc_w33, abc_w32]
  kernel_rfl
theorem abc_w49 : wd abcBlock 49 = 3430291419 := by
  rw [wd_big (by decide), abc_w47, abc_w42, abc_w34, abc_w33]
  kernel_rfl
theorem abc_w50 : wd abcBlock 50 = 3118885940 := by
  rw [wd_big (by decide), abc_w48, abc_w43, abc_w35, abc_w34]
  kernel_rfl
theorem abc_w51 : wd abcBlock 51 = 2845390439 := by
  rw [wd_big (by decide), abc_w49, abc_w44, abc_w36, abc_w35]
  kernel_rfl
theorem abc_w52 : wd abcBlock 52 = 2226839261 := by
  rw [wd_big (by decide), abc_w50, abc_w45, abc_w37, abc_w36]
  kernel_rfl
theorem abc_w53 : wd abcBlock 53 = 3256115900 := by
  rw [wd_big (by decide), abc_w51, abc_w46, abc_w38, abc_w37]
  kernel_rfl
theorem abc_w54 : wd abcBlock 54 = 344409900 := by
  rw [wd_big (by decide), abc_w52, abc_w47, abc_w39, abc_w38]
  kernel_rfl
theorem abc_w55 : wd abcBlock 55 = 2987358873 := by
  rw [wd_big (by decide), abc_w53, abc_w48, abc_w40, abc_w39]
  kernel_rfl
theorem abc_w56 : wd abcBlock 56 = 4015503821 := by
  rw [wd_big (by decide), abc_w54, abc_w49, abc_w41, abc_w40]
  kernel_rfl
theorem abc_w57 : wd abcBlock 57 = 3957764664 := by
  rw [wd_big (by decide), abc_w55, abc_w50, abc_w42, abc_w41]
  kernel_rfl
theorem abc_w58 : wd abcBlock 58 = 2682456414 := by
  rw [wd_big (by decide), abc_w56, abc_w51, abc_w43, abc_w42]
  kernel_rfl
theorem abc_w59 : wd abcBlock 59 = 2025622859 := by
  rw [wd_big (by decide), abc_w57, abc_w52, abc_w44, abc_w43]
  kernel_rfl
theorem abc_w60 : wd abcBlock 60 = 2755645205 := by
  rw [wd_big (by decide), abc_w58, abc_w53, abc_w45, abc_w44]
  kernel_rfl
theorem abc_w61 : wd abcBlock 61 = 1720397816 := by
  rw [wd_big (by decide), abc_w59, abc_w54, abc_w46, abc_w45]
  kernel_rfl
theorem abc_w62 : wd abcBlock 62 = 4004225740 := by
  rw [wd_big (by decide), abc_w60, abc_w55, abc_w47, abc_w46]
  kernel_rfl
theorem abc_w63 : wd abcBlock 63 = 313650667 := by
  rw [wd_big (by decide), abc_w61, abc_w56, abc_w48, abc_w47]
  kernel_rfl
theorem abc_r0 : rounds abcBlock start 0 = ⟨1779033703, 3144134277, 1013904242, 2773480762, 1359893119, 2600822924, 528734635, 1541459225⟩ := rfl
theorem abc_r1 : rounds abcBlock start 1 = ⟨1567288269, 1779033703, 3144134277, 1013904242, 4197074466, 1359893119, 2600822924, 528734635⟩ := by
  show round (rounds abcBlock start 0) (key 0) (wd abcBlock 0) = _
  rw [abc_r0, abc_w0]
  kernel_rfl
theorem abc_r2 : rounds abcBlock start 2 = ⟨1516951981, 1567288269, 1779033703, 3144134277, 2026797449, 4197074466, 1359893119, 2600822924⟩ := by
  show round (rounds abcBlock start 1) (key 1) (wd abcBlock 1) = _
  rw [abc_r1, abc_w1]
  kernel_rfl
theorem abc_r3 : rounds abcBlock start 3 = ⟨3368241063, 1516951981, 1567288269, 1779033703, 4180228587, 2026797449, 4197074466, 1359893119⟩ := by
  show round (rounds abcBlock start 2) (key 2) (wd abcBlock 2) = _
  rw [abc_r2, abc_w2]
  kernel_rfl
theorem abc_r4 : rounds abcBlock start 4 = ⟨3578852966, 3368241063, 1516951981, 1567288269, 618661968, 4180228587, 2026797449, 4197074466⟩ := by
  show round (rounds abcBlock start 3) (key 3) (wd abcBlock 3) = _
  rw [abc_r3, abc_w3]
  kernel_rfl
theorem abc_r5 : rounds abcBlock start 5 = ⟨71342698, 3578852966, 3368241063, 1516951981, 1135452741, 618661968, 4180228587, 2026797449⟩ := by
  show round (rounds abcBlock start 4) (key 4) (wd abcBlock 4) = _
  rw [abc_r4, abc_w4]
  kernel_rfl
theorem abc_r6 : rounds abcBlock start 6 = ⟨725748213, 71342698, 3578852966, 3368241063, 1900175533, 1135452741, 618661968, 4180228587⟩ := by
  show round (rounds abcBlock start 5) (key 5) (wd abcBlock 5) = _
  rw [abc_r5, abc_w5]
  kernel_rfl
theorem abc_r7 : rounds abcBlock start 7 = ⟨3842179968, 725748213, 71342698, 3578852966, 2603066369, 1900175533, 1135452741, 618661968⟩ := by
  show round (rounds abcBlock start 6) (key 6) (wd abcBlock 6) = _
  rw [abc_r6, abc_w6]
  kernel_rfl
theorem abc_r8 : rounds abcBlock start 8 = ⟨2241887071, 3842179968, 725748213, 71342698, 207977081, 2603066369, 1900175533, 1135452741⟩ := by
  show round (rounds abcBlock start 7) (key 7) (wd abcBlock 7) = _
  rw [abc_r7, abc_w7]
  kernel_rfl
theorem abc_r9 : rounds abcBlock start 9 = ⟨2382687417, 2241887071, 3842179968, 725748213, 852110732, 207977081, 2603066369, 1900175533⟩ := by
  show round (rounds abcBlock start 8) (key 8) (wd abcBlock 8) = _
  rw [abc_r8, abc_w8]
  kernel_rfl
theorem abc_r10 : rounds abcBlock start 10 = ⟨2357671019, 2382687417, 2241887071, 3842179968, 482944406, 852110732, 207977081, 2603066369⟩ := by
  show round (rounds abcBlock start 9) (key 9) (wd abcBlock 9) = _
  rw [abc_r9, abc_w9]
  kernel_rfl
theorem abc_r11 : rounds abcBlock start 11 = ⟨1201185780, 2357671019, 2382687417, 2241887071, 1131095016, 482944406, 852110732, 207977081⟩ := by
  show round (rounds abcBlock start 10) (key 10) (wd abcBlock 10) = _
  rw [abc_r10, abc_w10]
  kernel_rfl
theorem abc_r12 : rounds abcBlock start 12 = ⟨4146054569, 1201185780, 2357671019, 2382687417, 2171590377, 1131095016, 482944406, 852110732⟩ := by
  show round (rounds abcBlock start 11) (key 11) (wd abcBlock 11) = _
  rw [abc_r11, abc_w11]
  kernel_rfl
theorem abc_r13 : rounds abcBlock start 13 = ⟨2274437520, 4146054569, 1201185780, 2357671019, 509051416, 2171590377, 1131095016, 482944406⟩ := by
  show round (rounds abcBlock start 12) (key 12) (wd abcBlock 12) = _
  rw [abc_r12, abc_w12]
  kernel_rfl
theorem abc_r14 : rounds abcBlock start 14 = ⟨3643992854, 2274437520, 4146054569, 1201185780, 1952073950, 509051416, 2171590377, 1131095016⟩ := by
  show round (rounds abcBlock start 13) (key 13) (wd abcBlock 13) = _
  rw [abc_r13, abc_w13]
  kernel_rfl
theorem abc_r15 : rounds abcBlock start 15 = ⟨3227803614, 3643992854, 2274437520, 4146054569, 194179596, 1952073950, 509051416, 2171590377⟩ := by
  show round (rounds abcBlock start 14) (key 14) (wd abcBlock 14) = _
  rw [abc_r14, abc_w14]
  kernel_rfl
theorem abc_r16 : rounds abcBlock start 16 = ⟨2969183118, 3227803614, 3643992854, 2274437520, 123276749, 194179596, 1952073950, 509051416⟩ := by
  show round (rounds abcBlock start 15) (key 15) (wd abcBlock 15) = _
  rw [abc_r15, abc_w15]
  kernel_rfl
theorem abc_r17 : rounds abcBlock start 17 = ⟨567974555, 2969183118, 3227803614, 3643992854, 2150900380, 123276749, 194179596, 1952073950⟩ := by
  show round (rounds abcBlock start 16) (key 16) (wd abcBlock 16) = _
  rw [abc_r16, abc_w16]
  kernel_rfl
theorem abc_r18 : rounds abcBlock start 18 = ⟨3271285201, 567974555, 2969183118, 3227803614, 2221859924, 2150900380, 123276749, 194179596⟩ := by
  show round (rounds abcBlock start 17) (key 17) (wd abcBlock 17) = _
  rw [abc_r17, abc_w17]
  kernel_rfl
theorem abc_r19 : rounds abcBlock start 19 = ⟨4269243327, 3271285201, 567974555, 2969183118, 3431569761, 2221859924, 2150900380, 123276749⟩ := by
  show round (rounds abcBlock start 18) (key 18) (wd abcBlock 18) = _
  rw [abc_r18, abc_w18]
  kernel_rfl
theorem abc_r20 : rounds abcBlock start 20 = ⟨3790736435, 4269243327, 3271285201, 567974555, 2959311225, 3431569761, 2221859924, 2150900380⟩ := by
  show round (rounds abcBlock start 19) (key 19) (wd abcBlock 19) = _
  rw [abc_r19, abc_w19]
  kernel_rfl
theorem abc_r21 : rounds abcBlock start 21 = ⟨2647034723, 3790736435, 4269243327, 3271285201, 2329577776, 2959311225, 3431569761, 2221859924⟩ := by
  show round (rounds abcBlock start 20) (key 20) (wd abcBlock 20) = _
  rw [abc_r20, abc_w20]
  kernel_rfl
theorem abc_r22 : rounds abcBlock start 22 = ⟨3261099373, 2647034723, 3790736435, 4269243327, 3777329520, 2329577776, 2959311225, 3431569761⟩ := by
  show round (rounds abcBlock start 21) (key 21) (wd abcBlock 21) = _
  rw [abc_r21, abc_w21]
  kernel_rfl
theorem abc_r23 : rounds abcBlock start 23 = ⟨2812502591, 3261099373, 2647034723, 3790736435, 1240797514, 3777329520, 2329577776, 2959311225⟩ := by
  show round (rounds abcBlock start 22) (key 22) (wd abcBlock 22) = _
  rw [abc_r22, abc_w22]
  kernel_rfl
theorem abc_r24 : rounds abcBlock start 24 = ⟨3319086477, 2812502591, 3261099373, 2647034723, 2856829767, 1240797514, 3777329520, 2329577776⟩ := by
  show round (rounds abcBlock start 23) (key 23) (wd abcBlock 23) = _
  rw [abc_r23, abc_w23]
  kernel_rfl
theorem abc_r25 : rounds abcBlock start 25 = ⟨472655928, 3319086477, 2812502591, 3261099373, 673443729, 2856829767, 1240797514, 3777329520⟩ := by
  show round (rounds abcBlock start 24) (key 24) (wd abcBlock 24) = _
  rw [abc_r24, abc_w24]
  kernel_rfl
theorem abc_r26 : rounds abcBlock start 26 = ⟨3454534525, 472655928, 3319086477, 2812502591, 339230094, 673443729, 2856829767, 1240797514⟩ := by
  show round (rounds abcBlock start 25) (key 25) (wd abcBlock 25) = _
  rw [abc_r25, abc_w25]
  kernel_rfl
theorem abc_r27 : rounds abcBlock start 27 = ⟨3056518332, 3454534525, 472655928, 3319086477, 3343672598, 339230094, 673443729, 2856829767⟩ := by
  show round (rounds abcBlock start 26) (key 26) (wd abcBlock 26) = _
  rw [abc_r26, abc_w26]
  kernel_rfl
theorem abc_r28 : rounds abcBlock start 28 = ⟨2010346792, 3056518332, 3454534525, 472655928, 3992961016, 3343672598, 339230094, 673443729⟩ := by
  show round (rounds abcBlock start 27) (key 27) (wd abcBlock 27) = _
  rw [abc_r27, abc_w27]
  kernel_rfl
theorem abc_r29 : rounds abcBlock start 29 = ⟨909411017, 2010346792, 3056518332, 3454534525, 1628611511, 3992961016, 3343672598, 339230094⟩ := by
  show round (rounds abcBlock start 28) (key 28) (wd abcBlock 28) = _
  rw [abc_r28, abc_w28]
  kernel_rfl
theorem abc_r30 : rounds abcBlock start 30 = ⟨2684750640, 909411017, 2010346792, 3056518332, 2917635127, 1628611511, 3992961016, 3343672598⟩ := by
  show round (rounds abcBlock start 29) (key 29) (wd abcBlock 29) = _
  rw [abc_r29, abc_w29]
  kernel_rfl
theorem abc_r31 : rounds abcBlock start 31 = ⟨3935906338, 2684750640, 909411017, 2010346792, 17410874, 2917635127, 1628611511, 3992961016⟩ := by
  show round (rounds abcBlock start 30) (key 30) (wd abcBlock 30) = _
  rw [abc_r30, abc_w30]
  kernel_rfl
theorem abc_r32 : rounds abcBlock start 32 = ⟨1941126133, 3935906338, 2684750640, 909411017, 3126399250, 17410874, 2917635127, 1628611511⟩ := by
  show round (rounds abcBlock start 31) (key 31) (wd abcBlock 31) = _
  rw [abc_r31, abc_w31]
  kernel_rfl
theorem abc_r33 : rounds abcBlock start 33 = ⟨2564891911, 1941126133, 3935906338, 2684750640, 2631529974, 3126399250, 17410874, 2917635127⟩ := by
  show round (rounds abcBlock start 32) (key 32) (wd abcBlock 32) = _
  rw [abc_r32, abc_w32]
  kernel_rfl
theorem abc_r34 : rounds abcBlock start 34 = ⟨4267724277, 2564891911, 1941126133, 3935906338, 1495571923, 2631529974, 3126399250, 17410874⟩ := by
  show round (rounds abcBlock start 33) (key 33) (wd abcBlock 33) = _
  rw [abc_r33, abc_w33]
  kernel_rfl
theorem abc_r35 : rounds abcBlock start 35 = ⟨2846323596, 4267724277, 2564891911, 1941126133, 140458035, 1495571923, 2631529974, 3126399250⟩ := by
  show round (rounds abcBlock start 34) (key 34) (wd abcBlock 34) = _
  rw [abc_r34, abc_w34]
  kernel_rfl
theorem abc_r36 : rounds abcBlock start 36 = ⟨1705037796, 2846323596, 4267724277, 2564891911, 4105175766, 140458035, 1495571923, 2631529974⟩ := by
  show round (rounds abcBlock start 35) (key 35) (wd abcBlock 35) = _
  rw [abc_r35, abc_w35]
  kernel_rfl
theorem abc_r37 : rounds abcBlock start 37 = ⟨1101421745, 1705037796, 2846323596, 4267724277, 124953195, 4105175766, 140458035, 1495571923⟩ := by
  show round (rounds abcBlock start 36) (key 36) (wd abcBlock 36) = _
  rw [abc_r36, abc_w36]
  kernel_rfl
theorem abc_r38 : rounds abcBlock start 38 = ⟨887035396, 1101421745, 1705037796, 2846323596, 2768741693, 124953195, 4105175766, 140458035⟩ := by
  show round (rounds abcBlock start 37) (key 37) (wd abcBlock 37) = _
  rw [abc_r37, abc_w37]
  kernel_rfl
theorem abc_r39 : rounds abcBlock start 39 = ⟨1841658506, 887035396, 1101421745, 1705037796, 4034403272, 2768741693, 124953195, 4105175766⟩ := by
  show round (rounds abcBlock start 38) (key 38) (wd abcBlock 38) = _
  rw [abc_r38, abc_w38]
  kernel_rfl
theorem abc_r40 : rounds abcBlock start 40 = ⟨2045405306, 1841658506, 887035396, 1101421745, 519815328, 4034403272, 2768741693, 124953195⟩ := by
  show round (rounds abcBlock start 39) (key 39) (wd abcBlock 39) = _
  rw [abc_r39, abc_w39]
  kernel_rfl
theorem abc_r41 : rounds abcBlock start 41 = ⟨3597076326, 2045405306, 1841658506, 887035396, 641019235, 519815328, 4034403272, 2768741693⟩ := by
  show round (rounds abcBlock start 40) (key 40) (wd abcBlock 40) = _
  rw [abc_r40, abc_w40]
  kernel_rfl
theorem abc_r42 : rounds abcBlock start 42 = ⟨3745932591, 3597076326, 2045405306, 1841658506, 2206934801, 641019235, 519815328, 4034403272⟩ := by
  show round (rounds abcBlock start 41) (key 41) (wd abcBlock 41) = _
  rw [abc_r41, abc_w41]
  kernel_rfl
theorem abc_r43 : rounds abcBlock start 43 = ⟨397020670, 3745932591, 3597076326, 2045405306, 3737995029, 2206934801, 641019235, 519815328⟩ := by
  show round (rounds abcBlock start 42) (key 42) (wd abcBlock 42) = _
  rw [abc_r42, abc_w42]
  kernel_rfl
theorem abc_r44 : rounds abcBlock start 44 = ⟨2638983059, 397020670, 3745932591, 3597076326, 4255271982, 3737995029, 2206934801, 641019235⟩ := by
  show round (rounds abcBlock start 43) (key 43) (wd abcBlock 43) = _
  rw [abc_r43, abc_w43]
  kernel_rfl
theorem abc_r45 : rounds abcBlock start 45 = ⟨643991573, 2638983059, 397020670, 3745932591, 2819559920, 4255271982, 3737995029, 2206934801⟩ := by
  show round (rounds abcBlock start 44) (key 44) (wd abcBlock 44) = _
  rw [abc_r44, abc_w44]
  kernel_rfl
theorem abc_r46 : rounds abcBlock start 46 = ⟨1923828625, 643991573, 2638983059, 397020670, 3077922209, 2819559920, 4255271982, 3737995029⟩ := by
  show round (rounds abcBlock start 45) (key 45) (wd abcBlock 45) = _
  rw [abc_r45, abc_w45]
  kernel_rfl
theorem abc_r47 : rounds abcBlock start 47 = ⟨2706117808, 1923828625, 643991573, 2638983059, 3581645993, 3077922209, 2819559920, 4255271982⟩ := by
  show round (rounds abcBlock start 46) (key 46) (wd abcBlock 46) = _
  rw [abc_r46, abc_w46]
  kernel_rfl
theorem abc_r48 : rounds abcBlock start 48 = ⟨1098003085, 2706117808, 1923828625, 643991573, 4274981830, 3581645993, 3077922209, 2819559920⟩ := by
  show round (rounds abcBlock start 47) (key 47) (wd abcBlock 47) = _
  rw [abc_r47, abc_w47]
  kernel_rfl
theorem abc_r49 : rounds abcBlock start 49 = ⟨91585771, 1098003085, 2706117808, 1923828625, 3178315832, 4274981830, 3581645993, 3077922209⟩ := by
  show round (rounds abcBlock start 48) (key 48) (wd abcBlock 48) = _
  rw [abc_r48, abc_w48]
  kernel_rfl
theorem abc_r50 : rounds abcBlock start 50 = ⟨4045142696, 91585771, 1098003085, 2706117808, 1851537676, 3178315832, 4274981830, 3581645993⟩ := by
  show round (rounds abcBlock start 49) (key 49) (wd abcBlock 49) = _
  rw [abc_r49, abc_w49]
  kernel_rfl
theorem abc_r51 : rounds abcBlock start 51 = ⟨2047150241, 4045142696, 91585771, 1098003085, 1391578359, 1851537676, 3178315832, 4274981830⟩ := by
  show round (rounds abcBlock start 50) (key 50) (wd abcBlock 50) = _
  rw [abc_r50, abc_w50]
  kernel_rfl
theorem abc_r52 : rounds abcBlock start 52 = ⟨2288941602, 2047150241, 4045142696, 91585771, 1227037726, 1391578359, 1851537676, 3178315832⟩ := by
  show round (rounds abcBlock start 51) (key 51) (wd abcBlock 51) = _
  rw [abc_r51, abc_w51]
  kernel_rfl
theorem abc_r53 : rounds abcBlock start 53 = ⟨270520975, 2288941602, 2047150241, 4045142696, 1386118400, 1227037726, 1391578359, 1851537676⟩ := by
  show round (rounds abcBlock start 52) (key 52) (wd abcBlock 52) = _
  rw [abc_r52, abc_w52]
  kernel_rfl
theorem abc_r54 : rounds abcBlock start 54 = ⟨4117770203, 270520975, 2288941602, 2047150241, 2672265155, 1386118400, 1227037726, 1391578359⟩ := by
  show round (rounds abcBlock start 53) (key 53) (wd abcBlock 53) = _
  rw [abc_r53, abc_w53]
  kernel_rfl
theorem abc_r55 : rounds abcBlock start 55 = ⟨1053056219, 4117770203, 270520975, 2288941602, 3842906959, 2672265155, 1386118400, 1227037726⟩ := by
  show round (rounds abcBlock start 54) (key 54) (wd abcBlock 54) = _
  rw [abc_r54, abc_w54]
  kernel_rfl
theorem abc_r56 : rounds abcBlock start 56 = ⟨952932627, 1053056219, 4117770203, 270520975, 1422599787, 3842906959, 2672265155, 1386118400⟩ := by
  show round (rounds abcBlock start 55) (key 55) (wd abcBlock 55) = _
  rw [abc_r55, abc_w55]
  kernel_rfl
theorem abc_r57 : rounds abcBlock start 57 = ⟨4241590395, 952932627, 1053056219, 4117770203, 2606665836, 1422599787, 3842906959, 2672265155⟩ := by
  show round (rounds abcBlock start 56) (key 56) (wd abcBlock 56) = _
  rw [abc_r56, abc_w56]
  kernel_rfl
theorem abc_r58 : rounds abcBlock start 58 = ⟨3227702383, 4241590395, 952932627, 1053056219, 2118385806, 2606665836, 1422599787, 3842906959⟩ := by
  show round (rounds abcBlock start 57) (key 57) (wd abcBlock 57) = _
  rw [abc_r57, abc_w57]
  kernel_rfl
theorem abc_r59 : rounds abcBlock start 59 = ⟨4290184306, 3227702383, 4241590395, 952932627, 1837350854, 2118385806, 2606665836, 1422599787⟩ := by
  show round (rounds abcBlock start 58) (key 58) (wd abcBlock 58) = _
  rw [abc_r58, abc_w58]
  kernel_rfl
theorem abc_r60 : rounds abcBlock start 60 = ⟨3064893439, 4290184306, 3227702383, 4241590395, 2988158269, 1837350854, 2118385806, 2606665836⟩ := by
  show round (rounds abcBlock start 59) (key 59) (wd abcBlock 59) = _
  rw [abc_r59, abc_w59]
  kernel_rfl
theorem abc_r61 : rounds abcBlock start 61 = ⟨3093179625, 3064893439, 4290184306, 3227702383, 2518632596, 2988158269, 1837350854, 2118385806⟩ := by
  show round (rounds abcBlock start 60) (key 60) (wd abcBlock 60) = _
  rw [abc_r60, abc_w60]
  kernel_rfl
theorem abc_r62 : rounds abcBlock start 62 = ⟨80891244, 3093179625, 3064893439, 4290184306, 2492278198, 2518632596, 2988158269, 1837350854⟩ := by
  show round (rounds abcBlock start 61) (key 61) (wd abcBlock 61) = _
  rw [abc_r61, abc_w61]
  kernel_rfl
theorem abc_r63 : rounds abcBlock start 63 = ⟨3550093669, 80891244, 3093179625, 3064893439, 4212265488, 2492278198, 2518632596, 2988158269⟩ := by
  show round (rounds abcBlock start 62) (key 62) (wd abcBlock 62) = _
  rw [abc_r62, abc_w62]
  kernel_rfl
theorem abc_r64 : rounds abcBlock start 64 = ⟨1349398616, 3550093669, 80891244, 3093179625, 1593118500, 4212265488, 2492278198, 2518632596⟩ := by
  show round (rounds abcBlock start 63) (key 63) (wd abcBlock 63) = _
  rw [abc_r63, abc_w63]
  kernel_rfl
theorem abc_press : press start abcBlock = ⟨3128432319, 2399260650, 1094795486, 1571693091, 2953011619, 2518121116, 3021012833, 4060091821⟩ := by
  unfold press
  rw [abc_r64]
  kernel_rfl
theorem abc_sum : hex (sum abc) = [98, 97, 55, 56, 49, 54, 98, 102, 56, 102, 48, 49, 99, 102, 101, 97, 52, 49, 52, 49, 52, 48, 100, 101, 53, 100, 97, 101, 50, 50, 50, 51, 98, 48, 48, 51, 54, 49, 97, 51, 57, 54, 49, 55, 55, 97, 57, 99, 98, 52, 49, 48, 102, 102, 54, 49, 102, 50, 48, 48, 49, 53, 97, 100] := by
  unfold sum
  rw [abc_count]
  show hex (outs (press start (blk (pad abc) 0)) 8) = _
  rw [abc_block, abc_press]
  decide +kernel
end Go.Proofs.YtpimdbnhpbjlkaaGreatDoor.dg
