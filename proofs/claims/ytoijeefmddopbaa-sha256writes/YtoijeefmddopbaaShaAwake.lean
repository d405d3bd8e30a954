/-
  Layer 13: awake: the chapter's examples.
-/
import Derived.Test.YtoijeefmddopbaaShaHash7
import Derived.Lib.SlBytesConst
import Derived.Deep.CutRange
namespace Go.Proofs.Ytoijeefmddopbaa
open Go.RowKit
set_option linter.unusedVariables false
set_option maxRecDepth 8192

set_option maxHeartbeats 1600000 in
theorem awake_gen (sm K SS : List Nat) (h0 : sm[0]?.getD 0 = 186) (h1 : sm[1]?.getD 0 = 120) (h31 : sm[31]?.getD 0 = 173) (hl : sm.length = 32) (hK : K.length = 64) (hk0 : K[0]?.getD 0 = 1116352408) (hS : SS.length = 8) (hs0 : SS[0]?.getD 0 = 1779033703)
    (cSum : ∀ (w : World) (b : Nat), Row .u8 w (some ⟨b, 0, none⟩) 3 3 (nI [97, 98, 99]) → b < w.heap.size → Calls Try.prog 21 #[.slice (some ⟨b, 0, none⟩) 3 3] w fun e w' => e = .returned (.agg ((nI sm).map (Value.int .u8)).toArray) ∧ Below w.heap.size w w')
    (cSt : ∀ w, Calls Try.prog 13 #[] w fun e w' => e = .returned (.agg ((nI SS).map (Value.int .u32)).toArray) ∧ Below w.heap.size w w')
    (cR : ∀ w, Calls Try.prog 14 #[] w fun e w' => e = .returned (.agg ((nI K).map (Value.int .u32)).toArray) ∧ Below w.heap.size w w')
    (w : World) : Calls Try.prog 10 #[] w fun e w' => e = .returned (.bool true) ∧ Below w.heap.size w w' := by
  have HL : Hid ((nI sm).length = 32) := by show _ = _; rw [nI_length, hl]
  have HK : Hid ((nI K).length = 64) := by show _ = _; rw [nI_length, hK]
  have HS : Hid ((nI SS).length = 8) := by show _ = _; rw [nI_length, hS]
  have HV : Hid (sm[0]?.getD 0 = 186 ∧ sm[1]?.getD 0 = 120 ∧ sm[31]?.getD 0 = 173 ∧ K[0]?.getD 0 = 1116352408 ∧ SS[0]?.getD 0 = 1779033703) := ⟨h0, h1, h31, hk0, hs0⟩
  clear h0 h1 h31 hl hK hk0 hS hs0
  have r0 : Row .u8 (w.alloc (.cells #[.int .u8 97, .int .u8 98, .int .u8 99] 5 (3, 4))) (some ⟨w.heap.size, 0, none⟩) 3 3 (nI [97, 98, 99]) := by
    refine ⟨rfl, Nat.le_refl _, by decide, by simp, fun _ => ⟨w.heap.size, 0, rfl, by simp, fun i hi => ?_⟩⟩
    rw [cell_of_row _ _ _ _ _ _ (heap_alloc_last w _)]
    rcases (show i = 0 ∨ i = 1 ∨ i = 2 by omega) with rfl | rfl | rfl <;> rfl
  have q0 := below_one w (.cells #[.int .u8 97, .int .u8 98, .int .u8 99] 5 (3, 4))
  have kc := fun (w : World) (C : Array Value) (n c : Nat) => Lib.run_convert_bytes_const (P := Try.prog) w 36 5 C n c Try.underlying36 Try.underlying5
  go_enter Try.func10, Try.ntmps10
  go_wp2_with fail
  refine (cSum _ w.heap.size r0 (by simp)).mono ?_
  rintro e w1 ⟨rfl, q1⟩
  replace q1 : Below w.heap.size w w1 := q0.trans (q1.mono q0.size)
  clear r0 q0 cSum
  have s1 := q1.size
  have A1 := Arr.new w1 43 .u8 (nI (List.replicate 32 0)) _ rfl
  go_wp2_with (refine wpList_storeA rfl 43 _ _ rfl w1.heap.size (nI sm) rfl rfl A1 Try.size43 (by decide +kernel) HL.out ?_)
  replace A1 := A1.whole (nI sm)
  replace q1 := below_setRow (q1.alloc s1 (.cells ((nI (List.replicate 32 0)).map (Value.int .u8)).toArray 43)) s1 ((nI sm).map (Value.int .u8)).toArray
  change Calls Try.prog _ _ ((w1.alloc (.cells ((nI (List.replicate 32 0)).map (Value.int .u8)).toArray 43)).setRow w1.heap.size ((nI sm).map (Value.int .u8)).toArray) _
  generalize (w1.alloc (.cells ((nI (List.replicate 32 0)).map (Value.int .u8)).toArray 43)).setRow w1.heap.size ((nI sm).map (Value.int .u8)).toArray = w2 at *
  generalize w1.heap.size = g1 at *
  refine (cSt _).mono ?_
  rintro e w3 ⟨rfl, q3⟩
  replace A1 := A1.below q3 A1.lt
  replace q1 := q1.trans (q3.mono q1.size)
  clear q3 cSt
  have s3 := q1.size
  have A2 := Arr.new w3 30 .u32 (nI (List.replicate 8 0)) _ rfl
  have hg1 := A1.lt
  go_wp2_with (refine wpList_storeA rfl 30 _ _ rfl w3.heap.size (nI SS) rfl rfl A2 Try.size30 (by decide +kernel) HS.out ?_)
  replace A2 := A2.whole (nI SS)
  replace A1 := (A1.alloc (.cells ((nI (List.replicate 8 0)).map (Value.int .u32)).toArray 30)).whole_other ((nI SS).map (Value.int .u32)).toArray (show g1 ≠ w3.heap.size by omega)
  replace q1 := below_setRow (q1.alloc s3 (.cells ((nI (List.replicate 8 0)).map (Value.int .u32)).toArray 30)) s3 ((nI SS).map (Value.int .u32)).toArray
  change Calls Try.prog _ _ ((w3.alloc (.cells ((nI (List.replicate 8 0)).map (Value.int .u32)).toArray 30)).setRow w3.heap.size ((nI SS).map (Value.int .u32)).toArray) _
  generalize (w3.alloc (.cells ((nI (List.replicate 8 0)).map (Value.int .u32)).toArray 30)).setRow w3.heap.size ((nI SS).map (Value.int .u32)).toArray = w4 at *
  generalize w3.heap.size = g2 at *
  refine (cR _).mono ?_
  rintro e w5 ⟨rfl, q5⟩
  replace A1 := A1.below q5 A1.lt
  replace A2 := A2.below q5 A2.lt
  replace q1 := q1.trans (q5.mono q1.size)
  clear q5 cR
  have s5 := q1.size
  have A3 := Arr.new w5 32 .u32 (nI (List.replicate 64 0)) _ rfl
  have l1 := A1.lt
  have l2 := A2.lt
  have B1 := (A1.alloc (.cells ((nI (List.replicate 64 0)).map (Value.int .u32)).toArray 32)).whole_other ((nI K).map (Value.int .u32)).toArray (show g1 ≠ w5.heap.size by omega)
  have B2 := (A2.alloc (.cells ((nI (List.replicate 64 0)).map (Value.int .u32)).toArray 32)).whole_other ((nI K).map (Value.int .u32)).toArray (show g2 ≠ w5.heap.size by omega)
  have B3 := A3.whole (nI K)
  have qE := below_setRow (q1.alloc s5 (.cells ((nI (List.replicate 64 0)).map (Value.int .u32)).toArray 32)) s5 ((nI K).map (Value.int .u32)).toArray
  obtain ⟨v0, v1, v31, vk, vs⟩ := HV.out
  have c0 := B1.cell 0 (by rw [HL.out]; decide)
  have c1 := B1.cell 1 (by rw [HL.out]; decide)
  have c31 := B1.cell 31 (by rw [HL.out]; decide)
  have cs := B2.cell 0 (by rw [HS.out]; decide)
  have ck := B3.cell 0 (by rw [HK.out]; decide)
  rw [nI_get, v0, show ((186 : Nat) : Int) = 186 from rfl] at c0
  rw [nI_get, v1, show ((120 : Nat) : Int) = 120 from rfl] at c1
  rw [nI_get, v31, show ((173 : Nat) : Int) = 173 from rfl] at c31
  rw [nI_get, vk, show ((1116352408 : Nat) : Int) = 1116352408 from rfl] at ck
  rw [nI_get, vs, show ((1779033703 : Nat) : Int) = 1779033703 from rfl] at cs
  clear v0 v1 v31 vk vs
  go_upto_region 4 with (refine wpList_storeA rfl 32 _ _ rfl w5.heap.size (nI K) rfl rfl A3 Try.size32 (by decide +kernel) HK.out ?_)
  rw [show ∀ a : Act, a.put none undef = a from fun _ => rfl]
  change Code.wp _ _ _ _ ((w5.alloc (.cells ((nI (List.replicate 64 0)).map (Value.int .u32)).toArray 32)).setRow w5.heap.size ((nI K).map (Value.int .u32)).toArray)
  generalize (w5.alloc (.cells ((nI (List.replicate 64 0)).map (Value.int .u32)).toArray 32)).setRow w5.heap.size ((nI K).map (Value.int .u32)).toArray = w6 at *
  clear A1 A2 A3 B1 B2 B3
  go_wp2
  go_ret
  exact ⟨rfl, qE⟩
theorem KL_first : KL[0]?.getD 0 = 1116352408 := by decide +kernel
theorem SL_first : SL[0]?.getD 0 = 1779033703 := by decide +kernel
theorem awake13_any (w : World) : Calls Try.prog 10 #[] w fun e w' => e = .returned (.bool true) ∧ Below w.heap.size w w' :=
  awake_gen (sumL KL S0 [97, 98, 99]) KL SL abc_sum.1 abc_sum.2.1 abc_sum.2.2 rfl KL_length KL_first SL_length SL_first
    (fun w b hr hb => sum13_any w [97, 98, 99] (some ⟨b, 0, none⟩) 3 3 hr (by decide) (by decide)) start_any rounds_any w
end Go.Proofs.Ytoijeefmddopbaa
