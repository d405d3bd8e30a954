/-
  Layer 22: what the laws lean on: awake; two slots that are the same compared.
-/
import Derived.Test.YtagppgdigabbmaaSlotCode6
import Derived.Test.YtagppgdigabbmaaSlotCode7
import Derived.Test.YtagppgdigabbmaaBits
import Derived.Lib.Strings
namespace Go.Proofs.Ytagppgdigabbmaa.N
open Go.RowKit
set_option linter.unusedVariables false
set_option maxRecDepth 8192

set_option maxHeartbeats 1600000 in
theorem awake22_any (w : World) : Calls Try.prog 19 #[] w fun e w' => e = .returned (.bool true) ∧ Below w.heap.size w w' := by
  have HI1 : ∀ w, Calls Try.prog 13 #[.agg #[.int .i64 0, .int .i64 0, .bool false, .int .i64 0, .bool false], .int .i64 1] w fun e w' => e = .returned (.tuple #[.agg #[.int .i64 1, .int .i64 0, .bool false, .int .i64 7, .bool false], .int .i64 0]) ∧ Below w.heap.size w w' := fun w => sInstall_any sl0 1 w
  have HI0 : ∀ w, Calls Try.prog 13 #[.agg #[.int .i64 0, .int .i64 0, .bool false, .int .i64 0, .bool false], .int .i64 0] w fun e w' => e = .returned (.tuple #[.agg #[.int .i64 0, .int .i64 0, .bool false, .int .i64 0, .bool false], .int .i64 1]) ∧ Below w.heap.size w w' := fun w => sInstall_any sl0 0 w
  have HT : ∀ w, Calls Try.prog 11 #[.agg #[.int .i64 1, .int .i64 0, .bool false, .int .i64 7, .bool false], .int .i64 1] w fun e w' => e = .returned (.tuple #[.agg #[.int .i64 1, .int .i64 0, .bool false, .int .i64 6, .bool false], .int .i64 0]) ∧ Below w.heap.size w w' := fun w => sTry_any ⟨1, ⟨0, false⟩, ⟨7, false⟩⟩ 1 w
  have HO : ∀ w, Calls Try.prog 10 #[.agg #[.int .i64 1, .int .i64 0, .bool false, .int .i64 7, .bool false]] w fun e w' => ∃ v, e = .returned (.tuple #[v, .int .i64 0]) ∧ w'.ownsRow w.heap.size 3 1 v 1 ([1].map (Value.int .i64)) ∧ Below w.heap.size w w' := fun w => sOrder_yes (s := ⟨1, ⟨0, false⟩, ⟨7, false⟩⟩) w (by decide)
  have HB : ∀ w, Calls Try.prog 9 #[.agg #[.int .i64 0, .int .i64 0, .bool false, .int .i64 0, .bool false]] w fun e w' => ∃ v, e = .returned (.tuple #[.slice (some ⟨v, 0, none⟩) 9 9, .int .i64 0]) ∧ Row .u8 w' (some ⟨v, 0, none⟩) 9 9 [115, 108, 111, 116, 0, 0, 0, 0, 0] ∧ Below w.heap.size w w' := fun w => sBytes_yes (s := sl0) w (by decide)
  go_enter Try.func19, Try.ntmps19
  go_wp2_with fail
  refine (sStart_any _).mono ?_
  rintro e w1 ⟨rfl, q1⟩
  go_wp2_with fail
  refine (HI1 _).mono ?_
  rintro e w2 ⟨rfl, q2⟩
  have Q := btrans q1 q2
  clear q1 q2
  have V2 := Vars.start w2
  go_wp2_with (first
    | (refine wpList_allocV V2 1 26 rfl rfl rfl #[.int .i64 0, .int .i64 0, .bool false, .int .i64 0, .bool false] zeroSl ?_; intro w3 g3 V3)
    | (refine wpList_storeV V3 0 rfl _ (.tmp 14) rfl rfl rfl #[.int .i64 1, .int .i64 0, .bool false, .int .i64 7, .bool false] rfl rfl Try.szSl rfl rfl (slX_one _ _ _ _ _) ?_; intro w4 V4)
    | (refine wpList_exec rfl (exec_loadT V4 0 rfl _ rfl rfl Try.underlying26 rfl Try.szSl rfl) ?_))
  refine (HO _).mono ?_
  rintro e w5 ⟨v5, rfl, own5, q5⟩
  have V5 := V4.call q5
  obtain ⟨a5, c5, rfl, r5⟩ := row_of_owns own5
  clear own5 q5 V2 V3 V4 HO
  go_wp2_with (refine wpList_exec rfl (exec_loadT V5 0 rfl _ rfl rfl Try.underlying26 rfl Try.szSl rfl) ?_)
  refine (HT _).mono ?_
  rintro e w6 ⟨rfl, q6⟩
  have V6 := V5.call q6
  have r6 := r5.below q6 (Nat.le_refl _)
  have Q6 := btrans Q V6.bel
  have h3 : w6.heap[g3]? = some (.cells #[.int .i64 1, .int .i64 0, .bool false, .int .i64 7, .bool false] 26 (0, 0)) := V6.at 0 rfl
  have hl3 := lt_of_heap h3
  clear V5 r5 q6 HT V6 Q
  have V6 := Vars.start w6
  go_wp2_with (first
    | (refine wpList_allocV V6 5 26 rfl rfl rfl #[.int .i64 0, .int .i64 0, .bool false, .int .i64 0, .bool false] zeroSl ?_; intro w7 g7 V7)
    | (refine wpList_storeV V7 0 rfl _ (.tmp 24) rfl rfl rfl #[.int .i64 1, .int .i64 0, .bool false, .int .i64 6, .bool false] rfl rfl Try.szSl rfl rfl (slX_one _ _ _ _ _) ?_; intro w8 V8))
  refine (sStart_any _).mono ?_
  rintro e w9 ⟨rfl, q9⟩
  have V9 := V8.call q9
  clear V7 V8 q9
  go_wp2_with fail
  refine (HI0 _).mono ?_
  rintro e w10 ⟨rfl, q10⟩
  have V10 := V9.call q10
  clear V9 q10 HI0 HI1
  go_wp2_with (first
    | (refine wpList_allocV V10 7 26 rfl rfl rfl #[.int .i64 0, .int .i64 0, .bool false, .int .i64 0, .bool false] zeroSl ?_; intro w11 g11 V11)
    | (refine wpList_storeV V11 0 rfl _ (.tmp 29) rfl rfl rfl #[.int .i64 0, .int .i64 0, .bool false, .int .i64 0, .bool false] rfl rfl Try.szSl rfl rfl (slX_one _ _ _ _ _) ?_; intro w12 V12))
  refine (sStart_any _).mono ?_
  rintro e w13 ⟨rfl, q13⟩
  have V13 := V12.call q13
  clear V10 V11 V12 q13
  go_wp2_with fail
  refine (HB _).mono ?_
  rintro e w14 ⟨v14, rfl, r14, q14⟩
  have V14 := V13.call q14
  clear V13 q14 HB
  have rr := r6.below V14.bel (Nat.le_refl _)
  have hh : w14.heap[g3]? = some (.cells #[.int .i64 1, .int .i64 0, .bool false, .int .i64 7, .bool false] 26 (0, 0)) := by rw [V14.bel.block g3 hl3]; exact h3
  have b0 : w14.cell? ⟨g3, 0, none⟩ = some (.int .i64 1) := man_c hh 0
  have b3 : w14.cell? ⟨g3, 3, none⟩ = some (.int .i64 7) := man_c hh 3
  have d3 : w14.cell? ⟨g7, 3, none⟩ = some (.int .i64 6) := man_c (V14.at 1 rfl) 3
  have hl7 := lt_of_heap (V14.at 1 rfl)
  replace hl3 := lt_of_heap hh
  replace Q6 := btrans Q6 V14.bel
  have rn := row_new .i64 w14 3 w14.heap.size rfl [1] 1 rfl (by unfold maxLen; omega) #[.int .i64 1] rfl
  clear V14 r6 h3 hh
  go_wp2_with fail
  refine (ints_any _ _ _ _ _ _ _ _ _ (rr.below (below_one w14 _) (Nat.le_refl _)) rn).mono ?_
  rintro e w15 ⟨rfl, q15⟩
  have q16 := btrans (below_one w14 (.cells #[.int .i64 1] 3)) q15
  have d4 : w15.cell? ⟨g7, 3, none⟩ = some (.int .i64 6) := by rw [q16.cell hl7]; exact d3
  have kc := conv_row (P := Try.prog) Try.underlying29 Try.underlying5 Try.underlying9 (r14.below q16 (Nat.le_refl _))
  have hstr : (strOfNums [115, 108, 111, 116, 0, 0, 0, 0, 0]).toList = [115, 108, 111, 116, 0, 0, 0, 0, 0] := by rw [Lib.toList_data]; rfl
  have HQ : Hid (Below w.heap.size w w15) := btrans Q6 q16
  clear q15 q16 Q6 r14 rr rn d3 b0 b3 hl3 hl7
  go_wp2_with fail
  go_ret
  exact ⟨rfl, HQ.out⟩
end Go.Proofs.Ytagppgdigabbmaa.N
