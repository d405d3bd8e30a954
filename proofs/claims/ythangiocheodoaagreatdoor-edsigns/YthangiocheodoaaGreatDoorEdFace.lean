/-
 Layer 19's laws: first, awake.
-/
import Derived.Test.YthangiocheodoaaGreatDoorPackFb
import Derived.Test.YthangiocheodoaaGreatDoorEdCode4
import Derived.Test.YthangiocheodoaaGreatDoorEdSlice
import Derived.Test.YthangiocheodoaaGreatDoorCurveMade
namespace Go.Proofs.YthangiocheodoaaGreatDoor.N
open Go.RowKit
set_option linter.unusedVariables false
set_option maxRecDepth 8192

theorem first_digits : digL aw0 32 = [0x9d, 0x61, 0xb1, 0x9d, 0xef, 0xfd, 0x5a, 0x60, 0xba, 0x84, 0x4a, 0xf4, 0x92, 0xec, 0x2c, 0xc4, 0x44, 0x49, 0xc5, 0x69, 0x7b, 0x32, 0x69, 0x19, 0x70, 0x3b, 0xac, 0x03, 0x1c, 0xae, 0x7f, 0x60] := by decide +kernel
theorem row_nil19 (w : World) : Row .u8 w none 0 0 (nI []) := ⟨rfl, Nat.le_refl _, Nat.zero_le _, fun _ => rfl, fun h => absurd h (Nat.lt_irrefl _)⟩
theorem dig_nil19 : Dig [] := fun x hx => absurd hx List.not_mem_nil
theorem dig_zero19 : Dig [0] := fun x hx => by rw [List.mem_singleton.1 hx]; decide
theorem awP_at (i : Nat) (hi : i < 32) (z : Nat) (h : awP / 256 ^ i % 256 = z) : (bA awP)[i]? = some (.int .u8 (z : Int)) := by rw [bA_get _ i hi, h]
def awSg : Nat := awQ + 2 ^ 256 * awS
theorem awSg_def : awSg = awQ + 2 ^ 256 * awS := by unfold awSg; exact Eq.refl _
theorem sg_of {sd : Nat} {m : List Nat} {R s : Nat} (h1 : ptN sd m = R) (h2 : sN sd m = s) : sgN sd m = R + 2 ^ 256 * s := by unfold sgN; rw [h1, h2]
theorem aw_sg : sgN aw0 [] = awSg := (sg_of aw_ptN aw_s).trans awSg_def.symm
theorem awSg_at (i : Nat) (hi : i < 64) (z : Nat) (h : awSg / 256 ^ i % 256 = z) : (hA awSg)[i]? = some (.int .u8 (z : Int)) := by rw [hA_get _ i hi, h]
theorem awA_on : OnC awA := by rw [← aw_pub]; exact pubP_on _
theorem awR_on : OnC awR := by rw [← aw_R]; exact rP_on _ _
theorem awA_pack : packN awA = awP := by rw [← aw_pub]; exact aw_pubN
theorem awR_pack : packN awR = awQ := by rw [← aw_R]; exact aw_ptN
theorem awS_lt : awS < oL := by decide
theorem aw_yes : ptimes awS pbase = psum awR (ptimes (kN (packN awR) (packN awA) []) awA) := by
 have h := sign_holds aw0 []
 rw [aw_s, aw_R, aw_ptN, aw_pubN, aw_pub] at h
 rw [awA_pack, awR_pack]
 exact h
theorem aw_no : ptimes awS pbase ≠ psum awR (ptimes (kN (packN awR) (packN awA) [0]) awA) := by
 rw [awA_pack, awR_pack]
 exact aw_not
theorem first_built : Tryz.prog.built 22 [(0, .int .u8 157), (1, .int .u8 97), (2, .int .u8 177), (3, .int .u8 157), (4, .int .u8 239), (5, .int .u8 253), (6, .int .u8 90), (7, .int .u8 96), (8, .int .u8 186), (9, .int .u8 132), (10, .int .u8 74), (11, .int .u8 244), (12, .int .u8 146), (13, .int .u8 236), (14, .int .u8 44), (15, .int .u8 196), (16, .int .u8 68), (17, .int .u8 73), (18, .int .u8 197), (19, .int .u8 105), (20, .int .u8 123), (21, .int .u8 50), (22, .int .u8 105), (23, .int .u8 25), (24, .int .u8 112), (25, .int .u8 59), (26, .int .u8 172), (27, .int .u8 3), (28, .int .u8 28), (29, .int .u8 174), (30, .int .u8 127), (31, .int .u8 96)] = some (bA aw0) := by
 rw [bA_def, first_digits]
 kernel_rfl
theorem first_any (w : World) : Calls Tryz.prog 28 #[] w fun e w' => e = .returned (.agg (bA aw0)) ∧ Below w.heap.size w w' := by
 have V0 := Vars.start w
 go_enter Tryz.func28, Tryz.ntmps28
 go_wp2_with (first
  | (refine zA V0 0 rfl rfl rfl ?_; intro w1 g2 V3)
  | (refine wpList_buildV 1 22 _ rfl rfl rfl (bA aw0) first_built ?_)
  | (refine zL V3 0 rfl _ (.tmp 1) rfl rfl rfl aw0 rfl rfl ?_; intro w4 V5))
 exact bodyPost_ret (resV1 rfl _ V5 0 rfl rfl Tryz.underlying22 Tryz.szB (bA_size _)) rfl ⟨rfl, V5.bel⟩
set_option maxHeartbeats 6400000 in
theorem awake19_any (w : World) (ho : OAt w) (hd : DAt w) : Calls Tryz.prog 9 #[] w fun e w' => e = .returned (.bool true) ∧ Below w.heap.size w w' := by
 have HF : Hid (∀ w, Rt Tryz.prog 28 #[] (.agg (bA aw0)) w) := fun w => first_any w
 have HP : Hid (∀ w, DAt w → Rt Tryz.prog 6 #[.agg (bA aw0)] (.agg (bA awP)) w) := fun w hd => by have h := public_any aw0 aw0_lt w hd; rw [aw_pubN] at h; exact h
 have HG : Hid (∀ w, OAt w → DAt w → Rt Tryz.prog 14 #[.agg (bA aw0), .slice none 0 0] (.agg (hA awSg)) w) := fun w ho hd => by have h := sign_any aw0 aw0_lt none 0 0 [] dig_nil19 w ho hd (row_nil19 w) (Nat.zero_le _); rw [aw_sg] at h; exact h
 have HV1 : Hid (∀ (w : World) (g : Nat), OAt w → DAt w → w.heap[g]? = some (.cells (hA awSg) 40 (0, 0)) → Rt Tryz.prog 18 #[.agg (bA awP), .slice none 0 0, .slice (some ⟨g, 0, none⟩) 64 64] (.int .i64 0) w) := fun w g ho hd hg => by
  have h := row_hA hg
  rw [show awSg = packN awR + 2 ^ 256 * awS by rw [awR_pack, awSg_def]] at h
  rw [← awA_pack]
  exact verify_hold awA_on awR_on awS_lt [] dig_nil19 aw_yes none _ 0 0 64 w ho hd (row_nil19 w) (Nat.zero_le _) h
 have HV2 : Hid (∀ (w : World) (g h : Nat), OAt w → DAt w → w.heap[g]? = some (.cells (hA awSg) 40 (0, 0)) → w.heap[h]? = some (.cells (arr .u8 [0]) 5 (0, 0)) → Rt Tryz.prog 18 #[.agg (bA awP), .slice (some ⟨h, 0, none⟩) 1 1, .slice (some ⟨g, 0, none⟩) 64 64] (.int .i64 191) w) := fun w g h ho hd hg hh => by
  have hr := row_hA hg
  rw [show awSg = packN awR + 2 ^ 256 * awS by rw [awR_pack, awSg_def]] at hr
  rw [← awA_pack]
  exact verify_fail awA_on awR_on awS_lt [0] dig_zero19 aw_no _ _ 1 1 64 w ho hd (row_made hh (by decide)) (by decide) hr
 have HV3 : Hid (∀ (w : World) (g : Nat), Rt Tryz.prog 18 #[.agg (bA awP), .slice none 0 0, .slice (some ⟨g, 1, none⟩) 63 63] (.int .i64 1) w) := fun w g => verify_len awP none _ 0 0 63 63 (by decide) w
 have B0 : Hid ((bA awP)[0]? = some (.int .u8 215)) := awP_at 0 (by decide) 215 (by decide +kernel)
 have B1 : Hid ((bA awP)[1]? = some (.int .u8 90)) := awP_at 1 (by decide) 90 (by decide +kernel)
 have B31 : Hid ((bA awP)[31]? = some (.int .u8 26)) := awP_at 31 (by decide) 26 (by decide +kernel)
 have C0 : Hid ((hA awSg)[0]? = some (.int .u8 229)) := awSg_at 0 (by decide) 229 (by decide +kernel)
 have C1 : Hid ((hA awSg)[1]? = some (.int .u8 86)) := awSg_at 1 (by decide) 86 (by decide +kernel)
 have C63 : Hid ((hA awSg)[63]? = some (.int .u8 11)) := awSg_at 63 (by decide) 11 (by decide +kernel)
 generalize awP = p at *
 generalize awSg = s at *
 generalize aw0 = a at *
 have V0 := Vars.start w
 go_enter Tryz.func9, Tryz.ntmps9
 go_wp2_with fail
 refine (HF.out w).mono ?_
 rintro e w1 ⟨rfl, q3⟩
 have V2 := V0.call q3
 clear q3 V0
 go_wp2_with fail
 refine (HP.out w1 (hd.of V2)).mono ?_
 rintro e w4 ⟨rfl, q6⟩
 have V5 := V2.call q6
 clear q6 V2
 go_wp2_with (first
  | (refine zA V5 1 rfl rfl rfl ?_; intro w7 g8 V9)
  | (refine zL V9 0 rfl _ (.tmp 4) rfl rfl rfl p rfl rfl ?_; intro w10 V11))
 refine (HF.out w10).mono ?_
 rintro e w12 ⟨rfl, q14⟩
 have V13 := V11.call q14
 clear q14 V11
 go_wp2_with fail
 refine (HG.out w12 (ho.of V13) (hd.of V13)).mono ?_
 rintro e w15 ⟨rfl, q17⟩
 have V16 := V13.call q17
 clear q17 V13
 go_wp2_with (first
  | (refine wpList_allocV V16 2 40 rfl rfl rfl (hA 0) zeroH ?_; intro w18 g19 V20)
  | (refine wpList_storeV V20 0 rfl _ (.tmp 6) rfl rfl rfl (hA s) rfl rfl Tryz.szH (hA_size _) (hA_size _) (hA_one _) ?_; intro w21 V22))
 refine av_open (fun w' => Vars w w' [⟨g19, 40, hA s⟩, ⟨g8, 22, bA p⟩]) (by kernel_rfl) ?_
 have V23 := V22.drew
 refine zR [0, 1, 2, 3, 4, 5, 6, 7, 8, 9, 10, 11, 12, 13, 14, 15, 16, 17, 18, 19, 20, 21, 22, 23, 24, 25, 26, 27, 28, 29, 30] 17 (by kernel_rfl) (fun _ _ _ _ _ h => h) V23 fun K hK => ?_
 refine zC (.pointer (some ⟨g8, 0, none⟩)) rfl (by rfl) (fun w' hw' => ?_) ?_
 ·go_simp
 go_simp
 refine zC (.int .u8 215) rfl (by rfl) (fun w' hw' => ?_) ?_
 ·have hcc := cell_byte hw' 1 rfl 0 B0.out
  go_simp
 go_simp
 refine zC (.bool true) rfl (by rfl) (fun w' hw' => ?_) ?_
 ·go_simp
 go_simp
 refine calm_move _ rfl (by rfl) rfl ?_
 go_simp
 refine zC (.pointer (some ⟨g8, 1, none⟩)) rfl (by rfl) (fun w' hw' => ?_) ?_
 ·go_simp
 go_simp
 refine zC (.int .u8 90) rfl (by rfl) (fun w' hw' => ?_) ?_
 ·have hcc := cell_byte hw' 1 rfl 1 B1.out
  go_simp
 go_simp
 refine zC (.bool true) rfl (by rfl) (fun w' hw' => ?_) ?_
 ·go_simp
 go_simp
 refine zC (.bool true) rfl (by rfl) (fun w' hw' => ?_) ?_
 ·go_simp
 go_simp
 refine calm_move _ rfl (by rfl) rfl ?_
 go_simp
 refine zC (.pointer (some ⟨g8, 31, none⟩)) rfl (by rfl) (fun w' hw' => ?_) ?_
 ·go_simp
 go_simp
 refine zC (.int .u8 26) rfl (by rfl) (fun w' hw' => ?_) ?_
 ·have hcc := cell_byte hw' 1 rfl 31 B31.out
  go_simp
 go_simp
 refine zC (.bool true) rfl (by rfl) (fun w' hw' => ?_) ?_
 ·go_simp
 go_simp
 refine zC (.bool true) rfl (by rfl) (fun w' hw' => ?_) ?_
 ·go_simp
 go_simp
 refine calm_move _ rfl (by rfl) rfl ?_
 go_simp
 refine zC (.pointer (some ⟨g19, 0, none⟩)) rfl (by rfl) (fun w' hw' => ?_) ?_
 ·go_simp
 go_simp
 refine zC (.int .u8 229) rfl (by rfl) (fun w' hw' => ?_) ?_
 ·have hcc := cell_byte hw' 0 rfl 0 C0.out
  go_simp
 go_simp
 refine zC (.bool true) rfl (by rfl) (fun w' hw' => ?_) ?_
 ·go_simp
 go_simp
 refine zC (.bool true) rfl (by rfl) (fun w' hw' => ?_) ?_
 ·go_simp
 go_simp
 refine calm_move _ rfl (by rfl) rfl ?_
 go_simp
 refine zC (.pointer (some ⟨g19, 1, none⟩)) rfl (by rfl) (fun w' hw' => ?_) ?_
 ·go_simp
 go_simp
 refine zC (.int .u8 86) rfl (by rfl) (fun w' hw' => ?_) ?_
 ·have hcc := cell_byte hw' 0 rfl 1 C1.out
  go_simp
 go_simp
 refine zC (.bool true) rfl (by rfl) (fun w' hw' => ?_) ?_
 ·go_simp
 go_simp
 refine zC (.bool true) rfl (by rfl) (fun w' hw' => ?_) ?_
 ·go_simp
 go_simp
 refine calm_move _ rfl (by rfl) rfl ?_
 go_simp
 refine zC (.pointer (some ⟨g19, 63, none⟩)) rfl (by rfl) (fun w' hw' => ?_) ?_
 ·go_simp
 go_simp
 refine zC (.int .u8 11) rfl (by rfl) (fun w' hw' => ?_) ?_
 ·have hcc := cell_byte hw' 0 rfl 63 C63.out
  go_simp
 go_simp
 refine zC (.bool true) rfl (by rfl) (fun w' hw' => ?_) ?_
 ·go_simp
 go_simp
 refine zC (.bool true) rfl (by rfl) (fun w' hw' => ?_) ?_
 ·go_simp
 go_simp
 refine calm_move _ rfl (by rfl) rfl ?_
 go_simp
 refine zC (.agg (bA p)) rfl (by rfl) (fun w' hw' => zB hw' 1 rfl _ rfl rfl) ?_
 go_simp
 refine zC (.slice (some ⟨g19, 0, none⟩) 64 64) rfl (by rfl) (fun w' hw' => exec_sliceH hw' 0 rfl _ rfl rfl) ?_
 go_simp
 refine calm_nil (hK.out _ ?_)
 clear hK K
 refine zO 31 16 (by kernel_rfl) rfl (by rfl) fun K hK => ?_
 go_simp
 refine (HV1.out w21.drew g19 (ho.of V23) (hd.of V23) (V23.at 0 rfl)).mono ?_
 rintro e w24 ⟨rfl, q26⟩
 have V25 := V23.call q26
 refine hK _ _ (V25) ?_
 clear hK K q26
 refine zR [32, 33, 34, 35, 37] 11 (by kernel_rfl) (fun _ _ _ _ _ h => h) V25 fun K hK => ?_
 go_simp
 refine zC (.bool true) rfl (by rfl) (fun w' hw' => ?_) ?_
 ·go_simp
 go_simp
 refine zC (.bool true) rfl (by rfl) (fun w' hw' => ?_) ?_
 ·go_simp
 go_simp
 refine calm_move _ rfl (by rfl) rfl ?_
 go_simp
 refine zC (.agg (bA p)) rfl (by rfl) (fun w' hw' => zB hw' 1 rfl _ rfl rfl) ?_
 go_simp
 refine zC (.slice (some ⟨g19, 0, none⟩) 64 64) rfl (by rfl) (fun w' hw' => exec_sliceH hw' 0 rfl _ rfl rfl) ?_
 go_simp
 refine calm_nil (hK.out _ ?_)
 clear hK K
 refine zO 36 10 (by kernel_rfl) rfl (by rfl) fun K hK => ?_
 refine wp_sliceV V25 43 24 1 _ rfl rfl 5 [0] (made1 0) (fun w27 g28 V29 => ?_)
 refine hK _ _ (V29.tail) ?_
 clear hK K
 try go_simp
 refine zO 38 9 (by kernel_rfl) rfl (by rfl) fun K hK => ?_
 go_simp
 refine (HV2.out w27 g19 g28 (ho.of V29) (hd.of V29) (V29.at 1 rfl) (V29.at 0 rfl)).mono ?_
 rintro e w31 ⟨rfl, q33⟩
 have V32 := V29.call q33
 refine hK _ _ (V32.tail) ?_
 clear hK K q33
 refine zR [39, 40, 41, 42, 43] 4 (by kernel_rfl) (fun _ _ _ _ _ h => h) (V32.tail) fun K hK => ?_
 go_simp
 refine zC (.bool true) rfl (by rfl) (fun w' hw' => ?_) ?_
 ·go_simp
 go_simp
 refine zC (.bool true) rfl (by rfl) (fun w' hw' => ?_) ?_
 ·go_simp
 go_simp
 refine calm_move _ rfl (by rfl) rfl ?_
 go_simp
 refine zC (.agg (bA p)) rfl (by rfl) (fun w' hw' => zB hw' 1 rfl _ rfl rfl) ?_
 go_simp
 refine zC (.slice (some ⟨g19, 1, none⟩) 63 63) rfl (by rfl) (fun w' hw' => exec_sliceHL g19 1 (by decide) _ _ rfl rfl rfl) ?_
 go_simp
 refine calm_nil (hK.out _ ?_)
 clear hK K
 refine zO 44 3 (by kernel_rfl) rfl (by rfl) fun K hK => ?_
 go_simp
 refine (HV3.out w31 g19).mono ?_
 rintro e w34 ⟨rfl, q36⟩
 have V35 := V32.call q36
 refine hK _ _ (V35.tail) ?_
 clear hK K q36
 refine zR [45, 46, 47] 0 (by kernel_rfl) (fun _ _ _ _ _ h => h) (V35.tail) fun K hK => ?_
 go_simp
 refine zC (.bool true) rfl (by rfl) (fun w' hw' => ?_) ?_
 ·go_simp
 go_simp
 refine zC (.bool true) rfl (by rfl) (fun w' hw' => ?_) ?_
 ·go_simp
 go_simp
 refine calm_assign _ rfl (by rfl) rfl ?_
 go_simp
 refine calm_nil (hK.out _ ?_)
 clear hK K
 refine wpAnyH_done (by kernel_rfl) ?_ _
 go_wp2_with fail
 go_ret
 exact ⟨rfl, V35.bel⟩
end Go.Proofs.YthangiocheodoaaGreatDoor.N
