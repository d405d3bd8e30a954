/-
  Layer 19's laws: Forms.
-/
import Derived.Test.YthangiocheodoaaDoorEdFace
namespace Go.Proofs.YthangiocheodoaaDoor.N
open Go.RowKit
set_option linter.unusedVariables false
set_option maxRecDepth 8192

set_option maxHeartbeats 800000 in
theorem eforms_long (sd : Nat) (pm : Option Addr) (lm km : Nat) (w : World) (hl : 1000 < lm) : Calls Tryd.prog 5 #[.agg (bA sd), .slice pm lm km] w fun e w' => e = .returned (.bool true) ∧ Below w.heap.size w w' := by
  have hl9 : (1000 : Int) < (lm : Int) := by omega
  have V0 := Vars.start w
  go_enter Tryd.func5, Tryd.ntmps5
  go_wp2_with (refine wpList_boxV V0 2 22 _ rfl rfl rfl (bA sd) rfl ?_; intro w1 g2 V3)
  go_ret
  exact ⟨rfl, V3.bel⟩
set_option maxHeartbeats 6400000 in
theorem eforms_core (sd : Nat) (hs : sd < 2 ^ 256) (m : List Nat) (dm : Dig m) (pm : Option Addr) (lm km : Nat) (w : World) (ho : OAt w) (hd : DAt w) (hm : Row .u8 w pm lm km (nI m)) (h0 : lm ≤ 1000) : Calls Tryd.prog 5 #[.agg (bA sd), .slice pm lm km] w fun e w' => e = .returned (.bool true) ∧ Below w.heap.size w w' := by
  have HG : Hid (∀ (w' : World) (ao : Option Addr) (co : Nat), OAt w' → DAt w' → Row .u8 w' ao lm co (nI m) → Calls Tryd.prog 6 #[.agg (bA sd), .slice ao lm co] w' fun e w'' => e = .returned (.agg (hA (sgN sd m))) ∧ Below w'.heap.size w' w'') := fun w' ao co ho hd hr => sign_any sd hs ao lm co m dm w' ho hd hr (by omega)
  have HP : Hid (∀ w, DAt w → Calls Tryd.prog 8 #[.agg (bA sd)] w fun e w' => e = .returned (.agg (bA (pubN sd))) ∧ Below w.heap.size w w') := fun w hd => public_any sd hs w hd
  have op := pubP_on sd
  have orr := rP_on sd m
  have HV1 : pubN sd = packN (pubP sd) := rfl
  have HV0 : sgN sd m = ptN sd m + 2 ^ 256 * sN sd m := rfl
  have HV2 : ptN sd m = packN (rP sd m) := rfl
  have HU1 : Hid (∀ w, DAt w → Calls Tryd.prog 11 #[.agg (bA (pubN sd))] w fun e w' => e = .returned (.tuple #[.agg (pA (pubP sd).x.val (pubP sd).y.val), .int .i64 0]) ∧ Below w.heap.size w w') := fun w hd => cUnpack_yes op w hd
  have HU2 : Hid (∀ w, DAt w → Calls Tryd.prog 11 #[.agg (bA (ptN sd m))] w fun e w' => e = .returned (.tuple #[.agg (pA (rP sd m).x.val (rP sd m).y.val), .int .i64 0]) ∧ Below w.heap.size w w') := fun w hd => cUnpack_yes orr w hd
  have HK : Hid (∀ w, DAt w → Calls Tryd.prog 12 #[.agg (pA (rP sd m).x.val (rP sd m).y.val)] w fun e w' => e = .returned (.tuple #[.agg (bA (ptN sd m)), .int .i64 0]) ∧ Below w.heap.size w w') := fun w hd => cPack_yes orr w hd
  have HO1 : Hid (∀ w, DAt w → Calls Tryd.prog 13 #[.agg (pA (pubP sd).x.val (pubP sd).y.val)] w fun e w' => e = .returned (.bool true) ∧ Below w.heap.size w w') := fun w hd => on_yes op w hd
  have HO2 : Hid (∀ w, DAt w → Calls Tryd.prog 13 #[.agg (pA (rP sd m).x.val (rP sd m).y.val)] w fun e w' => e = .returned (.bool true) ∧ Below w.heap.size w w') := fun w hd => on_yes orr w hd
  have HI : Hid (∀ w, OAt w → Calls Tryd.prog 14 #[.agg (bA (sN sd m))] w fun e w' => e = .returned (.bool true) ∧ Below w.heap.size w w') := fun w ho => by have h := is18_any _ w ho (sN_lt256 sd m); rwa [decide_eq_true (sN_lt sd m)] at h
  have e0 : sgN sd m % 2 ^ 256 = ptN sd m := two_low (ptN_lt sd m)
  have e1 : sgN sd m / 2 ^ 256 = sN sd m := two_high (ptN_lt sd m)
  have HP0 : Hid (Part (hA (sgN sd m)) 0 (bA (ptN sd m))) := by have h := hA_part0 (sgN sd m); rwa [e0] at h
  have HP32 : Hid (Part (hA (sgN sd m)) 32 (bA (sN sd m))) := by have h := hA_part32 (sgN sd m); rwa [e1] at h
  have HR0 : Hid (∀ (w : World) (g : Nat), w.heap[g]? = some (.cells (hA (sgN sd m)) 24 (0, 0)) → Row .u8 w (some ⟨g, 0, none⟩) 32 64 (nI (digL (ptN sd m) 32))) := fun w g hg => by have h := row_hA0 hg; rwa [e0] at h
  have HR1 : Hid (∀ (w : World) (g : Nat), w.heap[g]? = some (.cells (bA (ptN sd m)) 22 (0, 0)) → Row .u8 w (some ⟨g, 0, none⟩) 32 32 (nI (digL (ptN sd m) 32))) := fun w g hg => row_bA hg
  have HL : Hid (sgN sd m < 2 ^ 256 * 2 ^ 256) := two_lt (ptN_lt sd m) (sN_lt256 sd m)
  have hl9 : ¬ (1000 : Int) < (lm : Int) := by omega
  clear e0 e1 HV0 HV1 HV2 op orr hs dm
  generalize digL (ptN sd m) 32 = zp at *
  generalize sgN sd m = sg at *
  generalize ptN sd m = pt at *
  generalize sN sd m = s at *
  generalize pubN sd = pu at *
  generalize (pubP sd).x.val = qx at *
  generalize (pubP sd).y.val = qy at *
  generalize (rP sd m).x.val = rx at *
  generalize (rP sd m).y.val = ry at *
  have V0 := Vars.start w
  go_enter Tryd.func5, Tryd.ntmps5
  go_wp2_with (first
    | (refine wpList_boxV V0 2 22 _ rfl rfl rfl (bA sd) rfl ?_; intro w1 g2 V3)
    | (refine wpList_loadV V3 0 rfl 16 _ rfl rfl rfl rfl Tryd.underlying22 Tryd.szB (bA_size _) ?_))
  refine (HG.out w1 pm km (ho.of V3) (hd.of V3) (hm.below V3.bel (Nat.le_refl _))).mono ?_
  rintro e w4 ⟨rfl, q6⟩
  have V5 := V3.call q6
  clear q6 V3
  go_wp2_with (first
    | (refine wpList_allocV V5 5 24 rfl rfl rfl (hA 0) zeroH ?_; intro w7 g8 V9)
    | (refine wpList_storeV V9 0 rfl _ (.tmp 18) rfl rfl rfl (hA sg) rfl rfl Tryd.szH (hA_size _) (hA_size _) (hA_one _) ?_; intro w10 V11)
    | (refine wpList_loadV V11 1 rfl 19 _ rfl rfl rfl rfl Tryd.underlying22 Tryd.szB (bA_size _) ?_))
  refine (HP.out w10 (hd.of V11)).mono ?_
  rintro e w12 ⟨rfl, q14⟩
  have V13 := V11.call q14
  clear q14 V11
  go_wp2_with (first
    | (refine wpList_allocV V13 6 22 rfl rfl rfl (bA 0) zeroB ?_; intro w15 g16 V17)
    | (refine wpList_storeV V17 0 rfl _ (.tmp 20) rfl rfl rfl (bA pu) rfl rfl Tryd.szB (bA_size _) (bA_size _) (bA_one _) ?_; intro w18 V19)
    | (refine wpList_loadV V19 0 rfl 22 _ rfl rfl rfl rfl Tryd.underlying22 Tryd.szB (bA_size _) ?_))
  refine (HU1.out w18 (hd.of V19)).mono ?_
  rintro e w20 ⟨rfl, q22⟩
  have V21 := V19.call q22
  clear q22 V19
  go_wp2_with (first
    | (refine wpList_allocV V21 7 34 rfl rfl rfl (pA 0 0) zeroP ?_; intro w23 g24 V25)
    | (refine wpList_storeV V25 0 rfl _ (.tmp 24) rfl rfl rfl (pA qx qy) rfl rfl Tryd.szP (pA_size _ _) (pA_size _ _) (pA_one _ _) ?_; intro w26 V27)
    | (refine wpList_exec rfl (exec_sliceHU g8 32 (by decide) _ _ rfl rfl rfl) ?_)
    | (refine wpList_exec rfl (exec_toArr _ rfl Tryd.underlying22 (by decide) rfl) ?_)
    | (refine wpList_exec rfl (exec_loadP V27 2 rfl 0 (HP0.out) _ rfl rfl Tryd.underlying22 Tryd.szB (bA_size _)) ?_))
  refine (HU2.out w26 (hd.of V27)).mono ?_
  rintro e w28 ⟨rfl, q30⟩
  have V29 := V27.call q30
  clear q30 V27
  go_wp2_with (first
    | (refine wpList_allocV V29 9 34 rfl rfl rfl (pA 0 0) zeroP ?_; intro w31 g32 V33)
    | (refine wpList_storeV V33 0 rfl _ (.tmp 31) rfl rfl rfl (pA rx ry) rfl rfl Tryd.szP (pA_size _ _) (pA_size _ _) (pA_one _ _) ?_; intro w34 V35)
    | (refine wpList_exec rfl (exec_loadS V35 0 rfl _ rfl rfl Tryd.underlying34 Tryd.szP (pA_size _ _)) ?_))
  refine (HK.out w34 (hd.of V35)).mono ?_
  rintro e w36 ⟨rfl, q38⟩
  have V37 := V35.call q38
  clear q38 V35
  go_wp2_with (first
    | (refine wpList_allocV V37 11 22 rfl rfl rfl (bA 0) zeroB ?_; intro w39 g40 V41)
    | (refine wpList_storeV V41 0 rfl _ (.tmp 36) rfl rfl rfl (bA pt) rfl rfl Tryd.szB (bA_size _) (bA_size _) (bA_one _) ?_; intro w42 V43))
  refine av_open (fun w' => Vars w w' [⟨g40, 22, bA pt⟩, ⟨g32, 34, pA rx ry⟩, ⟨g24, 34, pA qx qy⟩, ⟨g16, 22, bA pu⟩, ⟨g8, 24, hA sg⟩, ⟨g2, 22, bA sd⟩]) (by kernel_rfl) ?_
  have V44 := V43.drew
  refine av_op (i := 0) (fuel := 43) (by kernel_rfl) rfl (by rfl) (fun K hK => ?_)
  go_simp
  refine (awake19_any w42.drew (ho.of V44) (hd.of V44)).mono ?_
  rintro e w45 ⟨rfl, q47⟩
  have V46 := V44.call q47
  refine hK _ _ (V46) ?_
  clear hK K q47
  refine held_reads (rs := [1, 2, 3, 4, 5, 6, 7, 8, 9, 10, 11, 12, 13, 14, 15, 16]) (fuel := 27) (by kernel_rfl) (fun c d v a w h => by cases d <;> exact h) (by kernel_rfl) (V46) (fun K hK => ?_)
  go_simp
  refine calm_move _ rfl (by rfl) rfl ?_
  go_simp
  refine calm_move _ rfl (by rfl) rfl ?_
  go_simp
  refine calm_do (.bool true) rfl (by rfl) (fun w' hw' => ?_) ?_
  · go_simp
  go_simp
  refine calm_do (.bool true) rfl (by rfl) (fun w' hw' => ?_) ?_
  · go_simp
  go_simp
  refine calm_move _ rfl (by rfl) rfl ?_
  go_simp
  refine calm_move _ rfl (by rfl) rfl ?_
  go_simp
  refine calm_move _ rfl (by rfl) rfl ?_
  go_simp
  refine calm_do (.bool true) rfl (by rfl) (fun w' hw' => ?_) ?_
  · go_simp
  go_simp
  refine calm_do (.bool true) rfl (by rfl) (fun w' hw' => ?_) ?_
  · go_simp
  go_simp
  refine calm_move _ rfl (by rfl) rfl ?_
  go_simp
  refine calm_move _ rfl (by rfl) rfl ?_
  go_simp
  refine calm_move _ rfl (by rfl) rfl ?_
  go_simp
  refine calm_do (.bool true) rfl (by rfl) (fun w' hw' => ?_) ?_
  · go_simp
  go_simp
  refine calm_do (.bool true) rfl (by rfl) (fun w' hw' => ?_) ?_
  · go_simp
  go_simp
  refine calm_move _ rfl (by rfl) rfl ?_
  go_simp
  refine calm_do (.agg (pA qx qy)) rfl (by rfl) (fun w' hw' => exec_loadS hw' 2 rfl _ rfl rfl Tryd.underlying34 Tryd.szP (pA_size _ _)) ?_
  go_simp
  refine calm_nil (hK.out _ ?_)
  clear hK K
  refine av_op (i := 17) (fuel := 26) (by kernel_rfl) rfl (by rfl) (fun K hK => ?_)
  go_simp
  refine (HO1.out w45 (hd.of V46)).mono ?_
  rintro e w48 ⟨rfl, q50⟩
  have V49 := V46.call q50
  refine hK _ _ (V49) ?_
  clear hK K q50
  refine held_reads (rs := [18, 19, 20]) (fuel := 23) (by kernel_rfl) (fun c d v a w h => by cases d <;> exact h) (by kernel_rfl) (V49) (fun K hK => ?_)
  go_simp
  refine calm_do (.bool true) rfl (by rfl) (fun w' hw' => ?_) ?_
  · go_simp
  go_simp
  refine calm_move _ rfl (by rfl) rfl ?_
  go_simp
  refine calm_do (.agg (pA rx ry)) rfl (by rfl) (fun w' hw' => exec_loadS hw' 1 rfl _ rfl rfl Tryd.underlying34 Tryd.szP (pA_size _ _)) ?_
  go_simp
  refine calm_nil (hK.out _ ?_)
  clear hK K
  refine av_op (i := 21) (fuel := 22) (by kernel_rfl) rfl (by rfl) (fun K hK => ?_)
  go_simp
  refine (HO2.out w48 (hd.of V49)).mono ?_
  rintro e w51 ⟨rfl, q53⟩
  have V52 := V49.call q53
  refine hK _ _ (V52) ?_
  clear hK K q53
  refine held_reads (rs := [22, 23, 24, 25, 26, 27, 28, 29, 30, 31, 32, 33]) (fuel := 10) (by kernel_rfl) (fun c d v a w h => by cases d <;> exact h) (by kernel_rfl) (V52) (fun K hK => ?_)
  go_simp
  refine calm_do (.bool true) rfl (by rfl) (fun w' hw' => ?_) ?_
  · go_simp
  go_simp
  refine calm_move _ rfl (by rfl) rfl ?_
  go_simp
  refine calm_do (.slice (some ⟨g40, 0, none⟩) 32 32) rfl (by rfl) (fun w' hw' => exec_sliceB hw' 0 rfl _ rfl rfl) ?_
  go_simp
  refine calm_do (.string (strOfNums (nI zp))) rfl (by rfl) (fun w' hw' => ?_) ?_
  · have hcv := conv_row Tryd.underlying23 Tryd.underlying5 Tryd.underlying9 (HR1.out w' _ (hw'.at 0 rfl))
    go_simp
  go_simp
  refine calm_do (.slice (some ⟨g8, 0, none⟩) 32 64) rfl (by rfl) (fun w' hw' => exec_sliceHU g8 32 (by decide) _ _ rfl rfl rfl) ?_
  go_simp
  refine calm_do (.string (strOfNums (nI zp))) rfl (by rfl) (fun w' hw' => ?_) ?_
  · have hcv := conv_row Tryd.underlying23 Tryd.underlying5 Tryd.underlying9 (HR0.out w' _ (hw'.at 4 rfl))
    go_simp
  go_simp
  refine calm_do (.bool true) rfl (by rfl) (fun w' hw' => ?_) ?_
  · go_simp
  go_simp
  refine calm_do (.bool true) rfl (by rfl) (fun w' hw' => ?_) ?_
  · go_simp
  go_simp
  refine calm_move _ rfl (by rfl) rfl ?_
  go_simp
  refine calm_do (.slice (some ⟨g8, 32, none⟩) 32 32) rfl (by rfl) (fun w' hw' => exec_sliceHL g8 32 (by decide) _ _ rfl rfl rfl) ?_
  go_simp
  refine calm_do (.pointer (some ⟨g8, 32, none⟩)) rfl (by rfl) (fun w' hw' => exec_toArr _ rfl Tryd.underlying22 (by decide) rfl) ?_
  go_simp
  refine calm_do (.agg (bA s)) rfl (by rfl) (fun w' hw' => exec_loadP hw' 4 rfl 32 (HP32.out) _ rfl rfl Tryd.underlying22 Tryd.szB (bA_size _)) ?_
  go_simp
  refine calm_nil (hK.out _ ?_)
  clear hK K
  refine av_op (i := 34) (fuel := 9) (by kernel_rfl) rfl (by rfl) (fun K hK => ?_)
  go_simp
  refine (HI.out w51 (ho.of V52)).mono ?_
  rintro e w54 ⟨rfl, q56⟩
  have V55 := V52.call q56
  refine hK _ _ (V55) ?_
  clear hK K q56
  refine held_reads (rs := [35, 36, 37, 38, 39]) (fuel := 4) (by kernel_rfl) (fun c d v a w h => by cases d <;> exact h) (by kernel_rfl) (V55) (fun K hK => ?_)
  go_simp
  refine calm_do (.bool true) rfl (by rfl) (fun w' hw' => ?_) ?_
  · go_simp
  go_simp
  refine calm_move _ rfl (by rfl) rfl ?_
  go_simp
  refine calm_do (.agg (hA sg)) rfl (by rfl) (fun w' hw' => exec_loadV hw' 4 rfl _ rfl rfl Tryd.underlying24 Tryd.szH (hA_size _)) ?_
  go_simp
  refine calm_do (.agg (bA sd)) rfl (by rfl) (fun w' hw' => exec_loadV hw' 5 rfl _ rfl rfl Tryd.underlying22 Tryd.szB (bA_size _)) ?_
  go_simp
  refine calm_move _ rfl (by rfl) rfl ?_
  go_simp
  refine calm_nil (hK.out _ ?_)
  clear hK K
  refine av_op (i := 40) (fuel := 3) (by kernel_rfl) rfl (by rfl) (fun K hK => ?_)
  go_simp
  refine (HG.out w54 pm km (ho.of V55) (hd.of V55) (hm.below V55.bel (Nat.le_refl _))).mono ?_
  rintro e w57 ⟨rfl, q59⟩
  have V58 := V55.call q59
  refine hK _ _ (V58) ?_
  clear hK K q59
  refine held_reads (rs := [41, 42, 43]) (fuel := 0) (by kernel_rfl) (fun c d v a w h => by cases d <;> exact h) (by kernel_rfl) (V58) (fun K hK => ?_)
  go_simp
  refine calm_do (.bool true) rfl (by rfl) (fun w' hw' => exec_eqlH _ _ rfl true _ _ (decide_eq_true rfl) rfl rfl HL.out HL.out) ?_
  go_simp
  refine calm_do (.bool true) rfl (by rfl) (fun w' hw' => ?_) ?_
  · go_simp
  go_simp
  refine calm_assign _ rfl (by rfl) rfl ?_
  go_simp
  refine calm_nil (hK.out _ ?_)
  clear hK K
  refine wpAnyH_done (by kernel_rfl) ?_ _
  go_wp2_with fail
  go_ret
  exact ⟨rfl, V58.bel⟩
theorem walk_EdForms (sd : Nat) (hs : sd < 2 ^ 256) (m : List Nat) (dm : Dig m) (pm : Option Addr) (lm km : Nat) (w : World) (ho : OAt w) (hd : DAt w) (hm : Row .u8 w pm lm km (nI m)) : Calls Tryd.prog 5 #[.agg (bA sd), .slice pm lm km] w fun e w' => e = .returned (.bool true) ∧ Below w.heap.size w w' := by
  by_cases h0 : lm ≤ 1000
  · exact eforms_core sd hs m dm pm lm km w ho hd hm h0
  · exact eforms_long sd pm lm km w (by omega)
end Go.Proofs.YthangiocheodoaaDoor.N
