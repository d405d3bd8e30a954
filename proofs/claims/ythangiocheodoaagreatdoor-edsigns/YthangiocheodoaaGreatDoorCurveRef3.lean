/-
 The document's answers of layer 17: IsUnpacked.
-/
import Derived.Test.YthangiocheodoaaGreatDoorPackFb
import Derived.Test.YthangiocheodoaaGreatDoorCurveRef
import Derived.Test.YthangiocheodoaaGreatDoorCurveCode7
namespace Go.Proofs.YthangiocheodoaaGreatDoor.N
open Go.RowKit
set_option linter.unusedVariables false
set_option maxRecDepth 8192

set_option maxHeartbeats 1600000 in
theorem runp_yes {p : Pt} (hp : OnC p) (w : World) : Calls Tryz.prog 29 #[.agg (bA (packN p)), .agg (pA p.x.val p.y.val)] w fun e w' => e = .returned (.bool true) ∧ Below w.heap.size w w' := by
 have HO : Hid (∀ w, Rt Tryz.prog 60 #[.agg (pA p.x.val p.y.val)] (.bool true) w) := fun w => ron_yes hp w
 have HP : Hid (∀ w, Rt Tryz.prog 61 #[.agg (pA p.x.val p.y.val)] (.agg (bA (packN p))) w) := fun w => rPack_yes hp w
 have HL : Hid (packN p < 2 ^ 256) := packN_lt p
 clear hp
 generalize packN p = k at *
 generalize p.x.val = x at *
 generalize p.y.val = y at *
 have V0 := Vars.start w
 go_enter Tryz.func29, Tryz.ntmps29
 go_wp2_with (first
  | (refine wpList_boxV V0 2 22 _ rfl rfl rfl (bA k) rfl ?_; intro w1 g2 V3)
  | (refine wpList_boxV V3 3 28 _ rfl rfl rfl (pA x y) rfl ?_; intro w4 g5 V6))
 refine av_open (fun w' => Vars w w' [⟨g5, 28, pA x y⟩, ⟨g2, 22, bA k⟩]) (by kernel_rfl) ?_
 have V7 := V6.drew
 refine zR [0] 8 (by kernel_rfl) (fun _ _ _ _ _ h => h) V7 fun K hK => ?_
 refine zC (.agg (pA x y)) rfl (by rfl) (fun w' hw' => exec_loadS hw' 0 rfl _ rfl rfl Tryz.underlying28 Tryz.szP (pA_size _ _)) ?_
 go_simp
 refine calm_nil (hK.out _ ?_)
 clear hK K
 refine zO 1 7 (by kernel_rfl) rfl (by rfl) fun K hK => ?_
 go_simp
 refine (HO.out w4.drew).mono ?_
 rintro e w8 ⟨rfl, q10⟩
 have V9 := V7.call q10
 refine hK _ _ (V9) ?_
 clear hK K q10
 refine zR [2, 3, 5] 4 (by kernel_rfl) (fun _ _ _ _ _ h => h) V9 fun K hK => ?_
 go_simp
 refine calm_move _ rfl (by rfl) rfl ?_
 go_simp
 refine zC (.agg (pA x y)) rfl (by rfl) (fun w' hw' => exec_loadS hw' 0 rfl _ rfl rfl Tryz.underlying28 Tryz.szP (pA_size _ _)) ?_
 go_simp
 refine zC (.agg (bA k)) rfl (by rfl) (fun w' hw' => zB hw' 1 rfl _ rfl rfl) ?_
 go_simp
 refine calm_nil (hK.out _ ?_)
 clear hK K
 refine zO 4 3 (by kernel_rfl) rfl (by rfl) fun K hK => ?_
 go_simp
 refine (HP.out w8).mono ?_
 rintro e w11 ⟨rfl, q13⟩
 have V12 := V9.call q13
 refine hK _ _ (V12) ?_
 clear hK K q13
 refine zR [6, 7, 8] 0 (by kernel_rfl) (fun _ _ _ _ _ h => h) V12 fun K hK => ?_
 go_simp
 refine zC (.bool true) rfl (by rfl) (fun w' hw' => exec_eqlB _ _ rfl true _ _ (decide_eq_true rfl) rfl rfl HL.out HL.out) ?_
 go_simp
 refine zC (.bool true) rfl (by rfl) (fun w' hw' => ?_) ?_
 ·go_simp
 go_simp
 refine calm_assign _ rfl (by rfl) rfl ?_
 go_simp
 refine calm_nil (hK.out _ ?_)
 clear hK K
 refine wpAnyH_done (by kernel_rfl) ?_ _
 go_wp2_with fail
 go_ret
 exact ⟨rfl, V12.bel⟩
end Go.Proofs.YthangiocheodoaaGreatDoor.N
