/-
  Layer 19's laws: Verifies.
-/
import Derived.Test.YthangiocheodoaaDoorEdFace
namespace Go.Proofs.YthangiocheodoaaDoor.N
open Go.RowKit
set_option linter.unusedVariables false
set_option maxRecDepth 8192

set_option maxHeartbeats 800000 in
theorem everifies_long (sd : Nat) (pm : Option Addr) (lm km : Nat) (w : World) (hl : 2000 < lm) : Calls Tryd.prog 3 #[.agg (bA sd), .slice pm lm km] w fun e w' => e = .returned (.bool true) ∧ Below w.heap.size w w' := by
  have hl9 : (2000 : Int) < (lm : Int) := by omega
  have V0 := Vars.start w
  go_enter Tryd.func3, Tryd.ntmps3
  go_wp2_with (refine wpList_boxV V0 2 22 _ rfl rfl rfl (bA sd) rfl ?_; intro w1 g2 V3)
  go_ret
  exact ⟨rfl, V3.bel⟩
set_option maxHeartbeats 6400000 in
theorem everifies_core (sd : Nat) (hs : sd < 2 ^ 256) (m : List Nat) (dm : Dig m) (pm : Option Addr) (lm km : Nat) (w : World) (ho : OAt w) (hd : DAt w) (hm : Row .u8 w pm lm km (nI m)) (h0 : lm ≤ 2000) : Calls Tryd.prog 3 #[.agg (bA sd), .slice pm lm km] w fun e w' => e = .returned (.bool true) ∧ Below w.heap.size w w' := by
  obtain ⟨i0, hi0, hz0, hz1, hz2⟩ := info_parts Tryd.info5
  have HG : Hid (∀ (w' : World) (ao : Option Addr) (co : Nat), OAt w' → DAt w' → Row .u8 w' ao lm co (nI m) → Calls Tryd.prog 6 #[.agg (bA sd), .slice ao lm co] w' fun e w'' => e = .returned (.agg (hA (sgN sd m))) ∧ Below w'.heap.size w' w'') := fun w' ao co ho hd hr => sign_any sd hs ao lm co m dm w' ho hd hr (by omega)
  have HP : Hid (∀ w, DAt w → Calls Tryd.prog 8 #[.agg (bA sd)] w fun e w' => e = .returned (.agg (bA (pubN sd))) ∧ Below w.heap.size w w') := fun w hd => public_any sd hs w hd
  have HV : Hid (∀ (w' : World) (g : Nat) (ao : Option Addr) (co : Nat), OAt w' → DAt w' → w'.heap[g]? = some (.cells (hA (sgN sd m)) 24 (0, 0)) → Row .u8 w' ao lm co (nI m) → Calls Tryd.prog 7 #[.agg (bA (pubN sd)), .slice ao lm co, .slice (some ⟨g, 0, none⟩) 64 64] w' fun e w'' => e = .returned (.int .i64 0) ∧ Below w'.heap.size w' w'') := fun w' g ao co ho hd hg hr => verify_hold (pubP_on sd) (rP_on sd m) (sN_lt sd m) m dm (sign_holds sd m) ao _ lm co 64 w' ho hd hr (by omega) (row_hA hg)
  generalize sgN sd m = sg at *
  generalize pubN sd = pu at *
  have hl9 : ¬ (2000 : Int) < (lm : Int) := by omega
  clear hs dm
  have V0 := Vars.start w
  go_enter Tryd.func3, Tryd.ntmps3
  go_upto_region 3 with (refine wpList_boxV V0 2 22 _ rfl rfl rfl (bA sd) rfl ?_; intro w1 g2 V3)
  have hown0 := World.ownsRow_lit (base := w1.heap.size) (e := 5) (size := 1) w1 #[] 0 (Nat.le_refl _) (Nat.zero_le _) rfl
  have qA := below_one w1 (.cells #[] 5)
  have rd := (hm.below V3.bel (Nat.le_refl _)).below qA (Nat.le_refl _)
  go_upto_region 4 with (at_builtin; refine wpList_append_row _ rfl _ _ 23 rfl w1.heap.size 5 i0 (.int .u8 0) 1 Tryd.underlying23 hi0 hz0 hz1 hz2 rfl _ 0 [] rfl hown0 .u8 pm lm km _ rfl rd (by unfold maxLen; omega) (by omega) (by simp) ?_; intro v1 wo own1 hg1)
  have q1 : Below w1.heap.size w1 wo := qA.grown hg1 (by simp) (fun k hk => (hown0.lt k hk).1)
  rw [List.nil_append, Nat.zero_add] at own1
  obtain ⟨ao, co, ml, rfl, VO, RO⟩ := own_var19 V3 own1 q1
  have HRW : Hid (∀ w' : World, (∀ u ∈ ml, w'.heap[u.g]? = some (.cells u.X u.T (0, 0))) → Row .u8 w' ao lm co (nI m)) := RO
  have VO2 : Vars w wo (⟨g2, 22, bA sd⟩ :: ml) := VO
  clear own1 hg1 hown0 qA rd RO VO q1 V3 hi0 hz0 hz1 hz2
  go_wp2_with (refine wpList_loadV VO2 0 rfl 14 _ rfl rfl rfl rfl Tryd.underlying22 Tryd.szB (bA_size _) ?_)
  refine (HG.out wo ao co (ho.of VO2) (hd.of VO2) (HRW.out wo VO2.tail.holds)).mono ?_
  rintro e w4 ⟨rfl, q6⟩
  have V5 := VO2.call q6
  clear q6 VO2
  go_wp2_with (first
    | (refine wpList_allocV V5 6 24 rfl rfl rfl (hA 0) zeroH ?_; intro w7 g8 V9)
    | (refine wpList_storeV V9 0 rfl _ (.tmp 16) rfl rfl rfl (hA sg) rfl rfl Tryd.szH (hA_size _) (hA_size _) (hA_one _) ?_; intro w10 V11))
  refine av_open (fun w' => Vars w w' (⟨g8, 24, hA sg⟩ :: ⟨g2, 22, bA sd⟩ :: ml)) (by kernel_rfl) ?_
  have V12 := V11.drew
  refine held_reads (rs := [0, 2, 3]) (fuel := 3) (by kernel_rfl) (fun c d v a w h => by cases d <;> exact h) (by kernel_rfl) (V12) (fun K hK => ?_)
  refine calm_do (.agg (bA sd)) rfl (by rfl) (fun w' hw' => exec_loadV hw' 1 rfl _ rfl rfl Tryd.underlying22 Tryd.szB (bA_size _)) ?_
  go_simp
  refine calm_move _ rfl (by rfl) rfl ?_
  go_simp
  refine calm_do (.slice (some ⟨g8, 0, none⟩) 64 64) rfl (by rfl) (fun w' hw' => exec_sliceH hw' 0 rfl _ rfl rfl) ?_
  go_simp
  refine calm_nil (hK.out _ ?_)
  clear hK K
  refine av_op (i := 1) (fuel := 2) (by kernel_rfl) rfl (by rfl) (fun K hK => ?_)
  go_simp
  refine (HP.out w10.drew (hd.of V12)).mono ?_
  rintro e w13 ⟨rfl, q15⟩
  have V14 := V12.call q15
  refine hK _ _ (V14) ?_
  clear hK K q15
  refine av_op (i := 4) (fuel := 1) (by kernel_rfl) rfl (by rfl) (fun K hK => ?_)
  go_simp
  refine (HV.out w13 g8 ao co (ho.of V14) (hd.of V14) (V14.at 0 rfl) (HRW.out w13 V14.tail.tail.holds)).mono ?_
  rintro e w16 ⟨rfl, q18⟩
  have V17 := V14.call q18
  refine hK _ _ (V17) ?_
  clear hK K q18
  refine held_reads (rs := [5]) (fuel := 0) (by kernel_rfl) (fun c d v a w h => by cases d <;> exact h) (by kernel_rfl) (V17) (fun K hK => ?_)
  go_simp
  refine calm_assign _ rfl (by rfl) rfl ?_
  go_simp
  refine calm_nil (hK.out _ ?_)
  clear hK K
  refine wpAnyH_done (by kernel_rfl) ?_ _
  go_wp2_with fail
  refine (awake19_any w16 (ho.of V17) (hd.of V17)).mono ?_
  rintro e w19 ⟨rfl, q21⟩
  have V20 := V17.call q21
  clear q21 V17
  have hcv1 := conv_row Tryd.underlying23 Tryd.underlying5 Tryd.underlying9 (HRW.out w19 V20.tail.tail.holds)
  have hcv2 := conv_row Tryd.underlying23 Tryd.underlying5 Tryd.underlying9 (hm.below V20.bel (Nat.le_refl _))
  go_wp2_with fail
  go_ret
  exact ⟨rfl, V20.bel⟩
theorem walk_EdVerifies (sd : Nat) (hs : sd < 2 ^ 256) (m : List Nat) (dm : Dig m) (pm : Option Addr) (lm km : Nat) (w : World) (ho : OAt w) (hd : DAt w) (hm : Row .u8 w pm lm km (nI m)) : Calls Tryd.prog 3 #[.agg (bA sd), .slice pm lm km] w fun e w' => e = .returned (.bool true) ∧ Below w.heap.size w w' := by
  by_cases h0 : lm ≤ 2000
  · exact everifies_core sd hs m dm pm lm km w ho hd hm h0
  · exact everifies_long sd pm lm km w (by omega)
end Go.Proofs.YthangiocheodoaaDoor.N
