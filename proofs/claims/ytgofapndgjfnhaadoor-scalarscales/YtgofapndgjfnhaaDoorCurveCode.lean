/-
  The code of layer 17 (curve): add, sub, mul, div, third, Zero, divided.
-/
import Derived.Test.YtgofapndgjfnhaaDoorCurveBase
import Derived.Test.YtgofapndgjfnhaaDoorCurvePlain4
namespace Go.Proofs.YtgofapndgjfnhaaDoor.N
open Go.RowKit
set_option linter.unusedVariables false
set_option maxRecDepth 8192

set_option maxHeartbeats 800000 in
theorem cadd_any (a b : Fp) (w : World) : Calls Tryd.prog 39 #[.agg (bA a.val), .agg (bA b.val)] w fun e w' => e = .returned (.agg (bA (a + b).val)) ∧ Below w.heap.size w w' := by
  have HF : Hid (∀ w, Calls Tryd.prog 60 #[.agg (bA a.val), .agg (bA b.val)] w fun e w' => e = .returned (.tuple #[.agg (bA ((a + b).val)), .int .i64 0]) ∧ Below w.heap.size w w') := fun w => by have := fAdd_yes a.val b.val w a.isLt b.isLt; rwa [← fp_add] at this
  generalize (a + b).val = r at *
  generalize a.val = x at *
  generalize b.val = y at *
  have V0 := Vars.start w
  go_enter Tryd.func39, Tryd.ntmps39
  go_wp2_with (first
    | (refine wpList_boxV V0 2 23 _ rfl rfl rfl (bA x) rfl ?_; intro w1 g2 V3)
    | (refine wpList_boxV V3 3 23 _ rfl rfl rfl (bA y) rfl ?_; intro w4 g5 V6)
    | (refine wpList_allocV V6 4 23 rfl rfl rfl (bA 0) zeroB ?_; intro w7 g8 V9)
    | (refine wpList_loadV V9 2 rfl 8 _ rfl rfl rfl rfl Tryd.underlying23 Tryd.szB (bA_size _) ?_)
    | (refine wpList_loadV V9 1 rfl 9 _ rfl rfl rfl rfl Tryd.underlying23 Tryd.szB (bA_size _) ?_))
  refine (HF.out w7).mono ?_
  rintro e w10 ⟨rfl, q12⟩
  have V11 := V9.call q12
  clear q12 V9
  go_wp2_with (first
    | (refine wpList_allocV V11 5 23 rfl rfl rfl (bA 0) zeroB ?_; intro w13 g14 V15)
    | (refine wpList_storeV V15 0 rfl _ (.tmp 11) rfl rfl rfl (bA r) rfl rfl Tryd.szB (bA_size _) (bA_size _) (bA_one _) ?_; intro w16 V17)
    | (refine wpList_loadV V17 0 rfl 13 _ rfl rfl rfl rfl Tryd.underlying23 Tryd.szB (bA_size _) ?_)
    | (refine wpList_storeV V17 1 rfl _ (.tmp 13) rfl rfl rfl (bA r) rfl rfl Tryd.szB (bA_size _) (bA_size _) (bA_one _) ?_; intro w18 V19))
  exact bodyPost_ret (resV1 rfl _ V19 1 rfl rfl Tryd.underlying23 Tryd.szB (bA_size _)) rfl ⟨rfl, V19.bel⟩
set_option maxHeartbeats 800000 in
theorem csub_any (a b : Fp) (w : World) : Calls Tryd.prog 38 #[.agg (bA a.val), .agg (bA b.val)] w fun e w' => e = .returned (.agg (bA (a - b).val)) ∧ Below w.heap.size w w' := by
  have HF : Hid (∀ w, Calls Tryd.prog 59 #[.agg (bA a.val), .agg (bA b.val)] w fun e w' => e = .returned (.tuple #[.agg (bA ((a - b).val)), .int .i64 0]) ∧ Below w.heap.size w w') := fun w => by have := fSub_yes a.val b.val w a.isLt b.isLt; rwa [← fp_sub] at this
  generalize (a - b).val = r at *
  generalize a.val = x at *
  generalize b.val = y at *
  have V0 := Vars.start w
  go_enter Tryd.func38, Tryd.ntmps38
  go_wp2_with (first
    | (refine wpList_boxV V0 2 23 _ rfl rfl rfl (bA x) rfl ?_; intro w1 g2 V3)
    | (refine wpList_boxV V3 3 23 _ rfl rfl rfl (bA y) rfl ?_; intro w4 g5 V6)
    | (refine wpList_allocV V6 4 23 rfl rfl rfl (bA 0) zeroB ?_; intro w7 g8 V9)
    | (refine wpList_loadV V9 2 rfl 8 _ rfl rfl rfl rfl Tryd.underlying23 Tryd.szB (bA_size _) ?_)
    | (refine wpList_loadV V9 1 rfl 9 _ rfl rfl rfl rfl Tryd.underlying23 Tryd.szB (bA_size _) ?_))
  refine (HF.out w7).mono ?_
  rintro e w10 ⟨rfl, q12⟩
  have V11 := V9.call q12
  clear q12 V9
  go_wp2_with (first
    | (refine wpList_allocV V11 5 23 rfl rfl rfl (bA 0) zeroB ?_; intro w13 g14 V15)
    | (refine wpList_storeV V15 0 rfl _ (.tmp 11) rfl rfl rfl (bA r) rfl rfl Tryd.szB (bA_size _) (bA_size _) (bA_one _) ?_; intro w16 V17)
    | (refine wpList_loadV V17 0 rfl 13 _ rfl rfl rfl rfl Tryd.underlying23 Tryd.szB (bA_size _) ?_)
    | (refine wpList_storeV V17 1 rfl _ (.tmp 13) rfl rfl rfl (bA r) rfl rfl Tryd.szB (bA_size _) (bA_size _) (bA_one _) ?_; intro w18 V19))
  exact bodyPost_ret (resV1 rfl _ V19 1 rfl rfl Tryd.underlying23 Tryd.szB (bA_size _)) rfl ⟨rfl, V19.bel⟩
set_option maxHeartbeats 800000 in
theorem cmul_any (a b : Fp) (w : World) : Calls Tryd.prog 37 #[.agg (bA a.val), .agg (bA b.val)] w fun e w' => e = .returned (.agg (bA (a * b).val)) ∧ Below w.heap.size w w' := by
  have HF : Hid (∀ w, Calls Tryd.prog 58 #[.agg (bA a.val), .agg (bA b.val)] w fun e w' => e = .returned (.tuple #[.agg (bA ((a * b).val)), .int .i64 0]) ∧ Below w.heap.size w w') := fun w => by have := fMul_yes a.val b.val w a.isLt b.isLt; rwa [← fp_mul] at this
  generalize (a * b).val = r at *
  generalize a.val = x at *
  generalize b.val = y at *
  have V0 := Vars.start w
  go_enter Tryd.func37, Tryd.ntmps37
  go_wp2_with (first
    | (refine wpList_boxV V0 2 23 _ rfl rfl rfl (bA x) rfl ?_; intro w1 g2 V3)
    | (refine wpList_boxV V3 3 23 _ rfl rfl rfl (bA y) rfl ?_; intro w4 g5 V6)
    | (refine wpList_allocV V6 4 23 rfl rfl rfl (bA 0) zeroB ?_; intro w7 g8 V9)
    | (refine wpList_loadV V9 2 rfl 8 _ rfl rfl rfl rfl Tryd.underlying23 Tryd.szB (bA_size _) ?_)
    | (refine wpList_loadV V9 1 rfl 9 _ rfl rfl rfl rfl Tryd.underlying23 Tryd.szB (bA_size _) ?_))
  refine (HF.out w7).mono ?_
  rintro e w10 ⟨rfl, q12⟩
  have V11 := V9.call q12
  clear q12 V9
  go_wp2_with (first
    | (refine wpList_allocV V11 5 23 rfl rfl rfl (bA 0) zeroB ?_; intro w13 g14 V15)
    | (refine wpList_storeV V15 0 rfl _ (.tmp 11) rfl rfl rfl (bA r) rfl rfl Tryd.szB (bA_size _) (bA_size _) (bA_one _) ?_; intro w16 V17)
    | (refine wpList_loadV V17 0 rfl 13 _ rfl rfl rfl rfl Tryd.underlying23 Tryd.szB (bA_size _) ?_)
    | (refine wpList_storeV V17 1 rfl _ (.tmp 13) rfl rfl rfl (bA r) rfl rfl Tryd.szB (bA_size _) (bA_size _) (bA_one _) ?_; intro w18 V19))
  exact bodyPost_ret (resV1 rfl _ V19 1 rfl rfl Tryd.underlying23 Tryd.szB (bA_size _)) rfl ⟨rfl, V19.bel⟩
set_option maxHeartbeats 800000 in
theorem cdiv_any (a b : Fp) (hb : b ≠ 0) (w : World) : Calls Tryd.prog 34 #[.agg (bA a.val), .agg (bA b.val)] w fun e w' => e = .returned (.agg (bA (a * finv b).val)) ∧ Below w.heap.size w w' := by
  have HI : Hid (∀ w, Calls Tryd.prog 53 #[.agg (bA b.val)] w fun e w' => e = .returned (.tuple #[.agg (bA ((finv b).val)), .int .i64 0]) ∧ Below w.heap.size w w') := fun w => by have := fInv_yes b.val w b.isLt (fp_pos hb); rwa [← finv_val] at this
  have HM : Hid (∀ w, Calls Tryd.prog 37 #[.agg (bA a.val), .agg (bA ((finv b).val))] w fun e w' => e = .returned (.agg (bA ((a * finv b).val))) ∧ Below w.heap.size w w') := fun w => cmul_any _ _ w
  clear hb
  generalize (a * finv b).val = r at *
  generalize (finv b).val = i at *
  generalize a.val = x at *
  generalize b.val = y at *
  have V0 := Vars.start w
  go_enter Tryd.func34, Tryd.ntmps34
  go_wp2_with (first
    | (refine wpList_boxV V0 2 23 _ rfl rfl rfl (bA x) rfl ?_; intro w1 g2 V3)
    | (refine wpList_boxV V3 3 23 _ rfl rfl rfl (bA y) rfl ?_; intro w4 g5 V6)
    | (refine wpList_allocV V6 4 23 rfl rfl rfl (bA 0) zeroB ?_; intro w7 g8 V9)
    | (refine wpList_loadV V9 1 rfl 8 _ rfl rfl rfl rfl Tryd.underlying23 Tryd.szB (bA_size _) ?_))
  refine (HI.out w7).mono ?_
  rintro e w10 ⟨rfl, q12⟩
  have V11 := V9.call q12
  clear q12 V9
  go_wp2_with (first
    | (refine wpList_allocV V11 5 23 rfl rfl rfl (bA 0) zeroB ?_; intro w13 g14 V15)
    | (refine wpList_storeV V15 0 rfl _ (.tmp 10) rfl rfl rfl (bA i) rfl rfl Tryd.szB (bA_size _) (bA_size _) (bA_one _) ?_; intro w16 V17)
    | (refine wpList_loadV V17 3 rfl 12 _ rfl rfl rfl rfl Tryd.underlying23 Tryd.szB (bA_size _) ?_)
    | (refine wpList_loadV V17 0 rfl 13 _ rfl rfl rfl rfl Tryd.underlying23 Tryd.szB (bA_size _) ?_))
  refine (HM.out w16).mono ?_
  rintro e w18 ⟨rfl, q20⟩
  have V19 := V17.call q20
  clear q20 V17
  go_wp2_with (refine wpList_storeV V19 1 rfl _ (.tmp 14) rfl rfl rfl (bA r) rfl rfl Tryd.szB (bA_size _) (bA_size _) (bA_one _) ?_; intro w21 V22)
  exact bodyPost_ret (resV1 rfl _ V22 1 rfl rfl Tryd.underlying23 Tryd.szB (bA_size _)) rfl ⟨rfl, V22.bel⟩
set_option maxHeartbeats 800000 in
theorem third_any (x y : Nat) (w : World) : Calls Tryd.prog 32 #[.agg (pA x y)] w fun e w' => e = .returned (.agg (tA x y 1)) ∧ Below w.heap.size w w' := by
  have V0 := Vars.start w
  go_enter Tryd.func32, Tryd.ntmps32
  go_wp2_with (first
    | (refine wpList_boxV V0 1 36 _ rfl rfl rfl (pA x y) rfl ?_; intro w1 g2 V3)
    | (refine wpList_allocV V3 2 51 rfl rfl rfl (tA 0 0 0) zeroT ?_; intro w4 g5 V6)
    | (refine wpList_exec rfl (exec_loadP V6 1 rfl 0 (pA_part0 _ _) _ rfl rfl Tryd.underlying23 Tryd.szB (bA_size _)) ?_)
    | (refine wpList_exec rfl (exec_loadP V6 1 rfl 32 (pA_part1 _ _) _ rfl rfl Tryd.underlying23 Tryd.szB (bA_size _)) ?_)
    | (refine wpList_buildV 7 23 _ rfl rfl rfl (bA 1) (built_B 1 (by decide)) ?_)
    | (refine wpList_buildV 8 51 _ rfl rfl rfl (tA x y 1) (built_T _ _ _) ?_)
    | (refine wpList_storeV V6 0 rfl _ (.tmp 8) rfl rfl rfl (tA x y 1) rfl rfl Tryd.szT (tA_size _ _ _) (tA_size _ _ _) (tA_one _ _ _) ?_; intro w7 V8))
  exact bodyPost_ret (resS1 rfl _ V8 0 rfl rfl Tryd.underlying51 Tryd.szT (tA_size _ _ _)) rfl ⟨rfl, V8.bel⟩
set_option maxHeartbeats 800000 in
theorem czero_any (w : World) : Calls Tryd.prog 50 #[] w fun e w' => e = .returned (.agg (pA 0 1)) ∧ Below w.heap.size w w' := by
  have V0 := Vars.start w
  go_enter Tryd.func50, Tryd.ntmps50
  go_wp2_with (first
    | (refine wpList_allocV V0 0 36 rfl rfl rfl (pA 0 0) zeroP ?_; intro w1 g2 V3)
    | (refine wpList_buildV 1 23 _ rfl rfl rfl (bA 1) (built_B 1 (by decide)) ?_)
    | (refine wpList_buildV 2 36 _ rfl rfl rfl (pA 0 1) (built_P1 _) ?_)
    | (refine wpList_storeV V3 0 rfl _ (.tmp 2) rfl rfl rfl (pA 0 1) rfl rfl Tryd.szP (pA_size _ _) (pA_size _ _) (pA_one _ _) ?_; intro w4 V5))
  exact bodyPost_ret (resS1 rfl _ V5 0 rfl rfl Tryd.underlying36 Tryd.szP (pA_size _ _)) rfl ⟨rfl, V5.bel⟩
set_option maxHeartbeats 1600000 in
theorem divided_any (t : T3) (p : Pt) (ht : Stands t p) (w : World) : Calls Tryd.prog 33 #[.agg (tA t.x.val t.y.val t.z.val)] w fun e w' => e = .returned (.agg (pA p.x.val p.y.val)) ∧ Below w.heap.size w w' := by
  have h1 := ht.div
  have hz := ht.z
  have HD : Hid (∀ w, Calls Tryd.prog 34 #[.agg (bA 1), .agg (bA t.z.val)] w fun e w' => e = .returned (.agg (bA ((1 * finv t.z).val))) ∧ Below w.heap.size w w') := fun w => cdiv_any 1 t.z hz w
  have HX : Hid (∀ w, Calls Tryd.prog 37 #[.agg (bA t.x.val), .agg (bA ((1 * finv t.z).val))] w fun e w' => e = .returned (.agg (bA p.x.val)) ∧ Below w.heap.size w w') := fun w => by have := cmul_any t.x (1 * finv t.z) w; rwa [h1.1] at this
  have HY : Hid (∀ w, Calls Tryd.prog 37 #[.agg (bA t.y.val), .agg (bA ((1 * finv t.z).val))] w fun e w' => e = .returned (.agg (bA p.y.val)) ∧ Below w.heap.size w w') := fun w => by have := cmul_any t.y (1 * finv t.z) w; rwa [h1.2] at this
  clear ht h1 hz
  generalize (1 * finv t.z).val = i at *
  generalize t.x.val = x at *
  generalize t.y.val = y at *
  generalize t.z.val = z at *
  generalize p.x.val = u at *
  generalize p.y.val = v at *
  have V0 := Vars.start w
  go_enter Tryd.func33, Tryd.ntmps33
  go_wp2_with (first
    | (refine wpList_boxV V0 1 51 _ rfl rfl rfl (tA x y z) rfl ?_; intro w1 g2 V3)
    | (refine wpList_allocV V3 2 36 rfl rfl rfl (pA 0 0) zeroP ?_; intro w4 g5 V6)
    | (refine wpList_buildV 4 23 _ rfl rfl rfl (bA 1) (built_B 1 (by decide)) ?_)
    | (refine wpList_exec rfl (exec_loadP V6 1 rfl 64 (tA_part2 _ _ _) _ rfl rfl Tryd.underlying23 Tryd.szB (bA_size _)) ?_))
  refine (HD.out w4).mono ?_
  rintro e w7 ⟨rfl, q9⟩
  have V8 := V6.call q9
  clear q9 V6
  go_wp2_with (first
    | (refine wpList_allocV V8 3 23 rfl rfl rfl (bA 0) zeroB ?_; intro w10 g11 V12)
    | (refine wpList_storeV V12 0 rfl _ (.tmp 7) rfl rfl rfl (bA i) rfl rfl Tryd.szB (bA_size _) (bA_size _) (bA_one _) ?_; intro w13 V14))
  refine av_open (fun w' => Vars w w' [⟨g11, 23, bA i⟩, ⟨g2, 51, tA x y z⟩]) (by kernel_rfl) ?_
  have V15 := V14.drew
  refine held_reads (rs := [0, 1, 2, 4, 5, 6]) (fuel := 4) (by kernel_rfl) (fun c d v a w h => by cases d <;> exact h) (by kernel_rfl) ((V15.del 1)) (fun K hK => ?_)
  refine calm_do (.pointer (some ⟨g2, 0, none⟩)) rfl (by rfl) (fun w' hw' => ?_) ?_
  · go_simp
  go_simp
  refine calm_do (.agg (bA x)) rfl (by rfl) (fun w' hw' => exec_loadP hw' 1 rfl 0 (tA_part0 _ _ _) _ rfl rfl Tryd.underlying23 Tryd.szB (bA_size _)) ?_
  go_simp
  refine calm_do (.agg (bA i)) rfl (by rfl) (fun w' hw' => exec_loadV hw' 0 rfl _ rfl rfl Tryd.underlying23 Tryd.szB (bA_size _)) ?_
  go_simp
  refine calm_do (.pointer (some ⟨g2, 32, none⟩)) rfl (by rfl) (fun w' hw' => ?_) ?_
  · go_simp
  go_simp
  refine calm_do (.agg (bA y)) rfl (by rfl) (fun w' hw' => exec_loadP hw' 1 rfl 32 (tA_part1 _ _ _) _ rfl rfl Tryd.underlying23 Tryd.szB (bA_size _)) ?_
  go_simp
  refine calm_do (.agg (bA i)) rfl (by rfl) (fun w' hw' => exec_loadV hw' 0 rfl _ rfl rfl Tryd.underlying23 Tryd.szB (bA_size _)) ?_
  go_simp
  refine calm_nil (hK.out _ ?_)
  clear hK K
  refine av_op (i := 3) (fuel := 3) (by kernel_rfl) rfl (by rfl) (fun K hK => ?_)
  go_simp
  refine (HX.out w13.drew).mono ?_
  rintro e w16 ⟨rfl, q18⟩
  have V17 := V15.call q18
  refine hK _ _ ((V17.del 1)) ?_
  clear hK K q18
  refine av_op (i := 7) (fuel := 2) (by kernel_rfl) rfl (by rfl) (fun K hK => ?_)
  go_simp
  refine (HY.out w16).mono ?_
  rintro e w19 ⟨rfl, q21⟩
  have V20 := V17.call q21
  refine hK _ _ ((V20.del 1)) ?_
  clear hK K q21
  refine held_reads (rs := [8]) (fuel := 1) (by kernel_rfl) (fun c d v a w h => by cases d <;> exact h) (by kernel_rfl) ((V20.del 1)) (fun K hK => ?_)
  go_simp
  refine calm_do (.agg (pA u v)) rfl (by rfl) (fun w' hw' => ?_) ?_
  · refine exec_buildV 36 _ rfl (pA u v) ?_
    exact (built_P _ _)
  go_simp
  refine calm_nil (hK.out _ ?_)
  clear hK K
  refine av_op (i := 9) (fuel := 0) (by kernel_rfl) rfl (by rfl) (fun K hK => ?_)
  refine wp_storeV V20 1 rfl _ _ rfl rfl (pA u v) rfl rfl Tryd.szP (pA_size _ _) (pA_size _ _) (pA_one _ _) (fun w22 V23 => ?_)
  refine hK _ _ ((V23.del 1)) ?_
  clear hK K
  refine wpAnyH_done (by kernel_rfl) ?_ _
  go_wp2_with fail
  exact bodyPost_ret (resS1 rfl _ V23 1 rfl rfl Tryd.underlying36 Tryd.szP (pA_size _ _)) rfl ⟨rfl, V23.bel⟩
end Go.Proofs.YtgofapndgjfnhaaDoor.N
