/-
  Layer 16's laws: Products.
-/
import Derived.Test.YtejbpcdfmlkemaaFieldLaws3
import Derived.Test.YtejbpcdfmlkemaaFieldLaws2
namespace Go.Proofs.Ytejbpcdfmlkemaa.N
open Go.RowKit
set_option linter.unusedVariables false
set_option maxRecDepth 8192

set_option maxHeartbeats 800000 in
theorem products_no1 (a b : Nat) (w : World) (ha : a < 2 ^ 256) (h : ¬ a < fP) : Calls Try.prog 8 #[.agg (bA a), .agg (bA b)] w fun e w' => e = .returned (.bool true) ∧ Below w.heap.size w w' := by
  have Ja : Hid (∀ w, Calls Try.prog 13 #[.agg (bA a)] w fun e w' => e = .returned (.bool false) ∧ Below w.heap.size w w') := fun w => refIs_no ha h w
  clear ha h
  have V0 := Vars.start w
  go_enter Try.func8, Try.ntmps8
  go_wp2_with (first
    | (refine wpList_boxV V0 2 22 _ rfl rfl rfl (bA a) rfl ?_; intro w1 g2 V3)
    | (refine wpList_boxV V3 3 22 _ rfl rfl rfl (bA b) rfl ?_; intro w4 g5 V6)
    | (refine wpList_loadV V6 1 rfl 17 _ rfl rfl rfl rfl Try.underlying22 Try.szB (bA_size _) ?_))
  refine (Ja.out w4).mono ?_
  rintro e w7 ⟨rfl, q9⟩
  have V8 := V6.call q9
  clear q9 V6
  go_wp2_with fail
  go_ret
  exact ⟨rfl, V8.bel⟩
set_option maxHeartbeats 800000 in
theorem products_no2 (a b : Nat) (w : World) (ha : a < fP) (hb : b < 2 ^ 256) (h : ¬ b < fP) : Calls Try.prog 8 #[.agg (bA a), .agg (bA b)] w fun e w' => e = .returned (.bool true) ∧ Below w.heap.size w w' := by
  have Ja : Hid (∀ w, Calls Try.prog 13 #[.agg (bA a)] w fun e w' => e = .returned (.bool true) ∧ Below w.heap.size w w') := fun w => refIs_yes ha w
  have Jb : Hid (∀ w, Calls Try.prog 13 #[.agg (bA b)] w fun e w' => e = .returned (.bool false) ∧ Below w.heap.size w w') := fun w => refIs_no hb h w
  clear ha hb h
  have V0 := Vars.start w
  go_enter Try.func8, Try.ntmps8
  go_wp2_with (first
    | (refine wpList_boxV V0 2 22 _ rfl rfl rfl (bA a) rfl ?_; intro w1 g2 V3)
    | (refine wpList_boxV V3 3 22 _ rfl rfl rfl (bA b) rfl ?_; intro w4 g5 V6)
    | (refine wpList_loadV V6 1 rfl 17 _ rfl rfl rfl rfl Try.underlying22 Try.szB (bA_size _) ?_))
  refine (Ja.out w4).mono ?_
  rintro e w7 ⟨rfl, q9⟩
  have V8 := V6.call q9
  clear q9 V6
  go_wp2_with (refine wpList_loadV V8 0 rfl 21 _ rfl rfl rfl rfl Try.underlying22 Try.szB (bA_size _) ?_)
  refine (Jb.out w7).mono ?_
  rintro e w10 ⟨rfl, q12⟩
  have V11 := V8.call q12
  clear q12 V8
  go_wp2_with fail
  go_ret
  exact ⟨rfl, V11.bel⟩
set_option maxHeartbeats 3200000 in
theorem products_za (a b : Nat) (w : World) (m q o x y z : Nat) (ha : a < fP) (hb : b < fP) (hm : m < fP) (ho : o < 2 ^ 256) (hz : z < 2 ^ 256) (ea : a = 0) (e0 : m = 0) (Cab : Hid (∀ w, Calls Try.prog 22 #[.agg (bA a), .agg (bA b)] w fun e w' => e = .returned (.agg (bA m)) ∧ Below w.heap.size w w')) (Cmm : Hid (∀ w, Calls Try.prog 22 #[.agg (bA m), .agg (bA m)] w fun e w' => e = .returned (.agg (bA q)) ∧ Below w.heap.size w w')) (CR : Hid (∀ w, Calls Try.prog 20 #[.agg (bA q)] w fun e w' => e = .returned (.tuple #[.agg (bA m), .bool true, .int .i64 0]) ∧ Below w.heap.size w w')) (CS : Hid (∀ w, Calls Try.prog 10 #[.agg (bA 0), .agg (bA m)] w fun e w' => e = .returned (.tuple #[.agg (bA o), .int .i64 0]) ∧ Below w.heap.size w w')) : Calls Try.prog 8 #[.agg (bA a), .agg (bA b)] w fun e w' => e = .returned (.bool true) ∧ Below w.heap.size w w' := by
  have Ja : Hid (∀ w, Calls Try.prog 13 #[.agg (bA a)] w fun e w' => e = .returned (.bool true) ∧ Below w.heap.size w w') := fun w => refIs_yes ha w
  have Jb : Hid (∀ w, Calls Try.prog 13 #[.agg (bA b)] w fun e w' => e = .returned (.bool true) ∧ Below w.heap.size w w') := fun w => refIs_yes hb w
  have N0 : Hid (∀ w, Calls Try.prog 19 #[.int .u8 0] w fun e w' => e = .returned (.agg (bA 0)) ∧ Below w.heap.size w w') := fun w => num_any 0 (by decide) w
  have HL : Hid (a < 2 ^ 256 ∧ b < 2 ^ 256 ∧ m < 2 ^ 256 ∧ o < 2 ^ 256 ∧ z < 2 ^ 256) := ⟨elt256 ha, elt256 hb, elt256 hm, ho, hz⟩
  have EA : Hid (decide (a = 0) = true) := dtrue ea
  have EM : Hid (decide (m = 0) = true) := dtrue e0
  clear ha hb hm ho hz ea e0
  have V0 := Vars.start w
  go_enter Try.func8, Try.ntmps8
  go_wp2_with (first
    | (refine wpList_boxV V0 2 22 _ rfl rfl rfl (bA a) rfl ?_; intro w1 g2 V3)
    | (refine wpList_boxV V3 3 22 _ rfl rfl rfl (bA b) rfl ?_; intro w4 g5 V6)
    | (refine wpList_loadV V6 1 rfl 17 _ rfl rfl rfl rfl Try.underlying22 Try.szB (bA_size _) ?_))
  refine (Ja.out w4).mono ?_
  rintro e w7 ⟨rfl, q9⟩
  have V8 := V6.call q9
  clear q9 V6
  go_wp2_with (refine wpList_loadV V8 0 rfl 21 _ rfl rfl rfl rfl Try.underlying22 Try.szB (bA_size _) ?_)
  refine (Jb.out w7).mono ?_
  rintro e w10 ⟨rfl, q12⟩
  have V11 := V8.call q12
  clear q12 V8
  go_wp2_with (first
    | (refine wpList_loadV V11 1 rfl 25 _ rfl rfl rfl rfl Try.underlying22 Try.szB (bA_size _) ?_)
    | (refine wpList_loadV V11 0 rfl 26 _ rfl rfl rfl rfl Try.underlying22 Try.szB (bA_size _) ?_))
  refine (Cab.out w10).mono ?_
  rintro e w13 ⟨rfl, q15⟩
  have V14 := V11.call q15
  clear q15 V11
  go_wp2_with (first
    | (refine wpList_allocV V14 5 22 rfl rfl rfl (bA 0) zeroB ?_; intro w16 g17 V18)
    | (refine wpList_storeV V18 0 rfl _ (.tmp 27) rfl rfl rfl (bA m) rfl rfl Try.szB (bA_size _) (bA_size _) (bA_one _) ?_; intro w19 V20))
  refine av_open (fun w' => Vars w w' [⟨g17, 22, bA m⟩, ⟨g5, 22, bA b⟩, ⟨g2, 22, bA a⟩]) (by kernel_rfl) ?_
  have V21 := V20.drew
  refine held_reads (rs := [0, 3]) (fuel := 10) (by kernel_rfl) (fun c d v a w h => by cases d <;> exact h) (by kernel_rfl) (V21) (fun K hK => ?_)
  refine calm_do (.agg (bA m)) rfl (by rfl) (fun w' hw' => exec_loadV hw' 0 rfl _ rfl rfl Try.underlying22 Try.szB (bA_size _)) ?_
  go_simp
  refine calm_do (.agg (bA a)) rfl (by rfl) (fun w' hw' => exec_loadV hw' 2 rfl _ rfl rfl Try.underlying22 Try.szB (bA_size _)) ?_
  go_simp
  refine calm_nil (hK.out _ ?_)
  clear hK K
  refine av_op (i := 1) (fuel := 9) (by kernel_rfl) rfl (by rfl) (fun K hK => ?_)
  go_simp
  refine (N0.out w19.drew).mono ?_
  rintro e w22 ⟨rfl, q24⟩
  have V23 := V21.call q24
  refine hK _ _ (V23) ?_
  clear hK K q24
  refine held_reads (rs := [2]) (fuel := 8) (by kernel_rfl) (fun c d v a w h => by cases d <;> exact h) (by kernel_rfl) (V23) (fun K hK => ?_)
  go_simp
  refine calm_do (.bool true) rfl (by rfl) (fun w' hw' => exec_eqlB _ _ rfl true _ _ EM.out rfl rfl HL.out.2.2.1 zero256) ?_
  go_simp
  refine calm_nil (hK.out _ ?_)
  clear hK K
  refine av_op (i := 4) (fuel := 7) (by kernel_rfl) rfl (by rfl) (fun K hK => ?_)
  go_simp
  refine (N0.out w22).mono ?_
  rintro e w25 ⟨rfl, q27⟩
  have V26 := V23.call q27
  refine hK _ _ (V26) ?_
  clear hK K q27
  refine held_reads (rs := [5, 6, 7, 8, 9, 10, 11]) (fuel := 0) (by kernel_rfl) (fun c d v a w h => by cases d <;> exact h) (by kernel_rfl) (V26) (fun K hK => ?_)
  go_simp
  refine calm_do (.bool true) rfl (by rfl) (fun w' hw' => exec_eqlB _ _ rfl true _ _ EA.out rfl rfl HL.out.1 zero256) ?_
  go_simp
  refine calm_move _ rfl (by rfl) rfl ?_
  go_simp
  refine calm_skip rfl (by rfl) ?_
  go_simp
  refine calm_skip rfl (by rfl) ?_
  go_simp
  refine calm_skip rfl (by rfl) ?_
  go_simp
  refine calm_do (.bool true) rfl (by rfl) (fun w' hw' => ?_) ?_
  · go_simp
  go_simp
  refine calm_do (.bool false) rfl (by rfl) (fun w' hw' => ?_) ?_
  · go_simp
  go_simp
  refine calm_nil (hK.out _ ?_)
  clear hK K
  refine wpAnyH_done (by kernel_rfl) ?_ _
  go_wp2_with (first
    | (refine wpList_loadV V26 0 rfl 41 _ rfl rfl rfl rfl Try.underlying22 Try.szB (bA_size _) ?_)
    | (refine wpList_loadV V26 0 rfl 42 _ rfl rfl rfl rfl Try.underlying22 Try.szB (bA_size _) ?_))
  refine (Cmm.out w25).mono ?_
  rintro e w28 ⟨rfl, q30⟩
  have V29 := V26.call q30
  clear q30 V26
  go_wp2_with fail
  refine (CR.out w28).mono ?_
  rintro e w31 ⟨rfl, q33⟩
  have V32 := V29.call q33
  clear q33 V29
  go_wp2_with (first
    | (refine wpList_allocV V32 6 22 rfl rfl rfl (bA 0) zeroB ?_; intro w34 g35 V36)
    | (refine wpList_storeV V36 0 rfl _ (.tmp 45) rfl rfl rfl (bA m) rfl rfl Try.szB (bA_size _) (bA_size _) (bA_one _) ?_; intro w37 V38))
  refine av_open (fun w' => Vars w w' [⟨g35, 22, bA m⟩, ⟨g17, 22, bA m⟩, ⟨g5, 22, bA b⟩, ⟨g2, 22, bA a⟩]) (by kernel_rfl) ?_
  have V39 := V38.drew
  apply av_once (Vg := fun g w' => Vars w w' [⟨g, 22, bA o⟩, ⟨g35, 22, bA m⟩, ⟨g17, 22, bA m⟩, ⟨g5, 22, bA b⟩, ⟨g2, 22, bA a⟩])
  · intro HC40
    refine held_reads (rs := [1]) (fuel := 8) (by kernel_rfl) (fun c d v a w h => by cases d <;> exact h) (by kernel_rfl) (V39) (fun K hK => ?_)
    refine calm_do (.agg (bA m)) rfl (by rfl) (fun w' hw' => exec_loadV hw' 1 rfl _ rfl rfl Try.underlying22 Try.szB (bA_size _)) ?_
    go_simp
    refine calm_nil (hK.out _ ?_)
    clear hK K
    refine av_op2 (i := 0) (j := 6) (fuel := 7) (by kernel_rfl) rfl (by rfl) rfl (by rfl) (fun K hK => ?_) (fun K hK => ?_)
    · go_simp
      refine (N0.out w37.drew).mono ?_
      rintro e w41 ⟨rfl, q43⟩
      have V42 := V39.call q43
      refine hK _ _ (V42) ?_
      clear hK K q43
      refine av_op2 (i := 2) (j := 6) (fuel := 6) (by kernel_rfl) rfl (by rfl) rfl (by rfl) (fun K hK => ?_) (fun K hK => ?_)
      · go_simp
        refine (CS.out w41).mono ?_
        rintro e w44 ⟨rfl, q46⟩
        have V45 := V42.call q46
        refine hK _ _ (V45) ?_
        clear hK K q46
        refine held_reads (rs := [3, 4, 5]) (fuel := 3) (by kernel_rfl) (fun c d v a w h => by cases d <;> exact h) (by kernel_rfl) (V45) (fun K hK => ?_)
        go_simp
        refine calm_move _ rfl (by rfl) rfl ?_
        go_simp
        refine calm_do (.agg (bA o)) rfl (by rfl) (fun w' hw' => ?_) ?_
        · go_simp
        go_simp
        refine calm_do (.int .i64 0) rfl (by rfl) (fun w' hw' => ?_) ?_
        · go_simp
        go_simp
        refine calm_nil (hK.out _ ?_)
        clear hK K
        refine av_op (i := 6) (fuel := 2) (by kernel_rfl) rfl (by rfl) (fun K hK => ?_)
        refine wp_allocV V45 9 22 rfl rfl (bA 0) zeroB (fun w47 g48 V49 => ?_)
        refine hK _ _ (V49.tail) ?_
        clear hK K
        refine av_op (i := 7) (fuel := 1) (by kernel_rfl) rfl (by rfl) (fun K hK => ?_)
        refine wp_storeV V49 0 rfl _ _ rfl rfl (bA o) rfl rfl Try.szB (bA_size _) (bA_size _) (bA_one _) (fun w50 V51 => ?_)
        refine hK _ _ (V51.tail) ?_
        clear hK K
        refine held_reads (rs := [8]) (fuel := 0) (by kernel_rfl) (fun c d v a w h => by cases d <;> exact h) (by kernel_rfl) (V51.tail) (fun K hK => ?_)
        go_simp
        refine calm_assign _ rfl (by rfl) rfl ?_
        go_simp
        refine calm_nil (hK.out _ ?_)
        clear hK K
        refine wpAnyH_done (by kernel_rfl) ?_ _
        exact HC40 g48 w50 V51
      · refine wp_allocV V42 9 22 rfl rfl (bA 0) zeroB (fun w52 g53 V54 => ?_)
        refine hK _ _ (V54.tail) ?_
        clear hK K
        refine av_op (i := 2) (fuel := 5) (by kernel_rfl) rfl (by rfl) (fun K hK => ?_)
        go_simp
        refine (CS.out w52).mono ?_
        rintro e w55 ⟨rfl, q57⟩
        have V56 := V54.call q57
        refine hK _ _ (V56.tail) ?_
        clear hK K q57
        refine held_reads (rs := [3, 4, 5]) (fuel := 2) (by kernel_rfl) (fun c d v a w h => by cases d <;> exact h) (by kernel_rfl) (V56.tail) (fun K hK => ?_)
        go_simp
        refine calm_move _ rfl (by rfl) rfl ?_
        go_simp
        refine calm_do (.agg (bA o)) rfl (by rfl) (fun w' hw' => ?_) ?_
        · go_simp
        go_simp
        refine calm_do (.int .i64 0) rfl (by rfl) (fun w' hw' => ?_) ?_
        · go_simp
        go_simp
        refine calm_nil (hK.out _ ?_)
        clear hK K
        refine av_op (i := 7) (fuel := 1) (by kernel_rfl) rfl (by rfl) (fun K hK => ?_)
        refine wp_storeV V56 0 rfl _ _ rfl rfl (bA o) rfl rfl Try.szB (bA_size _) (bA_size _) (bA_one _) (fun w58 V59 => ?_)
        refine hK _ _ (V59.tail) ?_
        clear hK K
        refine held_reads (rs := [8]) (fuel := 0) (by kernel_rfl) (fun c d v a w h => by cases d <;> exact h) (by kernel_rfl) (V59.tail) (fun K hK => ?_)
        go_simp
        refine calm_assign _ rfl (by rfl) rfl ?_
        go_simp
        refine calm_nil (hK.out _ ?_)
        clear hK K
        refine wpAnyH_done (by kernel_rfl) ?_ _
        exact HC40 g53 w58 V59
    · refine wp_allocV V39 9 22 rfl rfl (bA 0) zeroB (fun w60 g61 V62 => ?_)
      refine hK _ _ (V62.tail) ?_
      clear hK K
      refine av_op (i := 0) (fuel := 6) (by kernel_rfl) rfl (by rfl) (fun K hK => ?_)
      go_simp
      refine (N0.out w60).mono ?_
      rintro e w63 ⟨rfl, q65⟩
      have V64 := V62.call q65
      refine hK _ _ (V64.tail) ?_
      clear hK K q65
      refine av_op (i := 2) (fuel := 5) (by kernel_rfl) rfl (by rfl) (fun K hK => ?_)
      go_simp
      refine (CS.out w63).mono ?_
      rintro e w66 ⟨rfl, q68⟩
      have V67 := V64.call q68
      refine hK _ _ (V67.tail) ?_
      clear hK K q68
      refine held_reads (rs := [3, 4, 5]) (fuel := 2) (by kernel_rfl) (fun c d v a w h => by cases d <;> exact h) (by kernel_rfl) (V67.tail) (fun K hK => ?_)
      go_simp
      refine calm_move _ rfl (by rfl) rfl ?_
      go_simp
      refine calm_do (.agg (bA o)) rfl (by rfl) (fun w' hw' => ?_) ?_
      · go_simp
      go_simp
      refine calm_do (.int .i64 0) rfl (by rfl) (fun w' hw' => ?_) ?_
      · go_simp
      go_simp
      refine calm_nil (hK.out _ ?_)
      clear hK K
      refine av_op (i := 7) (fuel := 1) (by kernel_rfl) rfl (by rfl) (fun K hK => ?_)
      refine wp_storeV V67 0 rfl _ _ rfl rfl (bA o) rfl rfl Try.szB (bA_size _) (bA_size _) (bA_one _) (fun w69 V70 => ?_)
      refine hK _ _ (V70.tail) ?_
      clear hK K
      refine held_reads (rs := [8]) (fuel := 0) (by kernel_rfl) (fun c d v a w h => by cases d <;> exact h) (by kernel_rfl) (V70.tail) (fun K hK => ?_)
      go_simp
      refine calm_assign _ rfl (by rfl) rfl ?_
      go_simp
      refine calm_nil (hK.out _ ?_)
      clear hK K
      refine wpAnyH_done (by kernel_rfl) ?_ _
      exact HC40 g61 w69 V70
  intro g61 w69 V70
  clear V39
  go_wp2_with (first
    | (refine wpList_loadV V70 1 rfl 65 _ rfl rfl rfl rfl Try.underlying22 Try.szB (bA_size _) ?_)
    | (refine wpList_loadV V70 2 rfl 66 _ rfl rfl rfl rfl Try.underlying22 Try.szB (bA_size _) ?_)
    | (refine wpList_exec rfl (exec_neqB _ _ rfl false _ _ (dtrue rfl) rfl rfl HL.out.2.2.1 HL.out.2.2.1) ?_))
  refine av_open (fun w' => Vars w w' [⟨g61, 22, bA o⟩, ⟨g35, 22, bA m⟩, ⟨g17, 22, bA m⟩, ⟨g5, 22, bA b⟩, ⟨g2, 22, bA a⟩]) (by kernel_rfl) ?_
  have V71 := V70.drew
  refine held_reads (rs := [0]) (fuel := 2) (by kernel_rfl) (fun c d v a w h => by cases d <;> exact h) (by kernel_rfl) (V71) (fun K hK => ?_)
  refine calm_do (.agg (bA m)) rfl (by rfl) (fun w' hw' => exec_loadV hw' 2 rfl _ rfl rfl Try.underlying22 Try.szB (bA_size _)) ?_
  go_simp
  refine calm_nil (hK.out _ ?_)
  clear hK K
  refine av_op (i := 1) (fuel := 1) (by kernel_rfl) rfl (by rfl) (fun K hK => ?_)
  go_simp
  refine (N0.out w69.drew).mono ?_
  rintro e w72 ⟨rfl, q74⟩
  have V73 := V71.call q74
  refine hK _ _ (V73) ?_
  clear hK K q74
  refine held_reads (rs := [2]) (fuel := 0) (by kernel_rfl) (fun c d v a w h => by cases d <;> exact h) (by kernel_rfl) (V73) (fun K hK => ?_)
  go_simp
  refine calm_do (.bool true) rfl (by rfl) (fun w' hw' => exec_eqlB _ _ rfl true _ _ EM.out rfl rfl HL.out.2.2.1 zero256) ?_
  go_simp
  refine calm_nil (hK.out _ ?_)
  clear hK K
  refine wpAnyH_done (by kernel_rfl) ?_ _
  go_wp2_with fail
  refine (awake16_any w72).mono ?_
  rintro e w75 ⟨rfl, q77⟩
  have V76 := V73.call q77
  clear q77 V73
  go_wp2_with fail
  go_ret
  exact ⟨rfl, V76.bel⟩
set_option maxHeartbeats 3200000 in
theorem products_zb (a b : Nat) (w : World) (m q o x y z : Nat) (ha : a < fP) (hb : b < fP) (hm : m < fP) (ho : o < 2 ^ 256) (hz : z < 2 ^ 256) (ea : a ≠ 0) (eb : b = 0) (e0 : m = 0) (Cab : Hid (∀ w, Calls Try.prog 22 #[.agg (bA a), .agg (bA b)] w fun e w' => e = .returned (.agg (bA m)) ∧ Below w.heap.size w w')) (Cmm : Hid (∀ w, Calls Try.prog 22 #[.agg (bA m), .agg (bA m)] w fun e w' => e = .returned (.agg (bA q)) ∧ Below w.heap.size w w')) (CR : Hid (∀ w, Calls Try.prog 20 #[.agg (bA q)] w fun e w' => e = .returned (.tuple #[.agg (bA m), .bool true, .int .i64 0]) ∧ Below w.heap.size w w')) (CS : Hid (∀ w, Calls Try.prog 10 #[.agg (bA 0), .agg (bA m)] w fun e w' => e = .returned (.tuple #[.agg (bA o), .int .i64 0]) ∧ Below w.heap.size w w')) : Calls Try.prog 8 #[.agg (bA a), .agg (bA b)] w fun e w' => e = .returned (.bool true) ∧ Below w.heap.size w w' := by
  have Ja : Hid (∀ w, Calls Try.prog 13 #[.agg (bA a)] w fun e w' => e = .returned (.bool true) ∧ Below w.heap.size w w') := fun w => refIs_yes ha w
  have Jb : Hid (∀ w, Calls Try.prog 13 #[.agg (bA b)] w fun e w' => e = .returned (.bool true) ∧ Below w.heap.size w w') := fun w => refIs_yes hb w
  have N0 : Hid (∀ w, Calls Try.prog 19 #[.int .u8 0] w fun e w' => e = .returned (.agg (bA 0)) ∧ Below w.heap.size w w') := fun w => num_any 0 (by decide) w
  have HL : Hid (a < 2 ^ 256 ∧ b < 2 ^ 256 ∧ m < 2 ^ 256 ∧ o < 2 ^ 256 ∧ z < 2 ^ 256) := ⟨elt256 ha, elt256 hb, elt256 hm, ho, hz⟩
  have EA : Hid (decide (a = 0) = false) := dfalse ea
  have EB : Hid (decide (b = 0) = true) := dtrue eb
  have EM : Hid (decide (m = 0) = true) := dtrue e0
  clear ha hb hm ho hz ea e0 eb
  have V0 := Vars.start w
  go_enter Try.func8, Try.ntmps8
  go_wp2_with (first
    | (refine wpList_boxV V0 2 22 _ rfl rfl rfl (bA a) rfl ?_; intro w1 g2 V3)
    | (refine wpList_boxV V3 3 22 _ rfl rfl rfl (bA b) rfl ?_; intro w4 g5 V6)
    | (refine wpList_loadV V6 1 rfl 17 _ rfl rfl rfl rfl Try.underlying22 Try.szB (bA_size _) ?_))
  refine (Ja.out w4).mono ?_
  rintro e w7 ⟨rfl, q9⟩
  have V8 := V6.call q9
  clear q9 V6
  go_wp2_with (refine wpList_loadV V8 0 rfl 21 _ rfl rfl rfl rfl Try.underlying22 Try.szB (bA_size _) ?_)
  refine (Jb.out w7).mono ?_
  rintro e w10 ⟨rfl, q12⟩
  have V11 := V8.call q12
  clear q12 V8
  go_wp2_with (first
    | (refine wpList_loadV V11 1 rfl 25 _ rfl rfl rfl rfl Try.underlying22 Try.szB (bA_size _) ?_)
    | (refine wpList_loadV V11 0 rfl 26 _ rfl rfl rfl rfl Try.underlying22 Try.szB (bA_size _) ?_))
  refine (Cab.out w10).mono ?_
  rintro e w13 ⟨rfl, q15⟩
  have V14 := V11.call q15
  clear q15 V11
  go_wp2_with (first
    | (refine wpList_allocV V14 5 22 rfl rfl rfl (bA 0) zeroB ?_; intro w16 g17 V18)
    | (refine wpList_storeV V18 0 rfl _ (.tmp 27) rfl rfl rfl (bA m) rfl rfl Try.szB (bA_size _) (bA_size _) (bA_one _) ?_; intro w19 V20))
  refine av_open (fun w' => Vars w w' [⟨g17, 22, bA m⟩, ⟨g5, 22, bA b⟩, ⟨g2, 22, bA a⟩]) (by kernel_rfl) ?_
  have V21 := V20.drew
  refine held_reads (rs := [0, 3]) (fuel := 10) (by kernel_rfl) (fun c d v a w h => by cases d <;> exact h) (by kernel_rfl) (V21) (fun K hK => ?_)
  refine calm_do (.agg (bA m)) rfl (by rfl) (fun w' hw' => exec_loadV hw' 0 rfl _ rfl rfl Try.underlying22 Try.szB (bA_size _)) ?_
  go_simp
  refine calm_do (.agg (bA a)) rfl (by rfl) (fun w' hw' => exec_loadV hw' 2 rfl _ rfl rfl Try.underlying22 Try.szB (bA_size _)) ?_
  go_simp
  refine calm_nil (hK.out _ ?_)
  clear hK K
  refine av_op (i := 1) (fuel := 9) (by kernel_rfl) rfl (by rfl) (fun K hK => ?_)
  go_simp
  refine (N0.out w19.drew).mono ?_
  rintro e w22 ⟨rfl, q24⟩
  have V23 := V21.call q24
  refine hK _ _ (V23) ?_
  clear hK K q24
  refine held_reads (rs := [2]) (fuel := 8) (by kernel_rfl) (fun c d v a w h => by cases d <;> exact h) (by kernel_rfl) (V23) (fun K hK => ?_)
  go_simp
  refine calm_do (.bool true) rfl (by rfl) (fun w' hw' => exec_eqlB _ _ rfl true _ _ EM.out rfl rfl HL.out.2.2.1 zero256) ?_
  go_simp
  refine calm_nil (hK.out _ ?_)
  clear hK K
  refine av_op (i := 4) (fuel := 7) (by kernel_rfl) rfl (by rfl) (fun K hK => ?_)
  go_simp
  refine (N0.out w22).mono ?_
  rintro e w25 ⟨rfl, q27⟩
  have V26 := V23.call q27
  refine hK _ _ (V26) ?_
  clear hK K q27
  refine held_reads (rs := [5, 6, 7]) (fuel := 4) (by kernel_rfl) (fun c d v a w h => by cases d <;> exact h) (by kernel_rfl) (V26) (fun K hK => ?_)
  go_simp
  refine calm_do (.bool false) rfl (by rfl) (fun w' hw' => exec_eqlB _ _ rfl false _ _ EA.out rfl rfl HL.out.1 zero256) ?_
  go_simp
  refine calm_move _ rfl (by rfl) rfl ?_
  go_simp
  refine calm_do (.agg (bA b)) rfl (by rfl) (fun w' hw' => exec_loadV hw' 1 rfl _ rfl rfl Try.underlying22 Try.szB (bA_size _)) ?_
  go_simp
  refine calm_nil (hK.out _ ?_)
  clear hK K
  refine av_op (i := 8) (fuel := 3) (by kernel_rfl) rfl (by rfl) (fun K hK => ?_)
  go_simp
  refine (N0.out w25).mono ?_
  rintro e w28 ⟨rfl, q30⟩
  have V29 := V26.call q30
  refine hK _ _ (V29) ?_
  clear hK K q30
  refine held_reads (rs := [9, 10, 11]) (fuel := 0) (by kernel_rfl) (fun c d v a w h => by cases d <;> exact h) (by kernel_rfl) (V29) (fun K hK => ?_)
  go_simp
  refine calm_do (.bool true) rfl (by rfl) (fun w' hw' => exec_eqlB _ _ rfl true _ _ EB.out rfl rfl HL.out.2.1 zero256) ?_
  go_simp
  refine calm_do (.bool true) rfl (by rfl) (fun w' hw' => ?_) ?_
  · go_simp
  go_simp
  refine calm_do (.bool false) rfl (by rfl) (fun w' hw' => ?_) ?_
  · go_simp
  go_simp
  refine calm_nil (hK.out _ ?_)
  clear hK K
  refine wpAnyH_done (by kernel_rfl) ?_ _
  go_wp2_with (first
    | (refine wpList_loadV V29 0 rfl 41 _ rfl rfl rfl rfl Try.underlying22 Try.szB (bA_size _) ?_)
    | (refine wpList_loadV V29 0 rfl 42 _ rfl rfl rfl rfl Try.underlying22 Try.szB (bA_size _) ?_))
  refine (Cmm.out w28).mono ?_
  rintro e w31 ⟨rfl, q33⟩
  have V32 := V29.call q33
  clear q33 V29
  go_wp2_with fail
  refine (CR.out w31).mono ?_
  rintro e w34 ⟨rfl, q36⟩
  have V35 := V32.call q36
  clear q36 V32
  go_wp2_with (first
    | (refine wpList_allocV V35 6 22 rfl rfl rfl (bA 0) zeroB ?_; intro w37 g38 V39)
    | (refine wpList_storeV V39 0 rfl _ (.tmp 45) rfl rfl rfl (bA m) rfl rfl Try.szB (bA_size _) (bA_size _) (bA_one _) ?_; intro w40 V41))
  refine av_open (fun w' => Vars w w' [⟨g38, 22, bA m⟩, ⟨g17, 22, bA m⟩, ⟨g5, 22, bA b⟩, ⟨g2, 22, bA a⟩]) (by kernel_rfl) ?_
  have V42 := V41.drew
  apply av_once (Vg := fun g w' => Vars w w' [⟨g, 22, bA o⟩, ⟨g38, 22, bA m⟩, ⟨g17, 22, bA m⟩, ⟨g5, 22, bA b⟩, ⟨g2, 22, bA a⟩])
  · intro HC43
    refine held_reads (rs := [1]) (fuel := 8) (by kernel_rfl) (fun c d v a w h => by cases d <;> exact h) (by kernel_rfl) (V42) (fun K hK => ?_)
    refine calm_do (.agg (bA m)) rfl (by rfl) (fun w' hw' => exec_loadV hw' 1 rfl _ rfl rfl Try.underlying22 Try.szB (bA_size _)) ?_
    go_simp
    refine calm_nil (hK.out _ ?_)
    clear hK K
    refine av_op2 (i := 0) (j := 6) (fuel := 7) (by kernel_rfl) rfl (by rfl) rfl (by rfl) (fun K hK => ?_) (fun K hK => ?_)
    · go_simp
      refine (N0.out w40.drew).mono ?_
      rintro e w44 ⟨rfl, q46⟩
      have V45 := V42.call q46
      refine hK _ _ (V45) ?_
      clear hK K q46
      refine av_op2 (i := 2) (j := 6) (fuel := 6) (by kernel_rfl) rfl (by rfl) rfl (by rfl) (fun K hK => ?_) (fun K hK => ?_)
      · go_simp
        refine (CS.out w44).mono ?_
        rintro e w47 ⟨rfl, q49⟩
        have V48 := V45.call q49
        refine hK _ _ (V48) ?_
        clear hK K q49
        refine held_reads (rs := [3, 4, 5]) (fuel := 3) (by kernel_rfl) (fun c d v a w h => by cases d <;> exact h) (by kernel_rfl) (V48) (fun K hK => ?_)
        go_simp
        refine calm_move _ rfl (by rfl) rfl ?_
        go_simp
        refine calm_do (.agg (bA o)) rfl (by rfl) (fun w' hw' => ?_) ?_
        · go_simp
        go_simp
        refine calm_do (.int .i64 0) rfl (by rfl) (fun w' hw' => ?_) ?_
        · go_simp
        go_simp
        refine calm_nil (hK.out _ ?_)
        clear hK K
        refine av_op (i := 6) (fuel := 2) (by kernel_rfl) rfl (by rfl) (fun K hK => ?_)
        refine wp_allocV V48 9 22 rfl rfl (bA 0) zeroB (fun w50 g51 V52 => ?_)
        refine hK _ _ (V52.tail) ?_
        clear hK K
        refine av_op (i := 7) (fuel := 1) (by kernel_rfl) rfl (by rfl) (fun K hK => ?_)
        refine wp_storeV V52 0 rfl _ _ rfl rfl (bA o) rfl rfl Try.szB (bA_size _) (bA_size _) (bA_one _) (fun w53 V54 => ?_)
        refine hK _ _ (V54.tail) ?_
        clear hK K
        refine held_reads (rs := [8]) (fuel := 0) (by kernel_rfl) (fun c d v a w h => by cases d <;> exact h) (by kernel_rfl) (V54.tail) (fun K hK => ?_)
        go_simp
        refine calm_assign _ rfl (by rfl) rfl ?_
        go_simp
        refine calm_nil (hK.out _ ?_)
        clear hK K
        refine wpAnyH_done (by kernel_rfl) ?_ _
        exact HC43 g51 w53 V54
      · refine wp_allocV V45 9 22 rfl rfl (bA 0) zeroB (fun w55 g56 V57 => ?_)
        refine hK _ _ (V57.tail) ?_
        clear hK K
        refine av_op (i := 2) (fuel := 5) (by kernel_rfl) rfl (by rfl) (fun K hK => ?_)
        go_simp
        refine (CS.out w55).mono ?_
        rintro e w58 ⟨rfl, q60⟩
        have V59 := V57.call q60
        refine hK _ _ (V59.tail) ?_
        clear hK K q60
        refine held_reads (rs := [3, 4, 5]) (fuel := 2) (by kernel_rfl) (fun c d v a w h => by cases d <;> exact h) (by kernel_rfl) (V59.tail) (fun K hK => ?_)
        go_simp
        refine calm_move _ rfl (by rfl) rfl ?_
        go_simp
        refine calm_do (.agg (bA o)) rfl (by rfl) (fun w' hw' => ?_) ?_
        · go_simp
        go_simp
        refine calm_do (.int .i64 0) rfl (by rfl) (fun w' hw' => ?_) ?_
        · go_simp
        go_simp
        refine calm_nil (hK.out _ ?_)
        clear hK K
        refine av_op (i := 7) (fuel := 1) (by kernel_rfl) rfl (by rfl) (fun K hK => ?_)
        refine wp_storeV V59 0 rfl _ _ rfl rfl (bA o) rfl rfl Try.szB (bA_size _) (bA_size _) (bA_one _) (fun w61 V62 => ?_)
        refine hK _ _ (V62.tail) ?_
        clear hK K
        refine held_reads (rs := [8]) (fuel := 0) (by kernel_rfl) (fun c d v a w h => by cases d <;> exact h) (by kernel_rfl) (V62.tail) (fun K hK => ?_)
        go_simp
        refine calm_assign _ rfl (by rfl) rfl ?_
        go_simp
        refine calm_nil (hK.out _ ?_)
        clear hK K
        refine wpAnyH_done (by kernel_rfl) ?_ _
        exact HC43 g56 w61 V62
    · refine wp_allocV V42 9 22 rfl rfl (bA 0) zeroB (fun w63 g64 V65 => ?_)
      refine hK _ _ (V65.tail) ?_
      clear hK K
      refine av_op (i := 0) (fuel := 6) (by kernel_rfl) rfl (by rfl) (fun K hK => ?_)
      go_simp
      refine (N0.out w63).mono ?_
      rintro e w66 ⟨rfl, q68⟩
      have V67 := V65.call q68
      refine hK _ _ (V67.tail) ?_
      clear hK K q68
      refine av_op (i := 2) (fuel := 5) (by kernel_rfl) rfl (by rfl) (fun K hK => ?_)
      go_simp
      refine (CS.out w66).mono ?_
      rintro e w69 ⟨rfl, q71⟩
      have V70 := V67.call q71
      refine hK _ _ (V70.tail) ?_
      clear hK K q71
      refine held_reads (rs := [3, 4, 5]) (fuel := 2) (by kernel_rfl) (fun c d v a w h => by cases d <;> exact h) (by kernel_rfl) (V70.tail) (fun K hK => ?_)
      go_simp
      refine calm_move _ rfl (by rfl) rfl ?_
      go_simp
      refine calm_do (.agg (bA o)) rfl (by rfl) (fun w' hw' => ?_) ?_
      · go_simp
      go_simp
      refine calm_do (.int .i64 0) rfl (by rfl) (fun w' hw' => ?_) ?_
      · go_simp
      go_simp
      refine calm_nil (hK.out _ ?_)
      clear hK K
      refine av_op (i := 7) (fuel := 1) (by kernel_rfl) rfl (by rfl) (fun K hK => ?_)
      refine wp_storeV V70 0 rfl _ _ rfl rfl (bA o) rfl rfl Try.szB (bA_size _) (bA_size _) (bA_one _) (fun w72 V73 => ?_)
      refine hK _ _ (V73.tail) ?_
      clear hK K
      refine held_reads (rs := [8]) (fuel := 0) (by kernel_rfl) (fun c d v a w h => by cases d <;> exact h) (by kernel_rfl) (V73.tail) (fun K hK => ?_)
      go_simp
      refine calm_assign _ rfl (by rfl) rfl ?_
      go_simp
      refine calm_nil (hK.out _ ?_)
      clear hK K
      refine wpAnyH_done (by kernel_rfl) ?_ _
      exact HC43 g64 w72 V73
  intro g64 w72 V73
  clear V42
  go_wp2_with (first
    | (refine wpList_loadV V73 1 rfl 65 _ rfl rfl rfl rfl Try.underlying22 Try.szB (bA_size _) ?_)
    | (refine wpList_loadV V73 2 rfl 66 _ rfl rfl rfl rfl Try.underlying22 Try.szB (bA_size _) ?_)
    | (refine wpList_exec rfl (exec_neqB _ _ rfl false _ _ (dtrue rfl) rfl rfl HL.out.2.2.1 HL.out.2.2.1) ?_))
  refine av_open (fun w' => Vars w w' [⟨g64, 22, bA o⟩, ⟨g38, 22, bA m⟩, ⟨g17, 22, bA m⟩, ⟨g5, 22, bA b⟩, ⟨g2, 22, bA a⟩]) (by kernel_rfl) ?_
  have V74 := V73.drew
  refine held_reads (rs := [0]) (fuel := 2) (by kernel_rfl) (fun c d v a w h => by cases d <;> exact h) (by kernel_rfl) (V74) (fun K hK => ?_)
  refine calm_do (.agg (bA m)) rfl (by rfl) (fun w' hw' => exec_loadV hw' 2 rfl _ rfl rfl Try.underlying22 Try.szB (bA_size _)) ?_
  go_simp
  refine calm_nil (hK.out _ ?_)
  clear hK K
  refine av_op (i := 1) (fuel := 1) (by kernel_rfl) rfl (by rfl) (fun K hK => ?_)
  go_simp
  refine (N0.out w72.drew).mono ?_
  rintro e w75 ⟨rfl, q77⟩
  have V76 := V74.call q77
  refine hK _ _ (V76) ?_
  clear hK K q77
  refine held_reads (rs := [2]) (fuel := 0) (by kernel_rfl) (fun c d v a w h => by cases d <;> exact h) (by kernel_rfl) (V76) (fun K hK => ?_)
  go_simp
  refine calm_do (.bool true) rfl (by rfl) (fun w' hw' => exec_eqlB _ _ rfl true _ _ EM.out rfl rfl HL.out.2.2.1 zero256) ?_
  go_simp
  refine calm_nil (hK.out _ ?_)
  clear hK K
  refine wpAnyH_done (by kernel_rfl) ?_ _
  go_wp2_with fail
  refine (awake16_any w75).mono ?_
  rintro e w78 ⟨rfl, q80⟩
  have V79 := V76.call q80
  clear q80 V76
  go_wp2_with fail
  go_ret
  exact ⟨rfl, V79.bel⟩
set_option maxHeartbeats 3200000 in
theorem products_even (a b : Nat) (w : World) (m q o x y z : Nat) (ha : a < fP) (hb : b < fP) (hm : m < fP) (ho : o < 2 ^ 256) (hz : z < 2 ^ 256) (ea : a ≠ 0) (eb : b ≠ 0) (e0 : m ≠ 0) (Cab : Hid (∀ w, Calls Try.prog 22 #[.agg (bA a), .agg (bA b)] w fun e w' => e = .returned (.agg (bA m)) ∧ Below w.heap.size w w')) (Cmm : Hid (∀ w, Calls Try.prog 22 #[.agg (bA m), .agg (bA m)] w fun e w' => e = .returned (.agg (bA q)) ∧ Below w.heap.size w w')) (CR : Hid (∀ w, Calls Try.prog 20 #[.agg (bA q)] w fun e w' => e = .returned (.tuple #[.agg (bA m), .bool true, .int .i64 0]) ∧ Below w.heap.size w w')) (CS : Hid (∀ w, Calls Try.prog 10 #[.agg (bA 0), .agg (bA m)] w fun e w' => e = .returned (.tuple #[.agg (bA o), .int .i64 0]) ∧ Below w.heap.size w w')) (Ia : Hid (∀ w, Calls Try.prog 18 #[.agg (bA a)] w fun e w' => e = .returned (.tuple #[.agg (bA x), .int .i64 0]) ∧ Below w.heap.size w w')) (Ib : Hid (∀ w, Calls Try.prog 18 #[.agg (bA b)] w fun e w' => e = .returned (.tuple #[.agg (bA y), .int .i64 0]) ∧ Below w.heap.size w w')) (Im : Hid (∀ w, Calls Try.prog 18 #[.agg (bA m)] w fun e w' => e = .returned (.tuple #[.agg (bA z), .int .i64 0]) ∧ Below w.heap.size w w')) (Cxy : Hid (∀ w, Calls Try.prog 22 #[.agg (bA x), .agg (bA y)] w fun e w' => e = .returned (.agg (bA z)) ∧ Below w.heap.size w w')) : Calls Try.prog 8 #[.agg (bA a), .agg (bA b)] w fun e w' => e = .returned (.bool true) ∧ Below w.heap.size w w' := by
  have Ja : Hid (∀ w, Calls Try.prog 13 #[.agg (bA a)] w fun e w' => e = .returned (.bool true) ∧ Below w.heap.size w w') := fun w => refIs_yes ha w
  have Jb : Hid (∀ w, Calls Try.prog 13 #[.agg (bA b)] w fun e w' => e = .returned (.bool true) ∧ Below w.heap.size w w') := fun w => refIs_yes hb w
  have N0 : Hid (∀ w, Calls Try.prog 19 #[.int .u8 0] w fun e w' => e = .returned (.agg (bA 0)) ∧ Below w.heap.size w w') := fun w => num_any 0 (by decide) w
  have HL : Hid (a < 2 ^ 256 ∧ b < 2 ^ 256 ∧ m < 2 ^ 256 ∧ o < 2 ^ 256 ∧ z < 2 ^ 256) := ⟨elt256 ha, elt256 hb, elt256 hm, ho, hz⟩
  have EA : Hid (decide (a = 0) = false) := dfalse ea
  have EB : Hid (decide (b = 0) = false) := dfalse eb
  have EM : Hid (decide (m = 0) = false) := dfalse e0
  clear ha hb hm ho hz ea e0 eb
  have V0 := Vars.start w
  go_enter Try.func8, Try.ntmps8
  go_wp2_with (first
    | (refine wpList_boxV V0 2 22 _ rfl rfl rfl (bA a) rfl ?_; intro w1 g2 V3)
    | (refine wpList_boxV V3 3 22 _ rfl rfl rfl (bA b) rfl ?_; intro w4 g5 V6)
    | (refine wpList_loadV V6 1 rfl 17 _ rfl rfl rfl rfl Try.underlying22 Try.szB (bA_size _) ?_))
  refine (Ja.out w4).mono ?_
  rintro e w7 ⟨rfl, q9⟩
  have V8 := V6.call q9
  clear q9 V6
  go_wp2_with (refine wpList_loadV V8 0 rfl 21 _ rfl rfl rfl rfl Try.underlying22 Try.szB (bA_size _) ?_)
  refine (Jb.out w7).mono ?_
  rintro e w10 ⟨rfl, q12⟩
  have V11 := V8.call q12
  clear q12 V8
  go_wp2_with (first
    | (refine wpList_loadV V11 1 rfl 25 _ rfl rfl rfl rfl Try.underlying22 Try.szB (bA_size _) ?_)
    | (refine wpList_loadV V11 0 rfl 26 _ rfl rfl rfl rfl Try.underlying22 Try.szB (bA_size _) ?_))
  refine (Cab.out w10).mono ?_
  rintro e w13 ⟨rfl, q15⟩
  have V14 := V11.call q15
  clear q15 V11
  go_wp2_with (first
    | (refine wpList_allocV V14 5 22 rfl rfl rfl (bA 0) zeroB ?_; intro w16 g17 V18)
    | (refine wpList_storeV V18 0 rfl _ (.tmp 27) rfl rfl rfl (bA m) rfl rfl Try.szB (bA_size _) (bA_size _) (bA_one _) ?_; intro w19 V20))
  refine av_open (fun w' => Vars w w' [⟨g17, 22, bA m⟩, ⟨g5, 22, bA b⟩, ⟨g2, 22, bA a⟩]) (by kernel_rfl) ?_
  have V21 := V20.drew
  refine held_reads (rs := [0, 3]) (fuel := 10) (by kernel_rfl) (fun c d v a w h => by cases d <;> exact h) (by kernel_rfl) (V21) (fun K hK => ?_)
  refine calm_do (.agg (bA m)) rfl (by rfl) (fun w' hw' => exec_loadV hw' 0 rfl _ rfl rfl Try.underlying22 Try.szB (bA_size _)) ?_
  go_simp
  refine calm_do (.agg (bA a)) rfl (by rfl) (fun w' hw' => exec_loadV hw' 2 rfl _ rfl rfl Try.underlying22 Try.szB (bA_size _)) ?_
  go_simp
  refine calm_nil (hK.out _ ?_)
  clear hK K
  refine av_op (i := 1) (fuel := 9) (by kernel_rfl) rfl (by rfl) (fun K hK => ?_)
  go_simp
  refine (N0.out w19.drew).mono ?_
  rintro e w22 ⟨rfl, q24⟩
  have V23 := V21.call q24
  refine hK _ _ (V23) ?_
  clear hK K q24
  refine held_reads (rs := [2]) (fuel := 8) (by kernel_rfl) (fun c d v a w h => by cases d <;> exact h) (by kernel_rfl) (V23) (fun K hK => ?_)
  go_simp
  refine calm_do (.bool false) rfl (by rfl) (fun w' hw' => exec_eqlB _ _ rfl false _ _ EM.out rfl rfl HL.out.2.2.1 zero256) ?_
  go_simp
  refine calm_nil (hK.out _ ?_)
  clear hK K
  refine av_op (i := 4) (fuel := 7) (by kernel_rfl) rfl (by rfl) (fun K hK => ?_)
  go_simp
  refine (N0.out w22).mono ?_
  rintro e w25 ⟨rfl, q27⟩
  have V26 := V23.call q27
  refine hK _ _ (V26) ?_
  clear hK K q27
  refine held_reads (rs := [5, 6, 7]) (fuel := 4) (by kernel_rfl) (fun c d v a w h => by cases d <;> exact h) (by kernel_rfl) (V26) (fun K hK => ?_)
  go_simp
  refine calm_do (.bool false) rfl (by rfl) (fun w' hw' => exec_eqlB _ _ rfl false _ _ EA.out rfl rfl HL.out.1 zero256) ?_
  go_simp
  refine calm_move _ rfl (by rfl) rfl ?_
  go_simp
  refine calm_do (.agg (bA b)) rfl (by rfl) (fun w' hw' => exec_loadV hw' 1 rfl _ rfl rfl Try.underlying22 Try.szB (bA_size _)) ?_
  go_simp
  refine calm_nil (hK.out _ ?_)
  clear hK K
  refine av_op (i := 8) (fuel := 3) (by kernel_rfl) rfl (by rfl) (fun K hK => ?_)
  go_simp
  refine (N0.out w25).mono ?_
  rintro e w28 ⟨rfl, q30⟩
  have V29 := V26.call q30
  refine hK _ _ (V29) ?_
  clear hK K q30
  refine held_reads (rs := [9, 10, 11]) (fuel := 0) (by kernel_rfl) (fun c d v a w h => by cases d <;> exact h) (by kernel_rfl) (V29) (fun K hK => ?_)
  go_simp
  refine calm_do (.bool false) rfl (by rfl) (fun w' hw' => exec_eqlB _ _ rfl false _ _ EB.out rfl rfl HL.out.2.1 zero256) ?_
  go_simp
  refine calm_do (.bool false) rfl (by rfl) (fun w' hw' => ?_) ?_
  · go_simp
  go_simp
  refine calm_do (.bool false) rfl (by rfl) (fun w' hw' => ?_) ?_
  · go_simp
  go_simp
  refine calm_nil (hK.out _ ?_)
  clear hK K
  refine wpAnyH_done (by kernel_rfl) ?_ _
  go_wp2_with (first
    | (refine wpList_loadV V29 0 rfl 41 _ rfl rfl rfl rfl Try.underlying22 Try.szB (bA_size _) ?_)
    | (refine wpList_loadV V29 0 rfl 42 _ rfl rfl rfl rfl Try.underlying22 Try.szB (bA_size _) ?_))
  refine (Cmm.out w28).mono ?_
  rintro e w31 ⟨rfl, q33⟩
  have V32 := V29.call q33
  clear q33 V29
  go_wp2_with fail
  refine (CR.out w31).mono ?_
  rintro e w34 ⟨rfl, q36⟩
  have V35 := V32.call q36
  clear q36 V32
  go_wp2_with (first
    | (refine wpList_allocV V35 6 22 rfl rfl rfl (bA 0) zeroB ?_; intro w37 g38 V39)
    | (refine wpList_storeV V39 0 rfl _ (.tmp 45) rfl rfl rfl (bA m) rfl rfl Try.szB (bA_size _) (bA_size _) (bA_one _) ?_; intro w40 V41))
  refine av_open (fun w' => Vars w w' [⟨g38, 22, bA m⟩, ⟨g17, 22, bA m⟩, ⟨g5, 22, bA b⟩, ⟨g2, 22, bA a⟩]) (by kernel_rfl) ?_
  have V42 := V41.drew
  apply av_once (Vg := fun g w' => Vars w w' [⟨g, 22, bA o⟩, ⟨g38, 22, bA m⟩, ⟨g17, 22, bA m⟩, ⟨g5, 22, bA b⟩, ⟨g2, 22, bA a⟩])
  · intro HC43
    refine held_reads (rs := [1]) (fuel := 8) (by kernel_rfl) (fun c d v a w h => by cases d <;> exact h) (by kernel_rfl) (V42) (fun K hK => ?_)
    refine calm_do (.agg (bA m)) rfl (by rfl) (fun w' hw' => exec_loadV hw' 1 rfl _ rfl rfl Try.underlying22 Try.szB (bA_size _)) ?_
    go_simp
    refine calm_nil (hK.out _ ?_)
    clear hK K
    refine av_op2 (i := 0) (j := 6) (fuel := 7) (by kernel_rfl) rfl (by rfl) rfl (by rfl) (fun K hK => ?_) (fun K hK => ?_)
    · go_simp
      refine (N0.out w40.drew).mono ?_
      rintro e w44 ⟨rfl, q46⟩
      have V45 := V42.call q46
      refine hK _ _ (V45) ?_
      clear hK K q46
      refine av_op2 (i := 2) (j := 6) (fuel := 6) (by kernel_rfl) rfl (by rfl) rfl (by rfl) (fun K hK => ?_) (fun K hK => ?_)
      · go_simp
        refine (CS.out w44).mono ?_
        rintro e w47 ⟨rfl, q49⟩
        have V48 := V45.call q49
        refine hK _ _ (V48) ?_
        clear hK K q49
        refine held_reads (rs := [3, 4, 5]) (fuel := 3) (by kernel_rfl) (fun c d v a w h => by cases d <;> exact h) (by kernel_rfl) (V48) (fun K hK => ?_)
        go_simp
        refine calm_move _ rfl (by rfl) rfl ?_
        go_simp
        refine calm_do (.agg (bA o)) rfl (by rfl) (fun w' hw' => ?_) ?_
        · go_simp
        go_simp
        refine calm_do (.int .i64 0) rfl (by rfl) (fun w' hw' => ?_) ?_
        · go_simp
        go_simp
        refine calm_nil (hK.out _ ?_)
        clear hK K
        refine av_op (i := 6) (fuel := 2) (by kernel_rfl) rfl (by rfl) (fun K hK => ?_)
        refine wp_allocV V48 9 22 rfl rfl (bA 0) zeroB (fun w50 g51 V52 => ?_)
        refine hK _ _ (V52.tail) ?_
        clear hK K
        refine av_op (i := 7) (fuel := 1) (by kernel_rfl) rfl (by rfl) (fun K hK => ?_)
        refine wp_storeV V52 0 rfl _ _ rfl rfl (bA o) rfl rfl Try.szB (bA_size _) (bA_size _) (bA_one _) (fun w53 V54 => ?_)
        refine hK _ _ (V54.tail) ?_
        clear hK K
        refine held_reads (rs := [8]) (fuel := 0) (by kernel_rfl) (fun c d v a w h => by cases d <;> exact h) (by kernel_rfl) (V54.tail) (fun K hK => ?_)
        go_simp
        refine calm_assign _ rfl (by rfl) rfl ?_
        go_simp
        refine calm_nil (hK.out _ ?_)
        clear hK K
        refine wpAnyH_done (by kernel_rfl) ?_ _
        exact HC43 g51 w53 V54
      · refine wp_allocV V45 9 22 rfl rfl (bA 0) zeroB (fun w55 g56 V57 => ?_)
        refine hK _ _ (V57.tail) ?_
        clear hK K
        refine av_op (i := 2) (fuel := 5) (by kernel_rfl) rfl (by rfl) (fun K hK => ?_)
        go_simp
        refine (CS.out w55).mono ?_
        rintro e w58 ⟨rfl, q60⟩
        have V59 := V57.call q60
        refine hK _ _ (V59.tail) ?_
        clear hK K q60
        refine held_reads (rs := [3, 4, 5]) (fuel := 2) (by kernel_rfl) (fun c d v a w h => by cases d <;> exact h) (by kernel_rfl) (V59.tail) (fun K hK => ?_)
        go_simp
        refine calm_move _ rfl (by rfl) rfl ?_
        go_simp
        refine calm_do (.agg (bA o)) rfl (by rfl) (fun w' hw' => ?_) ?_
        · go_simp
        go_simp
        refine calm_do (.int .i64 0) rfl (by rfl) (fun w' hw' => ?_) ?_
        · go_simp
        go_simp
        refine calm_nil (hK.out _ ?_)
        clear hK K
        refine av_op (i := 7) (fuel := 1) (by kernel_rfl) rfl (by rfl) (fun K hK => ?_)
        refine wp_storeV V59 0 rfl _ _ rfl rfl (bA o) rfl rfl Try.szB (bA_size _) (bA_size _) (bA_one _) (fun w61 V62 => ?_)
        refine hK _ _ (V62.tail) ?_
        clear hK K
        refine held_reads (rs := [8]) (fuel := 0) (by kernel_rfl) (fun c d v a w h => by cases d <;> exact h) (by kernel_rfl) (V62.tail) (fun K hK => ?_)
        go_simp
        refine calm_assign _ rfl (by rfl) rfl ?_
        go_simp
        refine calm_nil (hK.out _ ?_)
        clear hK K
        refine wpAnyH_done (by kernel_rfl) ?_ _
        exact HC43 g56 w61 V62
    · refine wp_allocV V42 9 22 rfl rfl (bA 0) zeroB (fun w63 g64 V65 => ?_)
      refine hK _ _ (V65.tail) ?_
      clear hK K
      refine av_op (i := 0) (fuel := 6) (by kernel_rfl) rfl (by rfl) (fun K hK => ?_)
      go_simp
      refine (N0.out w63).mono ?_
      rintro e w66 ⟨rfl, q68⟩
      have V67 := V65.call q68
      refine hK _ _ (V67.tail) ?_
      clear hK K q68
      refine av_op (i := 2) (fuel := 5) (by kernel_rfl) rfl (by rfl) (fun K hK => ?_)
      go_simp
      refine (CS.out w66).mono ?_
      rintro e w69 ⟨rfl, q71⟩
      have V70 := V67.call q71
      refine hK _ _ (V70.tail) ?_
      clear hK K q71
      refine held_reads (rs := [3, 4, 5]) (fuel := 2) (by kernel_rfl) (fun c d v a w h => by cases d <;> exact h) (by kernel_rfl) (V70.tail) (fun K hK => ?_)
      go_simp
      refine calm_move _ rfl (by rfl) rfl ?_
      go_simp
      refine calm_do (.agg (bA o)) rfl (by rfl) (fun w' hw' => ?_) ?_
      · go_simp
      go_simp
      refine calm_do (.int .i64 0) rfl (by rfl) (fun w' hw' => ?_) ?_
      · go_simp
      go_simp
      refine calm_nil (hK.out _ ?_)
      clear hK K
      refine av_op (i := 7) (fuel := 1) (by kernel_rfl) rfl (by rfl) (fun K hK => ?_)
      refine wp_storeV V70 0 rfl _ _ rfl rfl (bA o) rfl rfl Try.szB (bA_size _) (bA_size _) (bA_one _) (fun w72 V73 => ?_)
      refine hK _ _ (V73.tail) ?_
      clear hK K
      refine held_reads (rs := [8]) (fuel := 0) (by kernel_rfl) (fun c d v a w h => by cases d <;> exact h) (by kernel_rfl) (V73.tail) (fun K hK => ?_)
      go_simp
      refine calm_assign _ rfl (by rfl) rfl ?_
      go_simp
      refine calm_nil (hK.out _ ?_)
      clear hK K
      refine wpAnyH_done (by kernel_rfl) ?_ _
      exact HC43 g64 w72 V73
  intro g64 w72 V73
  clear V42
  go_wp2_with (first
    | (refine wpList_loadV V73 1 rfl 65 _ rfl rfl rfl rfl Try.underlying22 Try.szB (bA_size _) ?_)
    | (refine wpList_loadV V73 2 rfl 66 _ rfl rfl rfl rfl Try.underlying22 Try.szB (bA_size _) ?_)
    | (refine wpList_exec rfl (exec_neqB _ _ rfl false _ _ (dtrue rfl) rfl rfl HL.out.2.2.1 HL.out.2.2.1) ?_))
  refine av_open (fun w' => Vars w w' [⟨g64, 22, bA o⟩, ⟨g38, 22, bA m⟩, ⟨g17, 22, bA m⟩, ⟨g5, 22, bA b⟩, ⟨g2, 22, bA a⟩]) (by kernel_rfl) ?_
  have V74 := V73.drew
  refine held_reads (rs := [0]) (fuel := 2) (by kernel_rfl) (fun c d v a w h => by cases d <;> exact h) (by kernel_rfl) (V74) (fun K hK => ?_)
  refine calm_do (.agg (bA m)) rfl (by rfl) (fun w' hw' => exec_loadV hw' 2 rfl _ rfl rfl Try.underlying22 Try.szB (bA_size _)) ?_
  go_simp
  refine calm_nil (hK.out _ ?_)
  clear hK K
  refine av_op (i := 1) (fuel := 1) (by kernel_rfl) rfl (by rfl) (fun K hK => ?_)
  go_simp
  refine (N0.out w72.drew).mono ?_
  rintro e w75 ⟨rfl, q77⟩
  have V76 := V74.call q77
  refine hK _ _ (V76) ?_
  clear hK K q77
  refine held_reads (rs := [2]) (fuel := 0) (by kernel_rfl) (fun c d v a w h => by cases d <;> exact h) (by kernel_rfl) (V76) (fun K hK => ?_)
  go_simp
  refine calm_do (.bool false) rfl (by rfl) (fun w' hw' => exec_eqlB _ _ rfl false _ _ EM.out rfl rfl HL.out.2.2.1 zero256) ?_
  go_simp
  refine calm_nil (hK.out _ ?_)
  clear hK K
  refine wpAnyH_done (by kernel_rfl) ?_ _
  go_wp2_with (refine wpList_loadV V76 4 rfl 79 _ rfl rfl rfl rfl Try.underlying22 Try.szB (bA_size _) ?_)
  refine (Ia.out w75).mono ?_
  rintro e w78 ⟨rfl, q80⟩
  have V79 := V76.call q80
  clear q80 V76
  go_wp2_with (first
    | (refine wpList_allocV V79 11 22 rfl rfl rfl (bA 0) zeroB ?_; intro w81 g82 V83)
    | (refine wpList_storeV V83 0 rfl _ (.tmp 81) rfl rfl rfl (bA x) rfl rfl Try.szB (bA_size _) (bA_size _) (bA_one _) ?_; intro w84 V85)
    | (refine wpList_loadV V85 4 rfl 84 _ rfl rfl rfl rfl Try.underlying22 Try.szB (bA_size _) ?_))
  refine (Ib.out w84).mono ?_
  rintro e w86 ⟨rfl, q88⟩
  have V87 := V85.call q88
  clear q88 V85
  go_wp2_with (first
    | (refine wpList_allocV V87 13 22 rfl rfl rfl (bA 0) zeroB ?_; intro w89 g90 V91)
    | (refine wpList_storeV V91 0 rfl _ (.tmp 86) rfl rfl rfl (bA y) rfl rfl Try.szB (bA_size _) (bA_size _) (bA_one _) ?_; intro w92 V93)
    | (refine wpList_loadV V93 4 rfl 89 _ rfl rfl rfl rfl Try.underlying22 Try.szB (bA_size _) ?_))
  refine (Im.out w92).mono ?_
  rintro e w94 ⟨rfl, q96⟩
  have V95 := V93.call q96
  clear q96 V93
  go_wp2_with (first
    | (refine wpList_allocV V95 15 22 rfl rfl rfl (bA 0) zeroB ?_; intro w97 g98 V99)
    | (refine wpList_storeV V99 0 rfl _ (.tmp 91) rfl rfl rfl (bA z) rfl rfl Try.szB (bA_size _) (bA_size _) (bA_one _) ?_; intro w100 V101))
  refine av_open (fun w' => Vars w w' [⟨g98, 22, bA z⟩, ⟨g90, 22, bA y⟩, ⟨g82, 22, bA x⟩, ⟨g64, 22, bA o⟩, ⟨g38, 22, bA m⟩, ⟨g17, 22, bA m⟩, ⟨g5, 22, bA b⟩, ⟨g2, 22, bA a⟩]) (by kernel_rfl) ?_
  have V102 := V101.drew
  refine av_op (i := 0) (fuel := 22) (by kernel_rfl) rfl (by rfl) (fun K hK => ?_)
  go_simp
  refine (awake16_any w100.drew).mono ?_
  rintro e w103 ⟨rfl, q105⟩
  have V104 := V102.call q105
  refine hK _ _ (V104) ?_
  clear hK K q105
  refine held_reads (rs := [1, 2, 3, 4, 5, 6, 7, 8, 9, 10, 11, 12, 13, 14, 15, 16, 17, 19]) (fuel := 4) (by kernel_rfl) (fun c d v a w h => by cases d <;> exact h) (by kernel_rfl) (V104) (fun K hK => ?_)
  go_simp
  refine calm_move _ rfl (by rfl) rfl ?_
  go_simp
  refine calm_move _ rfl (by rfl) rfl ?_
  go_simp
  refine calm_do (.bool true) rfl (by rfl) (fun w' hw' => ?_) ?_
  · go_simp
  go_simp
  refine calm_do (.bool true) rfl (by rfl) (fun w' hw' => ?_) ?_
  · go_simp
  go_simp
  refine calm_move _ rfl (by rfl) rfl ?_
  go_simp
  refine calm_move _ rfl (by rfl) rfl ?_
  go_simp
  refine calm_move _ rfl (by rfl) rfl ?_
  go_simp
  refine calm_do (.bool true) rfl (by rfl) (fun w' hw' => ?_) ?_
  · go_simp
  go_simp
  refine calm_do (.bool true) rfl (by rfl) (fun w' hw' => ?_) ?_
  · go_simp
  go_simp
  refine calm_move _ rfl (by rfl) rfl ?_
  go_simp
  refine calm_move _ rfl (by rfl) rfl ?_
  go_simp
  refine calm_move _ rfl (by rfl) rfl ?_
  go_simp
  refine calm_do (.bool true) rfl (by rfl) (fun w' hw' => ?_) ?_
  · go_simp
  go_simp
  refine calm_do (.bool true) rfl (by rfl) (fun w' hw' => ?_) ?_
  · go_simp
  go_simp
  refine calm_move _ rfl (by rfl) rfl ?_
  go_simp
  refine calm_do (.agg (bA x)) rfl (by rfl) (fun w' hw' => exec_loadV hw' 2 rfl _ rfl rfl Try.underlying22 Try.szB (bA_size _)) ?_
  go_simp
  refine calm_do (.agg (bA y)) rfl (by rfl) (fun w' hw' => exec_loadV hw' 1 rfl _ rfl rfl Try.underlying22 Try.szB (bA_size _)) ?_
  go_simp
  refine calm_do (.agg (bA z)) rfl (by rfl) (fun w' hw' => exec_loadV hw' 0 rfl _ rfl rfl Try.underlying22 Try.szB (bA_size _)) ?_
  go_simp
  refine calm_nil (hK.out _ ?_)
  clear hK K
  refine av_op (i := 18) (fuel := 3) (by kernel_rfl) rfl (by rfl) (fun K hK => ?_)
  go_simp
  refine (Cxy.out w103).mono ?_
  rintro e w106 ⟨rfl, q108⟩
  have V107 := V104.call q108
  refine hK _ _ (V107) ?_
  clear hK K q108
  refine held_reads (rs := [20, 21, 22]) (fuel := 0) (by kernel_rfl) (fun c d v a w h => by cases d <;> exact h) (by kernel_rfl) (V107) (fun K hK => ?_)
  go_simp
  refine calm_do (.bool true) rfl (by rfl) (fun w' hw' => exec_eqlB _ _ rfl true _ _ (dtrue rfl) rfl rfl HL.out.2.2.2.2 HL.out.2.2.2.2) ?_
  go_simp
  refine calm_do (.bool true) rfl (by rfl) (fun w' hw' => ?_) ?_
  · go_simp
  go_simp
  refine calm_assign _ rfl (by rfl) rfl ?_
  go_simp
  refine calm_nil (hK.out _ ?_)
  clear hK K
  refine wpAnyH_done (by kernel_rfl) ?_ _
  go_wp2_with fail
  go_ret
  exact ⟨rfl, V107.bel⟩
set_option maxHeartbeats 3200000 in
theorem products_odd (a b : Nat) (w : World) (m q o x y z : Nat) (ha : a < fP) (hb : b < fP) (hm : m < fP) (ho : o < 2 ^ 256) (hz : z < 2 ^ 256) (ea : a ≠ 0) (eb : b ≠ 0) (e0 : m ≠ 0) (eo : o ≠ m) (Cab : Hid (∀ w, Calls Try.prog 22 #[.agg (bA a), .agg (bA b)] w fun e w' => e = .returned (.agg (bA m)) ∧ Below w.heap.size w w')) (Cmm : Hid (∀ w, Calls Try.prog 22 #[.agg (bA m), .agg (bA m)] w fun e w' => e = .returned (.agg (bA q)) ∧ Below w.heap.size w w')) (CR : Hid (∀ w, Calls Try.prog 20 #[.agg (bA q)] w fun e w' => e = .returned (.tuple #[.agg (bA o), .bool true, .int .i64 0]) ∧ Below w.heap.size w w')) (CS : Hid (∀ w, Calls Try.prog 10 #[.agg (bA 0), .agg (bA m)] w fun e w' => e = .returned (.tuple #[.agg (bA o), .int .i64 0]) ∧ Below w.heap.size w w')) (Ia : Hid (∀ w, Calls Try.prog 18 #[.agg (bA a)] w fun e w' => e = .returned (.tuple #[.agg (bA x), .int .i64 0]) ∧ Below w.heap.size w w')) (Ib : Hid (∀ w, Calls Try.prog 18 #[.agg (bA b)] w fun e w' => e = .returned (.tuple #[.agg (bA y), .int .i64 0]) ∧ Below w.heap.size w w')) (Im : Hid (∀ w, Calls Try.prog 18 #[.agg (bA m)] w fun e w' => e = .returned (.tuple #[.agg (bA z), .int .i64 0]) ∧ Below w.heap.size w w')) (Cxy : Hid (∀ w, Calls Try.prog 22 #[.agg (bA x), .agg (bA y)] w fun e w' => e = .returned (.agg (bA z)) ∧ Below w.heap.size w w')) : Calls Try.prog 8 #[.agg (bA a), .agg (bA b)] w fun e w' => e = .returned (.bool true) ∧ Below w.heap.size w w' := by
  have Ja : Hid (∀ w, Calls Try.prog 13 #[.agg (bA a)] w fun e w' => e = .returned (.bool true) ∧ Below w.heap.size w w') := fun w => refIs_yes ha w
  have Jb : Hid (∀ w, Calls Try.prog 13 #[.agg (bA b)] w fun e w' => e = .returned (.bool true) ∧ Below w.heap.size w w') := fun w => refIs_yes hb w
  have N0 : Hid (∀ w, Calls Try.prog 19 #[.int .u8 0] w fun e w' => e = .returned (.agg (bA 0)) ∧ Below w.heap.size w w') := fun w => num_any 0 (by decide) w
  have HL : Hid (a < 2 ^ 256 ∧ b < 2 ^ 256 ∧ m < 2 ^ 256 ∧ o < 2 ^ 256 ∧ z < 2 ^ 256) := ⟨elt256 ha, elt256 hb, elt256 hm, ho, hz⟩
  have EA : Hid (decide (a = 0) = false) := dfalse ea
  have EB : Hid (decide (b = 0) = false) := dfalse eb
  have EM : Hid (decide (m = 0) = false) := dfalse e0
  have EO : Hid (decide (o = m) = !true) := dfalse eo
  clear ha hb hm ho hz ea e0 eb eo
  have V0 := Vars.start w
  go_enter Try.func8, Try.ntmps8
  go_wp2_with (first
    | (refine wpList_boxV V0 2 22 _ rfl rfl rfl (bA a) rfl ?_; intro w1 g2 V3)
    | (refine wpList_boxV V3 3 22 _ rfl rfl rfl (bA b) rfl ?_; intro w4 g5 V6)
    | (refine wpList_loadV V6 1 rfl 17 _ rfl rfl rfl rfl Try.underlying22 Try.szB (bA_size _) ?_))
  refine (Ja.out w4).mono ?_
  rintro e w7 ⟨rfl, q9⟩
  have V8 := V6.call q9
  clear q9 V6
  go_wp2_with (refine wpList_loadV V8 0 rfl 21 _ rfl rfl rfl rfl Try.underlying22 Try.szB (bA_size _) ?_)
  refine (Jb.out w7).mono ?_
  rintro e w10 ⟨rfl, q12⟩
  have V11 := V8.call q12
  clear q12 V8
  go_wp2_with (first
    | (refine wpList_loadV V11 1 rfl 25 _ rfl rfl rfl rfl Try.underlying22 Try.szB (bA_size _) ?_)
    | (refine wpList_loadV V11 0 rfl 26 _ rfl rfl rfl rfl Try.underlying22 Try.szB (bA_size _) ?_))
  refine (Cab.out w10).mono ?_
  rintro e w13 ⟨rfl, q15⟩
  have V14 := V11.call q15
  clear q15 V11
  go_wp2_with (first
    | (refine wpList_allocV V14 5 22 rfl rfl rfl (bA 0) zeroB ?_; intro w16 g17 V18)
    | (refine wpList_storeV V18 0 rfl _ (.tmp 27) rfl rfl rfl (bA m) rfl rfl Try.szB (bA_size _) (bA_size _) (bA_one _) ?_; intro w19 V20))
  refine av_open (fun w' => Vars w w' [⟨g17, 22, bA m⟩, ⟨g5, 22, bA b⟩, ⟨g2, 22, bA a⟩]) (by kernel_rfl) ?_
  have V21 := V20.drew
  refine held_reads (rs := [0, 3]) (fuel := 10) (by kernel_rfl) (fun c d v a w h => by cases d <;> exact h) (by kernel_rfl) (V21) (fun K hK => ?_)
  refine calm_do (.agg (bA m)) rfl (by rfl) (fun w' hw' => exec_loadV hw' 0 rfl _ rfl rfl Try.underlying22 Try.szB (bA_size _)) ?_
  go_simp
  refine calm_do (.agg (bA a)) rfl (by rfl) (fun w' hw' => exec_loadV hw' 2 rfl _ rfl rfl Try.underlying22 Try.szB (bA_size _)) ?_
  go_simp
  refine calm_nil (hK.out _ ?_)
  clear hK K
  refine av_op (i := 1) (fuel := 9) (by kernel_rfl) rfl (by rfl) (fun K hK => ?_)
  go_simp
  refine (N0.out w19.drew).mono ?_
  rintro e w22 ⟨rfl, q24⟩
  have V23 := V21.call q24
  refine hK _ _ (V23) ?_
  clear hK K q24
  refine held_reads (rs := [2]) (fuel := 8) (by kernel_rfl) (fun c d v a w h => by cases d <;> exact h) (by kernel_rfl) (V23) (fun K hK => ?_)
  go_simp
  refine calm_do (.bool false) rfl (by rfl) (fun w' hw' => exec_eqlB _ _ rfl false _ _ EM.out rfl rfl HL.out.2.2.1 zero256) ?_
  go_simp
  refine calm_nil (hK.out _ ?_)
  clear hK K
  refine av_op (i := 4) (fuel := 7) (by kernel_rfl) rfl (by rfl) (fun K hK => ?_)
  go_simp
  refine (N0.out w22).mono ?_
  rintro e w25 ⟨rfl, q27⟩
  have V26 := V23.call q27
  refine hK _ _ (V26) ?_
  clear hK K q27
  refine held_reads (rs := [5, 6, 7]) (fuel := 4) (by kernel_rfl) (fun c d v a w h => by cases d <;> exact h) (by kernel_rfl) (V26) (fun K hK => ?_)
  go_simp
  refine calm_do (.bool false) rfl (by rfl) (fun w' hw' => exec_eqlB _ _ rfl false _ _ EA.out rfl rfl HL.out.1 zero256) ?_
  go_simp
  refine calm_move _ rfl (by rfl) rfl ?_
  go_simp
  refine calm_do (.agg (bA b)) rfl (by rfl) (fun w' hw' => exec_loadV hw' 1 rfl _ rfl rfl Try.underlying22 Try.szB (bA_size _)) ?_
  go_simp
  refine calm_nil (hK.out _ ?_)
  clear hK K
  refine av_op (i := 8) (fuel := 3) (by kernel_rfl) rfl (by rfl) (fun K hK => ?_)
  go_simp
  refine (N0.out w25).mono ?_
  rintro e w28 ⟨rfl, q30⟩
  have V29 := V26.call q30
  refine hK _ _ (V29) ?_
  clear hK K q30
  refine held_reads (rs := [9, 10, 11]) (fuel := 0) (by kernel_rfl) (fun c d v a w h => by cases d <;> exact h) (by kernel_rfl) (V29) (fun K hK => ?_)
  go_simp
  refine calm_do (.bool false) rfl (by rfl) (fun w' hw' => exec_eqlB _ _ rfl false _ _ EB.out rfl rfl HL.out.2.1 zero256) ?_
  go_simp
  refine calm_do (.bool false) rfl (by rfl) (fun w' hw' => ?_) ?_
  · go_simp
  go_simp
  refine calm_do (.bool false) rfl (by rfl) (fun w' hw' => ?_) ?_
  · go_simp
  go_simp
  refine calm_nil (hK.out _ ?_)
  clear hK K
  refine wpAnyH_done (by kernel_rfl) ?_ _
  go_wp2_with (first
    | (refine wpList_loadV V29 0 rfl 41 _ rfl rfl rfl rfl Try.underlying22 Try.szB (bA_size _) ?_)
    | (refine wpList_loadV V29 0 rfl 42 _ rfl rfl rfl rfl Try.underlying22 Try.szB (bA_size _) ?_))
  refine (Cmm.out w28).mono ?_
  rintro e w31 ⟨rfl, q33⟩
  have V32 := V29.call q33
  clear q33 V29
  go_wp2_with fail
  refine (CR.out w31).mono ?_
  rintro e w34 ⟨rfl, q36⟩
  have V35 := V32.call q36
  clear q36 V32
  go_wp2_with (first
    | (refine wpList_allocV V35 6 22 rfl rfl rfl (bA 0) zeroB ?_; intro w37 g38 V39)
    | (refine wpList_storeV V39 0 rfl _ (.tmp 45) rfl rfl rfl (bA o) rfl rfl Try.szB (bA_size _) (bA_size _) (bA_one _) ?_; intro w40 V41))
  refine av_open (fun w' => Vars w w' [⟨g38, 22, bA o⟩, ⟨g17, 22, bA m⟩, ⟨g5, 22, bA b⟩, ⟨g2, 22, bA a⟩]) (by kernel_rfl) ?_
  have V42 := V41.drew
  apply av_once (Vg := fun g w' => Vars w w' [⟨g, 22, bA o⟩, ⟨g38, 22, bA o⟩, ⟨g17, 22, bA m⟩, ⟨g5, 22, bA b⟩, ⟨g2, 22, bA a⟩])
  · intro HC43
    refine held_reads (rs := [1]) (fuel := 8) (by kernel_rfl) (fun c d v a w h => by cases d <;> exact h) (by kernel_rfl) (V42) (fun K hK => ?_)
    refine calm_do (.agg (bA m)) rfl (by rfl) (fun w' hw' => exec_loadV hw' 1 rfl _ rfl rfl Try.underlying22 Try.szB (bA_size _)) ?_
    go_simp
    refine calm_nil (hK.out _ ?_)
    clear hK K
    refine av_op2 (i := 0) (j := 6) (fuel := 7) (by kernel_rfl) rfl (by rfl) rfl (by rfl) (fun K hK => ?_) (fun K hK => ?_)
    · go_simp
      refine (N0.out w40.drew).mono ?_
      rintro e w44 ⟨rfl, q46⟩
      have V45 := V42.call q46
      refine hK _ _ (V45) ?_
      clear hK K q46
      refine av_op2 (i := 2) (j := 6) (fuel := 6) (by kernel_rfl) rfl (by rfl) rfl (by rfl) (fun K hK => ?_) (fun K hK => ?_)
      · go_simp
        refine (CS.out w44).mono ?_
        rintro e w47 ⟨rfl, q49⟩
        have V48 := V45.call q49
        refine hK _ _ (V48) ?_
        clear hK K q49
        refine held_reads (rs := [3, 4, 5]) (fuel := 3) (by kernel_rfl) (fun c d v a w h => by cases d <;> exact h) (by kernel_rfl) (V48) (fun K hK => ?_)
        go_simp
        refine calm_move _ rfl (by rfl) rfl ?_
        go_simp
        refine calm_do (.agg (bA o)) rfl (by rfl) (fun w' hw' => ?_) ?_
        · go_simp
        go_simp
        refine calm_do (.int .i64 0) rfl (by rfl) (fun w' hw' => ?_) ?_
        · go_simp
        go_simp
        refine calm_nil (hK.out _ ?_)
        clear hK K
        refine av_op (i := 6) (fuel := 2) (by kernel_rfl) rfl (by rfl) (fun K hK => ?_)
        refine wp_allocV V48 9 22 rfl rfl (bA 0) zeroB (fun w50 g51 V52 => ?_)
        refine hK _ _ (V52.tail) ?_
        clear hK K
        refine av_op (i := 7) (fuel := 1) (by kernel_rfl) rfl (by rfl) (fun K hK => ?_)
        refine wp_storeV V52 0 rfl _ _ rfl rfl (bA o) rfl rfl Try.szB (bA_size _) (bA_size _) (bA_one _) (fun w53 V54 => ?_)
        refine hK _ _ (V54.tail) ?_
        clear hK K
        refine held_reads (rs := [8]) (fuel := 0) (by kernel_rfl) (fun c d v a w h => by cases d <;> exact h) (by kernel_rfl) (V54.tail) (fun K hK => ?_)
        go_simp
        refine calm_assign _ rfl (by rfl) rfl ?_
        go_simp
        refine calm_nil (hK.out _ ?_)
        clear hK K
        refine wpAnyH_done (by kernel_rfl) ?_ _
        exact HC43 g51 w53 V54
      · refine wp_allocV V45 9 22 rfl rfl (bA 0) zeroB (fun w55 g56 V57 => ?_)
        refine hK _ _ (V57.tail) ?_
        clear hK K
        refine av_op (i := 2) (fuel := 5) (by kernel_rfl) rfl (by rfl) (fun K hK => ?_)
        go_simp
        refine (CS.out w55).mono ?_
        rintro e w58 ⟨rfl, q60⟩
        have V59 := V57.call q60
        refine hK _ _ (V59.tail) ?_
        clear hK K q60
        refine held_reads (rs := [3, 4, 5]) (fuel := 2) (by kernel_rfl) (fun c d v a w h => by cases d <;> exact h) (by kernel_rfl) (V59.tail) (fun K hK => ?_)
        go_simp
        refine calm_move _ rfl (by rfl) rfl ?_
        go_simp
        refine calm_do (.agg (bA o)) rfl (by rfl) (fun w' hw' => ?_) ?_
        · go_simp
        go_simp
        refine calm_do (.int .i64 0) rfl (by rfl) (fun w' hw' => ?_) ?_
        · go_simp
        go_simp
        refine calm_nil (hK.out _ ?_)
        clear hK K
        refine av_op (i := 7) (fuel := 1) (by kernel_rfl) rfl (by rfl) (fun K hK => ?_)
        refine wp_storeV V59 0 rfl _ _ rfl rfl (bA o) rfl rfl Try.szB (bA_size _) (bA_size _) (bA_one _) (fun w61 V62 => ?_)
        refine hK _ _ (V62.tail) ?_
        clear hK K
        refine held_reads (rs := [8]) (fuel := 0) (by kernel_rfl) (fun c d v a w h => by cases d <;> exact h) (by kernel_rfl) (V62.tail) (fun K hK => ?_)
        go_simp
        refine calm_assign _ rfl (by rfl) rfl ?_
        go_simp
        refine calm_nil (hK.out _ ?_)
        clear hK K
        refine wpAnyH_done (by kernel_rfl) ?_ _
        exact HC43 g56 w61 V62
    · refine wp_allocV V42 9 22 rfl rfl (bA 0) zeroB (fun w63 g64 V65 => ?_)
      refine hK _ _ (V65.tail) ?_
      clear hK K
      refine av_op (i := 0) (fuel := 6) (by kernel_rfl) rfl (by rfl) (fun K hK => ?_)
      go_simp
      refine (N0.out w63).mono ?_
      rintro e w66 ⟨rfl, q68⟩
      have V67 := V65.call q68
      refine hK _ _ (V67.tail) ?_
      clear hK K q68
      refine av_op (i := 2) (fuel := 5) (by kernel_rfl) rfl (by rfl) (fun K hK => ?_)
      go_simp
      refine (CS.out w66).mono ?_
      rintro e w69 ⟨rfl, q71⟩
      have V70 := V67.call q71
      refine hK _ _ (V70.tail) ?_
      clear hK K q71
      refine held_reads (rs := [3, 4, 5]) (fuel := 2) (by kernel_rfl) (fun c d v a w h => by cases d <;> exact h) (by kernel_rfl) (V70.tail) (fun K hK => ?_)
      go_simp
      refine calm_move _ rfl (by rfl) rfl ?_
      go_simp
      refine calm_do (.agg (bA o)) rfl (by rfl) (fun w' hw' => ?_) ?_
      · go_simp
      go_simp
      refine calm_do (.int .i64 0) rfl (by rfl) (fun w' hw' => ?_) ?_
      · go_simp
      go_simp
      refine calm_nil (hK.out _ ?_)
      clear hK K
      refine av_op (i := 7) (fuel := 1) (by kernel_rfl) rfl (by rfl) (fun K hK => ?_)
      refine wp_storeV V70 0 rfl _ _ rfl rfl (bA o) rfl rfl Try.szB (bA_size _) (bA_size _) (bA_one _) (fun w72 V73 => ?_)
      refine hK _ _ (V73.tail) ?_
      clear hK K
      refine held_reads (rs := [8]) (fuel := 0) (by kernel_rfl) (fun c d v a w h => by cases d <;> exact h) (by kernel_rfl) (V73.tail) (fun K hK => ?_)
      go_simp
      refine calm_assign _ rfl (by rfl) rfl ?_
      go_simp
      refine calm_nil (hK.out _ ?_)
      clear hK K
      refine wpAnyH_done (by kernel_rfl) ?_ _
      exact HC43 g64 w72 V73
  intro g64 w72 V73
  clear V42
  go_wp2_with (first
    | (refine wpList_loadV V73 1 rfl 65 _ rfl rfl rfl rfl Try.underlying22 Try.szB (bA_size _) ?_)
    | (refine wpList_loadV V73 2 rfl 66 _ rfl rfl rfl rfl Try.underlying22 Try.szB (bA_size _) ?_)
    | (refine wpList_exec rfl (exec_neqB _ _ rfl true _ _ EO.out rfl rfl HL.out.2.2.2.1 HL.out.2.2.1) ?_)
    | (refine wpList_loadV V73 1 rfl 69 _ rfl rfl rfl rfl Try.underlying22 Try.szB (bA_size _) ?_)
    | (refine wpList_loadV V73 0 rfl 70 _ rfl rfl rfl rfl Try.underlying22 Try.szB (bA_size _) ?_)
    | (refine wpList_exec rfl (exec_neqB _ _ rfl false _ _ (dtrue rfl) rfl rfl HL.out.2.2.2.1 HL.out.2.2.2.1) ?_))
  refine av_open (fun w' => Vars w w' [⟨g64, 22, bA o⟩, ⟨g38, 22, bA o⟩, ⟨g17, 22, bA m⟩, ⟨g5, 22, bA b⟩, ⟨g2, 22, bA a⟩]) (by kernel_rfl) ?_
  have V74 := V73.drew
  refine held_reads (rs := [0]) (fuel := 2) (by kernel_rfl) (fun c d v a w h => by cases d <;> exact h) (by kernel_rfl) (V74) (fun K hK => ?_)
  refine calm_do (.agg (bA m)) rfl (by rfl) (fun w' hw' => exec_loadV hw' 2 rfl _ rfl rfl Try.underlying22 Try.szB (bA_size _)) ?_
  go_simp
  refine calm_nil (hK.out _ ?_)
  clear hK K
  refine av_op (i := 1) (fuel := 1) (by kernel_rfl) rfl (by rfl) (fun K hK => ?_)
  go_simp
  refine (N0.out w72.drew).mono ?_
  rintro e w75 ⟨rfl, q77⟩
  have V76 := V74.call q77
  refine hK _ _ (V76) ?_
  clear hK K q77
  refine held_reads (rs := [2]) (fuel := 0) (by kernel_rfl) (fun c d v a w h => by cases d <;> exact h) (by kernel_rfl) (V76) (fun K hK => ?_)
  go_simp
  refine calm_do (.bool false) rfl (by rfl) (fun w' hw' => exec_eqlB _ _ rfl false _ _ EM.out rfl rfl HL.out.2.2.1 zero256) ?_
  go_simp
  refine calm_nil (hK.out _ ?_)
  clear hK K
  refine wpAnyH_done (by kernel_rfl) ?_ _
  go_wp2_with (refine wpList_loadV V76 4 rfl 79 _ rfl rfl rfl rfl Try.underlying22 Try.szB (bA_size _) ?_)
  refine (Ia.out w75).mono ?_
  rintro e w78 ⟨rfl, q80⟩
  have V79 := V76.call q80
  clear q80 V76
  go_wp2_with (first
    | (refine wpList_allocV V79 11 22 rfl rfl rfl (bA 0) zeroB ?_; intro w81 g82 V83)
    | (refine wpList_storeV V83 0 rfl _ (.tmp 81) rfl rfl rfl (bA x) rfl rfl Try.szB (bA_size _) (bA_size _) (bA_one _) ?_; intro w84 V85)
    | (refine wpList_loadV V85 4 rfl 84 _ rfl rfl rfl rfl Try.underlying22 Try.szB (bA_size _) ?_))
  refine (Ib.out w84).mono ?_
  rintro e w86 ⟨rfl, q88⟩
  have V87 := V85.call q88
  clear q88 V85
  go_wp2_with (first
    | (refine wpList_allocV V87 13 22 rfl rfl rfl (bA 0) zeroB ?_; intro w89 g90 V91)
    | (refine wpList_storeV V91 0 rfl _ (.tmp 86) rfl rfl rfl (bA y) rfl rfl Try.szB (bA_size _) (bA_size _) (bA_one _) ?_; intro w92 V93)
    | (refine wpList_loadV V93 4 rfl 89 _ rfl rfl rfl rfl Try.underlying22 Try.szB (bA_size _) ?_))
  refine (Im.out w92).mono ?_
  rintro e w94 ⟨rfl, q96⟩
  have V95 := V93.call q96
  clear q96 V93
  go_wp2_with (first
    | (refine wpList_allocV V95 15 22 rfl rfl rfl (bA 0) zeroB ?_; intro w97 g98 V99)
    | (refine wpList_storeV V99 0 rfl _ (.tmp 91) rfl rfl rfl (bA z) rfl rfl Try.szB (bA_size _) (bA_size _) (bA_one _) ?_; intro w100 V101))
  refine av_open (fun w' => Vars w w' [⟨g98, 22, bA z⟩, ⟨g90, 22, bA y⟩, ⟨g82, 22, bA x⟩, ⟨g64, 22, bA o⟩, ⟨g38, 22, bA o⟩, ⟨g17, 22, bA m⟩, ⟨g5, 22, bA b⟩, ⟨g2, 22, bA a⟩]) (by kernel_rfl) ?_
  have V102 := V101.drew
  refine av_op (i := 0) (fuel := 22) (by kernel_rfl) rfl (by rfl) (fun K hK => ?_)
  go_simp
  refine (awake16_any w100.drew).mono ?_
  rintro e w103 ⟨rfl, q105⟩
  have V104 := V102.call q105
  refine hK _ _ (V104) ?_
  clear hK K q105
  refine held_reads (rs := [1, 2, 3, 4, 5, 6, 7, 8, 9, 10, 11, 12, 13, 14, 15, 16, 17, 19]) (fuel := 4) (by kernel_rfl) (fun c d v a w h => by cases d <;> exact h) (by kernel_rfl) (V104) (fun K hK => ?_)
  go_simp
  refine calm_move _ rfl (by rfl) rfl ?_
  go_simp
  refine calm_move _ rfl (by rfl) rfl ?_
  go_simp
  refine calm_do (.bool true) rfl (by rfl) (fun w' hw' => ?_) ?_
  · go_simp
  go_simp
  refine calm_do (.bool true) rfl (by rfl) (fun w' hw' => ?_) ?_
  · go_simp
  go_simp
  refine calm_move _ rfl (by rfl) rfl ?_
  go_simp
  refine calm_move _ rfl (by rfl) rfl ?_
  go_simp
  refine calm_move _ rfl (by rfl) rfl ?_
  go_simp
  refine calm_do (.bool true) rfl (by rfl) (fun w' hw' => ?_) ?_
  · go_simp
  go_simp
  refine calm_do (.bool true) rfl (by rfl) (fun w' hw' => ?_) ?_
  · go_simp
  go_simp
  refine calm_move _ rfl (by rfl) rfl ?_
  go_simp
  refine calm_move _ rfl (by rfl) rfl ?_
  go_simp
  refine calm_move _ rfl (by rfl) rfl ?_
  go_simp
  refine calm_do (.bool true) rfl (by rfl) (fun w' hw' => ?_) ?_
  · go_simp
  go_simp
  refine calm_do (.bool true) rfl (by rfl) (fun w' hw' => ?_) ?_
  · go_simp
  go_simp
  refine calm_move _ rfl (by rfl) rfl ?_
  go_simp
  refine calm_do (.agg (bA x)) rfl (by rfl) (fun w' hw' => exec_loadV hw' 2 rfl _ rfl rfl Try.underlying22 Try.szB (bA_size _)) ?_
  go_simp
  refine calm_do (.agg (bA y)) rfl (by rfl) (fun w' hw' => exec_loadV hw' 1 rfl _ rfl rfl Try.underlying22 Try.szB (bA_size _)) ?_
  go_simp
  refine calm_do (.agg (bA z)) rfl (by rfl) (fun w' hw' => exec_loadV hw' 0 rfl _ rfl rfl Try.underlying22 Try.szB (bA_size _)) ?_
  go_simp
  refine calm_nil (hK.out _ ?_)
  clear hK K
  refine av_op (i := 18) (fuel := 3) (by kernel_rfl) rfl (by rfl) (fun K hK => ?_)
  go_simp
  refine (Cxy.out w103).mono ?_
  rintro e w106 ⟨rfl, q108⟩
  have V107 := V104.call q108
  refine hK _ _ (V107) ?_
  clear hK K q108
  refine held_reads (rs := [20, 21, 22]) (fuel := 0) (by kernel_rfl) (fun c d v a w h => by cases d <;> exact h) (by kernel_rfl) (V107) (fun K hK => ?_)
  go_simp
  refine calm_do (.bool true) rfl (by rfl) (fun w' hw' => exec_eqlB _ _ rfl true _ _ (dtrue rfl) rfl rfl HL.out.2.2.2.2 HL.out.2.2.2.2) ?_
  go_simp
  refine calm_do (.bool true) rfl (by rfl) (fun w' hw' => ?_) ?_
  · go_simp
  go_simp
  refine calm_assign _ rfl (by rfl) rfl ?_
  go_simp
  refine calm_nil (hK.out _ ?_)
  clear hK K
  refine wpAnyH_done (by kernel_rfl) ?_ _
  go_wp2_with fail
  go_ret
  exact ⟨rfl, V107.bel⟩
theorem walk_FieldProducts (a b : Nat) (w : World) (ha : a < 2 ^ 256) (hb : b < 2 ^ 256) : Calls Try.prog 8 #[.agg (bA a), .agg (bA b)] w fun e w' => e = .returned (.bool true) ∧ Below w.heap.size w w' := by
  by_cases h1 : a < fP
  · by_cases h2 : b < fP
    · have hm := mod_fP (a * b)
      have cab := fun w => lmul_any a b w h1 h2
      have hz := mul_zero_iff a b
      rw [Nat.mod_eq_of_lt h1, Nat.mod_eq_of_lt h2] at hz
      have hxy : ∀ x y : Nat, a * x % fP = 1 → b * y % fP = 1 → (a * b % fP) * (x * y % fP) % fP = 1 := fun x y e1 e2 => inv_prod e1 e2
      generalize a * b % fP = m at *
      have cmm := fun w => lmul_any m m w hm hm
      have hq := mod_fP (m * m)
      have hR := root_of hm
      have hrt : HasRoot (m * m % fP) := ⟨m, by rw [Nat.mod_mod]⟩
      generalize m * m % fP = q at *
      have cR := fun w => fRoot_yes q w hq (rtN_sq hq hrt)
      rw [hR, evN_def] at cR
      have cS := fun w => fSub_yes 0 m w fP_pos hm
      have ho := mod_lt256 (0 + (fP - m))
      by_cases ea : a = 0
      · have e0 : m = 0 := hz.2 (.inl ea)
        rw [if_neg (by omega)] at cR
        exact products_za a b w m q _ 0 0 0 h1 h2 hm ho zero256 ea e0 cab cmm cR cS
      · by_cases eb : b = 0
        · have e0 : m = 0 := hz.2 (.inr eb)
          rw [if_neg (by omega)] at cR
          exact products_zb a b w m q _ 0 0 0 h1 h2 hm ho zero256 ea eb e0 cab cmm cR cS
        · have e0 : m ≠ 0 := fun h => (hz.1 h).elim ea eb
          have ia := fun w => fInv_yes a w h1 ea
          have ib := fun w => fInv_yes b w h2 eb
          have im := fun w => fInv_yes m w hm e0
          have pa := inv_mul a (by rw [Nat.mod_eq_of_lt h1]; exact ea)
          have pb := inv_mul b (by rw [Nat.mod_eq_of_lt h2]; exact eb)
          have pm := inv_mul m (by rw [Nat.mod_eq_of_lt hm]; exact e0)
          have lx : a ^ (fP - 2) % fP < fP := mod_fP _
          have ly : b ^ (fP - 2) % fP < fP := mod_fP _
          have lz : m ^ (fP - 2) % fP < fP := mod_fP _
          generalize a ^ (fP - 2) % fP = x at *
          generalize b ^ (fP - 2) % fP = y at *
          generalize m ^ (fP - 2) % fP = z at *
          have exy : x * y % fP = z := inv_unique (mod_fP _) lz (hxy x y pa pb) pm
          have cxy := fun w => lmul_any x y w lx ly
          rw [exy] at cxy
          rcases Nat.mod_two_eq_zero_or_one m with h3 | h3
          · rw [if_neg (by omega)] at cR
            exact products_even a b w m q _ x y z h1 h2 hm ho (elt256 lz) ea eb e0 cab cmm cR cS ia ib im cxy
          · rw [if_pos h3] at cR
            have e : (0 + (fP - m)) % fP = fP - m := by rw [Nat.zero_add]; exact Nat.mod_eq_of_lt (by omega)
            rw [e] at cS ho
            have eo : fP - m ≠ m := by have := fP_odd; omega
            exact products_odd a b w m q _ x y z h1 h2 hm ho (elt256 lz) ea eb e0 eo cab cmm cR cS ia ib im cxy
    · exact products_no2 a b w h1 hb h2
  · exact products_no1 a b w ha h1
end Go.Proofs.Ytejbpcdfmlkemaa.N
