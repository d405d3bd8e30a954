/-
  Layer 16's laws: what they share: num, last, add, mul, awake.
-/
import Derived.Test.YtejbpcdfmlkemaaFieldCode8
import Derived.Test.YtejbpcdfmlkemaaFieldRef3
import Derived.Test.YtejbpcdfmlkemaaFieldRoot
import Derived.Deep.CutRange
namespace Go.Proofs.Ytejbpcdfmlkemaa.N
open Go.RowKit
set_option linter.unusedVariables false
set_option maxRecDepth 8192

theorem zero256 : 0 < 2 ^ 256 := Nat.two_pow_pos 256
theorem bA_num (n : Nat) (hn : n < 256) : Try.prog.built 22 [(0, .int .u8 (n : Int))] = some (bA n) := by
  have e : bA n = arr .u8 (n :: List.replicate 31 0) := by
    rw [bA_def]
    congr 1
    refine (digL_dig _ _).ext (fun y hy => ?_) (by rw [digL_length]; rfl) ?_
    · rcases List.mem_cons.1 hy with rfl | h
      · exact hn
      · rw [(List.mem_replicate.1 h).2]; decide
    · rw [vL_digL_lt (Nat.lt_of_lt_of_le hn (by decide))]
      have h1 := vL_set (l := List.replicate 32 0) (j := 0) (x := n) (by decide)
      rw [vL_zero] at h1
      have h2 : (List.replicate 32 0).set 0 n = n :: List.replicate 31 0 := rfl
      have h3 : dg (List.replicate 32 0) 0 = 0 := rfl
      rw [h2, h3] at h1
      omega
  rw [e]
  rfl
theorem num_any (n : Nat) (hn : n < 256) (w : World) : Calls Try.prog 19 #[.int .u8 (n : Int)] w fun e w' => e = .returned (.agg (bA n)) ∧ Below w.heap.size w w' := by
  have HB := bA_num n hn
  have V0 := Vars.start w
  go_enter Try.func19, Try.ntmps19
  go_wp2_with (first
    | (refine wpList_allocV V0 2 22 rfl rfl rfl (bA 0) zeroB ?_; intro w1 g2 V3)
    | (refine wpList_buildV 4 22 _ rfl rfl rfl (bA n) HB ?_)
    | (refine wpList_storeV V3 0 rfl _ (.tmp 4) rfl rfl rfl (bA n) rfl rfl Try.szB (bA_size _) (bA_size _) (bA_one _) ?_; intro w4 V5))
  exact bodyPost_ret (resV1 rfl _ V5 0 rfl rfl Try.underlying22 Try.szB (bA_size _)) rfl ⟨rfl, V5.bel⟩
theorem last_set : (digL fP 32).set 0 236 = digL (fP - 1) 32 := by decide +kernel
theorem last_dg : dg (digL fP 32) 0 = 237 := by decide +kernel
set_option maxHeartbeats 800000 in
theorem last_any (w : World) : Calls Try.prog 32 #[] w fun e w' => e = .returned (.agg (bA (fP - 1))) ∧ Below w.heap.size w w' := by
  have HF : Hid (∀ (w : World) (a1 : Option Addr) (c1 : Nat), Row .u8 w a1 32 c1 (nI (nb fP)) → Calls Try.prog 33 #[.slice a1 32 c1] w fun e w' => e = .returned (.agg (bA fP)) ∧ Below w.heap.size w w') := by
    intro w a1 c1 hr
    have := refFull_any (nb fP) (dig_nb fP) a1 32 c1 w hr (by decide)
    rwa [vL_nb] at this
  have HS : Hid (arr .u8 ((digL fP 32).set 0 236) = bA (fP - 1)) := by show _ = _; rw [last_set, bA_def]
  have HD : Hid (dg (digL fP 32) 0 = 237) := last_dg
  have HL : Hid ((digL fP 32).length = 32) := digL_length _ _
  have HB : Hid (bA fP = arr .u8 (digL fP 32)) := bA_def _
  have HP32 : Hid (∀ w, Calls Try.prog 31 #[] w fun e w' => ∃ a c, e = .returned (.slice a 32 c) ∧ Row .u8 w' a 32 c (nI (nb fP)) ∧ Below w.heap.size w w') := refP_32
  generalize bA (fP - 1) = X at *
  generalize digL fP 32 = pD at *
  generalize fP = p at *
  have V0 := Vars.start w
  go_enter Try.func32, Try.ntmps32
  go_wp2_with (refine wpList_allocV V0 0 22 rfl rfl rfl (bA 0) zeroB ?_; intro w1 g2 V3)
  refine (HP32.out w1).mono ?_
  rintro e w4 ⟨a7, c8, rfl, r9, q6⟩
  have V5 := V3.call q6
  clear q6 V3
  go_wp2_with fail
  refine (HF.out w4 a7 c8 r9).mono ?_
  rintro e w10 ⟨rfl, q12⟩
  have V11 := V5.call q12
  replace r9 := r9.below q12 (Nat.le_refl _)
  clear q12 V5
  go_upto_region 2 with (first
    | (refine wpList_allocV V11 1 22 rfl rfl rfl (bA 0) zeroB ?_; intro w13 g14 V15)
    | (refine wpList_storeV V15 0 rfl _ (.tmp 3) rfl rfl rfl (bA p) rfl rfl Try.szB (bA_size _) (bA_size _) (bA_one _) ?_; intro w16 V17))
  have VA := V17
  rw [HB.out] at VA
  have VA2 : Vars w w16 [⟨g14, 22, arr .u8 pD⟩, ⟨g2, 22, bA 0⟩] := VA
  have hc := arr_cell (VA2.at 0 rfl) 0 (by rw [HL.out]; decide)
  rw [show pD[0]?.getD 0 = dg pD 0 from rfl, HD.out] at hc
  have hfz := arr_unfrozen (VA2.at 0 rfl) 0
  have VB := VA2.setc 0 rfl 0 236
  have VB2 : Vars w (w16.setCell ⟨g14, 0, none⟩ (.int .u8 236)) [⟨g14, 22, X⟩, ⟨g2, 22, bA 0⟩] := by rw [← HS.out]; exact VB
  have hX : X.size = 32 := by rw [← HS.out, arr_size, List.length_set, HL.out]
  have hX1 : X.all (·.oneCell') = true := by rw [← HS.out]; exact arr_one _ _
  have HX : Hid (X.size = 32 ∧ X.all (·.oneCell') = true) := ⟨hX, hX1⟩
  clear VA VA2 VB hX hX1
  go_wp2_with (first
    | (refine wpList_loadV VB2 0 rfl 8 _ rfl rfl rfl rfl Try.underlying22 Try.szB HX.out.1 ?_)
    | (refine wpList_storeV VB2 1 rfl _ (.tmp 8) rfl rfl rfl X rfl rfl Try.szB (bA_size _) HX.out.1 HX.out.2 ?_; intro wZ VZ))
  exact bodyPost_ret (resV1 rfl _ VZ 1 rfl rfl Try.underlying22 Try.szB HX.out.1) rfl ⟨rfl, VZ.bel⟩
set_option maxHeartbeats 800000 in
theorem ladd_any (a b : Nat) (w : World) (ha : a < fP) (hb : b < fP) : Calls Try.prog 21 #[.agg (bA a), .agg (bA b)] w fun e w' => e = .returned (.agg (bA ((a + b) % fP))) ∧ Below w.heap.size w w' := by
  have HF : Hid (∀ w, Calls Try.prog 9 #[.agg (bA a), .agg (bA b)] w fun e w' => e = .returned (.tuple #[.agg (bA ((a + b) % fP)), .int .i64 0]) ∧ Below w.heap.size w w') := fun w => fAdd_yes a b w ha hb
  generalize (a + b) % fP = r at *
  clear ha hb
  have V0 := Vars.start w
  go_enter Try.func21, Try.ntmps21
  go_wp2_with (first
    | (refine wpList_boxV V0 2 22 _ rfl rfl rfl (bA a) rfl ?_; intro w1 g2 V3)
    | (refine wpList_boxV V3 3 22 _ rfl rfl rfl (bA b) rfl ?_; intro w4 g5 V6)
    | (refine wpList_allocV V6 4 22 rfl rfl rfl (bA 0) zeroB ?_; intro w7 g8 V9)
    | (refine wpList_loadV V9 2 rfl 8 _ rfl rfl rfl rfl Try.underlying22 Try.szB (bA_size _) ?_)
    | (refine wpList_loadV V9 1 rfl 9 _ rfl rfl rfl rfl Try.underlying22 Try.szB (bA_size _) ?_))
  refine (HF.out w7).mono ?_
  rintro e w10 ⟨rfl, q12⟩
  have V11 := V9.call q12
  clear q12 V9
  go_wp2_with (first
    | (refine wpList_allocV V11 5 22 rfl rfl rfl (bA 0) zeroB ?_; intro w13 g14 V15)
    | (refine wpList_storeV V15 0 rfl _ (.tmp 11) rfl rfl rfl (bA r) rfl rfl Try.szB (bA_size _) (bA_size _) (bA_one _) ?_; intro w16 V17)
    | (refine wpList_loadV V17 0 rfl 13 _ rfl rfl rfl rfl Try.underlying22 Try.szB (bA_size _) ?_)
    | (refine wpList_storeV V17 1 rfl _ (.tmp 13) rfl rfl rfl (bA r) rfl rfl Try.szB (bA_size _) (bA_size _) (bA_one _) ?_; intro w18 V19))
  exact bodyPost_ret (resV1 rfl _ V19 1 rfl rfl Try.underlying22 Try.szB (bA_size _)) rfl ⟨rfl, V19.bel⟩
set_option maxHeartbeats 800000 in
theorem lmul_any (a b : Nat) (w : World) (ha : a < fP) (hb : b < fP) : Calls Try.prog 22 #[.agg (bA a), .agg (bA b)] w fun e w' => e = .returned (.agg (bA (a * b % fP))) ∧ Below w.heap.size w w' := by
  have HF : Hid (∀ w, Calls Try.prog 11 #[.agg (bA a), .agg (bA b)] w fun e w' => e = .returned (.tuple #[.agg (bA (a * b % fP)), .int .i64 0]) ∧ Below w.heap.size w w') := fun w => fMul_yes a b w ha hb
  generalize a * b % fP = r at *
  clear ha hb
  have V0 := Vars.start w
  go_enter Try.func22, Try.ntmps22
  go_wp2_with (first
    | (refine wpList_boxV V0 2 22 _ rfl rfl rfl (bA a) rfl ?_; intro w1 g2 V3)
    | (refine wpList_boxV V3 3 22 _ rfl rfl rfl (bA b) rfl ?_; intro w4 g5 V6)
    | (refine wpList_allocV V6 4 22 rfl rfl rfl (bA 0) zeroB ?_; intro w7 g8 V9)
    | (refine wpList_loadV V9 2 rfl 8 _ rfl rfl rfl rfl Try.underlying22 Try.szB (bA_size _) ?_)
    | (refine wpList_loadV V9 1 rfl 9 _ rfl rfl rfl rfl Try.underlying22 Try.szB (bA_size _) ?_))
  refine (HF.out w7).mono ?_
  rintro e w10 ⟨rfl, q12⟩
  have V11 := V9.call q12
  clear q12 V9
  go_wp2_with (first
    | (refine wpList_allocV V11 5 22 rfl rfl rfl (bA 0) zeroB ?_; intro w13 g14 V15)
    | (refine wpList_storeV V15 0 rfl _ (.tmp 11) rfl rfl rfl (bA r) rfl rfl Try.szB (bA_size _) (bA_size _) (bA_one _) ?_; intro w16 V17)
    | (refine wpList_loadV V17 0 rfl 13 _ rfl rfl rfl rfl Try.underlying22 Try.szB (bA_size _) ?_)
    | (refine wpList_storeV V17 1 rfl _ (.tmp 13) rfl rfl rfl (bA r) rfl rfl Try.szB (bA_size _) (bA_size _) (bA_one _) ?_; intro w18 V19))
  exact bodyPost_ret (resV1 rfl _ V19 1 rfl rfl Try.underlying22 Try.szB (bA_size _)) rfl ⟨rfl, V19.bel⟩
set_option maxHeartbeats 3200000 in
theorem awake16_any (w : World) : Calls Try.prog 14 #[] w fun e w' => e = .returned (.bool true) ∧ Below w.heap.size w w' := by
  have N0 : Hid (∀ w, Calls Try.prog 19 #[.int .u8 0] w fun e w' => e = .returned (.agg (bA 0)) ∧ Below w.heap.size w w') := fun w => num_any 0 (by decide) w
  have N1 : Hid (∀ w, Calls Try.prog 19 #[.int .u8 1] w fun e w' => e = .returned (.agg (bA 1)) ∧ Below w.heap.size w w') := fun w => num_any 1 (by decide) w
  have N2 : Hid (∀ w, Calls Try.prog 19 #[.int .u8 2] w fun e w' => e = .returned (.agg (bA 2)) ∧ Below w.heap.size w w') := fun w => num_any 2 (by decide) w
  have N4 : Hid (∀ w, Calls Try.prog 19 #[.int .u8 4] w fun e w' => e = .returned (.agg (bA 4)) ∧ Below w.heap.size w w') := fun w => num_any 4 (by decide) w
  have NL : Hid (∀ w, Calls Try.prog 32 #[] w fun e w' => e = .returned (.agg (bA (fP - 1))) ∧ Below w.heap.size w w') := last_any
  have CA : Hid (∀ w, Calls Try.prog 9 #[.agg (bA (fP - 1)), .agg (bA 2)] w fun e w' => e = .returned (.tuple #[.agg (bA 1), .int .i64 0]) ∧ Below w.heap.size w w') := fun w => by have := fAdd_yes (fP - 1) 2 w (by decide) (by decide); rwa [show (fP - 1 + 2) % fP = 1 from by decide] at this
  have CS : Hid (∀ w, Calls Try.prog 10 #[.agg (bA 0), .agg (bA 1)] w fun e w' => e = .returned (.tuple #[.agg (bA (fP - 1)), .int .i64 0]) ∧ Below w.heap.size w w') := fun w => by have := fSub_yes 0 1 w (by decide) (by decide); rwa [show (0 + (fP - 1)) % fP = fP - 1 from by decide] at this
  have CM : Hid (∀ w, Calls Try.prog 11 #[.agg (bA (fP - 1)), .agg (bA (fP - 1))] w fun e w' => e = .returned (.tuple #[.agg (bA 1), .int .i64 0]) ∧ Below w.heap.size w w') := fun w => by have := fMul_yes (fP - 1) (fP - 1) w (by decide) (by decide); rwa [show (fP - 1) * (fP - 1) % fP = 1 from by decide] at this
  have key : ∀ (a : Nat), a = 4 → Hid (∀ w, Calls Try.prog 20 #[.agg (bA a)] w fun e w' => e = .returned (.tuple #[.agg (bA 2), .bool true, .int .i64 0]) ∧ Below w.heap.size w w') := fun a ha w => by
    have hl : a < fP := by rw [ha]; decide
    have := fRoot_yes a w hl (rtN_sq hl ⟨2, by rw [ha]⟩)
    rwa [show evN (rtN a) = 2 from (root_of' (r := 2) (by decide) (by rw [ha]; decide)).trans (by decide)] at this
  have CR := key 4 rfl
  clear key
  have key : ∀ (a : Nat), a = 2 → Hid (∀ w, Calls Try.prog 20 #[.agg (bA a)] w fun e w' => e = .returned (.tuple #[.agg (bA 0), .bool false, .int .i64 0]) ∧ Below w.heap.size w w') := fun a ha w => by
    have hl : a < fP := by rw [ha]; decide
    exact fRoot_none a w hl (fun h => no_root2 (by rw [← ha]; exact (root_iff hl).1 h))
  have CN := key 2 rfl
  clear key
  have CI : Hid (∀ w, Calls Try.prog 18 #[.agg (bA 0)] w fun e w' => e = .returned (.tuple #[.agg (bA 0), .int .i64 20]) ∧ Below w.heap.size w w') := fInv_zero
  have HL : Hid (fP - 1 < 2 ^ 256) := by show _ < _; have := fP_lt256; omega
  generalize fP - 1 = lst at *
  have V0 := Vars.start w
  go_enter Try.func14, Try.ntmps14
  go_wp2_with fail
  refine (NL.out w).mono ?_
  rintro e w1 ⟨rfl, q3⟩
  have V2 := V0.call q3
  clear q3 V0
  go_wp2_with fail
  refine (N2.out w1).mono ?_
  rintro e w4 ⟨rfl, q6⟩
  have V5 := V2.call q6
  clear q6 V2
  go_wp2_with fail
  refine (CA.out w4).mono ?_
  rintro e w7 ⟨rfl, q9⟩
  have V8 := V5.call q9
  clear q9 V5
  go_wp2_with (first
    | (refine wpList_allocV V8 1 22 rfl rfl rfl (bA 0) zeroB ?_; intro w10 g11 V12)
    | (refine wpList_storeV V12 0 rfl _ (.tmp 19) rfl rfl rfl (bA 1) rfl rfl Try.szB (bA_size _) (bA_size _) (bA_one _) ?_; intro w13 V14))
  refine (N0.out w13).mono ?_
  rintro e w15 ⟨rfl, q17⟩
  have V16 := V14.call q17
  clear q17 V14
  go_wp2_with fail
  refine (N1.out w15).mono ?_
  rintro e w18 ⟨rfl, q20⟩
  have V19 := V16.call q20
  clear q20 V16
  go_wp2_with fail
  refine (CS.out w18).mono ?_
  rintro e w21 ⟨rfl, q23⟩
  have V22 := V19.call q23
  clear q23 V19
  go_wp2_with (first
    | (refine wpList_allocV V22 3 22 rfl rfl rfl (bA 0) zeroB ?_; intro w24 g25 V26)
    | (refine wpList_storeV V26 0 rfl _ (.tmp 25) rfl rfl rfl (bA lst) rfl rfl Try.szB (bA_size _) (bA_size _) (bA_one _) ?_; intro w27 V28))
  refine (NL.out w27).mono ?_
  rintro e w29 ⟨rfl, q31⟩
  have V30 := V28.call q31
  clear q31 V28
  go_wp2_with fail
  refine (NL.out w29).mono ?_
  rintro e w32 ⟨rfl, q34⟩
  have V33 := V30.call q34
  clear q34 V30
  go_wp2_with fail
  refine (CM.out w32).mono ?_
  rintro e w35 ⟨rfl, q37⟩
  have V36 := V33.call q37
  clear q37 V33
  go_wp2_with (first
    | (refine wpList_allocV V36 5 22 rfl rfl rfl (bA 0) zeroB ?_; intro w38 g39 V40)
    | (refine wpList_storeV V40 0 rfl _ (.tmp 31) rfl rfl rfl (bA 1) rfl rfl Try.szB (bA_size _) (bA_size _) (bA_one _) ?_; intro w41 V42))
  refine (N4.out w41).mono ?_
  rintro e w43 ⟨rfl, q45⟩
  have V44 := V42.call q45
  clear q45 V42
  go_wp2_with fail
  refine (CR.out w43).mono ?_
  rintro e w46 ⟨rfl, q48⟩
  have V47 := V44.call q48
  clear q48 V44
  go_wp2_with (first
    | (refine wpList_allocV V47 7 22 rfl rfl rfl (bA 0) zeroB ?_; intro w49 g50 V51)
    | (refine wpList_storeV V51 0 rfl _ (.tmp 36) rfl rfl rfl (bA 2) rfl rfl Try.szB (bA_size _) (bA_size _) (bA_one _) ?_; intro w52 V53))
  refine (N2.out w52).mono ?_
  rintro e w54 ⟨rfl, q56⟩
  have V55 := V53.call q56
  clear q56 V53
  go_wp2_with fail
  refine (CN.out w54).mono ?_
  rintro e w57 ⟨rfl, q59⟩
  have V58 := V55.call q59
  clear q59 V55
  go_wp2_with (first
    | (refine wpList_allocV V58 10 22 rfl rfl rfl (bA 0) zeroB ?_; intro w60 g61 V62)
    | (refine wpList_storeV V62 0 rfl _ (.tmp 42) rfl rfl rfl (bA 0) rfl rfl Try.szB (bA_size _) (bA_size _) (bA_one _) ?_; intro w63 V64))
  refine (N0.out w63).mono ?_
  rintro e w65 ⟨rfl, q67⟩
  have V66 := V64.call q67
  clear q67 V64
  go_wp2_with fail
  refine (CI.out w65).mono ?_
  rintro e w68 ⟨rfl, q70⟩
  have V69 := V66.call q70
  clear q70 V66
  go_wp2_with (first
    | (refine wpList_allocV V69 13 22 rfl rfl rfl (bA 0) zeroB ?_; intro w71 g72 V73)
    | (refine wpList_storeV V73 0 rfl _ (.tmp 48) rfl rfl rfl (bA 0) rfl rfl Try.szB (bA_size _) (bA_size _) (bA_one _) ?_; intro w74 V75))
  refine av_open (fun w' => Vars w w' [⟨g72, 22, bA 0⟩, ⟨g61, 22, bA 0⟩, ⟨g50, 22, bA 2⟩, ⟨g39, 22, bA 1⟩, ⟨g25, 22, bA lst⟩, ⟨g11, 22, bA 1⟩]) (by kernel_rfl) ?_
  have V76 := V75.drew
  refine held_reads (rs := [0]) (fuel := 49) (by kernel_rfl) (fun c d v a w h => by cases d <;> exact h) (by kernel_rfl) (V76) (fun K hK => ?_)
  refine calm_do (.agg (bA 1)) rfl (by rfl) (fun w' hw' => exec_loadV hw' 5 rfl _ rfl rfl Try.underlying22 Try.szB (bA_size _)) ?_
  go_simp
  refine calm_nil (hK.out _ ?_)
  clear hK K
  refine av_op (i := 1) (fuel := 48) (by kernel_rfl) rfl (by rfl) (fun K hK => ?_)
  go_simp
  refine (N1.out w74.drew).mono ?_
  rintro e w77 ⟨rfl, q79⟩
  have V78 := V76.call q79
  refine hK _ _ (V78) ?_
  clear hK K q79
  refine held_reads (rs := [2, 3, 4, 5, 6, 7, 8]) (fuel := 41) (by kernel_rfl) (fun c d v a w h => by cases d <;> exact h) (by kernel_rfl) (V78) (fun K hK => ?_)
  go_simp
  refine calm_do (.bool true) rfl (by rfl) (fun w' hw' => exec_eqlB _ _ rfl true _ _ (decide_eq_true rfl) rfl rfl (by decide) (by decide)) ?_
  go_simp
  refine calm_move _ rfl (by rfl) rfl ?_
  go_simp
  refine calm_move _ rfl (by rfl) rfl ?_
  go_simp
  refine calm_do (.bool true) rfl (by rfl) (fun w' hw' => ?_) ?_
  · go_simp
  go_simp
  refine calm_do (.bool true) rfl (by rfl) (fun w' hw' => ?_) ?_
  · go_simp
  go_simp
  refine calm_move _ rfl (by rfl) rfl ?_
  go_simp
  refine calm_do (.agg (bA lst)) rfl (by rfl) (fun w' hw' => exec_loadV hw' 4 rfl _ rfl rfl Try.underlying22 Try.szB (bA_size _)) ?_
  go_simp
  refine calm_nil (hK.out _ ?_)
  clear hK K
  refine av_op (i := 9) (fuel := 40) (by kernel_rfl) rfl (by rfl) (fun K hK => ?_)
  go_simp
  refine (NL.out w77).mono ?_
  rintro e w80 ⟨rfl, q82⟩
  have V81 := V78.call q82
  refine hK _ _ (V81) ?_
  clear hK K q82
  refine held_reads (rs := [10, 11, 12, 13, 14, 15, 16, 17]) (fuel := 32) (by kernel_rfl) (fun c d v a w h => by cases d <;> exact h) (by kernel_rfl) (V81) (fun K hK => ?_)
  go_simp
  refine calm_do (.bool true) rfl (by rfl) (fun w' hw' => exec_eqlB _ _ rfl true _ _ (decide_eq_true rfl) rfl rfl HL.out HL.out) ?_
  go_simp
  refine calm_do (.bool true) rfl (by rfl) (fun w' hw' => ?_) ?_
  · go_simp
  go_simp
  refine calm_move _ rfl (by rfl) rfl ?_
  go_simp
  refine calm_move _ rfl (by rfl) rfl ?_
  go_simp
  refine calm_do (.bool true) rfl (by rfl) (fun w' hw' => ?_) ?_
  · go_simp
  go_simp
  refine calm_do (.bool true) rfl (by rfl) (fun w' hw' => ?_) ?_
  · go_simp
  go_simp
  refine calm_move _ rfl (by rfl) rfl ?_
  go_simp
  refine calm_do (.agg (bA 1)) rfl (by rfl) (fun w' hw' => exec_loadV hw' 3 rfl _ rfl rfl Try.underlying22 Try.szB (bA_size _)) ?_
  go_simp
  refine calm_nil (hK.out _ ?_)
  clear hK K
  refine av_op (i := 18) (fuel := 31) (by kernel_rfl) rfl (by rfl) (fun K hK => ?_)
  go_simp
  refine (N1.out w80).mono ?_
  rintro e w83 ⟨rfl, q85⟩
  have V84 := V81.call q85
  refine hK _ _ (V84) ?_
  clear hK K q85
  refine held_reads (rs := [19, 20, 21, 22, 23, 24, 25, 26]) (fuel := 23) (by kernel_rfl) (fun c d v a w h => by cases d <;> exact h) (by kernel_rfl) (V84) (fun K hK => ?_)
  go_simp
  refine calm_do (.bool true) rfl (by rfl) (fun w' hw' => exec_eqlB _ _ rfl true _ _ (decide_eq_true rfl) rfl rfl (by decide) (by decide)) ?_
  go_simp
  refine calm_do (.bool true) rfl (by rfl) (fun w' hw' => ?_) ?_
  · go_simp
  go_simp
  refine calm_move _ rfl (by rfl) rfl ?_
  go_simp
  refine calm_move _ rfl (by rfl) rfl ?_
  go_simp
  refine calm_do (.bool true) rfl (by rfl) (fun w' hw' => ?_) ?_
  · go_simp
  go_simp
  refine calm_do (.bool true) rfl (by rfl) (fun w' hw' => ?_) ?_
  · go_simp
  go_simp
  refine calm_move _ rfl (by rfl) rfl ?_
  go_simp
  refine calm_do (.agg (bA 2)) rfl (by rfl) (fun w' hw' => exec_loadV hw' 2 rfl _ rfl rfl Try.underlying22 Try.szB (bA_size _)) ?_
  go_simp
  refine calm_nil (hK.out _ ?_)
  clear hK K
  refine av_op (i := 27) (fuel := 22) (by kernel_rfl) rfl (by rfl) (fun K hK => ?_)
  go_simp
  refine (N2.out w83).mono ?_
  rintro e w86 ⟨rfl, q88⟩
  have V87 := V84.call q88
  refine hK _ _ (V87) ?_
  clear hK K q88
  refine held_reads (rs := [28, 29, 30, 31, 32, 33, 34, 35, 36, 37, 38, 39, 40, 41, 42, 43, 44, 45, 46, 47, 48, 49]) (fuel := 0) (by kernel_rfl) (fun c d v a w h => by cases d <;> exact h) (by kernel_rfl) (V87) (fun K hK => ?_)
  go_simp
  refine calm_do (.bool true) rfl (by rfl) (fun w' hw' => exec_eqlB _ _ rfl true _ _ (decide_eq_true rfl) rfl rfl (by decide) (by decide)) ?_
  go_simp
  refine calm_do (.bool true) rfl (by rfl) (fun w' hw' => ?_) ?_
  · go_simp
  go_simp
  refine calm_move _ rfl (by rfl) rfl ?_
  go_simp
  refine calm_move _ rfl (by rfl) rfl ?_
  go_simp
  refine calm_do (.bool true) rfl (by rfl) (fun w' hw' => ?_) ?_
  · go_simp
  go_simp
  refine calm_move _ rfl (by rfl) rfl ?_
  go_simp
  refine calm_move _ rfl (by rfl) rfl ?_
  go_simp
  refine calm_do (.bool true) rfl (by rfl) (fun w' hw' => ?_) ?_
  · go_simp
  go_simp
  refine calm_do (.bool true) rfl (by rfl) (fun w' hw' => ?_) ?_
  · go_simp
  go_simp
  refine calm_move _ rfl (by rfl) rfl ?_
  go_simp
  refine calm_move _ rfl (by rfl) rfl ?_
  go_simp
  refine calm_do (.bool true) rfl (by rfl) (fun w' hw' => ?_) ?_
  · go_simp
  go_simp
  refine calm_do (.bool true) rfl (by rfl) (fun w' hw' => ?_) ?_
  · go_simp
  go_simp
  refine calm_move _ rfl (by rfl) rfl ?_
  go_simp
  refine calm_move _ rfl (by rfl) rfl ?_
  go_simp
  refine calm_do (.bool true) rfl (by rfl) (fun w' hw' => ?_) ?_
  · go_simp
  go_simp
  refine calm_do (.bool true) rfl (by rfl) (fun w' hw' => ?_) ?_
  · go_simp
  go_simp
  refine calm_move _ rfl (by rfl) rfl ?_
  go_simp
  refine calm_move _ rfl (by rfl) rfl ?_
  go_simp
  refine calm_do (.bool true) rfl (by rfl) (fun w' hw' => ?_) ?_
  · go_simp
  go_simp
  refine calm_do (.bool true) rfl (by rfl) (fun w' hw' => ?_) ?_
  · go_simp
  go_simp
  refine calm_assign _ rfl (by rfl) rfl ?_
  go_simp
  refine calm_nil (hK.out _ ?_)
  clear hK K
  refine wpAnyH_done (by kernel_rfl) ?_ _
  go_wp2_with fail
  go_ret
  exact ⟨rfl, V87.bel⟩
end Go.Proofs.Ytejbpcdfmlkemaa.N
