/-
 The code of layer 16 (field): round, sum, negative, difference, product; '==' of elements.
-/
import Derived.Test.YthangiocheodoaaGreatDoorPackFb
namespace Go.Proofs.YthangiocheodoaaGreatDoor.N
open Go.RowKit
set_option linter.unusedVariables false
set_option maxRecDepth 8192

theorem fP_lt256 : fP < 2 ^ 256 := by have := fP_eq; omega
theorem mod_lt256 (x : Nat) : x % fP < 2 ^ 256 := Nat.lt_trans (mod_fP x) fP_lt256
theorem dec_b {p q : Nat} (hp : p < 2 ^ 256) (hq : q < 2 ^ 256) : decide (digL p 32 = digL q 32) = decide (p = q) := by
 rw [Bool.eq_iff_iff, decide_eq_true_iff, decide_eq_true_iff]
 exact ⟨bA_inj hp hq, fun h => by rw [h]⟩
theorem dec_w {p q : Nat} (hp : p < 2 ^ 256) (hq : q < 2 ^ 256) : decide (W.digL p 4 = W.digL q 4) = decide (p = q) := by
 rw [Bool.eq_iff_iff, decide_eq_true_iff, decide_eq_true_iff]
 exact ⟨wA_inj hp hq, fun h => by rw [h]⟩
theorem exec_eqlB {a : Act} {o : Oper} {w : World} {T' : TypeId} (x y : Operand) (ho : o.op = .binOp .eql 22 x y T') (b : Bool) (p q : Nat) (hb : decide (p = q) = b) (hx : a.eval x = .agg (bA p)) (hy : a.eval y = .agg (bA q)) (hp : p < 2 ^ 256) (hq : q < 2 ^ 256) : (execOp a.eval o).run Tryz.prog w = .ok (.value (.bool b)) w :=
 exec_eqlV _ _ x y ho (digL p 32) (digL q 32) b (by rw [dec_b hp hq, hb]) (by rw [hx, bA_def]) (by rw [hy, bA_def]) Tryz.eqGuardType22 Tryz.underlying22 Tryz.underlying5 Tryz.sz8 (digL_length _ _) (digL_length _ _)
theorem exec_neqW {a : Act} {o : Oper} {w : World} {T' : TypeId} (x y : Operand) (ho : o.op = .binOp .neq 82 x y T') (b : Bool) (p q : Nat) (hb : decide (p = q) = !b) (hx : a.eval x = .agg (wA p)) (hy : a.eval y = .agg (wA q)) (hp : p < 2 ^ 256) (hq : q < 2 ^ 256) : (execOp a.eval o).run Tryz.prog w = .ok (.value (.bool b)) w :=
 exec_neqV _ _ x y ho (W.digL p 4) (W.digL q 4) b (by rw [dec_w hp hq, hb]) (by rw [hx, wA_def]) (by rw [hy, wA_def]) Tryz.eqGuardType82 Tryz.underlying82 Tryz.underlying74 Tryz.sz64 (W.digL_length _ _) (W.digL_length _ _)
set_option maxHeartbeats 1600000 in
theorem round_any (x : Nat) (w : World) (hx : x < 2 * fP) : Calls Tryz.prog 144 #[.agg (wA x)] w fun e w' => e = .returned (.agg (wA (x % fP))) ∧ Below w.heap.size w w' := by
 have hx9 : x < 2 ^ 256 := Nat.lt_trans hx two_fP
 have HM : Hid (∀ w, Rt Tryz.prog 53 #[.agg (wA x), .agg (wA fP)] (.tuple #[.agg (wA ((x + 2 ^ 256 - fP) % 2 ^ 256)), .bool (decide (x < fP))]) w) := fun w => minus_any x fP hx9 fP_lt256 w
 by_cases hlt : x < fP
 ·have HZ : Hid (x % fP = x) := Nat.mod_eq_of_lt hlt
  rw [decide_eq_true hlt] at HM
  generalize (x + 2 ^ 256 - fP) % 2 ^ 256 = z at *
  rw [HZ.out]
  clear hx hx9 hlt
  have V0 := Vars.start w
  go_enter Tryz.func144, Tryz.ntmps144
  go_wp2_with (first
   | (refine wpList_boxV V0 1 82 _ rfl rfl rfl (wA x) rfl ?_; intro w1 g2 V3)
   | (refine wpList_allocV V3 2 82 rfl rfl rfl (wA 0) zeroW ?_; intro w4 g5 V6))
  refine av_open (fun w' => Vars w w' [⟨g5, 82, wA 0⟩, ⟨g2, 82, wA x⟩]) (by kernel_rfl) ?_
  have V7 := V6.drew
  apply av_once (Vg := fun g w' => Vars w w' [⟨g, 82, wA z⟩, ⟨g5, 82, wA 0⟩, ⟨g2, 82, wA x⟩])
  ·intro HC8
   refine zR [0] 8 (by kernel_rfl) (fun _ _ _ _ _ h => h) V7 fun K hK => ?_
   refine zC (.agg (wA x)) rfl (by rfl) (fun w' hw' => exec_loadV hw' 1 rfl _ rfl rfl Tryz.underlying82 Tryz.szW (wA_size _)) ?_
   go_simp
   refine calm_nil (hK.out _ ?_)
   clear hK K
   refine zP 1 6 7 (by kernel_rfl) rfl (by rfl) rfl (by rfl) (fun K hK => ?_) (fun K hK => ?_)
   ·go_simp
    refine (prime_any w4.drew).mono ?_
    rintro e w9 ⟨rfl, q11⟩
    have V10 := V7.call q11
    refine hK _ _ (V10) ?_
    clear hK K q11
    refine zP 2 6 6 (by kernel_rfl) rfl (by rfl) rfl (by rfl) (fun K hK => ?_) (fun K hK => ?_)
    ·go_simp
     refine (HM.out w9).mono ?_
     rintro e w12 ⟨rfl, q14⟩
     have V13 := V10.call q14
     refine hK _ _ (V13) ?_
     clear hK K q14
     refine zR [3, 4, 5] 3 (by kernel_rfl) (fun _ _ _ _ _ h => h) V13 fun K hK => ?_
     go_simp
     refine calm_move _ rfl (by rfl) rfl ?_
     go_simp
     refine zC (.agg (wA z)) rfl (by rfl) (fun w' hw' => ?_) ?_
     ·go_simp
     go_simp
     refine zC (.bool true) rfl (by rfl) (fun w' hw' => ?_) ?_
     ·go_simp
     go_simp
     refine calm_nil (hK.out _ ?_)
     clear hK K
     refine zO 6 2 (by kernel_rfl) rfl (by rfl) fun K hK => ?_
     refine wp_allocV V13 3 82 rfl rfl (wA 0) zeroW (fun w15 g16 V17 => ?_)
     refine hK _ _ (V17.tail) ?_
     clear hK K
     refine zO 7 1 (by kernel_rfl) rfl (by rfl) fun K hK => ?_
     refine wp_storeV V17 0 rfl _ _ rfl rfl (wA z) rfl rfl Tryz.szW (wA_size _) (wA_size _) (wA_one _) (fun w18 V19 => ?_)
     refine hK _ _ (V19.tail) ?_
     clear hK K
     refine zR [8] 0 (by kernel_rfl) (fun _ _ _ _ _ h => h) (V19.tail) fun K hK => ?_
     go_simp
     refine calm_assign _ rfl (by rfl) rfl ?_
     go_simp
     refine calm_nil (hK.out _ ?_)
     clear hK K
     refine wpAnyH_done (by kernel_rfl) ?_ _
     exact HC8 g16 w18 V19
    ·refine wp_allocV V10 3 82 rfl rfl (wA 0) zeroW (fun w20 g21 V22 => ?_)
     refine hK _ _ (V22.tail) ?_
     clear hK K
     refine zO 2 5 (by kernel_rfl) rfl (by rfl) fun K hK => ?_
     go_simp
     refine (HM.out w20).mono ?_
     rintro e w23 ⟨rfl, q25⟩
     have V24 := V22.call q25
     refine hK _ _ (V24.tail) ?_
     clear hK K q25
     refine zR [3, 4, 5] 2 (by kernel_rfl) (fun _ _ _ _ _ h => h) (V24.tail) fun K hK => ?_
     go_simp
     refine calm_move _ rfl (by rfl) rfl ?_
     go_simp
     refine zC (.agg (wA z)) rfl (by rfl) (fun w' hw' => ?_) ?_
     ·go_simp
     go_simp
     refine zC (.bool true) rfl (by rfl) (fun w' hw' => ?_) ?_
     ·go_simp
     go_simp
     refine calm_nil (hK.out _ ?_)
     clear hK K
     refine zO 7 1 (by kernel_rfl) rfl (by rfl) fun K hK => ?_
     refine wp_storeV V24 0 rfl _ _ rfl rfl (wA z) rfl rfl Tryz.szW (wA_size _) (wA_size _) (wA_one _) (fun w26 V27 => ?_)
     refine hK _ _ (V27.tail) ?_
     clear hK K
     refine zR [8] 0 (by kernel_rfl) (fun _ _ _ _ _ h => h) (V27.tail) fun K hK => ?_
     go_simp
     refine calm_assign _ rfl (by rfl) rfl ?_
     go_simp
     refine calm_nil (hK.out _ ?_)
     clear hK K
     refine wpAnyH_done (by kernel_rfl) ?_ _
     exact HC8 g21 w26 V27
   ·refine wp_allocV V7 3 82 rfl rfl (wA 0) zeroW (fun w28 g29 V30 => ?_)
    refine hK _ _ (V30.tail) ?_
    clear hK K
    refine zO 1 6 (by kernel_rfl) rfl (by rfl) fun K hK => ?_
    go_simp
    refine (prime_any w28).mono ?_
    rintro e w31 ⟨rfl, q33⟩
    have V32 := V30.call q33
    refine hK _ _ (V32.tail) ?_
    clear hK K q33
    refine zO 2 5 (by kernel_rfl) rfl (by rfl) fun K hK => ?_
    go_simp
    refine (HM.out w31).mono ?_
    rintro e w34 ⟨rfl, q36⟩
    have V35 := V32.call q36
    refine hK _ _ (V35.tail) ?_
    clear hK K q36
    refine zR [3, 4, 5] 2 (by kernel_rfl) (fun _ _ _ _ _ h => h) (V35.tail) fun K hK => ?_
    go_simp
    refine calm_move _ rfl (by rfl) rfl ?_
    go_simp
    refine zC (.agg (wA z)) rfl (by rfl) (fun w' hw' => ?_) ?_
    ·go_simp
    go_simp
    refine zC (.bool true) rfl (by rfl) (fun w' hw' => ?_) ?_
    ·go_simp
    go_simp
    refine calm_nil (hK.out _ ?_)
    clear hK K
    refine zO 7 1 (by kernel_rfl) rfl (by rfl) fun K hK => ?_
    refine wp_storeV V35 0 rfl _ _ rfl rfl (wA z) rfl rfl Tryz.szW (wA_size _) (wA_size _) (wA_one _) (fun w37 V38 => ?_)
    refine hK _ _ (V38.tail) ?_
    clear hK K
    refine zR [8] 0 (by kernel_rfl) (fun _ _ _ _ _ h => h) (V38.tail) fun K hK => ?_
    go_simp
    refine calm_assign _ rfl (by rfl) rfl ?_
    go_simp
    refine calm_nil (hK.out _ ?_)
    clear hK K
    refine wpAnyH_done (by kernel_rfl) ?_ _
    exact HC8 g29 w37 V38
  intro g29 w37 V38
  clear V7
  go_wp2_with (first
   | (refine wpList_loadV V38 2 rfl 12 _ rfl rfl rfl rfl Tryz.underlying82 Tryz.szW (wA_size _) ?_)
   | (refine wpList_storeV V38 1 rfl _ (.tmp 12) rfl rfl rfl (wA x) rfl rfl Tryz.szW (wA_size _) (wA_size _) (wA_one _) ?_; intro w39 V40))
  exact bodyPost_ret (resV1 rfl _ V40 1 rfl rfl Tryz.underlying82 Tryz.szW (wA_size _)) rfl ⟨rfl, V40.bel⟩
 ·have HZ : Hid (x % fP = (x + 2 ^ 256 - fP) % 2 ^ 256) := by
   show _ = _
   rw [show x + 2 ^ 256 - fP = (x - fP) + 2 ^ 256 from by have := fP_lt256; omega, Nat.add_mod_right, Nat.mod_eq_of_lt (show x - fP < 2 ^ 256 by omega), Nat.mod_eq_sub_mod (by omega), Nat.mod_eq_of_lt (by omega)]
  rw [decide_eq_false hlt] at HM
  rw [HZ.out]
  clear HZ
  generalize (x + 2 ^ 256 - fP) % 2 ^ 256 = z at *
  clear hx hx9 hlt
  have V0 := Vars.start w
  go_enter Tryz.func144, Tryz.ntmps144
  go_wp2_with (first
   | (refine wpList_boxV V0 1 82 _ rfl rfl rfl (wA x) rfl ?_; intro w1 g2 V3)
   | (refine wpList_allocV V3 2 82 rfl rfl rfl (wA 0) zeroW ?_; intro w4 g5 V6))
  refine av_open (fun w' => Vars w w' [⟨g5, 82, wA 0⟩, ⟨g2, 82, wA x⟩]) (by kernel_rfl) ?_
  have V7 := V6.drew
  apply av_once (Vg := fun g w' => Vars w w' [⟨g, 82, wA z⟩, ⟨g5, 82, wA 0⟩, ⟨g2, 82, wA x⟩])
  ·intro HC8
   refine zR [0] 8 (by kernel_rfl) (fun _ _ _ _ _ h => h) V7 fun K hK => ?_
   refine zC (.agg (wA x)) rfl (by rfl) (fun w' hw' => exec_loadV hw' 1 rfl _ rfl rfl Tryz.underlying82 Tryz.szW (wA_size _)) ?_
   go_simp
   refine calm_nil (hK.out _ ?_)
   clear hK K
   refine zP 1 6 7 (by kernel_rfl) rfl (by rfl) rfl (by rfl) (fun K hK => ?_) (fun K hK => ?_)
   ·go_simp
    refine (prime_any w4.drew).mono ?_
    rintro e w9 ⟨rfl, q11⟩
    have V10 := V7.call q11
    refine hK _ _ (V10) ?_
    clear hK K q11
    refine zP 2 6 6 (by kernel_rfl) rfl (by rfl) rfl (by rfl) (fun K hK => ?_) (fun K hK => ?_)
    ·go_simp
     refine (HM.out w9).mono ?_
     rintro e w12 ⟨rfl, q14⟩
     have V13 := V10.call q14
     refine hK _ _ (V13) ?_
     clear hK K q14
     refine zR [3, 4, 5] 3 (by kernel_rfl) (fun _ _ _ _ _ h => h) V13 fun K hK => ?_
     go_simp
     refine calm_move _ rfl (by rfl) rfl ?_
     go_simp
     refine zC (.agg (wA z)) rfl (by rfl) (fun w' hw' => ?_) ?_
     ·go_simp
     go_simp
     refine zC (.bool false) rfl (by rfl) (fun w' hw' => ?_) ?_
     ·go_simp
     go_simp
     refine calm_nil (hK.out _ ?_)
     clear hK K
     refine zO 6 2 (by kernel_rfl) rfl (by rfl) fun K hK => ?_
     refine wp_allocV V13 3 82 rfl rfl (wA 0) zeroW (fun w15 g16 V17 => ?_)
     refine hK _ _ (V17.tail) ?_
     clear hK K
     refine zO 7 1 (by kernel_rfl) rfl (by rfl) fun K hK => ?_
     refine wp_storeV V17 0 rfl _ _ rfl rfl (wA z) rfl rfl Tryz.szW (wA_size _) (wA_size _) (wA_one _) (fun w18 V19 => ?_)
     refine hK _ _ (V19.tail) ?_
     clear hK K
     refine zR [8] 0 (by kernel_rfl) (fun _ _ _ _ _ h => h) (V19.tail) fun K hK => ?_
     go_simp
     refine calm_assign _ rfl (by rfl) rfl ?_
     go_simp
     refine calm_nil (hK.out _ ?_)
     clear hK K
     refine wpAnyH_done (by kernel_rfl) ?_ _
     exact HC8 g16 w18 V19
    ·refine wp_allocV V10 3 82 rfl rfl (wA 0) zeroW (fun w20 g21 V22 => ?_)
     refine hK _ _ (V22.tail) ?_
     clear hK K
     refine zO 2 5 (by kernel_rfl) rfl (by rfl) fun K hK => ?_
     go_simp
     refine (HM.out w20).mono ?_
     rintro e w23 ⟨rfl, q25⟩
     have V24 := V22.call q25
     refine hK _ _ (V24.tail) ?_
     clear hK K q25
     refine zR [3, 4, 5] 2 (by kernel_rfl) (fun _ _ _ _ _ h => h) (V24.tail) fun K hK => ?_
     go_simp
     refine calm_move _ rfl (by rfl) rfl ?_
     go_simp
     refine zC (.agg (wA z)) rfl (by rfl) (fun w' hw' => ?_) ?_
     ·go_simp
     go_simp
     refine zC (.bool false) rfl (by rfl) (fun w' hw' => ?_) ?_
     ·go_simp
     go_simp
     refine calm_nil (hK.out _ ?_)
     clear hK K
     refine zO 7 1 (by kernel_rfl) rfl (by rfl) fun K hK => ?_
     refine wp_storeV V24 0 rfl _ _ rfl rfl (wA z) rfl rfl Tryz.szW (wA_size _) (wA_size _) (wA_one _) (fun w26 V27 => ?_)
     refine hK _ _ (V27.tail) ?_
     clear hK K
     refine zR [8] 0 (by kernel_rfl) (fun _ _ _ _ _ h => h) (V27.tail) fun K hK => ?_
     go_simp
     refine calm_assign _ rfl (by rfl) rfl ?_
     go_simp
     refine calm_nil (hK.out _ ?_)
     clear hK K
     refine wpAnyH_done (by kernel_rfl) ?_ _
     exact HC8 g21 w26 V27
   ·refine wp_allocV V7 3 82 rfl rfl (wA 0) zeroW (fun w28 g29 V30 => ?_)
    refine hK _ _ (V30.tail) ?_
    clear hK K
    refine zO 1 6 (by kernel_rfl) rfl (by rfl) fun K hK => ?_
    go_simp
    refine (prime_any w28).mono ?_
    rintro e w31 ⟨rfl, q33⟩
    have V32 := V30.call q33
    refine hK _ _ (V32.tail) ?_
    clear hK K q33
    refine zO 2 5 (by kernel_rfl) rfl (by rfl) fun K hK => ?_
    go_simp
    refine (HM.out w31).mono ?_
    rintro e w34 ⟨rfl, q36⟩
    have V35 := V32.call q36
    refine hK _ _ (V35.tail) ?_
    clear hK K q36
    refine zR [3, 4, 5] 2 (by kernel_rfl) (fun _ _ _ _ _ h => h) (V35.tail) fun K hK => ?_
    go_simp
    refine calm_move _ rfl (by rfl) rfl ?_
    go_simp
    refine zC (.agg (wA z)) rfl (by rfl) (fun w' hw' => ?_) ?_
    ·go_simp
    go_simp
    refine zC (.bool false) rfl (by rfl) (fun w' hw' => ?_) ?_
    ·go_simp
    go_simp
    refine calm_nil (hK.out _ ?_)
    clear hK K
    refine zO 7 1 (by kernel_rfl) rfl (by rfl) fun K hK => ?_
    refine wp_storeV V35 0 rfl _ _ rfl rfl (wA z) rfl rfl Tryz.szW (wA_size _) (wA_size _) (wA_one _) (fun w37 V38 => ?_)
    refine hK _ _ (V38.tail) ?_
    clear hK K
    refine zR [8] 0 (by kernel_rfl) (fun _ _ _ _ _ h => h) (V38.tail) fun K hK => ?_
    go_simp
    refine calm_assign _ rfl (by rfl) rfl ?_
    go_simp
    refine calm_nil (hK.out _ ?_)
    clear hK K
    refine wpAnyH_done (by kernel_rfl) ?_ _
    exact HC8 g29 w37 V38
  intro g29 w37 V38
  clear V7
  go_wp2_with (first
   | (refine wpList_loadV V38 0 rfl 13 _ rfl rfl rfl rfl Tryz.underlying82 Tryz.szW (wA_size _) ?_)
   | (refine wpList_storeV V38 1 rfl _ (.tmp 13) rfl rfl rfl (wA z) rfl rfl Tryz.szW (wA_size _) (wA_size _) (wA_one _) ?_; intro w39 V40))
  exact bodyPost_ret (resV1 rfl _ V40 1 rfl rfl Tryz.underlying82 Tryz.szW (wA_size _)) rfl ⟨rfl, V40.bel⟩
set_option maxHeartbeats 800000 in
theorem sum_any (x y : Nat) (w : World) (h : x + y < 2 * fP) : Calls Tryz.prog 128 #[.agg (wA x), .agg (wA y)] w fun e w' => e = .returned (.agg (wA ((x + y) % fP))) ∧ Below w.heap.size w w' := by
 have HP : Hid (∀ w, Rt Tryz.prog 145 #[.agg (wA x), .agg (wA y)] (.agg (wA (x + y))) w) := fun w => plus_any x y (Nat.lt_trans h two_fP) w
 have HR : Hid (∀ w, Rt Tryz.prog 144 #[.agg (wA (x + y))] (.agg (wA ((x + y) % fP))) w) := fun w => round_any (x + y) w h
 generalize (x + y) % fP = r at *
 generalize x + y = s at *
 clear h
 have V0 := Vars.start w
 go_enter Tryz.func128, Tryz.ntmps128
 go_wp2_with (first
  | (refine wpList_boxV V0 2 82 _ rfl rfl rfl (wA x) rfl ?_; intro w1 g2 V3)
  | (refine wpList_boxV V3 3 82 _ rfl rfl rfl (wA y) rfl ?_; intro w4 g5 V6)
  | (refine wpList_allocV V6 4 82 rfl rfl rfl (wA 0) zeroW ?_; intro w7 g8 V9)
  | (refine wpList_loadV V9 2 rfl 5 _ rfl rfl rfl rfl Tryz.underlying82 Tryz.szW (wA_size _) ?_)
  | (refine wpList_loadV V9 1 rfl 6 _ rfl rfl rfl rfl Tryz.underlying82 Tryz.szW (wA_size _) ?_))
 refine (HP.out w7).mono ?_
 rintro e w10 ⟨rfl, q12⟩
 have V11 := V9.call q12
 clear q12 V9
 go_wp2_with fail
 refine (HR.out w10).mono ?_
 rintro e w13 ⟨rfl, q15⟩
 have V14 := V11.call q15
 clear q15 V11
 go_wp2_with (refine wpList_storeV V14 0 rfl _ (.tmp 8) rfl rfl rfl (wA r) rfl rfl Tryz.szW (wA_size _) (wA_size _) (wA_one _) ?_; intro w16 V17)
 exact bodyPost_ret (resV1 rfl _ V17 0 rfl rfl Tryz.underlying82 Tryz.szW (wA_size _)) rfl ⟨rfl, V17.bel⟩
set_option maxHeartbeats 800000 in
theorem negative_any (x : Nat) (w : World) (h : x ≤ fP) : Calls Tryz.prog 97 #[.agg (wA x)] w fun e w' => e = .returned (.agg (wA (fP - x))) ∧ Below w.heap.size w w' := by
 have HM : Hid (∀ w, Rt Tryz.prog 53 #[.agg (wA fP), .agg (wA x)] (.tuple #[.agg (wA (fP - x)), .bool false]) w) := fun w => by
  have := minus_any fP x fP_lt256 (Nat.lt_of_le_of_lt h fP_lt256) w
  rw [decide_eq_false (Nat.not_lt.2 h), show fP + 2 ^ 256 - x = (fP - x) + 2 ^ 256 from by omega, Nat.add_mod_right, Nat.mod_eq_of_lt (show fP - x < 2 ^ 256 by have := fP_lt256; omega)] at this
  exact this
 generalize fP - x = z at *
 clear h
 have V0 := Vars.start w
 go_enter Tryz.func97, Tryz.ntmps97
 go_wp2_with (first
  | (refine wpList_boxV V0 1 82 _ rfl rfl rfl (wA x) rfl ?_; intro w1 g2 V3)
  | (refine wpList_allocV V3 2 82 rfl rfl rfl (wA 0) zeroW ?_; intro w4 g5 V6))
 refine av_open (fun w' => Vars w w' [⟨g5, 82, wA 0⟩, ⟨g2, 82, wA x⟩]) (by kernel_rfl) ?_
 have V7 := V6.drew
 apply av_once (Vg := fun g w' => Vars w w' [⟨g, 82, wA z⟩, ⟨g5, 82, wA 0⟩, ⟨g2, 82, wA x⟩])
 ·intro HC8
  refine zR [1] 8 (by kernel_rfl) (fun _ _ _ _ _ h => h) V7 fun K hK => ?_
  refine zC (.agg (wA x)) rfl (by rfl) (fun w' hw' => exec_loadV hw' 1 rfl _ rfl rfl Tryz.underlying82 Tryz.szW (wA_size _)) ?_
  go_simp
  refine calm_nil (hK.out _ ?_)
  clear hK K
  refine zP 0 6 7 (by kernel_rfl) rfl (by rfl) rfl (by rfl) (fun K hK => ?_) (fun K hK => ?_)
  ·go_simp
   refine (prime_any w4.drew).mono ?_
   rintro e w9 ⟨rfl, q11⟩
   have V10 := V7.call q11
   refine hK _ _ (V10) ?_
   clear hK K q11
   refine zP 2 6 6 (by kernel_rfl) rfl (by rfl) rfl (by rfl) (fun K hK => ?_) (fun K hK => ?_)
   ·go_simp
    refine (HM.out w9).mono ?_
    rintro e w12 ⟨rfl, q14⟩
    have V13 := V10.call q14
    refine hK _ _ (V13) ?_
    clear hK K q14
    refine zR [3, 4, 5] 3 (by kernel_rfl) (fun _ _ _ _ _ h => h) V13 fun K hK => ?_
    go_simp
    refine calm_move _ rfl (by rfl) rfl ?_
    go_simp
    refine zC (.agg (wA z)) rfl (by rfl) (fun w' hw' => ?_) ?_
    ·go_simp
    go_simp
    refine zC (.bool false) rfl (by rfl) (fun w' hw' => ?_) ?_
    ·go_simp
    go_simp
    refine calm_nil (hK.out _ ?_)
    clear hK K
    refine zO 6 2 (by kernel_rfl) rfl (by rfl) fun K hK => ?_
    refine wp_allocV V13 3 82 rfl rfl (wA 0) zeroW (fun w15 g16 V17 => ?_)
    refine hK _ _ (V17.tail) ?_
    clear hK K
    refine zO 7 1 (by kernel_rfl) rfl (by rfl) fun K hK => ?_
    refine wp_storeV V17 0 rfl _ _ rfl rfl (wA z) rfl rfl Tryz.szW (wA_size _) (wA_size _) (wA_one _) (fun w18 V19 => ?_)
    refine hK _ _ (V19.tail) ?_
    clear hK K
    refine zR [8] 0 (by kernel_rfl) (fun _ _ _ _ _ h => h) (V19.tail) fun K hK => ?_
    go_simp
    refine calm_assign _ rfl (by rfl) rfl ?_
    go_simp
    refine calm_nil (hK.out _ ?_)
    clear hK K
    refine wpAnyH_done (by kernel_rfl) ?_ _
    exact HC8 g16 w18 V19
   ·refine wp_allocV V10 3 82 rfl rfl (wA 0) zeroW (fun w20 g21 V22 => ?_)
    refine hK _ _ (V22.tail) ?_
    clear hK K
    refine zO 2 5 (by kernel_rfl) rfl (by rfl) fun K hK => ?_
    go_simp
    refine (HM.out w20).mono ?_
    rintro e w23 ⟨rfl, q25⟩
    have V24 := V22.call q25
    refine hK _ _ (V24.tail) ?_
    clear hK K q25
    refine zR [3, 4, 5] 2 (by kernel_rfl) (fun _ _ _ _ _ h => h) (V24.tail) fun K hK => ?_
    go_simp
    refine calm_move _ rfl (by rfl) rfl ?_
    go_simp
    refine zC (.agg (wA z)) rfl (by rfl) (fun w' hw' => ?_) ?_
    ·go_simp
    go_simp
    refine zC (.bool false) rfl (by rfl) (fun w' hw' => ?_) ?_
    ·go_simp
    go_simp
    refine calm_nil (hK.out _ ?_)
    clear hK K
    refine zO 7 1 (by kernel_rfl) rfl (by rfl) fun K hK => ?_
    refine wp_storeV V24 0 rfl _ _ rfl rfl (wA z) rfl rfl Tryz.szW (wA_size _) (wA_size _) (wA_one _) (fun w26 V27 => ?_)
    refine hK _ _ (V27.tail) ?_
    clear hK K
    refine zR [8] 0 (by kernel_rfl) (fun _ _ _ _ _ h => h) (V27.tail) fun K hK => ?_
    go_simp
    refine calm_assign _ rfl (by rfl) rfl ?_
    go_simp
    refine calm_nil (hK.out _ ?_)
    clear hK K
    refine wpAnyH_done (by kernel_rfl) ?_ _
    exact HC8 g21 w26 V27
  ·refine wp_allocV V7 3 82 rfl rfl (wA 0) zeroW (fun w28 g29 V30 => ?_)
   refine hK _ _ (V30.tail) ?_
   clear hK K
   refine zO 0 6 (by kernel_rfl) rfl (by rfl) fun K hK => ?_
   go_simp
   refine (prime_any w28).mono ?_
   rintro e w31 ⟨rfl, q33⟩
   have V32 := V30.call q33
   refine hK _ _ (V32.tail) ?_
   clear hK K q33
   refine zO 2 5 (by kernel_rfl) rfl (by rfl) fun K hK => ?_
   go_simp
   refine (HM.out w31).mono ?_
   rintro e w34 ⟨rfl, q36⟩
   have V35 := V32.call q36
   refine hK _ _ (V35.tail) ?_
   clear hK K q36
   refine zR [3, 4, 5] 2 (by kernel_rfl) (fun _ _ _ _ _ h => h) (V35.tail) fun K hK => ?_
   go_simp
   refine calm_move _ rfl (by rfl) rfl ?_
   go_simp
   refine zC (.agg (wA z)) rfl (by rfl) (fun w' hw' => ?_) ?_
   ·go_simp
   go_simp
   refine zC (.bool false) rfl (by rfl) (fun w' hw' => ?_) ?_
   ·go_simp
   go_simp
   refine calm_nil (hK.out _ ?_)
   clear hK K
   refine zO 7 1 (by kernel_rfl) rfl (by rfl) fun K hK => ?_
   refine wp_storeV V35 0 rfl _ _ rfl rfl (wA z) rfl rfl Tryz.szW (wA_size _) (wA_size _) (wA_one _) (fun w37 V38 => ?_)
   refine hK _ _ (V38.tail) ?_
   clear hK K
   refine zR [8] 0 (by kernel_rfl) (fun _ _ _ _ _ h => h) (V38.tail) fun K hK => ?_
   go_simp
   refine calm_assign _ rfl (by rfl) rfl ?_
   go_simp
   refine calm_nil (hK.out _ ?_)
   clear hK K
   refine wpAnyH_done (by kernel_rfl) ?_ _
   exact HC8 g29 w37 V38
 intro g29 w37 V38
 clear V7
 go_wp2_with (first
  | (refine wpList_loadV V38 0 rfl 11 _ rfl rfl rfl rfl Tryz.underlying82 Tryz.szW (wA_size _) ?_)
  | (refine wpList_storeV V38 1 rfl _ (.tmp 11) rfl rfl rfl (wA z) rfl rfl Tryz.szW (wA_size _) (wA_size _) (wA_one _) ?_; intro w39 V40))
 exact bodyPost_ret (resV1 rfl _ V40 1 rfl rfl Tryz.underlying82 Tryz.szW (wA_size _)) rfl ⟨rfl, V40.bel⟩
set_option maxHeartbeats 800000 in
theorem difference_any (x y : Nat) (w : World) (hx : x < fP) (hy : y ≤ fP) : Calls Tryz.prog 101 #[.agg (wA x), .agg (wA y)] w fun e w' => e = .returned (.agg (wA ((x + (fP - y)) % fP))) ∧ Below w.heap.size w w' := by
 have HN : Hid (∀ w, Rt Tryz.prog 97 #[.agg (wA y)] (.agg (wA (fP - y))) w) := fun w => negative_any y w hy
 have HS : Hid (∀ w, Rt Tryz.prog 128 #[.agg (wA x), .agg (wA (fP - y))] (.agg (wA ((x + (fP - y)) % fP))) w) := fun w => sum_any x (fP - y) w (by omega)
 generalize (x + (fP - y)) % fP = r at *
 generalize fP - y = n at *
 clear hx hy
 have V0 := Vars.start w
 go_enter Tryz.func101, Tryz.ntmps101
 go_wp2_with (first
  | (refine wpList_boxV V0 2 82 _ rfl rfl rfl (wA x) rfl ?_; intro w1 g2 V3)
  | (refine wpList_boxV V3 3 82 _ rfl rfl rfl (wA y) rfl ?_; intro w4 g5 V6)
  | (refine wpList_allocV V6 4 82 rfl rfl rfl (wA 0) zeroW ?_; intro w7 g8 V9))
 refine av_open (fun w' => Vars w w' [⟨g5, 82, wA y⟩, ⟨g2, 82, wA x⟩]) (by kernel_rfl) ?_
 have V10 := V9.drew
 refine zR [0, 1] 3 (by kernel_rfl) (fun _ _ _ _ _ h => h) (V10.tail) fun K hK => ?_
 refine zC (.agg (wA x)) rfl (by rfl) (fun w' hw' => exec_loadV hw' 1 rfl _ rfl rfl Tryz.underlying82 Tryz.szW (wA_size _)) ?_
 go_simp
 refine zC (.agg (wA y)) rfl (by rfl) (fun w' hw' => exec_loadV hw' 0 rfl _ rfl rfl Tryz.underlying82 Tryz.szW (wA_size _)) ?_
 go_simp
 refine calm_nil (hK.out _ ?_)
 clear hK K
 refine zO 2 2 (by kernel_rfl) rfl (by rfl) fun K hK => ?_
 go_simp
 refine (HN.out w7.drew).mono ?_
 rintro e w11 ⟨rfl, q13⟩
 have V12 := V10.call q13
 refine hK _ _ (V12.tail) ?_
 clear hK K q13
 refine zO 3 1 (by kernel_rfl) rfl (by rfl) fun K hK => ?_
 go_simp
 refine (HS.out w11).mono ?_
 rintro e w14 ⟨rfl, q16⟩
 have V15 := V12.call q16
 refine hK _ _ (V15.tail) ?_
 clear hK K q16
 refine zO 4 0 (by kernel_rfl) rfl (by rfl) fun K hK => ?_
 refine wp_storeV V15 0 rfl _ _ rfl rfl (wA r) rfl rfl Tryz.szW (wA_size _) (wA_size _) (wA_one _) (fun w17 V18 => ?_)
 refine hK _ _ (V18.tail) ?_
 clear hK K
 refine wpAnyH_done (by kernel_rfl) ?_ _
 go_wp2_with fail
 exact bodyPost_ret (resV1 rfl _ V18 0 rfl rfl Tryz.underlying82 Tryz.szW (wA_size _)) rfl ⟨rfl, V18.bel⟩
theorem product_any (a b : Nat) (w : World) (ha : a < 2 ^ 256) (hb : b < 2 ^ 256) : Calls Tryz.prog 96 #[.agg (wA a), .agg (wA b)] w fun e w' => e = .returned (.agg (wA (a * b % fP))) ∧ Below w.heap.size w w' :=
 product_gen a b ha hb (fun x w h => folded_any x h (fun x w h => round_any x w h) w) w
end Go.Proofs.YthangiocheodoaaGreatDoor.N

/-
  The code of layer 16 (field): a power by a function that is handed in; Is.
-/
namespace Go.Proofs.YthangiocheodoaaGreatDoor.N
open Go.RowKit
set_option linter.unusedVariables false
set_option maxRecDepth 8192

theorem pow_half (n k : Nat) : n / 2 ^ k = 2 * (n / 2 ^ (k + 1)) + n / 2 ^ k % 2 := by
  have e : n / 2 ^ (k + 1) = n / 2 ^ k / 2 := by rw [Nat.pow_succ, Nat.div_div_eq_div_mul]
  rw [e]; omega
theorem pow_one_step {x e e' o : Nat} (ho : o = x ^ e % fP) (he : e' = 2 * e + 1) : (o * o % fP) * x % fP = x ^ e' % fP := by
  rw [he, ho, Nat.pow_succ, Nat.two_mul, Nat.pow_add, ← Nat.mul_mod, Nat.mul_mod (x ^ e * x ^ e) x, Nat.mul_mod, Nat.mod_mod]
theorem pow_zero_step {x e e' o : Nat} (ho : o = x ^ e % fP) (he : e' = 2 * e) : o * o % fP = x ^ e' % fP := by
  rw [he, ho, Nat.two_mul, Nat.pow_add, ← Nat.mul_mod]
theorem wA_num1 : Tryz.prog.built 82 [(0, .int .u64 1)] = some (wA 1) := wA_one1 1 (by decide)
theorem times_any (x : Nat) (w : World) : Calls Tryz.prog 109 #[.agg (wA x)] w fun e w' => ∃ g, e = .returned (.func (.func 132) #[] #[.pointer (some ⟨g, 0, none⟩)]) ∧ w.heap.size ≤ g ∧ w'.heap[g]? = some (.cells (wA x) 82 (0, 0)) ∧ Below w.heap.size w w' := by
  have V0 := Vars.start w
  go_enter Tryz.func109, Tryz.ntmps109
  go_wp2_with (refine wpList_boxV V0 1 82 _ rfl rfl rfl (wA x) rfl ?_; intro w1 g1 V1)
  go_ret
  exact ⟨g1, rfl, V1.low ⟨g1, 82, wA x⟩ (by simp), V1.at 0 rfl, V1.bel⟩
set_option maxHeartbeats 800000 in
theorem take_any (o x r : Nat) (b : Bool) (g : Nat) (w : World) (ho : o < fP) (hx : x < 2 ^ 256) (hg : w.heap[g]? = some (.cells (wA x) 82 (0, 0))) (hr : r = if b then (o * o % fP) * x % fP else o * o % fP) :
    Calls Tryz.prog 132 #[.agg (wA o), .bool b, .pointer (some ⟨g, 0, none⟩)] w fun e w' => e = .returned (.agg (wA r)) ∧ Below w.heap.size w w' := by
  have HG : Hid (w.heap[g]? = some (.cells (wA x) 82 (0, 0))) := hg
  have hgl := lt_of_heap hg
  have P1 : Hid (∀ w, Rt Tryz.prog 96 #[.agg (wA o), .agg (wA o)] (.agg (wA (o * o % fP))) w) := fun w => product_any o o w (Nat.lt_trans ho fP_lt256) (Nat.lt_trans ho fP_lt256)
  have P2 : Hid (∀ w, Rt Tryz.prog 96 #[.agg (wA (o * o % fP)), .agg (wA x)] (.agg (wA ((o * o % fP) * x % fP))) w) := fun w => product_any _ x w (mod_lt256 _) hx
  clear hg
  generalize (o * o % fP) * x % fP = z at *
  generalize o * o % fP = y at *
  clear ho hx
  cases b
  · obtain rfl : r = y := hr
    have V0 := Vars.start w
    go_enter Tryz.func132, Tryz.ntmps132
    go_wp2_with (first
      | (refine wpList_boxV V0 3 82 _ rfl rfl rfl (wA o) rfl ?_; intro w1 g2 V3)
      | (refine wpList_allocV V3 5 82 rfl rfl rfl (wA 0) zeroW ?_; intro w4 g5 V6)
      | (refine wpList_loadV V6 1 rfl 6 _ rfl rfl rfl rfl Tryz.underlying82 Tryz.szW (wA_size _) ?_)
      | (refine wpList_loadV V6 1 rfl 7 _ rfl rfl rfl rfl Tryz.underlying82 Tryz.szW (wA_size _) ?_))
    refine (P1.out w4).mono ?_
    rintro e w7 ⟨rfl, q9⟩
    have V8 := V6.call q9
    clear q9 V6
    go_wp2_with (first
      | (refine wpList_storeV V8 1 rfl _ (.tmp 8) rfl rfl rfl (wA r) rfl rfl Tryz.szW (wA_size _) (wA_size _) (wA_one _) ?_; intro w10 V11)
      | (refine wpList_loadV V11 1 rfl 13 _ rfl rfl rfl rfl Tryz.underlying82 Tryz.szW (wA_size _) ?_)
      | (refine wpList_storeV V11 0 rfl _ (.tmp 13) rfl rfl rfl (wA r) rfl rfl Tryz.szW (wA_size _) (wA_size _) (wA_one _) ?_; intro w12 V13))
    exact bodyPost_ret (resV1 rfl _ V13 0 rfl rfl Tryz.underlying82 Tryz.szW (wA_size _)) rfl ⟨rfl, V13.bel⟩
  · obtain rfl : r = z := hr
    have V0 := Vars.start w
    go_enter Tryz.func132, Tryz.ntmps132
    go_wp2_with (first
      | (refine wpList_boxV V0 3 82 _ rfl rfl rfl (wA o) rfl ?_; intro w1 g2 V3)
      | (refine wpList_allocV V3 5 82 rfl rfl rfl (wA 0) zeroW ?_; intro w4 g5 V6)
      | (refine wpList_loadV V6 1 rfl 6 _ rfl rfl rfl rfl Tryz.underlying82 Tryz.szW (wA_size _) ?_)
      | (refine wpList_loadV V6 1 rfl 7 _ rfl rfl rfl rfl Tryz.underlying82 Tryz.szW (wA_size _) ?_))
    refine (P1.out w4).mono ?_
    rintro e w7 ⟨rfl, q9⟩
    have V8 := V6.call q9
    clear q9 V6
    go_wp2_with (first
      | (refine wpList_storeV V8 1 rfl _ (.tmp 8) rfl rfl rfl (wA y) rfl rfl Tryz.szW (wA_size _) (wA_size _) (wA_one _) ?_; intro w10 V11; have hgw := (V11.bel.block g hgl).trans HG.out)
      | (refine wpList_loadV V11 1 rfl 10 _ rfl rfl rfl rfl Tryz.underlying82 Tryz.szW (wA_size _) ?_)
      | (refine wpList_exec rfl (exec_loadB _ rfl g rfl hgw Tryz.underlying82 Tryz.szW (wA_size _)) ?_))
    refine (P2.out w10).mono ?_
    rintro e w12 ⟨rfl, q14⟩
    have V13 := V11.call q14
    clear q14 V11
    go_wp2_with (first
      | (refine wpList_storeV V13 1 rfl _ (.tmp 12) rfl rfl rfl (wA r) rfl rfl Tryz.szW (wA_size _) (wA_size _) (wA_one _) ?_; intro w15 V16)
      | (refine wpList_loadV V16 1 rfl 13 _ rfl rfl rfl rfl Tryz.underlying82 Tryz.szW (wA_size _) ?_)
      | (refine wpList_storeV V16 0 rfl _ (.tmp 13) rfl rfl rfl (wA r) rfl rfl Tryz.szW (wA_size _) (wA_size _) (wA_one _) ?_; intro w17 V18))
    exact bodyPost_ret (resV1 rfl _ V18 0 rfl rfl Tryz.underlying82 Tryz.szW (wA_size _)) rfl ⟨rfl, V18.bel⟩
set_option maxHeartbeats 1600000 in
theorem power_any (n x g : Nat) (w : World) (hn : n < 2 ^ 256) (hx : x < 2 ^ 256) (hg : w.heap[g]? = some (.cells (wA x) 82 (0, 0))) :
    Calls Tryz.prog 108 #[.agg (wA n), .func (.func 132) #[] #[.pointer (some ⟨g, 0, none⟩)]] w fun e w' => e = .returned (.agg (wA (x ^ n % fP))) ∧ Below w.heap.size w w' := by
  have HG : Hid (w.heap[g]? = some (.cells (wA x) 82 (0, 0))) := hg
  have hgl := lt_of_heap hg
  have HX : Hid (x < 2 ^ 256) := hx
  have HN : Hid (n < 2 ^ 256) := hn
  clear hg hx hn
  have V0 := Vars.start w
  go_enter Tryz.func108, Tryz.ntmps108
  go_wp2_with (first
    | (refine wpList_boxV V0 2 82 _ rfl rfl rfl (wA n) rfl ?_; intro w1 g2 V3)
    | (refine wpList_allocV V3 4 82 rfl rfl rfl (wA 0) zeroW ?_; intro w4 g5 V6)
    | (refine wpList_buildV 7 82 _ rfl rfl rfl (wA 1) wA_num1 ?_)
    | (refine wpList_allocV V6 5 82 rfl rfl rfl (wA 0) zeroW ?_; intro w7 g8 V9)
    | (refine wpList_storeV V9 0 rfl _ (.tmp 7) rfl rfl rfl (wA 1) rfl rfl Tryz.szW (wA_size _) (wA_size _) (wA_one _) ?_; intro w10 V11))
  go_loopw [6] (fun y wr => ∃ (k o : Nat), k ≤ 256 ∧ y = .int .i64 ((k : Int) - 1) ∧ Hid (o = x ^ (n / 2 ^ k) % fP) ∧ Hid (Vars w wr [⟨g8, 82, wA o⟩, ⟨g5, 82, wA 0⟩, ⟨g2, 82, wA n⟩])) (fun y _ => ((intOf y) + 1).toNat)
  case atStart => exact ⟨256, 1, by omega, rfl, by show 1 = _; rw [Nat.div_eq_of_lt HN.out, Nat.pow_zero]; decide, V11⟩
  case round =>
    clear V11
    obtain ⟨k, o, hk, rfl, HO, HV⟩ := hrel
    by_cases h0 : k = 0
    · subst h0
      have HE : Hid (o = x ^ n % fP) := by show _ = _; rw [HO.out, Nat.pow_zero, Nat.div_one]
      have V5 := HV.out
      rw [HE.out] at V5
      go_wp2_with (first
          | (refine wpList_loadV V5 0 rfl 24 _ rfl rfl rfl rfl Tryz.underlying82 Tryz.szW (wA_size _) ?_)
          | (refine wpList_storeV V5 1 rfl _ _ rfl rfl rfl _ rfl rfl Tryz.szW (wA_size _) (wA_size _) (wA_one _) ?_; intro w8 V8))
      exact bodyPost_ret (resV1 rfl _ V8 1 rfl rfl Tryz.underlying82 Tryz.szW (wA_size _)) rfl ⟨rfl, V8.bel⟩
    · obtain ⟨i, rfl⟩ : ∃ i, k = i + 1 := ⟨k - 1, by omega⟩
      have ei : (((i + 1 : Nat) : Int) - 1) = (i : Int) := by omega
      rw [ei]
      have hi4 : i / 64 < 4 := by omega
      have HC : Hid (∀ w' : World, w'.heap[g2]? = some (.cells (wA n) 82 (0, 0)) → w'.cell? ⟨g2, i / 64, none⟩ = some (.int .u64 ((n / 18446744073709551616 ^ (i / 64) % 18446744073709551616 : Nat) : Int))) := by
        intro w' hw'
        rw [cell_of_row w' _ _ _ _ _ hw', wA_get n _ hi4]
      have hbit := W.power_bit n i
      have hhalf := pow_half n i
      have ho9 : o < fP := by rw [HO.out]; exact mod_fP _
      obtain ⟨b, hb⟩ : ∃ b : Bool, (n / 2 ^ i % 2 == 1) = b := ⟨_, rfl⟩
      obtain ⟨r, hr⟩ : ∃ r, r = if b then (o * o % fP) * x % fP else o * o % fP := ⟨_, rfl⟩
      have HR : Hid (r = x ^ (n / 2 ^ i) % fP) := by
        show _ = _
        rw [hr]
        cases b
        · exact pow_zero_step HO.out (by have : n / 2 ^ i % 2 ≠ 1 := by simpa using hb
                                         omega)
        · exact pow_one_step HO.out (by have : n / 2 ^ i % 2 = 1 := by simpa using hb
                                        omega)
      have HT : Hid (∀ w', Below w.heap.size w w' → Rt Tryz.prog 132 #[.agg (wA o), .bool b, .pointer (some ⟨g, 0, none⟩)] (.agg (wA r)) w') :=
        fun w' q => take_any o x r b g w' ho9 HX.out ((q.block g hgl).trans HG.out) hr
      have hwd : n / 18446744073709551616 ^ (i / 64) % 18446744073709551616 < 18446744073709551616 := Nat.mod_lt _ (by decide)
      rw [← hbit] at hb
      clear hhalf hbit hr ho9
      generalize n / 18446744073709551616 ^ (i / 64) % 18446744073709551616 = wd at *
      have hr64 : i % 64 < 64 := Nat.mod_lt _ (by decide)
      have et : (i : Int).tdiv 64 = ((i / 64 : Nat) : Int) := by rw [Int.tdiv_eq_ediv_of_nonneg (by omega)]; omega
      have em : (i : Int).tmod 64 = ((i % 64 : Nat) : Int) := by rw [Int.tmod_eq_emod_of_nonneg (by omega)]; omega
      generalize i / 64 = q at *
      generalize i % 64 = rr at *
      have wq : IntKind.i64.wrap (q : Int) = (q : Int) := by rw [IntKind.wrap_i64]; omega
      have wr2 : IntKind.i64.wrap (rr : Int) = (rr : Int) := by rw [IntKind.wrap_i64]; omega
      have hq4 : (q : Int) < 4 := by omega
      have hq5 : ¬ (4 : Int) ≤ (q : Int) := by omega
      have es : (wd : Int) / 2 ^ rr = ((wd / 2 ^ rr : Nat) : Int) := by simp
      have hy9 : wd / 2 ^ rr ≤ wd := Nat.div_le_self _ _
      generalize wd / 2 ^ rr = sh at *
      have ea : bits .and .u64 (sh : Int) 1 = ((sh % 2 : Nat) : Int) := by
        have h := bits_and_u64_nat sh 1 (by omega) (by decide)
        rw [show sh &&& 1 = sh % 2 from Nat.and_two_pow_sub_one_eq_mod _ 1] at h
        exact h
      have eb : (((sh % 2 : Nat) : Int) == 1) = b := by rw [← hb, Bool.eq_iff_iff]; simp; omega
      generalize sh % 2 = lb at *
      have VV := HV.out
      clear hb HV
      go_wp2_with fail
      refine av_open (fun w' => Vars w w' [⟨g5, 82, wA 0⟩, ⟨g2, 82, wA n⟩]) (by kernel_rfl) ?_
      have V12 := VV.drew
      refine zR [0, 2, 3, 4, 5, 6, 7, 8, 9, 10] 3 (by kernel_rfl) (fun _ _ _ _ _ h => h) (V12.tail) fun K hK => ?_
      refine calm_move _ rfl (by rfl) rfl ?_
      go_simp
      refine calm_move _ rfl (by rfl) rfl ?_
      go_simp
      refine zC (.int .i64 (q : Int)) rfl (by rfl) (fun w' hw' => ?_) ?_
      · go_simp
      go_simp
      refine zC (.pointer (some ⟨g2, q, none⟩)) rfl (by rfl) (fun w' hw' => ?_) ?_
      · go_simp
      go_simp
      refine zC (.int .u64 (wd : Int)) rfl (by rfl) (fun w' hw' => ?_) ?_
      · have hcc := HC.out w' (hw'.at 1 rfl)
        go_simp
      go_simp
      refine calm_move _ rfl (by rfl) rfl ?_
      go_simp
      refine zC (.int .i64 (rr : Int)) rfl (by rfl) (fun w' hw' => ?_) ?_
      · go_simp
      go_simp
      refine zC (.int .u64 (sh : Int)) rfl (by rfl) (fun w' hw' => ?_) ?_
      · go_simp
      go_simp
      refine zC (.int .u64 (lb : Int)) rfl (by rfl) (fun w' hw' => ?_) ?_
      · go_simp
      go_simp
      refine zC (.bool b) rfl (by rfl) (fun w' hw' => ?_) ?_
      · go_simp
      go_simp
      refine calm_nil (hK.out _ ?_)
      clear hK K
      refine zO 1 2 (by kernel_rfl) rfl (by rfl) fun K hK => ?_
      refine wp_exec (exec_loadV V12 0 rfl _ rfl rfl Tryz.underlying82 Tryz.szW (wA_size _)) ?_
      refine hK _ _ (V12.tail) ?_
      clear hK K
      go_simp
      refine zO 11 1 (by kernel_rfl) rfl (by rfl) fun K hK => ?_
      go_simp
      refine (HT.out _ V12.bel).mono ?_
      rintro e w13 ⟨rfl, q15⟩
      have V14 := V12.call q15
      refine hK _ _ (V14.tail) ?_
      clear hK K q15
      refine zO 12 0 (by kernel_rfl) rfl (by rfl) fun K hK => ?_
      refine wp_storeV V14 0 rfl _ _ rfl rfl (wA r) rfl rfl Tryz.szW (wA_size _) (wA_size _) (wA_one _) (fun w16 V17 => ?_)
      refine hK _ _ (V17.tail) ?_
      clear hK K
      refine wpAnyH_done (by kernel_rfl) ?_ _
      go_wp2
      go_roundw
      case rel => exact ⟨i, r, by omega, by go_num, HR.out, V17⟩
      case measure => simp [intOf] <;> omega
set_option maxHeartbeats 800000 in
theorem is_any (a : Nat) (w : World) (ha : a < 2 ^ 256) : Calls Tryz.prog 25 #[.agg (bA a)] w fun e w' => e = .returned (.bool (decide (a < fP))) ∧ Below w.heap.size w w' := by
  have HR : Hid (∀ w, Rt Tryz.prog 54 #[.agg (bA a)] (.agg (wA a)) w) := fun w => read_any a ha w
  have HM : Hid (∀ w, Rt Tryz.prog 53 #[.agg (wA a), .agg (wA fP)] (.tuple #[.agg (wA ((a + 2 ^ 256 - fP) % 2 ^ 256)), .bool (decide (a < fP))]) w) := fun w => minus_any a fP ha fP_lt256 w
  generalize (a + 2 ^ 256 - fP) % 2 ^ 256 = z at *
  generalize decide (a < fP) = b at *
  clear ha
  have V0 := Vars.start w
  go_enter Tryz.func25, Tryz.ntmps25
  go_wp2_with (first
    | (refine wpList_boxV V0 1 22 _ rfl rfl rfl (bA a) rfl ?_; intro w1 g2 V3)
    | (refine zD V3 0 rfl 6 _ rfl rfl rfl rfl ?_))
  refine (HR.out w1).mono ?_
  rintro e w4 ⟨rfl, q6⟩
  have V5 := V3.call q6
  clear q6 V3
  go_wp2_with fail
  refine (prime_any w4).mono ?_
  rintro e w7 ⟨rfl, q9⟩
  have V8 := V5.call q9
  clear q9 V5
  go_wp2_with fail
  refine (HM.out w7).mono ?_
  rintro e w10 ⟨rfl, q12⟩
  have V11 := V8.call q12
  clear q12 V8
  go_wp2_with (first
    | (refine wpList_allocV V11 3 82 rfl rfl rfl (wA 0) zeroW ?_; intro w13 g14 V15)
    | (refine wpList_storeV V15 0 rfl _ (.tmp 10) rfl rfl rfl (wA z) rfl rfl Tryz.szW (wA_size _) (wA_size _) (wA_one _) ?_; intro w16 V17))
  go_ret
  exact ⟨rfl, V17.bel⟩
end Go.Proofs.YthangiocheodoaaGreatDoor.N
