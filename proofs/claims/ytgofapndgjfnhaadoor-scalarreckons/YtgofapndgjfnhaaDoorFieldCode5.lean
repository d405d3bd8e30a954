/-
  The code of layer 16 (field): round, sum, negative, difference, product; '==' of elements.
-/
import Derived.Test.YtgofapndgjfnhaaDoorFieldCode4
namespace Go.Proofs.YtgofapndgjfnhaaDoor.N
open Go.RowKit
set_option linter.unusedVariables false
set_option maxRecDepth 8192

theorem fP_lt256 : fP < 2 ^ 256 := by have := fP_eq; omega
theorem mod_lt256 (x : Nat) : x % fP < 2 ^ 256 := Nat.lt_trans (mod_fP x) fP_lt256
theorem dec_b {p q : Nat} (hp : p < 2 ^ 256) (hq : q < 2 ^ 256) : decide (digL p 32 = digL q 32) = decide (p = q) := by
  rw [Bool.eq_iff_iff, decide_eq_true_iff, decide_eq_true_iff]
  exact ⟨bA_inj hp hq, fun h => by rw [h]⟩
theorem dec_w {p q : Nat} (hp : p < 2 ^ 256) (hq : q < 2 ^ 256) : decide (W.digL p 4 = W.digL q 4) = decide (p = q) := by
  rw [Bool.eq_iff_iff, decide_eq_true_iff, decide_eq_true_iff]
  exact ⟨wA_inj hp hq, fun h => by rw [h]⟩
theorem exec_eqlB {a : Act} {o : Oper} {w : World} {T' : TypeId} (x y : Operand) (ho : o.op = .binOp .eql 23 x y T') (b : Bool) (p q : Nat) (hb : decide (p = q) = b) (hx : a.eval x = .agg (bA p)) (hy : a.eval y = .agg (bA q)) (hp : p < 2 ^ 256) (hq : q < 2 ^ 256) : (execOp a.eval o).run Tryd.prog w = .ok (.value (.bool b)) w :=
  exec_eqlV _ _ x y ho (digL p 32) (digL q 32) b (by rw [dec_b hp hq, hb]) (by rw [hx, bA_def]) (by rw [hy, bA_def]) Tryd.eqGuardType23 Tryd.underlying23 Tryd.underlying5 Tryd.sz8 (digL_length _ _) (digL_length _ _)
theorem exec_neqB {a : Act} {o : Oper} {w : World} {T' : TypeId} (x y : Operand) (ho : o.op = .binOp .neq 23 x y T') (b : Bool) (p q : Nat) (hb : decide (p = q) = !b) (hx : a.eval x = .agg (bA p)) (hy : a.eval y = .agg (bA q)) (hp : p < 2 ^ 256) (hq : q < 2 ^ 256) : (execOp a.eval o).run Tryd.prog w = .ok (.value (.bool b)) w :=
  exec_neqV _ _ x y ho (digL p 32) (digL q 32) b (by rw [dec_b hp hq, hb]) (by rw [hx, bA_def]) (by rw [hy, bA_def]) Tryd.eqGuardType23 Tryd.underlying23 Tryd.underlying5 Tryd.sz8 (digL_length _ _) (digL_length _ _)
theorem exec_neqW {a : Act} {o : Oper} {w : World} {T' : TypeId} (x y : Operand) (ho : o.op = .binOp .neq 70 x y T') (b : Bool) (p q : Nat) (hb : decide (p = q) = !b) (hx : a.eval x = .agg (wA p)) (hy : a.eval y = .agg (wA q)) (hp : p < 2 ^ 256) (hq : q < 2 ^ 256) : (execOp a.eval o).run Tryd.prog w = .ok (.value (.bool b)) w :=
  exec_neqV _ _ x y ho (W.digL p 4) (W.digL q 4) b (by rw [dec_w hp hq, hb]) (by rw [hx, wA_def]) (by rw [hy, wA_def]) Tryd.eqGuardType70 Tryd.underlying70 Tryd.underlying68 Tryd.sz64 (W.digL_length _ _) (W.digL_length _ _)
set_option maxHeartbeats 1600000 in
theorem round_any (x : Nat) (w : World) (hx : x < 2 * fP) : Calls Tryd.prog 82 #[.agg (wA x)] w fun e w' => e = .returned (.agg (wA (x % fP))) ∧ Below w.heap.size w w' := by
  have hx9 : x < 2 ^ 256 := Nat.lt_trans hx two_fP
  have HM : Hid (∀ w, Calls Tryd.prog 55 #[.agg (wA x), .agg (wA fP)] w fun e w' => e = .returned (.tuple #[.agg (wA ((x + 2 ^ 256 - fP) % 2 ^ 256)), .bool (decide (x < fP))]) ∧ Below w.heap.size w w') := fun w => minus_any x fP hx9 fP_lt256 w
  by_cases hlt : x < fP
  · have HZ : Hid (x % fP = x) := Nat.mod_eq_of_lt hlt
    rw [decide_eq_true hlt] at HM
    generalize (x + 2 ^ 256 - fP) % 2 ^ 256 = z at *
    rw [HZ.out]
    clear hx hx9 hlt
    have V0 := Vars.start w
    go_enter Tryd.func82, Tryd.ntmps82
    go_wp2_with (first
      | (refine wpList_boxV V0 1 70 _ rfl rfl rfl (wA x) rfl ?_; intro w1 g2 V3)
      | (refine wpList_allocV V3 2 70 rfl rfl rfl (wA 0) zeroW ?_; intro w4 g5 V6))
    refine av_open (fun w' => Vars w w' [⟨g5, 70, wA 0⟩, ⟨g2, 70, wA x⟩]) (by kernel_rfl) ?_
    have V7 := V6.drew
    apply av_once (Vg := fun g w' => Vars w w' [⟨g, 70, wA z⟩, ⟨g5, 70, wA 0⟩, ⟨g2, 70, wA x⟩])
    · intro HC8
      refine held_reads (rs := [0]) (fuel := 8) (by kernel_rfl) (fun c d v a w h => by cases d <;> exact h) (by kernel_rfl) (V7) (fun K hK => ?_)
      refine calm_do (.agg (wA x)) rfl (by rfl) (fun w' hw' => exec_loadV hw' 1 rfl _ rfl rfl Tryd.underlying70 Tryd.szW (wA_size _)) ?_
      go_simp
      refine calm_nil (hK.out _ ?_)
      clear hK K
      refine av_op2 (i := 1) (j := 6) (fuel := 7) (by kernel_rfl) rfl (by rfl) rfl (by rfl) (fun K hK => ?_) (fun K hK => ?_)
      · go_simp
        refine (prime_any w4.drew).mono ?_
        rintro e w9 ⟨rfl, q11⟩
        have V10 := V7.call q11
        refine hK _ _ (V10) ?_
        clear hK K q11
        refine av_op2 (i := 2) (j := 6) (fuel := 6) (by kernel_rfl) rfl (by rfl) rfl (by rfl) (fun K hK => ?_) (fun K hK => ?_)
        · go_simp
          refine (HM.out w9).mono ?_
          rintro e w12 ⟨rfl, q14⟩
          have V13 := V10.call q14
          refine hK _ _ (V13) ?_
          clear hK K q14
          refine held_reads (rs := [3, 4, 5]) (fuel := 3) (by kernel_rfl) (fun c d v a w h => by cases d <;> exact h) (by kernel_rfl) (V13) (fun K hK => ?_)
          go_simp
          refine calm_move _ rfl (by rfl) rfl ?_
          go_simp
          refine calm_do (.agg (wA z)) rfl (by rfl) (fun w' hw' => ?_) ?_
          · go_simp
          go_simp
          refine calm_do (.bool true) rfl (by rfl) (fun w' hw' => ?_) ?_
          · go_simp
          go_simp
          refine calm_nil (hK.out _ ?_)
          clear hK K
          refine av_op (i := 6) (fuel := 2) (by kernel_rfl) rfl (by rfl) (fun K hK => ?_)
          refine wp_allocV V13 3 70 rfl rfl (wA 0) zeroW (fun w15 g16 V17 => ?_)
          refine hK _ _ (V17.tail) ?_
          clear hK K
          refine av_op (i := 7) (fuel := 1) (by kernel_rfl) rfl (by rfl) (fun K hK => ?_)
          refine wp_storeV V17 0 rfl _ _ rfl rfl (wA z) rfl rfl Tryd.szW (wA_size _) (wA_size _) (wA_one _) (fun w18 V19 => ?_)
          refine hK _ _ (V19.tail) ?_
          clear hK K
          refine held_reads (rs := [8]) (fuel := 0) (by kernel_rfl) (fun c d v a w h => by cases d <;> exact h) (by kernel_rfl) (V19.tail) (fun K hK => ?_)
          go_simp
          refine calm_assign _ rfl (by rfl) rfl ?_
          go_simp
          refine calm_nil (hK.out _ ?_)
          clear hK K
          refine wpAnyH_done (by kernel_rfl) ?_ _
          exact HC8 g16 w18 V19
        · refine wp_allocV V10 3 70 rfl rfl (wA 0) zeroW (fun w20 g21 V22 => ?_)
          refine hK _ _ (V22.tail) ?_
          clear hK K
          refine av_op (i := 2) (fuel := 5) (by kernel_rfl) rfl (by rfl) (fun K hK => ?_)
          go_simp
          refine (HM.out w20).mono ?_
          rintro e w23 ⟨rfl, q25⟩
          have V24 := V22.call q25
          refine hK _ _ (V24.tail) ?_
          clear hK K q25
          refine held_reads (rs := [3, 4, 5]) (fuel := 2) (by kernel_rfl) (fun c d v a w h => by cases d <;> exact h) (by kernel_rfl) (V24.tail) (fun K hK => ?_)
          go_simp
          refine calm_move _ rfl (by rfl) rfl ?_
          go_simp
          refine calm_do (.agg (wA z)) rfl (by rfl) (fun w' hw' => ?_) ?_
          · go_simp
          go_simp
          refine calm_do (.bool true) rfl (by rfl) (fun w' hw' => ?_) ?_
          · go_simp
          go_simp
          refine calm_nil (hK.out _ ?_)
          clear hK K
          refine av_op (i := 7) (fuel := 1) (by kernel_rfl) rfl (by rfl) (fun K hK => ?_)
          refine wp_storeV V24 0 rfl _ _ rfl rfl (wA z) rfl rfl Tryd.szW (wA_size _) (wA_size _) (wA_one _) (fun w26 V27 => ?_)
          refine hK _ _ (V27.tail) ?_
          clear hK K
          refine held_reads (rs := [8]) (fuel := 0) (by kernel_rfl) (fun c d v a w h => by cases d <;> exact h) (by kernel_rfl) (V27.tail) (fun K hK => ?_)
          go_simp
          refine calm_assign _ rfl (by rfl) rfl ?_
          go_simp
          refine calm_nil (hK.out _ ?_)
          clear hK K
          refine wpAnyH_done (by kernel_rfl) ?_ _
          exact HC8 g21 w26 V27
      · refine wp_allocV V7 3 70 rfl rfl (wA 0) zeroW (fun w28 g29 V30 => ?_)
        refine hK _ _ (V30.tail) ?_
        clear hK K
        refine av_op (i := 1) (fuel := 6) (by kernel_rfl) rfl (by rfl) (fun K hK => ?_)
        go_simp
        refine (prime_any w28).mono ?_
        rintro e w31 ⟨rfl, q33⟩
        have V32 := V30.call q33
        refine hK _ _ (V32.tail) ?_
        clear hK K q33
        refine av_op (i := 2) (fuel := 5) (by kernel_rfl) rfl (by rfl) (fun K hK => ?_)
        go_simp
        refine (HM.out w31).mono ?_
        rintro e w34 ⟨rfl, q36⟩
        have V35 := V32.call q36
        refine hK _ _ (V35.tail) ?_
        clear hK K q36
        refine held_reads (rs := [3, 4, 5]) (fuel := 2) (by kernel_rfl) (fun c d v a w h => by cases d <;> exact h) (by kernel_rfl) (V35.tail) (fun K hK => ?_)
        go_simp
        refine calm_move _ rfl (by rfl) rfl ?_
        go_simp
        refine calm_do (.agg (wA z)) rfl (by rfl) (fun w' hw' => ?_) ?_
        · go_simp
        go_simp
        refine calm_do (.bool true) rfl (by rfl) (fun w' hw' => ?_) ?_
        · go_simp
        go_simp
        refine calm_nil (hK.out _ ?_)
        clear hK K
        refine av_op (i := 7) (fuel := 1) (by kernel_rfl) rfl (by rfl) (fun K hK => ?_)
        refine wp_storeV V35 0 rfl _ _ rfl rfl (wA z) rfl rfl Tryd.szW (wA_size _) (wA_size _) (wA_one _) (fun w37 V38 => ?_)
        refine hK _ _ (V38.tail) ?_
        clear hK K
        refine held_reads (rs := [8]) (fuel := 0) (by kernel_rfl) (fun c d v a w h => by cases d <;> exact h) (by kernel_rfl) (V38.tail) (fun K hK => ?_)
        go_simp
        refine calm_assign _ rfl (by rfl) rfl ?_
        go_simp
        refine calm_nil (hK.out _ ?_)
        clear hK K
        refine wpAnyH_done (by kernel_rfl) ?_ _
        exact HC8 g29 w37 V38
    intro g29 w37 V38
    clear V7
    go_wp2_with (first
      | (refine wpList_loadV V38 2 rfl 12 _ rfl rfl rfl rfl Tryd.underlying70 Tryd.szW (wA_size _) ?_)
      | (refine wpList_storeV V38 1 rfl _ (.tmp 12) rfl rfl rfl (wA x) rfl rfl Tryd.szW (wA_size _) (wA_size _) (wA_one _) ?_; intro w39 V40))
    exact bodyPost_ret (resV1 rfl _ V40 1 rfl rfl Tryd.underlying70 Tryd.szW (wA_size _)) rfl ⟨rfl, V40.bel⟩
  · have HZ : Hid (x % fP = (x + 2 ^ 256 - fP) % 2 ^ 256) := by
      show _ = _
      rw [show x + 2 ^ 256 - fP = (x - fP) + 2 ^ 256 from by have := fP_lt256; omega, Nat.add_mod_right, Nat.mod_eq_of_lt (show x - fP < 2 ^ 256 by omega), Nat.mod_eq_sub_mod (by omega), Nat.mod_eq_of_lt (by omega)]
    rw [decide_eq_false hlt] at HM
    rw [HZ.out]
    clear HZ
    generalize (x + 2 ^ 256 - fP) % 2 ^ 256 = z at *
    clear hx hx9 hlt
    have V0 := Vars.start w
    go_enter Tryd.func82, Tryd.ntmps82
    go_wp2_with (first
      | (refine wpList_boxV V0 1 70 _ rfl rfl rfl (wA x) rfl ?_; intro w1 g2 V3)
      | (refine wpList_allocV V3 2 70 rfl rfl rfl (wA 0) zeroW ?_; intro w4 g5 V6))
    refine av_open (fun w' => Vars w w' [⟨g5, 70, wA 0⟩, ⟨g2, 70, wA x⟩]) (by kernel_rfl) ?_
    have V7 := V6.drew
    apply av_once (Vg := fun g w' => Vars w w' [⟨g, 70, wA z⟩, ⟨g5, 70, wA 0⟩, ⟨g2, 70, wA x⟩])
    · intro HC8
      refine held_reads (rs := [0]) (fuel := 8) (by kernel_rfl) (fun c d v a w h => by cases d <;> exact h) (by kernel_rfl) (V7) (fun K hK => ?_)
      refine calm_do (.agg (wA x)) rfl (by rfl) (fun w' hw' => exec_loadV hw' 1 rfl _ rfl rfl Tryd.underlying70 Tryd.szW (wA_size _)) ?_
      go_simp
      refine calm_nil (hK.out _ ?_)
      clear hK K
      refine av_op2 (i := 1) (j := 6) (fuel := 7) (by kernel_rfl) rfl (by rfl) rfl (by rfl) (fun K hK => ?_) (fun K hK => ?_)
      · go_simp
        refine (prime_any w4.drew).mono ?_
        rintro e w9 ⟨rfl, q11⟩
        have V10 := V7.call q11
        refine hK _ _ (V10) ?_
        clear hK K q11
        refine av_op2 (i := 2) (j := 6) (fuel := 6) (by kernel_rfl) rfl (by rfl) rfl (by rfl) (fun K hK => ?_) (fun K hK => ?_)
        · go_simp
          refine (HM.out w9).mono ?_
          rintro e w12 ⟨rfl, q14⟩
          have V13 := V10.call q14
          refine hK _ _ (V13) ?_
          clear hK K q14
          refine held_reads (rs := [3, 4, 5]) (fuel := 3) (by kernel_rfl) (fun c d v a w h => by cases d <;> exact h) (by kernel_rfl) (V13) (fun K hK => ?_)
          go_simp
          refine calm_move _ rfl (by rfl) rfl ?_
          go_simp
          refine calm_do (.agg (wA z)) rfl (by rfl) (fun w' hw' => ?_) ?_
          · go_simp
          go_simp
          refine calm_do (.bool false) rfl (by rfl) (fun w' hw' => ?_) ?_
          · go_simp
          go_simp
          refine calm_nil (hK.out _ ?_)
          clear hK K
          refine av_op (i := 6) (fuel := 2) (by kernel_rfl) rfl (by rfl) (fun K hK => ?_)
          refine wp_allocV V13 3 70 rfl rfl (wA 0) zeroW (fun w15 g16 V17 => ?_)
          refine hK _ _ (V17.tail) ?_
          clear hK K
          refine av_op (i := 7) (fuel := 1) (by kernel_rfl) rfl (by rfl) (fun K hK => ?_)
          refine wp_storeV V17 0 rfl _ _ rfl rfl (wA z) rfl rfl Tryd.szW (wA_size _) (wA_size _) (wA_one _) (fun w18 V19 => ?_)
          refine hK _ _ (V19.tail) ?_
          clear hK K
          refine held_reads (rs := [8]) (fuel := 0) (by kernel_rfl) (fun c d v a w h => by cases d <;> exact h) (by kernel_rfl) (V19.tail) (fun K hK => ?_)
          go_simp
          refine calm_assign _ rfl (by rfl) rfl ?_
          go_simp
          refine calm_nil (hK.out _ ?_)
          clear hK K
          refine wpAnyH_done (by kernel_rfl) ?_ _
          exact HC8 g16 w18 V19
        · refine wp_allocV V10 3 70 rfl rfl (wA 0) zeroW (fun w20 g21 V22 => ?_)
          refine hK _ _ (V22.tail) ?_
          clear hK K
          refine av_op (i := 2) (fuel := 5) (by kernel_rfl) rfl (by rfl) (fun K hK => ?_)
          go_simp
          refine (HM.out w20).mono ?_
          rintro e w23 ⟨rfl, q25⟩
          have V24 := V22.call q25
          refine hK _ _ (V24.tail) ?_
          clear hK K q25
          refine held_reads (rs := [3, 4, 5]) (fuel := 2) (by kernel_rfl) (fun c d v a w h => by cases d <;> exact h) (by kernel_rfl) (V24.tail) (fun K hK => ?_)
          go_simp
          refine calm_move _ rfl (by rfl) rfl ?_
          go_simp
          refine calm_do (.agg (wA z)) rfl (by rfl) (fun w' hw' => ?_) ?_
          · go_simp
          go_simp
          refine calm_do (.bool false) rfl (by rfl) (fun w' hw' => ?_) ?_
          · go_simp
          go_simp
          refine calm_nil (hK.out _ ?_)
          clear hK K
          refine av_op (i := 7) (fuel := 1) (by kernel_rfl) rfl (by rfl) (fun K hK => ?_)
          refine wp_storeV V24 0 rfl _ _ rfl rfl (wA z) rfl rfl Tryd.szW (wA_size _) (wA_size _) (wA_one _) (fun w26 V27 => ?_)
          refine hK _ _ (V27.tail) ?_
          clear hK K
          refine held_reads (rs := [8]) (fuel := 0) (by kernel_rfl) (fun c d v a w h => by cases d <;> exact h) (by kernel_rfl) (V27.tail) (fun K hK => ?_)
          go_simp
          refine calm_assign _ rfl (by rfl) rfl ?_
          go_simp
          refine calm_nil (hK.out _ ?_)
          clear hK K
          refine wpAnyH_done (by kernel_rfl) ?_ _
          exact HC8 g21 w26 V27
      · refine wp_allocV V7 3 70 rfl rfl (wA 0) zeroW (fun w28 g29 V30 => ?_)
        refine hK _ _ (V30.tail) ?_
        clear hK K
        refine av_op (i := 1) (fuel := 6) (by kernel_rfl) rfl (by rfl) (fun K hK => ?_)
        go_simp
        refine (prime_any w28).mono ?_
        rintro e w31 ⟨rfl, q33⟩
        have V32 := V30.call q33
        refine hK _ _ (V32.tail) ?_
        clear hK K q33
        refine av_op (i := 2) (fuel := 5) (by kernel_rfl) rfl (by rfl) (fun K hK => ?_)
        go_simp
        refine (HM.out w31).mono ?_
        rintro e w34 ⟨rfl, q36⟩
        have V35 := V32.call q36
        refine hK _ _ (V35.tail) ?_
        clear hK K q36
        refine held_reads (rs := [3, 4, 5]) (fuel := 2) (by kernel_rfl) (fun c d v a w h => by cases d <;> exact h) (by kernel_rfl) (V35.tail) (fun K hK => ?_)
        go_simp
        refine calm_move _ rfl (by rfl) rfl ?_
        go_simp
        refine calm_do (.agg (wA z)) rfl (by rfl) (fun w' hw' => ?_) ?_
        · go_simp
        go_simp
        refine calm_do (.bool false) rfl (by rfl) (fun w' hw' => ?_) ?_
        · go_simp
        go_simp
        refine calm_nil (hK.out _ ?_)
        clear hK K
        refine av_op (i := 7) (fuel := 1) (by kernel_rfl) rfl (by rfl) (fun K hK => ?_)
        refine wp_storeV V35 0 rfl _ _ rfl rfl (wA z) rfl rfl Tryd.szW (wA_size _) (wA_size _) (wA_one _) (fun w37 V38 => ?_)
        refine hK _ _ (V38.tail) ?_
        clear hK K
        refine held_reads (rs := [8]) (fuel := 0) (by kernel_rfl) (fun c d v a w h => by cases d <;> exact h) (by kernel_rfl) (V38.tail) (fun K hK => ?_)
        go_simp
        refine calm_assign _ rfl (by rfl) rfl ?_
        go_simp
        refine calm_nil (hK.out _ ?_)
        clear hK K
        refine wpAnyH_done (by kernel_rfl) ?_ _
        exact HC8 g29 w37 V38
    intro g29 w37 V38
    clear V7
    go_wp2_with (first
      | (refine wpList_loadV V38 0 rfl 13 _ rfl rfl rfl rfl Tryd.underlying70 Tryd.szW (wA_size _) ?_)
      | (refine wpList_storeV V38 1 rfl _ (.tmp 13) rfl rfl rfl (wA z) rfl rfl Tryd.szW (wA_size _) (wA_size _) (wA_one _) ?_; intro w39 V40))
    exact bodyPost_ret (resV1 rfl _ V40 1 rfl rfl Tryd.underlying70 Tryd.szW (wA_size _)) rfl ⟨rfl, V40.bel⟩
set_option maxHeartbeats 800000 in
theorem sum_any (x y : Nat) (w : World) (h : x + y < 2 * fP) : Calls Tryd.prog 77 #[.agg (wA x), .agg (wA y)] w fun e w' => e = .returned (.agg (wA ((x + y) % fP))) ∧ Below w.heap.size w w' := by
  have HP : Hid (∀ w, Calls Tryd.prog 83 #[.agg (wA x), .agg (wA y)] w fun e w' => e = .returned (.agg (wA (x + y))) ∧ Below w.heap.size w w') := fun w => plus_any x y (Nat.lt_trans h two_fP) w
  have HR : Hid (∀ w, Calls Tryd.prog 82 #[.agg (wA (x + y))] w fun e w' => e = .returned (.agg (wA ((x + y) % fP))) ∧ Below w.heap.size w w') := fun w => round_any (x + y) w h
  generalize (x + y) % fP = r at *
  generalize x + y = s at *
  clear h
  have V0 := Vars.start w
  go_enter Tryd.func77, Tryd.ntmps77
  go_wp2_with (first
    | (refine wpList_boxV V0 2 70 _ rfl rfl rfl (wA x) rfl ?_; intro w1 g2 V3)
    | (refine wpList_boxV V3 3 70 _ rfl rfl rfl (wA y) rfl ?_; intro w4 g5 V6)
    | (refine wpList_allocV V6 4 70 rfl rfl rfl (wA 0) zeroW ?_; intro w7 g8 V9)
    | (refine wpList_loadV V9 2 rfl 5 _ rfl rfl rfl rfl Tryd.underlying70 Tryd.szW (wA_size _) ?_)
    | (refine wpList_loadV V9 1 rfl 6 _ rfl rfl rfl rfl Tryd.underlying70 Tryd.szW (wA_size _) ?_))
  refine (HP.out w7).mono ?_
  rintro e w10 ⟨rfl, q12⟩
  have V11 := V9.call q12
  clear q12 V9
  go_wp2_with fail
  refine (HR.out w10).mono ?_
  rintro e w13 ⟨rfl, q15⟩
  have V14 := V11.call q15
  clear q15 V11
  go_wp2_with (refine wpList_storeV V14 0 rfl _ (.tmp 8) rfl rfl rfl (wA r) rfl rfl Tryd.szW (wA_size _) (wA_size _) (wA_one _) ?_; intro w16 V17)
  exact bodyPost_ret (resV1 rfl _ V17 0 rfl rfl Tryd.underlying70 Tryd.szW (wA_size _)) rfl ⟨rfl, V17.bel⟩
set_option maxHeartbeats 800000 in
theorem negative_any (x : Nat) (w : World) (h : x ≤ fP) : Calls Tryd.prog 73 #[.agg (wA x)] w fun e w' => e = .returned (.agg (wA (fP - x))) ∧ Below w.heap.size w w' := by
  have HM : Hid (∀ w, Calls Tryd.prog 55 #[.agg (wA fP), .agg (wA x)] w fun e w' => e = .returned (.tuple #[.agg (wA (fP - x)), .bool false]) ∧ Below w.heap.size w w') := fun w => by
    have := minus_any fP x fP_lt256 (Nat.lt_of_le_of_lt h fP_lt256) w
    rw [decide_eq_false (Nat.not_lt.2 h), show fP + 2 ^ 256 - x = (fP - x) + 2 ^ 256 from by omega, Nat.add_mod_right, Nat.mod_eq_of_lt (show fP - x < 2 ^ 256 by have := fP_lt256; omega)] at this
    exact this
  generalize fP - x = z at *
  clear h
  have V0 := Vars.start w
  go_enter Tryd.func73, Tryd.ntmps73
  go_wp2_with (first
    | (refine wpList_boxV V0 1 70 _ rfl rfl rfl (wA x) rfl ?_; intro w1 g2 V3)
    | (refine wpList_allocV V3 2 70 rfl rfl rfl (wA 0) zeroW ?_; intro w4 g5 V6))
  refine av_open (fun w' => Vars w w' [⟨g5, 70, wA 0⟩, ⟨g2, 70, wA x⟩]) (by kernel_rfl) ?_
  have V7 := V6.drew
  apply av_once (Vg := fun g w' => Vars w w' [⟨g, 70, wA z⟩, ⟨g5, 70, wA 0⟩, ⟨g2, 70, wA x⟩])
  · intro HC8
    refine held_reads (rs := [1]) (fuel := 8) (by kernel_rfl) (fun c d v a w h => by cases d <;> exact h) (by kernel_rfl) (V7) (fun K hK => ?_)
    refine calm_do (.agg (wA x)) rfl (by rfl) (fun w' hw' => exec_loadV hw' 1 rfl _ rfl rfl Tryd.underlying70 Tryd.szW (wA_size _)) ?_
    go_simp
    refine calm_nil (hK.out _ ?_)
    clear hK K
    refine av_op2 (i := 0) (j := 6) (fuel := 7) (by kernel_rfl) rfl (by rfl) rfl (by rfl) (fun K hK => ?_) (fun K hK => ?_)
    · go_simp
      refine (prime_any w4.drew).mono ?_
      rintro e w9 ⟨rfl, q11⟩
      have V10 := V7.call q11
      refine hK _ _ (V10) ?_
      clear hK K q11
      refine av_op2 (i := 2) (j := 6) (fuel := 6) (by kernel_rfl) rfl (by rfl) rfl (by rfl) (fun K hK => ?_) (fun K hK => ?_)
      · go_simp
        refine (HM.out w9).mono ?_
        rintro e w12 ⟨rfl, q14⟩
        have V13 := V10.call q14
        refine hK _ _ (V13) ?_
        clear hK K q14
        refine held_reads (rs := [3, 4, 5]) (fuel := 3) (by kernel_rfl) (fun c d v a w h => by cases d <;> exact h) (by kernel_rfl) (V13) (fun K hK => ?_)
        go_simp
        refine calm_move _ rfl (by rfl) rfl ?_
        go_simp
        refine calm_do (.agg (wA z)) rfl (by rfl) (fun w' hw' => ?_) ?_
        · go_simp
        go_simp
        refine calm_do (.bool false) rfl (by rfl) (fun w' hw' => ?_) ?_
        · go_simp
        go_simp
        refine calm_nil (hK.out _ ?_)
        clear hK K
        refine av_op (i := 6) (fuel := 2) (by kernel_rfl) rfl (by rfl) (fun K hK => ?_)
        refine wp_allocV V13 3 70 rfl rfl (wA 0) zeroW (fun w15 g16 V17 => ?_)
        refine hK _ _ (V17.tail) ?_
        clear hK K
        refine av_op (i := 7) (fuel := 1) (by kernel_rfl) rfl (by rfl) (fun K hK => ?_)
        refine wp_storeV V17 0 rfl _ _ rfl rfl (wA z) rfl rfl Tryd.szW (wA_size _) (wA_size _) (wA_one _) (fun w18 V19 => ?_)
        refine hK _ _ (V19.tail) ?_
        clear hK K
        refine held_reads (rs := [8]) (fuel := 0) (by kernel_rfl) (fun c d v a w h => by cases d <;> exact h) (by kernel_rfl) (V19.tail) (fun K hK => ?_)
        go_simp
        refine calm_assign _ rfl (by rfl) rfl ?_
        go_simp
        refine calm_nil (hK.out _ ?_)
        clear hK K
        refine wpAnyH_done (by kernel_rfl) ?_ _
        exact HC8 g16 w18 V19
      · refine wp_allocV V10 3 70 rfl rfl (wA 0) zeroW (fun w20 g21 V22 => ?_)
        refine hK _ _ (V22.tail) ?_
        clear hK K
        refine av_op (i := 2) (fuel := 5) (by kernel_rfl) rfl (by rfl) (fun K hK => ?_)
        go_simp
        refine (HM.out w20).mono ?_
        rintro e w23 ⟨rfl, q25⟩
        have V24 := V22.call q25
        refine hK _ _ (V24.tail) ?_
        clear hK K q25
        refine held_reads (rs := [3, 4, 5]) (fuel := 2) (by kernel_rfl) (fun c d v a w h => by cases d <;> exact h) (by kernel_rfl) (V24.tail) (fun K hK => ?_)
        go_simp
        refine calm_move _ rfl (by rfl) rfl ?_
        go_simp
        refine calm_do (.agg (wA z)) rfl (by rfl) (fun w' hw' => ?_) ?_
        · go_simp
        go_simp
        refine calm_do (.bool false) rfl (by rfl) (fun w' hw' => ?_) ?_
        · go_simp
        go_simp
        refine calm_nil (hK.out _ ?_)
        clear hK K
        refine av_op (i := 7) (fuel := 1) (by kernel_rfl) rfl (by rfl) (fun K hK => ?_)
        refine wp_storeV V24 0 rfl _ _ rfl rfl (wA z) rfl rfl Tryd.szW (wA_size _) (wA_size _) (wA_one _) (fun w26 V27 => ?_)
        refine hK _ _ (V27.tail) ?_
        clear hK K
        refine held_reads (rs := [8]) (fuel := 0) (by kernel_rfl) (fun c d v a w h => by cases d <;> exact h) (by kernel_rfl) (V27.tail) (fun K hK => ?_)
        go_simp
        refine calm_assign _ rfl (by rfl) rfl ?_
        go_simp
        refine calm_nil (hK.out _ ?_)
        clear hK K
        refine wpAnyH_done (by kernel_rfl) ?_ _
        exact HC8 g21 w26 V27
    · refine wp_allocV V7 3 70 rfl rfl (wA 0) zeroW (fun w28 g29 V30 => ?_)
      refine hK _ _ (V30.tail) ?_
      clear hK K
      refine av_op (i := 0) (fuel := 6) (by kernel_rfl) rfl (by rfl) (fun K hK => ?_)
      go_simp
      refine (prime_any w28).mono ?_
      rintro e w31 ⟨rfl, q33⟩
      have V32 := V30.call q33
      refine hK _ _ (V32.tail) ?_
      clear hK K q33
      refine av_op (i := 2) (fuel := 5) (by kernel_rfl) rfl (by rfl) (fun K hK => ?_)
      go_simp
      refine (HM.out w31).mono ?_
      rintro e w34 ⟨rfl, q36⟩
      have V35 := V32.call q36
      refine hK _ _ (V35.tail) ?_
      clear hK K q36
      refine held_reads (rs := [3, 4, 5]) (fuel := 2) (by kernel_rfl) (fun c d v a w h => by cases d <;> exact h) (by kernel_rfl) (V35.tail) (fun K hK => ?_)
      go_simp
      refine calm_move _ rfl (by rfl) rfl ?_
      go_simp
      refine calm_do (.agg (wA z)) rfl (by rfl) (fun w' hw' => ?_) ?_
      · go_simp
      go_simp
      refine calm_do (.bool false) rfl (by rfl) (fun w' hw' => ?_) ?_
      · go_simp
      go_simp
      refine calm_nil (hK.out _ ?_)
      clear hK K
      refine av_op (i := 7) (fuel := 1) (by kernel_rfl) rfl (by rfl) (fun K hK => ?_)
      refine wp_storeV V35 0 rfl _ _ rfl rfl (wA z) rfl rfl Tryd.szW (wA_size _) (wA_size _) (wA_one _) (fun w37 V38 => ?_)
      refine hK _ _ (V38.tail) ?_
      clear hK K
      refine held_reads (rs := [8]) (fuel := 0) (by kernel_rfl) (fun c d v a w h => by cases d <;> exact h) (by kernel_rfl) (V38.tail) (fun K hK => ?_)
      go_simp
      refine calm_assign _ rfl (by rfl) rfl ?_
      go_simp
      refine calm_nil (hK.out _ ?_)
      clear hK K
      refine wpAnyH_done (by kernel_rfl) ?_ _
      exact HC8 g29 w37 V38
  intro g29 w37 V38
  clear V7
  go_wp2_with (first
    | (refine wpList_loadV V38 0 rfl 11 _ rfl rfl rfl rfl Tryd.underlying70 Tryd.szW (wA_size _) ?_)
    | (refine wpList_storeV V38 1 rfl _ (.tmp 11) rfl rfl rfl (wA z) rfl rfl Tryd.szW (wA_size _) (wA_size _) (wA_one _) ?_; intro w39 V40))
  exact bodyPost_ret (resV1 rfl _ V40 1 rfl rfl Tryd.underlying70 Tryd.szW (wA_size _)) rfl ⟨rfl, V40.bel⟩
set_option maxHeartbeats 800000 in
theorem difference_any (x y : Nat) (w : World) (hx : x < fP) (hy : y ≤ fP) : Calls Tryd.prog 76 #[.agg (wA x), .agg (wA y)] w fun e w' => e = .returned (.agg (wA ((x + (fP - y)) % fP))) ∧ Below w.heap.size w w' := by
  have HN : Hid (∀ w, Calls Tryd.prog 73 #[.agg (wA y)] w fun e w' => e = .returned (.agg (wA (fP - y))) ∧ Below w.heap.size w w') := fun w => negative_any y w hy
  have HS : Hid (∀ w, Calls Tryd.prog 77 #[.agg (wA x), .agg (wA (fP - y))] w fun e w' => e = .returned (.agg (wA ((x + (fP - y)) % fP))) ∧ Below w.heap.size w w') := fun w => sum_any x (fP - y) w (by omega)
  generalize (x + (fP - y)) % fP = r at *
  generalize fP - y = n at *
  clear hx hy
  have V0 := Vars.start w
  go_enter Tryd.func76, Tryd.ntmps76
  go_wp2_with (first
    | (refine wpList_boxV V0 2 70 _ rfl rfl rfl (wA x) rfl ?_; intro w1 g2 V3)
    | (refine wpList_boxV V3 3 70 _ rfl rfl rfl (wA y) rfl ?_; intro w4 g5 V6)
    | (refine wpList_allocV V6 4 70 rfl rfl rfl (wA 0) zeroW ?_; intro w7 g8 V9))
  refine av_open (fun w' => Vars w w' [⟨g5, 70, wA y⟩, ⟨g2, 70, wA x⟩]) (by kernel_rfl) ?_
  have V10 := V9.drew
  refine held_reads (rs := [0, 1]) (fuel := 3) (by kernel_rfl) (fun c d v a w h => by cases d <;> exact h) (by kernel_rfl) (V10.tail) (fun K hK => ?_)
  refine calm_do (.agg (wA x)) rfl (by rfl) (fun w' hw' => exec_loadV hw' 1 rfl _ rfl rfl Tryd.underlying70 Tryd.szW (wA_size _)) ?_
  go_simp
  refine calm_do (.agg (wA y)) rfl (by rfl) (fun w' hw' => exec_loadV hw' 0 rfl _ rfl rfl Tryd.underlying70 Tryd.szW (wA_size _)) ?_
  go_simp
  refine calm_nil (hK.out _ ?_)
  clear hK K
  refine av_op (i := 2) (fuel := 2) (by kernel_rfl) rfl (by rfl) (fun K hK => ?_)
  go_simp
  refine (HN.out w7.drew).mono ?_
  rintro e w11 ⟨rfl, q13⟩
  have V12 := V10.call q13
  refine hK _ _ (V12.tail) ?_
  clear hK K q13
  refine av_op (i := 3) (fuel := 1) (by kernel_rfl) rfl (by rfl) (fun K hK => ?_)
  go_simp
  refine (HS.out w11).mono ?_
  rintro e w14 ⟨rfl, q16⟩
  have V15 := V12.call q16
  refine hK _ _ (V15.tail) ?_
  clear hK K q16
  refine av_op (i := 4) (fuel := 0) (by kernel_rfl) rfl (by rfl) (fun K hK => ?_)
  refine wp_storeV V15 0 rfl _ _ rfl rfl (wA r) rfl rfl Tryd.szW (wA_size _) (wA_size _) (wA_one _) (fun w17 V18 => ?_)
  refine hK _ _ (V18.tail) ?_
  clear hK K
  refine wpAnyH_done (by kernel_rfl) ?_ _
  go_wp2_with fail
  exact bodyPost_ret (resV1 rfl _ V18 0 rfl rfl Tryd.underlying70 Tryd.szW (wA_size _)) rfl ⟨rfl, V18.bel⟩
theorem product_any (a b : Nat) (w : World) (ha : a < 2 ^ 256) (hb : b < 2 ^ 256) : Calls Tryd.prog 72 #[.agg (wA a), .agg (wA b)] w fun e w' => e = .returned (.agg (wA (a * b % fP))) ∧ Below w.heap.size w w' :=
  product_gen a b ha hb (fun x w h => folded_any x h (fun x w h => round_any x w h) w) w
end Go.Proofs.YtgofapndgjfnhaaDoor.N
