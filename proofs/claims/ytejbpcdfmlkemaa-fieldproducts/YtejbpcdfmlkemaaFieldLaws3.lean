/-
  Layer 16's laws: Laws.
-/
import Derived.Test.YtejbpcdfmlkemaaFieldLaws
namespace Go.Proofs.Ytejbpcdfmlkemaa.N
open Go.RowKit
set_option linter.unusedVariables false
set_option maxRecDepth 8192

theorem am (x y : Nat) : (x % fP + y) % fP = (x + y) % fP := by rw [Nat.add_mod, Nat.mod_mod, ← Nat.add_mod]
theorem ma (x y : Nat) : (x + y % fP) % fP = (x + y) % fP := by rw [Nat.add_mod, Nat.mod_mod, ← Nat.add_mod]
theorem mm (x y : Nat) : (x % fP) * y % fP = x * y % fP := by rw [Nat.mul_mod, Nat.mod_mod, ← Nat.mul_mod]
theorem mm2 (x y : Nat) : x * (y % fP) % fP = x * y % fP := by rw [Nat.mul_mod, Nat.mod_mod, ← Nat.mul_mod]
set_option maxHeartbeats 800000 in
theorem laws_no1 (a b c : Nat) (w : World) (ha : a < 2 ^ 256) (h : ¬ a < fP) : Calls Try.prog 7 #[.agg (bA a), .agg (bA b), .agg (bA c)] w fun e w' => e = .returned (.bool true) ∧ Below w.heap.size w w' := by
  have Ja : Hid (∀ w, Calls Try.prog 13 #[.agg (bA a)] w fun e w' => e = .returned (.bool false) ∧ Below w.heap.size w w') := fun w => refIs_no ha h w
  clear ha h
  have V0 := Vars.start w
  go_enter Try.func7, Try.ntmps7
  go_wp2_with (first
    | (refine wpList_boxV V0 3 22 _ rfl rfl rfl (bA a) rfl ?_; intro w1 g2 V3)
    | (refine wpList_boxV V3 4 22 _ rfl rfl rfl (bA b) rfl ?_; intro w4 g5 V6)
    | (refine wpList_boxV V6 5 22 _ rfl rfl rfl (bA c) rfl ?_; intro w7 g8 V9)
    | (refine wpList_loadV V9 2 rfl 9 _ rfl rfl rfl rfl Try.underlying22 Try.szB (bA_size _) ?_))
  refine (Ja.out w7).mono ?_
  rintro e w10 ⟨rfl, q12⟩
  have V11 := V9.call q12
  clear q12 V9
  go_wp2_with fail
  go_ret
  exact ⟨rfl, V11.bel⟩
set_option maxHeartbeats 800000 in
theorem laws_no2 (a b c : Nat) (w : World) (ha : a < fP) (hb : b < 2 ^ 256) (h : ¬ b < fP) : Calls Try.prog 7 #[.agg (bA a), .agg (bA b), .agg (bA c)] w fun e w' => e = .returned (.bool true) ∧ Below w.heap.size w w' := by
  have Ja : Hid (∀ w, Calls Try.prog 13 #[.agg (bA a)] w fun e w' => e = .returned (.bool true) ∧ Below w.heap.size w w') := fun w => refIs_yes ha w
  have Jb : Hid (∀ w, Calls Try.prog 13 #[.agg (bA b)] w fun e w' => e = .returned (.bool false) ∧ Below w.heap.size w w') := fun w => refIs_no hb h w
  clear ha hb h
  have V0 := Vars.start w
  go_enter Try.func7, Try.ntmps7
  go_wp2_with (first
    | (refine wpList_boxV V0 3 22 _ rfl rfl rfl (bA a) rfl ?_; intro w1 g2 V3)
    | (refine wpList_boxV V3 4 22 _ rfl rfl rfl (bA b) rfl ?_; intro w4 g5 V6)
    | (refine wpList_boxV V6 5 22 _ rfl rfl rfl (bA c) rfl ?_; intro w7 g8 V9)
    | (refine wpList_loadV V9 2 rfl 9 _ rfl rfl rfl rfl Try.underlying22 Try.szB (bA_size _) ?_))
  refine (Ja.out w7).mono ?_
  rintro e w10 ⟨rfl, q12⟩
  have V11 := V9.call q12
  clear q12 V9
  go_wp2_with (refine wpList_loadV V11 1 rfl 13 _ rfl rfl rfl rfl Try.underlying22 Try.szB (bA_size _) ?_)
  refine (Jb.out w10).mono ?_
  rintro e w13 ⟨rfl, q15⟩
  have V14 := V11.call q15
  clear q15 V11
  go_wp2_with fail
  go_ret
  exact ⟨rfl, V14.bel⟩
set_option maxHeartbeats 800000 in
theorem laws_no3 (a b c : Nat) (w : World) (ha : a < fP) (hb : b < fP) (hc : c < 2 ^ 256) (h : ¬ c < fP) : Calls Try.prog 7 #[.agg (bA a), .agg (bA b), .agg (bA c)] w fun e w' => e = .returned (.bool true) ∧ Below w.heap.size w w' := by
  have Ja : Hid (∀ w, Calls Try.prog 13 #[.agg (bA a)] w fun e w' => e = .returned (.bool true) ∧ Below w.heap.size w w') := fun w => refIs_yes ha w
  have Jb : Hid (∀ w, Calls Try.prog 13 #[.agg (bA b)] w fun e w' => e = .returned (.bool true) ∧ Below w.heap.size w w') := fun w => refIs_yes hb w
  have Jc : Hid (∀ w, Calls Try.prog 13 #[.agg (bA c)] w fun e w' => e = .returned (.bool false) ∧ Below w.heap.size w w') := fun w => refIs_no hc h w
  clear ha hb hc h
  have V0 := Vars.start w
  go_enter Try.func7, Try.ntmps7
  go_wp2_with (first
    | (refine wpList_boxV V0 3 22 _ rfl rfl rfl (bA a) rfl ?_; intro w1 g2 V3)
    | (refine wpList_boxV V3 4 22 _ rfl rfl rfl (bA b) rfl ?_; intro w4 g5 V6)
    | (refine wpList_boxV V6 5 22 _ rfl rfl rfl (bA c) rfl ?_; intro w7 g8 V9)
    | (refine wpList_loadV V9 2 rfl 9 _ rfl rfl rfl rfl Try.underlying22 Try.szB (bA_size _) ?_))
  refine (Ja.out w7).mono ?_
  rintro e w10 ⟨rfl, q12⟩
  have V11 := V9.call q12
  clear q12 V9
  go_wp2_with (refine wpList_loadV V11 1 rfl 13 _ rfl rfl rfl rfl Try.underlying22 Try.szB (bA_size _) ?_)
  refine (Jb.out w10).mono ?_
  rintro e w13 ⟨rfl, q15⟩
  have V14 := V11.call q15
  clear q15 V11
  go_wp2_with (refine wpList_loadV V14 0 rfl 18 _ rfl rfl rfl rfl Try.underlying22 Try.szB (bA_size _) ?_)
  refine (Jc.out w13).mono ?_
  rintro e w16 ⟨rfl, q18⟩
  have V17 := V14.call q18
  clear q18 V14
  go_wp2_with fail
  go_ret
  exact ⟨rfl, V17.bel⟩
set_option maxHeartbeats 6400000 in
theorem laws_yes (a b c : Nat) (w : World) (ha : a < fP) (hb : b < fP) (hc : c < fP) : Calls Try.prog 7 #[.agg (bA a), .agg (bA b), .agg (bA c)] w fun e w' => e = .returned (.bool true) ∧ Below w.heap.size w w' := by
  have Ja : Hid (∀ w, Calls Try.prog 13 #[.agg (bA a)] w fun e w' => e = .returned (.bool true) ∧ Below w.heap.size w w') := fun w => refIs_yes ha w
  have Jb : Hid (∀ w, Calls Try.prog 13 #[.agg (bA b)] w fun e w' => e = .returned (.bool true) ∧ Below w.heap.size w w') := fun w => refIs_yes hb w
  have Jc : Hid (∀ w, Calls Try.prog 13 #[.agg (bA c)] w fun e w' => e = .returned (.bool true) ∧ Below w.heap.size w w') := fun w => refIs_yes hc w
  have N1 : Hid (∀ w, Calls Try.prog 19 #[.int .u8 1] w fun e w' => e = .returned (.agg (bA 1)) ∧ Below w.heap.size w w') := fun w => num_any 1 (by decide) w
  have Aab : Hid (∀ w, Calls Try.prog 21 #[.agg (bA a), .agg (bA b)] w fun e w' => e = .returned (.agg (bA ((a + b) % fP))) ∧ Below w.heap.size w w') := fun w => ladd_any _ _ w ha hb
  have Aba : Hid (∀ w, Calls Try.prog 21 #[.agg (bA b), .agg (bA a)] w fun e w' => e = .returned (.agg (bA ((a + b) % fP))) ∧ Below w.heap.size w w') := fun w => by have := ladd_any (b) (a) w hb ha; rwa [show (b + a) % fP = (a + b) % fP from by rw [Nat.add_comm]] at this
  have Asc : Hid (∀ w, Calls Try.prog 21 #[.agg (bA ((a + b) % fP)), .agg (bA c)] w fun e w' => e = .returned (.agg (bA (((a + b) % fP + c) % fP))) ∧ Below w.heap.size w w') := fun w => ladd_any _ _ w (mod_fP _) hc
  have Abc : Hid (∀ w, Calls Try.prog 21 #[.agg (bA b), .agg (bA c)] w fun e w' => e = .returned (.agg (bA ((b + c) % fP))) ∧ Below w.heap.size w w') := fun w => ladd_any _ _ w hb hc
  have Aau : Hid (∀ w, Calls Try.prog 21 #[.agg (bA a), .agg (bA ((b + c) % fP))] w fun e w' => e = .returned (.agg (bA (((a + b) % fP + c) % fP))) ∧ Below w.heap.size w w') := fun w => by have := ladd_any (a) ((b + c) % fP) w ha (mod_fP _); rwa [show (a + ((b + c) % fP)) % fP = ((a + b) % fP + c) % fP from by rw [ma, am, Nat.add_assoc]] at this
  have Mab : Hid (∀ w, Calls Try.prog 22 #[.agg (bA a), .agg (bA b)] w fun e w' => e = .returned (.agg (bA (a * b % fP))) ∧ Below w.heap.size w w') := fun w => lmul_any _ _ w ha hb
  have Mba : Hid (∀ w, Calls Try.prog 22 #[.agg (bA b), .agg (bA a)] w fun e w' => e = .returned (.agg (bA (a * b % fP))) ∧ Below w.heap.size w w') := fun w => by have := lmul_any (b) (a) w hb ha; rwa [show b * a % fP = a * b % fP from by rw [Nat.mul_comm]] at this
  have Mmc : Hid (∀ w, Calls Try.prog 22 #[.agg (bA (a * b % fP)), .agg (bA c)] w fun e w' => e = .returned (.agg (bA ((a * b % fP) * c % fP))) ∧ Below w.heap.size w w') := fun w => lmul_any _ _ w (mod_fP _) hc
  have Mbc : Hid (∀ w, Calls Try.prog 22 #[.agg (bA b), .agg (bA c)] w fun e w' => e = .returned (.agg (bA (b * c % fP))) ∧ Below w.heap.size w w') := fun w => lmul_any _ _ w hb hc
  have May : Hid (∀ w, Calls Try.prog 22 #[.agg (bA a), .agg (bA (b * c % fP))] w fun e w' => e = .returned (.agg (bA ((a * b % fP) * c % fP))) ∧ Below w.heap.size w w') := fun w => by have := lmul_any (a) (b * c % fP) w ha (mod_fP _); rwa [show a * (b * c % fP) % fP = (a * b % fP) * c % fP from by rw [mm2, mm, Nat.mul_assoc]] at this
  have Msc : Hid (∀ w, Calls Try.prog 22 #[.agg (bA ((a + b) % fP)), .agg (bA c)] w fun e w' => e = .returned (.agg (bA (((a + b) % fP) * c % fP))) ∧ Below w.heap.size w w') := fun w => lmul_any _ _ w (mod_fP _) hc
  have Mac : Hid (∀ w, Calls Try.prog 22 #[.agg (bA a), .agg (bA c)] w fun e w' => e = .returned (.agg (bA (a * c % fP))) ∧ Below w.heap.size w w') := fun w => lmul_any _ _ w ha hc
  have Agy : Hid (∀ w, Calls Try.prog 21 #[.agg (bA (a * c % fP)), .agg (bA (b * c % fP))] w fun e w' => e = .returned (.agg (bA (((a + b) % fP) * c % fP))) ∧ Below w.heap.size w w') := fun w => by have := ladd_any (a * c % fP) (b * c % fP) w (mod_fP _) (mod_fP _); rwa [show ((a * c % fP) + (b * c % fP)) % fP = ((a + b) % fP) * c % fP from by rw [am, ma, mm, Nat.add_mul]] at this
  have Ma1 : Hid (∀ w, Calls Try.prog 22 #[.agg (bA a), .agg (bA 1)] w fun e w' => e = .returned (.agg (bA a)) ∧ Below w.heap.size w w') := fun w => by have := lmul_any (a) (1) w ha (by decide); rwa [show a * 1 % fP = a from by rw [Nat.mul_one, Nat.mod_eq_of_lt ha]] at this
  have CS : Hid (∀ w, Calls Try.prog 10 #[.agg (bA ((a + b) % fP)), .agg (bA b)] w fun e w' => e = .returned (.tuple #[.agg (bA a), .int .i64 0]) ∧ Below w.heap.size w w') := fun w => by have := fSub_yes ((a + b) % fP) b w (mod_fP _) hb; rwa [show ((a + b) % fP + (fP - b)) % fP = a from by rw [am, show a + b + (fP - b) = a + fP from by omega, Nat.add_mod_right, Nat.mod_eq_of_lt ha]] at this
  have HL : Hid (a < 2 ^ 256 ∧ (a + b) % fP < 2 ^ 256 ∧ ((a + b) % fP + c) % fP < 2 ^ 256 ∧ a * b % fP < 2 ^ 256 ∧ (a * b % fP) * c % fP < 2 ^ 256 ∧ ((a + b) % fP) * c % fP < 2 ^ 256) := ⟨elt256 ha, mod_lt256 _, mod_lt256 _, mod_lt256 _, mod_lt256 _, mod_lt256 _⟩
  generalize ((a + b) % fP + c) % fP = t at *
  generalize (a * b % fP) * c % fP = x at *
  generalize ((a + b) % fP) * c % fP = z at *
  generalize (a + b) % fP = s at *
  generalize (b + c) % fP = u at *
  generalize a * b % fP = m at *
  generalize b * c % fP = y at *
  generalize a * c % fP = g at *
  clear ha hb hc
  have V0 := Vars.start w
  go_enter Try.func7, Try.ntmps7
  go_wp2_with (first
    | (refine wpList_boxV V0 3 22 _ rfl rfl rfl (bA a) rfl ?_; intro w1 g2 V3)
    | (refine wpList_boxV V3 4 22 _ rfl rfl rfl (bA b) rfl ?_; intro w4 g5 V6)
    | (refine wpList_boxV V6 5 22 _ rfl rfl rfl (bA c) rfl ?_; intro w7 g8 V9)
    | (refine wpList_loadV V9 2 rfl 9 _ rfl rfl rfl rfl Try.underlying22 Try.szB (bA_size _) ?_))
  refine (Ja.out w7).mono ?_
  rintro e w10 ⟨rfl, q12⟩
  have V11 := V9.call q12
  clear q12 V9
  go_wp2_with (refine wpList_loadV V11 1 rfl 13 _ rfl rfl rfl rfl Try.underlying22 Try.szB (bA_size _) ?_)
  refine (Jb.out w10).mono ?_
  rintro e w13 ⟨rfl, q15⟩
  have V14 := V11.call q15
  clear q15 V11
  go_wp2_with (refine wpList_loadV V14 0 rfl 18 _ rfl rfl rfl rfl Try.underlying22 Try.szB (bA_size _) ?_)
  refine (Jc.out w13).mono ?_
  rintro e w16 ⟨rfl, q18⟩
  have V17 := V14.call q18
  clear q18 V14
  go_wp2_with fail
  refine av_open (fun w' => Vars w w' [⟨g8, 22, bA c⟩, ⟨g5, 22, bA b⟩, ⟨g2, 22, bA a⟩]) (by kernel_rfl) ?_
  have V19 := V17.drew
  apply av_once (Vg := fun g w' => Vars w w' [⟨g, 22, bA a⟩, ⟨g8, 22, bA c⟩, ⟨g5, 22, bA b⟩, ⟨g2, 22, bA a⟩])
  · intro HC20
    refine held_reads (rs := [0, 1, 3]) (fuel := 8) (by kernel_rfl) (fun c d v a w h => by cases d <;> exact h) (by kernel_rfl) (V19) (fun K hK => ?_)
    refine calm_do (.agg (bA a)) rfl (by rfl) (fun w' hw' => exec_loadV hw' 2 rfl _ rfl rfl Try.underlying22 Try.szB (bA_size _)) ?_
    go_simp
    refine calm_do (.agg (bA b)) rfl (by rfl) (fun w' hw' => exec_loadV hw' 1 rfl _ rfl rfl Try.underlying22 Try.szB (bA_size _)) ?_
    go_simp
    refine calm_do (.agg (bA b)) rfl (by rfl) (fun w' hw' => exec_loadV hw' 1 rfl _ rfl rfl Try.underlying22 Try.szB (bA_size _)) ?_
    go_simp
    refine calm_nil (hK.out _ ?_)
    clear hK K
    refine av_op2 (i := 2) (j := 8) (fuel := 7) (by kernel_rfl) rfl (by rfl) rfl (by rfl) (fun K hK => ?_) (fun K hK => ?_)
    · go_simp
      refine (Aab.out w16.drew).mono ?_
      rintro e w21 ⟨rfl, q23⟩
      have V22 := V19.call q23
      refine hK _ _ (V22) ?_
      clear hK K q23
      refine av_op2 (i := 4) (j := 8) (fuel := 6) (by kernel_rfl) rfl (by rfl) rfl (by rfl) (fun K hK => ?_) (fun K hK => ?_)
      · go_simp
        refine (CS.out w21).mono ?_
        rintro e w24 ⟨rfl, q26⟩
        have V25 := V22.call q26
        refine hK _ _ (V25) ?_
        clear hK K q26
        refine held_reads (rs := [5, 6, 7]) (fuel := 3) (by kernel_rfl) (fun c d v a w h => by cases d <;> exact h) (by kernel_rfl) (V25) (fun K hK => ?_)
        go_simp
        refine calm_move _ rfl (by rfl) rfl ?_
        go_simp
        refine calm_do (.agg (bA a)) rfl (by rfl) (fun w' hw' => ?_) ?_
        · go_simp
        go_simp
        refine calm_do (.int .i64 0) rfl (by rfl) (fun w' hw' => ?_) ?_
        · go_simp
        go_simp
        refine calm_nil (hK.out _ ?_)
        clear hK K
        refine av_op (i := 8) (fuel := 2) (by kernel_rfl) rfl (by rfl) (fun K hK => ?_)
        refine wp_allocV V25 7 22 rfl rfl (bA 0) zeroB (fun w27 g28 V29 => ?_)
        refine hK _ _ (V29.tail) ?_
        clear hK K
        refine av_op (i := 9) (fuel := 1) (by kernel_rfl) rfl (by rfl) (fun K hK => ?_)
        refine wp_storeV V29 0 rfl _ _ rfl rfl (bA a) rfl rfl Try.szB (bA_size _) (bA_size _) (bA_one _) (fun w30 V31 => ?_)
        refine hK _ _ (V31.tail) ?_
        clear hK K
        refine held_reads (rs := [10]) (fuel := 0) (by kernel_rfl) (fun c d v a w h => by cases d <;> exact h) (by kernel_rfl) (V31.tail) (fun K hK => ?_)
        go_simp
        refine calm_assign _ rfl (by rfl) rfl ?_
        go_simp
        refine calm_nil (hK.out _ ?_)
        clear hK K
        refine wpAnyH_done (by kernel_rfl) ?_ _
        exact HC20 g28 w30 V31
      · refine wp_allocV V22 7 22 rfl rfl (bA 0) zeroB (fun w32 g33 V34 => ?_)
        refine hK _ _ (V34.tail) ?_
        clear hK K
        refine av_op (i := 4) (fuel := 5) (by kernel_rfl) rfl (by rfl) (fun K hK => ?_)
        go_simp
        refine (CS.out w32).mono ?_
        rintro e w35 ⟨rfl, q37⟩
        have V36 := V34.call q37
        refine hK _ _ (V36.tail) ?_
        clear hK K q37
        refine held_reads (rs := [5, 6, 7]) (fuel := 2) (by kernel_rfl) (fun c d v a w h => by cases d <;> exact h) (by kernel_rfl) (V36.tail) (fun K hK => ?_)
        go_simp
        refine calm_move _ rfl (by rfl) rfl ?_
        go_simp
        refine calm_do (.agg (bA a)) rfl (by rfl) (fun w' hw' => ?_) ?_
        · go_simp
        go_simp
        refine calm_do (.int .i64 0) rfl (by rfl) (fun w' hw' => ?_) ?_
        · go_simp
        go_simp
        refine calm_nil (hK.out _ ?_)
        clear hK K
        refine av_op (i := 9) (fuel := 1) (by kernel_rfl) rfl (by rfl) (fun K hK => ?_)
        refine wp_storeV V36 0 rfl _ _ rfl rfl (bA a) rfl rfl Try.szB (bA_size _) (bA_size _) (bA_one _) (fun w38 V39 => ?_)
        refine hK _ _ (V39.tail) ?_
        clear hK K
        refine held_reads (rs := [10]) (fuel := 0) (by kernel_rfl) (fun c d v a w h => by cases d <;> exact h) (by kernel_rfl) (V39.tail) (fun K hK => ?_)
        go_simp
        refine calm_assign _ rfl (by rfl) rfl ?_
        go_simp
        refine calm_nil (hK.out _ ?_)
        clear hK K
        refine wpAnyH_done (by kernel_rfl) ?_ _
        exact HC20 g33 w38 V39
    · refine wp_allocV V19 7 22 rfl rfl (bA 0) zeroB (fun w40 g41 V42 => ?_)
      refine hK _ _ (V42.tail) ?_
      clear hK K
      refine av_op (i := 2) (fuel := 6) (by kernel_rfl) rfl (by rfl) (fun K hK => ?_)
      go_simp
      refine (Aab.out w40).mono ?_
      rintro e w43 ⟨rfl, q45⟩
      have V44 := V42.call q45
      refine hK _ _ (V44.tail) ?_
      clear hK K q45
      refine av_op (i := 4) (fuel := 5) (by kernel_rfl) rfl (by rfl) (fun K hK => ?_)
      go_simp
      refine (CS.out w43).mono ?_
      rintro e w46 ⟨rfl, q48⟩
      have V47 := V44.call q48
      refine hK _ _ (V47.tail) ?_
      clear hK K q48
      refine held_reads (rs := [5, 6, 7]) (fuel := 2) (by kernel_rfl) (fun c d v a w h => by cases d <;> exact h) (by kernel_rfl) (V47.tail) (fun K hK => ?_)
      go_simp
      refine calm_move _ rfl (by rfl) rfl ?_
      go_simp
      refine calm_do (.agg (bA a)) rfl (by rfl) (fun w' hw' => ?_) ?_
      · go_simp
      go_simp
      refine calm_do (.int .i64 0) rfl (by rfl) (fun w' hw' => ?_) ?_
      · go_simp
      go_simp
      refine calm_nil (hK.out _ ?_)
      clear hK K
      refine av_op (i := 9) (fuel := 1) (by kernel_rfl) rfl (by rfl) (fun K hK => ?_)
      refine wp_storeV V47 0 rfl _ _ rfl rfl (bA a) rfl rfl Try.szB (bA_size _) (bA_size _) (bA_one _) (fun w49 V50 => ?_)
      refine hK _ _ (V50.tail) ?_
      clear hK K
      refine held_reads (rs := [10]) (fuel := 0) (by kernel_rfl) (fun c d v a w h => by cases d <;> exact h) (by kernel_rfl) (V50.tail) (fun K hK => ?_)
      go_simp
      refine calm_assign _ rfl (by rfl) rfl ?_
      go_simp
      refine calm_nil (hK.out _ ?_)
      clear hK K
      refine wpAnyH_done (by kernel_rfl) ?_ _
      exact HC20 g41 w49 V50
  intro g41 w49 V50
  clear V19
  go_wp2_with fail
  refine av_open (fun w' => Vars w w' [⟨g41, 22, bA a⟩, ⟨g8, 22, bA c⟩, ⟨g5, 22, bA b⟩, ⟨g2, 22, bA a⟩]) (by kernel_rfl) ?_
  have V51 := V50.drew
  refine av_op (i := 0) (fuel := 76) (by kernel_rfl) rfl (by rfl) (fun K hK => ?_)
  go_simp
  refine (awake16_any w49.drew).mono ?_
  rintro e w52 ⟨rfl, q54⟩
  have V53 := V51.call q54
  refine hK _ _ (V53) ?_
  clear hK K q54
  refine held_reads (rs := [1, 2, 3, 4, 5, 6, 7, 8, 9, 10, 11, 12, 14, 15]) (fuel := 62) (by kernel_rfl) (fun c d v a w h => by cases d <;> exact h) (by kernel_rfl) (V53) (fun K hK => ?_)
  go_simp
  refine calm_move _ rfl (by rfl) rfl ?_
  go_simp
  refine calm_move _ rfl (by rfl) rfl ?_
  go_simp
  refine calm_do (.bool true) rfl (by rfl) (fun w' hw' => ?_) ?_
  · go_simp
  go_simp
  refine calm_do (.bool true) rfl (by rfl) (fun w' hw' => ?_) ?_
  · go_simp
  go_simp
  refine calm_move _ rfl (by rfl) rfl ?_
  go_simp
  refine calm_do (.agg (bA a)) rfl (by rfl) (fun w' hw' => exec_loadV hw' 0 rfl _ rfl rfl Try.underlying22 Try.szB (bA_size _)) ?_
  go_simp
  refine calm_do (.agg (bA a)) rfl (by rfl) (fun w' hw' => exec_loadV hw' 3 rfl _ rfl rfl Try.underlying22 Try.szB (bA_size _)) ?_
  go_simp
  refine calm_do (.bool true) rfl (by rfl) (fun w' hw' => exec_eqlB _ _ rfl true _ _ (dtrue rfl) rfl rfl HL.out.1 HL.out.1) ?_
  go_simp
  refine calm_do (.bool true) rfl (by rfl) (fun w' hw' => ?_) ?_
  · go_simp
  go_simp
  refine calm_move _ rfl (by rfl) rfl ?_
  go_simp
  refine calm_do (.agg (bA a)) rfl (by rfl) (fun w' hw' => exec_loadV hw' 3 rfl _ rfl rfl Try.underlying22 Try.szB (bA_size _)) ?_
  go_simp
  refine calm_do (.agg (bA b)) rfl (by rfl) (fun w' hw' => exec_loadV hw' 2 rfl _ rfl rfl Try.underlying22 Try.szB (bA_size _)) ?_
  go_simp
  refine calm_do (.agg (bA b)) rfl (by rfl) (fun w' hw' => exec_loadV hw' 2 rfl _ rfl rfl Try.underlying22 Try.szB (bA_size _)) ?_
  go_simp
  refine calm_do (.agg (bA a)) rfl (by rfl) (fun w' hw' => exec_loadV hw' 3 rfl _ rfl rfl Try.underlying22 Try.szB (bA_size _)) ?_
  go_simp
  refine calm_nil (hK.out _ ?_)
  clear hK K
  refine av_op (i := 13) (fuel := 61) (by kernel_rfl) rfl (by rfl) (fun K hK => ?_)
  go_simp
  refine (Aab.out w52).mono ?_
  rintro e w55 ⟨rfl, q57⟩
  have V56 := V53.call q57
  refine hK _ _ (V56) ?_
  clear hK K q57
  refine av_op (i := 16) (fuel := 60) (by kernel_rfl) rfl (by rfl) (fun K hK => ?_)
  go_simp
  refine (Aba.out w55).mono ?_
  rintro e w58 ⟨rfl, q60⟩
  have V59 := V56.call q60
  refine hK _ _ (V59) ?_
  clear hK K q60
  refine held_reads (rs := [17, 18, 19, 20, 21, 23, 25, 26, 27]) (fuel := 51) (by kernel_rfl) (fun c d v a w h => by cases d <;> exact h) (by kernel_rfl) (V59) (fun K hK => ?_)
  go_simp
  refine calm_do (.bool true) rfl (by rfl) (fun w' hw' => exec_eqlB _ _ rfl true _ _ (dtrue rfl) rfl rfl HL.out.2.1 HL.out.2.1) ?_
  go_simp
  refine calm_do (.bool true) rfl (by rfl) (fun w' hw' => ?_) ?_
  · go_simp
  go_simp
  refine calm_move _ rfl (by rfl) rfl ?_
  go_simp
  refine calm_do (.agg (bA a)) rfl (by rfl) (fun w' hw' => exec_loadV hw' 3 rfl _ rfl rfl Try.underlying22 Try.szB (bA_size _)) ?_
  go_simp
  refine calm_do (.agg (bA b)) rfl (by rfl) (fun w' hw' => exec_loadV hw' 2 rfl _ rfl rfl Try.underlying22 Try.szB (bA_size _)) ?_
  go_simp
  refine calm_do (.agg (bA c)) rfl (by rfl) (fun w' hw' => exec_loadV hw' 1 rfl _ rfl rfl Try.underlying22 Try.szB (bA_size _)) ?_
  go_simp
  refine calm_do (.agg (bA a)) rfl (by rfl) (fun w' hw' => exec_loadV hw' 3 rfl _ rfl rfl Try.underlying22 Try.szB (bA_size _)) ?_
  go_simp
  refine calm_do (.agg (bA b)) rfl (by rfl) (fun w' hw' => exec_loadV hw' 2 rfl _ rfl rfl Try.underlying22 Try.szB (bA_size _)) ?_
  go_simp
  refine calm_do (.agg (bA c)) rfl (by rfl) (fun w' hw' => exec_loadV hw' 1 rfl _ rfl rfl Try.underlying22 Try.szB (bA_size _)) ?_
  go_simp
  refine calm_nil (hK.out _ ?_)
  clear hK K
  refine av_op (i := 22) (fuel := 50) (by kernel_rfl) rfl (by rfl) (fun K hK => ?_)
  go_simp
  refine (Aab.out w58).mono ?_
  rintro e w61 ⟨rfl, q63⟩
  have V62 := V59.call q63
  refine hK _ _ (V62) ?_
  clear hK K q63
  refine av_op (i := 24) (fuel := 49) (by kernel_rfl) rfl (by rfl) (fun K hK => ?_)
  go_simp
  refine (Asc.out w61).mono ?_
  rintro e w64 ⟨rfl, q66⟩
  have V65 := V62.call q66
  refine hK _ _ (V65) ?_
  clear hK K q66
  refine av_op (i := 28) (fuel := 48) (by kernel_rfl) rfl (by rfl) (fun K hK => ?_)
  go_simp
  refine (Abc.out w64).mono ?_
  rintro e w67 ⟨rfl, q69⟩
  have V68 := V65.call q69
  refine hK _ _ (V68) ?_
  clear hK K q69
  refine av_op (i := 29) (fuel := 47) (by kernel_rfl) rfl (by rfl) (fun K hK => ?_)
  go_simp
  refine (Aau.out w67).mono ?_
  rintro e w70 ⟨rfl, q72⟩
  have V71 := V68.call q72
  refine hK _ _ (V71) ?_
  clear hK K q72
  refine held_reads (rs := [30, 31, 32, 33, 34, 36, 37]) (fuel := 40) (by kernel_rfl) (fun c d v a w h => by cases d <;> exact h) (by kernel_rfl) (V71) (fun K hK => ?_)
  go_simp
  refine calm_do (.bool true) rfl (by rfl) (fun w' hw' => exec_eqlB _ _ rfl true _ _ (dtrue rfl) rfl rfl HL.out.2.2.1 HL.out.2.2.1) ?_
  go_simp
  refine calm_do (.bool true) rfl (by rfl) (fun w' hw' => ?_) ?_
  · go_simp
  go_simp
  refine calm_move _ rfl (by rfl) rfl ?_
  go_simp
  refine calm_do (.agg (bA a)) rfl (by rfl) (fun w' hw' => exec_loadV hw' 3 rfl _ rfl rfl Try.underlying22 Try.szB (bA_size _)) ?_
  go_simp
  refine calm_do (.agg (bA b)) rfl (by rfl) (fun w' hw' => exec_loadV hw' 2 rfl _ rfl rfl Try.underlying22 Try.szB (bA_size _)) ?_
  go_simp
  refine calm_do (.agg (bA b)) rfl (by rfl) (fun w' hw' => exec_loadV hw' 2 rfl _ rfl rfl Try.underlying22 Try.szB (bA_size _)) ?_
  go_simp
  refine calm_do (.agg (bA a)) rfl (by rfl) (fun w' hw' => exec_loadV hw' 3 rfl _ rfl rfl Try.underlying22 Try.szB (bA_size _)) ?_
  go_simp
  refine calm_nil (hK.out _ ?_)
  clear hK K
  refine av_op (i := 35) (fuel := 39) (by kernel_rfl) rfl (by rfl) (fun K hK => ?_)
  go_simp
  refine (Mab.out w70).mono ?_
  rintro e w73 ⟨rfl, q75⟩
  have V74 := V71.call q75
  refine hK _ _ (V74) ?_
  clear hK K q75
  refine av_op (i := 38) (fuel := 38) (by kernel_rfl) rfl (by rfl) (fun K hK => ?_)
  go_simp
  refine (Mba.out w73).mono ?_
  rintro e w76 ⟨rfl, q78⟩
  have V77 := V74.call q78
  refine hK _ _ (V77) ?_
  clear hK K q78
  refine held_reads (rs := [39, 40, 41, 42, 43, 45, 47, 48, 49]) (fuel := 29) (by kernel_rfl) (fun c d v a w h => by cases d <;> exact h) (by kernel_rfl) (V77) (fun K hK => ?_)
  go_simp
  refine calm_do (.bool true) rfl (by rfl) (fun w' hw' => exec_eqlB _ _ rfl true _ _ (dtrue rfl) rfl rfl HL.out.2.2.2.1 HL.out.2.2.2.1) ?_
  go_simp
  refine calm_do (.bool true) rfl (by rfl) (fun w' hw' => ?_) ?_
  · go_simp
  go_simp
  refine calm_move _ rfl (by rfl) rfl ?_
  go_simp
  refine calm_do (.agg (bA a)) rfl (by rfl) (fun w' hw' => exec_loadV hw' 3 rfl _ rfl rfl Try.underlying22 Try.szB (bA_size _)) ?_
  go_simp
  refine calm_do (.agg (bA b)) rfl (by rfl) (fun w' hw' => exec_loadV hw' 2 rfl _ rfl rfl Try.underlying22 Try.szB (bA_size _)) ?_
  go_simp
  refine calm_do (.agg (bA c)) rfl (by rfl) (fun w' hw' => exec_loadV hw' 1 rfl _ rfl rfl Try.underlying22 Try.szB (bA_size _)) ?_
  go_simp
  refine calm_do (.agg (bA a)) rfl (by rfl) (fun w' hw' => exec_loadV hw' 3 rfl _ rfl rfl Try.underlying22 Try.szB (bA_size _)) ?_
  go_simp
  refine calm_do (.agg (bA b)) rfl (by rfl) (fun w' hw' => exec_loadV hw' 2 rfl _ rfl rfl Try.underlying22 Try.szB (bA_size _)) ?_
  go_simp
  refine calm_do (.agg (bA c)) rfl (by rfl) (fun w' hw' => exec_loadV hw' 1 rfl _ rfl rfl Try.underlying22 Try.szB (bA_size _)) ?_
  go_simp
  refine calm_nil (hK.out _ ?_)
  clear hK K
  refine av_op (i := 44) (fuel := 28) (by kernel_rfl) rfl (by rfl) (fun K hK => ?_)
  go_simp
  refine (Mab.out w76).mono ?_
  rintro e w79 ⟨rfl, q81⟩
  have V80 := V77.call q81
  refine hK _ _ (V80) ?_
  clear hK K q81
  refine av_op (i := 46) (fuel := 27) (by kernel_rfl) rfl (by rfl) (fun K hK => ?_)
  go_simp
  refine (Mmc.out w79).mono ?_
  rintro e w82 ⟨rfl, q84⟩
  have V83 := V80.call q84
  refine hK _ _ (V83) ?_
  clear hK K q84
  refine av_op (i := 50) (fuel := 26) (by kernel_rfl) rfl (by rfl) (fun K hK => ?_)
  go_simp
  refine (Mbc.out w82).mono ?_
  rintro e w85 ⟨rfl, q87⟩
  have V86 := V83.call q87
  refine hK _ _ (V86) ?_
  clear hK K q87
  refine av_op (i := 51) (fuel := 25) (by kernel_rfl) rfl (by rfl) (fun K hK => ?_)
  go_simp
  refine (May.out w85).mono ?_
  rintro e w88 ⟨rfl, q90⟩
  have V89 := V86.call q90
  refine hK _ _ (V89) ?_
  clear hK K q90
  refine held_reads (rs := [52, 53, 54, 55, 56, 58, 60, 61, 63, 64]) (fuel := 15) (by kernel_rfl) (fun c d v a w h => by cases d <;> exact h) (by kernel_rfl) (V89) (fun K hK => ?_)
  go_simp
  refine calm_do (.bool true) rfl (by rfl) (fun w' hw' => exec_eqlB _ _ rfl true _ _ (dtrue rfl) rfl rfl HL.out.2.2.2.2.1 HL.out.2.2.2.2.1) ?_
  go_simp
  refine calm_do (.bool true) rfl (by rfl) (fun w' hw' => ?_) ?_
  · go_simp
  go_simp
  refine calm_move _ rfl (by rfl) rfl ?_
  go_simp
  refine calm_do (.agg (bA a)) rfl (by rfl) (fun w' hw' => exec_loadV hw' 3 rfl _ rfl rfl Try.underlying22 Try.szB (bA_size _)) ?_
  go_simp
  refine calm_do (.agg (bA b)) rfl (by rfl) (fun w' hw' => exec_loadV hw' 2 rfl _ rfl rfl Try.underlying22 Try.szB (bA_size _)) ?_
  go_simp
  refine calm_do (.agg (bA c)) rfl (by rfl) (fun w' hw' => exec_loadV hw' 1 rfl _ rfl rfl Try.underlying22 Try.szB (bA_size _)) ?_
  go_simp
  refine calm_do (.agg (bA a)) rfl (by rfl) (fun w' hw' => exec_loadV hw' 3 rfl _ rfl rfl Try.underlying22 Try.szB (bA_size _)) ?_
  go_simp
  refine calm_do (.agg (bA c)) rfl (by rfl) (fun w' hw' => exec_loadV hw' 1 rfl _ rfl rfl Try.underlying22 Try.szB (bA_size _)) ?_
  go_simp
  refine calm_do (.agg (bA b)) rfl (by rfl) (fun w' hw' => exec_loadV hw' 2 rfl _ rfl rfl Try.underlying22 Try.szB (bA_size _)) ?_
  go_simp
  refine calm_do (.agg (bA c)) rfl (by rfl) (fun w' hw' => exec_loadV hw' 1 rfl _ rfl rfl Try.underlying22 Try.szB (bA_size _)) ?_
  go_simp
  refine calm_nil (hK.out _ ?_)
  clear hK K
  refine av_op (i := 57) (fuel := 14) (by kernel_rfl) rfl (by rfl) (fun K hK => ?_)
  go_simp
  refine (Aab.out w88).mono ?_
  rintro e w91 ⟨rfl, q93⟩
  have V92 := V89.call q93
  refine hK _ _ (V92) ?_
  clear hK K q93
  refine av_op (i := 59) (fuel := 13) (by kernel_rfl) rfl (by rfl) (fun K hK => ?_)
  go_simp
  refine (Msc.out w91).mono ?_
  rintro e w94 ⟨rfl, q96⟩
  have V95 := V92.call q96
  refine hK _ _ (V95) ?_
  clear hK K q96
  refine av_op (i := 62) (fuel := 12) (by kernel_rfl) rfl (by rfl) (fun K hK => ?_)
  go_simp
  refine (Mac.out w94).mono ?_
  rintro e w97 ⟨rfl, q99⟩
  have V98 := V95.call q99
  refine hK _ _ (V98) ?_
  clear hK K q99
  refine av_op (i := 65) (fuel := 11) (by kernel_rfl) rfl (by rfl) (fun K hK => ?_)
  go_simp
  refine (Mbc.out w97).mono ?_
  rintro e w100 ⟨rfl, q102⟩
  have V101 := V98.call q102
  refine hK _ _ (V101) ?_
  clear hK K q102
  refine av_op (i := 66) (fuel := 10) (by kernel_rfl) rfl (by rfl) (fun K hK => ?_)
  go_simp
  refine (Agy.out w100).mono ?_
  rintro e w103 ⟨rfl, q105⟩
  have V104 := V101.call q105
  refine hK _ _ (V104) ?_
  clear hK K q105
  refine held_reads (rs := [67, 68, 69, 70, 73]) (fuel := 5) (by kernel_rfl) (fun c d v a w h => by cases d <;> exact h) (by kernel_rfl) (V104) (fun K hK => ?_)
  go_simp
  refine calm_do (.bool true) rfl (by rfl) (fun w' hw' => exec_eqlB _ _ rfl true _ _ (dtrue rfl) rfl rfl HL.out.2.2.2.2.2 HL.out.2.2.2.2.2) ?_
  go_simp
  refine calm_do (.bool true) rfl (by rfl) (fun w' hw' => ?_) ?_
  · go_simp
  go_simp
  refine calm_move _ rfl (by rfl) rfl ?_
  go_simp
  refine calm_do (.agg (bA a)) rfl (by rfl) (fun w' hw' => exec_loadV hw' 3 rfl _ rfl rfl Try.underlying22 Try.szB (bA_size _)) ?_
  go_simp
  refine calm_do (.agg (bA a)) rfl (by rfl) (fun w' hw' => exec_loadV hw' 3 rfl _ rfl rfl Try.underlying22 Try.szB (bA_size _)) ?_
  go_simp
  refine calm_nil (hK.out _ ?_)
  clear hK K
  refine av_op (i := 71) (fuel := 4) (by kernel_rfl) rfl (by rfl) (fun K hK => ?_)
  go_simp
  refine (N1.out w103).mono ?_
  rintro e w106 ⟨rfl, q108⟩
  have V107 := V104.call q108
  refine hK _ _ (V107) ?_
  clear hK K q108
  refine av_op (i := 72) (fuel := 3) (by kernel_rfl) rfl (by rfl) (fun K hK => ?_)
  go_simp
  refine (Ma1.out w106).mono ?_
  rintro e w109 ⟨rfl, q111⟩
  have V110 := V107.call q111
  refine hK _ _ (V110) ?_
  clear hK K q111
  refine held_reads (rs := [74, 75, 76]) (fuel := 0) (by kernel_rfl) (fun c d v a w h => by cases d <;> exact h) (by kernel_rfl) (V110) (fun K hK => ?_)
  go_simp
  refine calm_do (.bool true) rfl (by rfl) (fun w' hw' => exec_eqlB _ _ rfl true _ _ (dtrue rfl) rfl rfl HL.out.1 HL.out.1) ?_
  go_simp
  refine calm_do (.bool true) rfl (by rfl) (fun w' hw' => ?_) ?_
  · go_simp
  go_simp
  refine calm_assign _ rfl (by rfl) rfl ?_
  go_simp
  refine calm_nil (hK.out _ ?_)
  clear hK K
  refine wpAnyH_done (by kernel_rfl) ?_ _
  go_wp2_with fail
  go_ret
  exact ⟨rfl, V110.bel⟩
theorem walk_FieldLaws (a b c : Nat) (w : World) (ha : a < 2 ^ 256) (hb : b < 2 ^ 256) (hc : c < 2 ^ 256) : Calls Try.prog 7 #[.agg (bA a), .agg (bA b), .agg (bA c)] w fun e w' => e = .returned (.bool true) ∧ Below w.heap.size w w' := by
  by_cases h1 : a < fP
  · by_cases h2 : b < fP
    · by_cases h3 : c < fP
      · exact laws_yes a b c w h1 h2 h3
      · exact laws_no3 a b c w h1 h2 hc h3
    · exact laws_no2 a b c w h1 hb h2
  · exact laws_no1 a b c w ha h1
end Go.Proofs.Ytejbpcdfmlkemaa.N
