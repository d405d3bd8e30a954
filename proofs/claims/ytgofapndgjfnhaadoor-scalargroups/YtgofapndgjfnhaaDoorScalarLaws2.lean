/-
  Layer 18's laws: Groups.
-/
import Derived.Test.YtgofapndgjfnhaaDoorScalarFace
namespace Go.Proofs.YtgofapndgjfnhaaDoor.N
open Go.RowKit
set_option linter.unusedVariables false
set_option maxRecDepth 8192

theorem group1 (a b c : Nat) : ((a * b + 0) % oL * c + 0) % oL = (a * b * c + 0) % oL := by rw [Nat.add_zero (a * b), mulAdd_l]
theorem group2 (a b c : Nat) : (a * ((b * c + 0) % oL) + 0) % oL = (a * b * c + 0) % oL := by rw [mulAdd_m, Nat.add_zero (b * c), Nat.mul_assoc]
theorem group3 (a b c : Nat) : ((a * 1 + b) % oL * c + 0) % oL = (a * c + b * c) % oL := by rw [mulAdd_l, Nat.mul_one, Nat.add_mul, Nat.add_zero]
theorem group4 (a b c : Nat) : (a * c + (b * c + 0) % oL) % oL = (a * c + b * c) % oL := by rw [mulAdd_r, Nat.add_zero]
set_option maxHeartbeats 6400000 in
theorem walk_ScalarGroups (a b c : Nat) (ha : a < 2 ^ 256) (hb : b < 2 ^ 256) (hc : c < 2 ^ 256) (w : World) (ho : OAt w) : Calls Tryd.prog 6 #[.agg (bA a), .agg (bA b), .agg (bA c)] w fun e w' => e = .returned (.bool true) ∧ Below w.heap.size w w' := by
  have M1 : Hid (∀ w, OAt w → Calls Tryd.prog 14 #[.agg (bA a), .agg (bA b), .agg (bA 0)] w fun e w' => e = .returned (.agg (bA ((a * b + 0) % oL))) ∧ Below w.heap.size w w') := fun w ho => mulAdd_any a b 0 w ho ha hb zero18
  have M2 : Hid (∀ w, OAt w → Calls Tryd.prog 14 #[.agg (bA b), .agg (bA c), .agg (bA 0)] w fun e w' => e = .returned (.agg (bA ((b * c + 0) % oL))) ∧ Below w.heap.size w w') := fun w ho => mulAdd_any b c 0 w ho hb hc zero18
  have M3 : Hid (∀ w, OAt w → Calls Tryd.prog 14 #[.agg (bA a), .agg (bA 1), .agg (bA b)] w fun e w' => e = .returned (.agg (bA ((a * 1 + b) % oL))) ∧ Below w.heap.size w w') := fun w ho => mulAdd_any a 1 b w ho ha (n256 (by decide)) hb
  have M4 : Hid (∀ w, OAt w → Calls Tryd.prog 14 #[.agg (bA ((a * b + 0) % oL)), .agg (bA c), .agg (bA 0)] w fun e w' => e = .returned (.agg (bA ((a * b * c + 0) % oL))) ∧ Below w.heap.size w w') := fun w ho => by have h := mulAdd_any _ c 0 w ho (mod_oL256 (a * b + 0)) hc zero18; rw [group1] at h; exact h
  have M5 : Hid (∀ w, OAt w → Calls Tryd.prog 14 #[.agg (bA a), .agg (bA ((b * c + 0) % oL)), .agg (bA 0)] w fun e w' => e = .returned (.agg (bA ((a * b * c + 0) % oL))) ∧ Below w.heap.size w w') := fun w ho => by have h := mulAdd_any a _ 0 w ho ha (mod_oL256 (b * c + 0)) zero18; rw [group2] at h; exact h
  have M6 : Hid (∀ w, OAt w → Calls Tryd.prog 14 #[.agg (bA ((a * 1 + b) % oL)), .agg (bA c), .agg (bA 0)] w fun e w' => e = .returned (.agg (bA ((a * c + b * c) % oL))) ∧ Below w.heap.size w w') := fun w ho => by have h := mulAdd_any _ c 0 w ho (mod_oL256 (a * 1 + b)) hc zero18; rw [group3] at h; exact h
  have M7 : Hid (∀ w, OAt w → Calls Tryd.prog 14 #[.agg (bA a), .agg (bA c), .agg (bA ((b * c + 0) % oL))] w fun e w' => e = .returned (.agg (bA ((a * c + b * c) % oL))) ∧ Below w.heap.size w w') := fun w ho => by have h := mulAdd_any a c _ w ho ha hc (mod_oL256 (b * c + 0)); rw [group4] at h; exact h
  have C1 : Hid (∀ w, Calls Tryd.prog 16 #[.agg (bA a)] w fun e w' => e = .returned (.agg (bA (clampN a))) ∧ Below w.heap.size w w') := fun w => clamp_any a ha w
  have C2 : Hid (∀ w, Calls Tryd.prog 16 #[.agg (bA (clampN a))] w fun e w' => e = .returned (.agg (bA (clampN a))) ∧ Below w.heap.size w w') := fun w => by have h := clamp_any _ (clamp_lt a) w; rw [clamp_twice] at h; exact h
  have L1 : Hid ((a * b * c + 0) % oL < 2 ^ 256) := mod_oL256 _
  have L2 : Hid ((a * c + b * c) % oL < 2 ^ 256) := mod_oL256 _
  have L3 : Hid (clampN a < 2 ^ 256) := clamp_lt a
  obtain ⟨b0, HB0, hb0, hb8⟩ : ∃ b0 : Nat, Hid ((bA (clampN a))[0]? = some (Value.int IntKind.u8 (b0 : Int))) ∧ b0 < 256 ∧ b0 % 8 = 0 := ⟨clampN a / 256 ^ 0 % 256, bA_get _ 0 (by decide), mod256 _, by rw [clamp_b0]; exact lowB_mod _⟩
  obtain ⟨b31, HB31, hb64, hb128⟩ : ∃ b31 : Nat, Hid ((bA (clampN a))[31]? = some (Value.int IntKind.u8 (b31 : Int))) ∧ 64 ≤ b31 ∧ b31 < 128 := ⟨clampN a / 256 ^ 31 % 256, bA_get _ 31 (by decide), by rw [clamp_b31]; exact (topB_in _).1, by rw [clamp_b31]; exact (topB_in _).2⟩
  have e8 : (b0 : Int).tmod 8 = 0 := by rw [show (b0 : Int).tmod 8 = ((b0 % 8 : Nat) : Int) from rfl, hb8]; rfl
  have e64 : (64 : Int) ≤ (b31 : Int) := by omega
  have e128 : (b31 : Int) < 128 := by omega
  clear ha hb hc
  generalize (a * b * c + 0) % oL = p at *
  generalize (a * c + b * c) % oL = q at *
  generalize (a * b + 0) % oL = ab at *
  generalize (b * c + 0) % oL = bc at *
  generalize (a * 1 + b) % oL = s1 at *
  generalize clampN a = x at *
  have V0 := Vars.start w
  go_enter Tryd.func6, Tryd.ntmps6
  go_wp2_with (first
    | (refine wpList_boxV V0 3 23 _ rfl rfl rfl (bA a) rfl ?_; intro w1 g2 V3)
    | (refine wpList_boxV V3 4 23 _ rfl rfl rfl (bA b) rfl ?_; intro w4 g5 V6)
    | (refine wpList_boxV V6 5 23 _ rfl rfl rfl (bA c) rfl ?_; intro w7 g8 V9))
  refine (num18_any 0 (by decide) w7).mono ?_
  rintro e w10 ⟨rfl, q12⟩
  have V11 := V9.call q12
  clear q12 V9
  go_wp2_with (first
    | (refine wpList_allocV V11 7 23 rfl rfl rfl (bA 0) zeroB ?_; intro w13 g14 V15)
    | (refine wpList_storeV V15 0 rfl _ (.tmp 12) rfl rfl rfl (bA 0) rfl rfl Tryd.szB (bA_size _) (bA_size _) (bA_one _) ?_; intro w16 V17)
    | (refine wpList_loadV V17 3 rfl 13 _ rfl rfl rfl rfl Tryd.underlying23 Tryd.szB (bA_size _) ?_)
    | (refine wpList_loadV V17 2 rfl 14 _ rfl rfl rfl rfl Tryd.underlying23 Tryd.szB (bA_size _) ?_)
    | (refine wpList_loadV V17 0 rfl 15 _ rfl rfl rfl rfl Tryd.underlying23 Tryd.szB (bA_size _) ?_))
  refine (M1.out w16 (ho.of V17)).mono ?_
  rintro e w18 ⟨rfl, q20⟩
  have V19 := V17.call q20
  clear q20 V17
  go_wp2_with (first
    | (refine wpList_allocV V19 8 23 rfl rfl rfl (bA 0) zeroB ?_; intro w21 g22 V23)
    | (refine wpList_storeV V23 0 rfl _ (.tmp 16) rfl rfl rfl (bA ab) rfl rfl Tryd.szB (bA_size _) (bA_size _) (bA_one _) ?_; intro w24 V25)
    | (refine wpList_loadV V25 3 rfl 17 _ rfl rfl rfl rfl Tryd.underlying23 Tryd.szB (bA_size _) ?_)
    | (refine wpList_loadV V25 2 rfl 18 _ rfl rfl rfl rfl Tryd.underlying23 Tryd.szB (bA_size _) ?_)
    | (refine wpList_loadV V25 1 rfl 19 _ rfl rfl rfl rfl Tryd.underlying23 Tryd.szB (bA_size _) ?_))
  refine (M2.out w24 (ho.of V25)).mono ?_
  rintro e w26 ⟨rfl, q28⟩
  have V27 := V25.call q28
  clear q28 V25
  go_wp2_with (first
    | (refine wpList_allocV V27 9 23 rfl rfl rfl (bA 0) zeroB ?_; intro w29 g30 V31)
    | (refine wpList_storeV V31 0 rfl _ (.tmp 20) rfl rfl rfl (bA bc) rfl rfl Tryd.szB (bA_size _) (bA_size _) (bA_one _) ?_; intro w32 V33))
  refine av_open (fun w' => Vars w w' [⟨g30, 23, bA bc⟩, ⟨g22, 23, bA ab⟩, ⟨g14, 23, bA 0⟩, ⟨g8, 23, bA c⟩, ⟨g5, 23, bA b⟩, ⟨g2, 23, bA a⟩]) (by kernel_rfl) ?_
  have V34 := V33.drew
  apply av_once (Vg := fun g w' => Vars w w' [⟨g, 23, bA s1⟩, ⟨g30, 23, bA bc⟩, ⟨g22, 23, bA ab⟩, ⟨g14, 23, bA 0⟩, ⟨g8, 23, bA c⟩, ⟨g5, 23, bA b⟩, ⟨g2, 23, bA a⟩])
  · intro HC35
    refine held_reads (rs := [0, 2]) (fuel := 4) (by kernel_rfl) (fun c d v a w h => by cases d <;> exact h) (by kernel_rfl) (V34) (fun K hK => ?_)
    refine calm_do (.agg (bA a)) rfl (by rfl) (fun w' hw' => exec_loadV hw' 5 rfl _ rfl rfl Tryd.underlying23 Tryd.szB (bA_size _)) ?_
    go_simp
    refine calm_do (.agg (bA b)) rfl (by rfl) (fun w' hw' => exec_loadV hw' 4 rfl _ rfl rfl Tryd.underlying23 Tryd.szB (bA_size _)) ?_
    go_simp
    refine calm_nil (hK.out _ ?_)
    clear hK K
    refine av_op2 (i := 1) (j := 4) (fuel := 3) (by kernel_rfl) rfl (by rfl) rfl (by rfl) (fun K hK => ?_) (fun K hK => ?_)
    · go_simp
      refine (num18_any 1 (by decide) w32.drew).mono ?_
      rintro e w36 ⟨rfl, q38⟩
      have V37 := V34.call q38
      refine hK _ _ (V37) ?_
      clear hK K q38
      refine av_op2 (i := 3) (j := 4) (fuel := 2) (by kernel_rfl) rfl (by rfl) rfl (by rfl) (fun K hK => ?_) (fun K hK => ?_)
      · go_simp
        refine (M3.out w36 (ho.of V37)).mono ?_
        rintro e w39 ⟨rfl, q41⟩
        have V40 := V37.call q41
        refine hK _ _ (V40) ?_
        clear hK K q41
        refine av_op (i := 4) (fuel := 1) (by kernel_rfl) rfl (by rfl) (fun K hK => ?_)
        refine wp_allocV V40 10 23 rfl rfl (bA 0) zeroB (fun w42 g43 V44 => ?_)
        refine hK _ _ (V44.tail) ?_
        clear hK K
        refine av_op (i := 5) (fuel := 0) (by kernel_rfl) rfl (by rfl) (fun K hK => ?_)
        refine wp_storeV V44 0 rfl _ _ rfl rfl (bA s1) rfl rfl Tryd.szB (bA_size _) (bA_size _) (bA_one _) (fun w45 V46 => ?_)
        refine hK _ _ (V46.tail) ?_
        clear hK K
        refine wpAnyH_done (by kernel_rfl) ?_ _
        exact HC35 g43 w45 V46
      · refine wp_allocV V37 10 23 rfl rfl (bA 0) zeroB (fun w47 g48 V49 => ?_)
        refine hK _ _ (V49.tail) ?_
        clear hK K
        refine av_op (i := 3) (fuel := 1) (by kernel_rfl) rfl (by rfl) (fun K hK => ?_)
        go_simp
        refine (M3.out w47 (ho.of V49)).mono ?_
        rintro e w50 ⟨rfl, q52⟩
        have V51 := V49.call q52
        refine hK _ _ (V51.tail) ?_
        clear hK K q52
        refine av_op (i := 5) (fuel := 0) (by kernel_rfl) rfl (by rfl) (fun K hK => ?_)
        refine wp_storeV V51 0 rfl _ _ rfl rfl (bA s1) rfl rfl Tryd.szB (bA_size _) (bA_size _) (bA_one _) (fun w53 V54 => ?_)
        refine hK _ _ (V54.tail) ?_
        clear hK K
        refine wpAnyH_done (by kernel_rfl) ?_ _
        exact HC35 g48 w53 V54
    · refine wp_allocV V34 10 23 rfl rfl (bA 0) zeroB (fun w55 g56 V57 => ?_)
      refine hK _ _ (V57.tail) ?_
      clear hK K
      refine av_op (i := 1) (fuel := 2) (by kernel_rfl) rfl (by rfl) (fun K hK => ?_)
      go_simp
      refine (num18_any 1 (by decide) w55).mono ?_
      rintro e w58 ⟨rfl, q60⟩
      have V59 := V57.call q60
      refine hK _ _ (V59.tail) ?_
      clear hK K q60
      refine av_op (i := 3) (fuel := 1) (by kernel_rfl) rfl (by rfl) (fun K hK => ?_)
      go_simp
      refine (M3.out w58 (ho.of V59)).mono ?_
      rintro e w61 ⟨rfl, q63⟩
      have V62 := V59.call q63
      refine hK _ _ (V62.tail) ?_
      clear hK K q63
      refine av_op (i := 5) (fuel := 0) (by kernel_rfl) rfl (by rfl) (fun K hK => ?_)
      refine wp_storeV V62 0 rfl _ _ rfl rfl (bA s1) rfl rfl Tryd.szB (bA_size _) (bA_size _) (bA_one _) (fun w64 V65 => ?_)
      refine hK _ _ (V65.tail) ?_
      clear hK K
      refine wpAnyH_done (by kernel_rfl) ?_ _
      exact HC35 g56 w64 V65
  intro g56 w64 V65
  clear V34
  go_wp2_with (refine wpList_loadV V65 6 rfl 25 _ rfl rfl rfl rfl Tryd.underlying23 Tryd.szB (bA_size _) ?_)
  refine (C1.out w64).mono ?_
  rintro e w66 ⟨rfl, q68⟩
  have V67 := V65.call q68
  clear q68 V65
  go_wp2_with (first
    | (refine wpList_allocV V67 11 23 rfl rfl rfl (bA 0) zeroB ?_; intro w69 g70 V71)
    | (refine wpList_storeV V71 0 rfl _ (.tmp 26) rfl rfl rfl (bA x) rfl rfl Tryd.szB (bA_size _) (bA_size _) (bA_one _) ?_; intro w72 V73))
  refine av_open (fun w' => Vars w w' [⟨g70, 23, bA x⟩, ⟨g56, 23, bA s1⟩, ⟨g30, 23, bA bc⟩, ⟨g22, 23, bA ab⟩, ⟨g14, 23, bA 0⟩, ⟨g8, 23, bA c⟩, ⟨g5, 23, bA b⟩, ⟨g2, 23, bA a⟩]) (by kernel_rfl) ?_
  have V74 := V73.drew
  refine av_op (i := 0) (fuel := 45) (by kernel_rfl) rfl (by rfl) (fun K hK => ?_)
  go_simp
  refine (awake18_any w72.drew (ho.of V74)).mono ?_
  rintro e w75 ⟨rfl, q77⟩
  have V76 := V74.call q77
  refine hK _ _ (V76) ?_
  clear hK K q77
  refine held_reads (rs := [1, 2, 3, 4, 6, 7, 8]) (fuel := 38) (by kernel_rfl) (fun c d v a w h => by cases d <;> exact h) (by kernel_rfl) (V76) (fun K hK => ?_)
  go_simp
  refine calm_move _ rfl (by rfl) rfl ?_
  go_simp
  refine calm_do (.agg (bA ab)) rfl (by rfl) (fun w' hw' => exec_loadV hw' 3 rfl _ rfl rfl Tryd.underlying23 Tryd.szB (bA_size _)) ?_
  go_simp
  refine calm_do (.agg (bA c)) rfl (by rfl) (fun w' hw' => exec_loadV hw' 5 rfl _ rfl rfl Tryd.underlying23 Tryd.szB (bA_size _)) ?_
  go_simp
  refine calm_do (.agg (bA 0)) rfl (by rfl) (fun w' hw' => exec_loadV hw' 4 rfl _ rfl rfl Tryd.underlying23 Tryd.szB (bA_size _)) ?_
  go_simp
  refine calm_do (.agg (bA a)) rfl (by rfl) (fun w' hw' => exec_loadV hw' 7 rfl _ rfl rfl Tryd.underlying23 Tryd.szB (bA_size _)) ?_
  go_simp
  refine calm_do (.agg (bA bc)) rfl (by rfl) (fun w' hw' => exec_loadV hw' 2 rfl _ rfl rfl Tryd.underlying23 Tryd.szB (bA_size _)) ?_
  go_simp
  refine calm_do (.agg (bA 0)) rfl (by rfl) (fun w' hw' => exec_loadV hw' 4 rfl _ rfl rfl Tryd.underlying23 Tryd.szB (bA_size _)) ?_
  go_simp
  refine calm_nil (hK.out _ ?_)
  clear hK K
  refine av_op (i := 5) (fuel := 37) (by kernel_rfl) rfl (by rfl) (fun K hK => ?_)
  go_simp
  refine (M4.out w75 (ho.of V76)).mono ?_
  rintro e w78 ⟨rfl, q80⟩
  have V79 := V76.call q80
  refine hK _ _ (V79) ?_
  clear hK K q80
  refine av_op (i := 9) (fuel := 36) (by kernel_rfl) rfl (by rfl) (fun K hK => ?_)
  go_simp
  refine (M5.out w78 (ho.of V79)).mono ?_
  rintro e w81 ⟨rfl, q83⟩
  have V82 := V79.call q83
  refine hK _ _ (V82) ?_
  clear hK K q83
  refine held_reads (rs := [10, 11, 12, 13, 14, 15, 17, 18, 19]) (fuel := 27) (by kernel_rfl) (fun c d v a w h => by cases d <;> exact h) (by kernel_rfl) (V82) (fun K hK => ?_)
  go_simp
  refine calm_do (.bool true) rfl (by rfl) (fun w' hw' => exec_eqlB _ _ rfl true _ _ (decide_eq_true rfl) rfl rfl L1.out L1.out) ?_
  go_simp
  refine calm_do (.bool true) rfl (by rfl) (fun w' hw' => ?_) ?_
  · go_simp
  go_simp
  refine calm_move _ rfl (by rfl) rfl ?_
  go_simp
  refine calm_do (.agg (bA s1)) rfl (by rfl) (fun w' hw' => exec_loadV hw' 1 rfl _ rfl rfl Tryd.underlying23 Tryd.szB (bA_size _)) ?_
  go_simp
  refine calm_do (.agg (bA c)) rfl (by rfl) (fun w' hw' => exec_loadV hw' 5 rfl _ rfl rfl Tryd.underlying23 Tryd.szB (bA_size _)) ?_
  go_simp
  refine calm_do (.agg (bA 0)) rfl (by rfl) (fun w' hw' => exec_loadV hw' 4 rfl _ rfl rfl Tryd.underlying23 Tryd.szB (bA_size _)) ?_
  go_simp
  refine calm_do (.agg (bA a)) rfl (by rfl) (fun w' hw' => exec_loadV hw' 7 rfl _ rfl rfl Tryd.underlying23 Tryd.szB (bA_size _)) ?_
  go_simp
  refine calm_do (.agg (bA c)) rfl (by rfl) (fun w' hw' => exec_loadV hw' 5 rfl _ rfl rfl Tryd.underlying23 Tryd.szB (bA_size _)) ?_
  go_simp
  refine calm_do (.agg (bA bc)) rfl (by rfl) (fun w' hw' => exec_loadV hw' 2 rfl _ rfl rfl Tryd.underlying23 Tryd.szB (bA_size _)) ?_
  go_simp
  refine calm_nil (hK.out _ ?_)
  clear hK K
  refine av_op (i := 16) (fuel := 26) (by kernel_rfl) rfl (by rfl) (fun K hK => ?_)
  go_simp
  refine (M6.out w81 (ho.of V82)).mono ?_
  rintro e w84 ⟨rfl, q86⟩
  have V85 := V82.call q86
  refine hK _ _ (V85) ?_
  clear hK K q86
  refine av_op (i := 20) (fuel := 25) (by kernel_rfl) rfl (by rfl) (fun K hK => ?_)
  go_simp
  refine (M7.out w84 (ho.of V85)).mono ?_
  rintro e w87 ⟨rfl, q89⟩
  have V88 := V85.call q89
  refine hK _ _ (V88) ?_
  clear hK K q89
  refine held_reads (rs := [21, 22, 23, 24, 26]) (fuel := 20) (by kernel_rfl) (fun c d v a w h => by cases d <;> exact h) (by kernel_rfl) (V88) (fun K hK => ?_)
  go_simp
  refine calm_do (.bool true) rfl (by rfl) (fun w' hw' => exec_eqlB _ _ rfl true _ _ (decide_eq_true rfl) rfl rfl L2.out L2.out) ?_
  go_simp
  refine calm_do (.bool true) rfl (by rfl) (fun w' hw' => ?_) ?_
  · go_simp
  go_simp
  refine calm_move _ rfl (by rfl) rfl ?_
  go_simp
  refine calm_do (.agg (bA x)) rfl (by rfl) (fun w' hw' => exec_loadV hw' 0 rfl _ rfl rfl Tryd.underlying23 Tryd.szB (bA_size _)) ?_
  go_simp
  refine calm_do (.agg (bA x)) rfl (by rfl) (fun w' hw' => exec_loadV hw' 0 rfl _ rfl rfl Tryd.underlying23 Tryd.szB (bA_size _)) ?_
  go_simp
  refine calm_nil (hK.out _ ?_)
  clear hK K
  refine av_op (i := 25) (fuel := 19) (by kernel_rfl) rfl (by rfl) (fun K hK => ?_)
  go_simp
  refine (C2.out w87).mono ?_
  rintro e w90 ⟨rfl, q92⟩
  have V91 := V88.call q92
  refine hK _ _ (V91) ?_
  clear hK K q92
  refine held_reads (rs := [27, 28, 29, 30, 31, 32, 33, 34, 35, 36, 37, 38, 39, 40, 41, 42, 43, 44, 45]) (fuel := 0) (by kernel_rfl) (fun c d v a w h => by cases d <;> exact h) (by kernel_rfl) (V91) (fun K hK => ?_)
  go_simp
  refine calm_do (.bool true) rfl (by rfl) (fun w' hw' => exec_eqlB _ _ rfl true _ _ (decide_eq_true rfl) rfl rfl L3.out L3.out) ?_
  go_simp
  refine calm_do (.bool true) rfl (by rfl) (fun w' hw' => ?_) ?_
  · go_simp
  go_simp
  refine calm_move _ rfl (by rfl) rfl ?_
  go_simp
  refine calm_do (.pointer (some ⟨g70, 0, none⟩)) rfl (by rfl) (fun w' hw' => ?_) ?_
  · go_simp
  go_simp
  refine calm_do (.int .u8 (b0 : Int)) rfl (by rfl) (fun w' hw' => ?_) ?_
  · have hcc := cell_byte hw' 0 rfl 0 HB0.out
    go_simp
  go_simp
  refine calm_do (.int .u8 0) rfl (by rfl) (fun w' hw' => ?_) ?_
  · have hcc := e8
    go_simp
  go_simp
  refine calm_do (.bool true) rfl (by rfl) (fun w' hw' => ?_) ?_
  · go_simp
  go_simp
  refine calm_do (.bool true) rfl (by rfl) (fun w' hw' => ?_) ?_
  · go_simp
  go_simp
  refine calm_move _ rfl (by rfl) rfl ?_
  go_simp
  refine calm_do (.pointer (some ⟨g70, 31, none⟩)) rfl (by rfl) (fun w' hw' => ?_) ?_
  · go_simp
  go_simp
  refine calm_do (.int .u8 (b31 : Int)) rfl (by rfl) (fun w' hw' => ?_) ?_
  · have hcc := cell_byte hw' 0 rfl 31 HB31.out
    go_simp
  go_simp
  refine calm_do (.bool true) rfl (by rfl) (fun w' hw' => ?_) ?_
  · have hcc := e64
    go_simp
  go_simp
  refine calm_do (.bool true) rfl (by rfl) (fun w' hw' => ?_) ?_
  · go_simp
  go_simp
  refine calm_move _ rfl (by rfl) rfl ?_
  go_simp
  refine calm_do (.pointer (some ⟨g70, 31, none⟩)) rfl (by rfl) (fun w' hw' => ?_) ?_
  · go_simp
  go_simp
  refine calm_do (.int .u8 (b31 : Int)) rfl (by rfl) (fun w' hw' => ?_) ?_
  · have hcc := cell_byte hw' 0 rfl 31 HB31.out
    go_simp
  go_simp
  refine calm_do (.bool true) rfl (by rfl) (fun w' hw' => ?_) ?_
  · have hcc := e128
    go_simp
  go_simp
  refine calm_do (.bool true) rfl (by rfl) (fun w' hw' => ?_) ?_
  · go_simp
  go_simp
  refine calm_assign _ rfl (by rfl) rfl ?_
  go_simp
  refine calm_nil (hK.out _ ?_)
  clear hK K
  refine wpAnyH_done (by kernel_rfl) ?_ _
  go_wp2_with fail
  go_ret
  exact ⟨rfl, V91.bel⟩
end Go.Proofs.YtgofapndgjfnhaaDoor.N
