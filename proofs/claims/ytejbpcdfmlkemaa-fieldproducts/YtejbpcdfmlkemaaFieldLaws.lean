/-
  Layer 16's laws: Reckons, Inverts.
-/
import Derived.Test.YtejbpcdfmlkemaaFieldFace
import Derived.Test.YtejbpcdfmlkemaaFieldRef5
namespace Go.Proofs.Ytejbpcdfmlkemaa.N
open Go.RowKit
set_option linter.unusedVariables false
set_option maxRecDepth 8192

theorem refIs_yes {a : Nat} (h : a < fP) (w : World) : Calls Try.prog 13 #[.agg (bA a)] w fun e w' => e = .returned (.bool true) ∧ Below w.heap.size w w' := by
  have := refIs_any a w (elt256 h)
  rwa [decide_eq_true h] at this
theorem refIs_no {a : Nat} (ha : a < 2 ^ 256) (h : ¬ a < fP) (w : World) : Calls Try.prog 13 #[.agg (bA a)] w fun e w' => e = .returned (.bool false) ∧ Below w.heap.size w w' := by
  have := refIs_any a w ha
  rwa [decide_eq_false h] at this
theorem dtrue {p q : Nat} (h : p = q) : decide (p = q) = true := decide_eq_true h
theorem dfalse {p q : Nat} (h : p ≠ q) : decide (p = q) = false := decide_eq_false h
set_option maxHeartbeats 3200000 in
theorem reckons_yes (a b : Nat) (w : World) (ha : a < fP) (hb : b < fP) : Calls Try.prog 3 #[.agg (bA a), .agg (bA b)] w fun e w' => e = .returned (.bool true) ∧ Below w.heap.size w w' := by
  have Cs : Hid (∀ w, Calls Try.prog 9 #[.agg (bA a), .agg (bA b)] w fun e w' => e = .returned (.tuple #[.agg (bA ((a + b) % fP)), .int .i64 0]) ∧ Below w.heap.size w w') := fun w => fAdd_yes a b w ha hb
  have Ds : Hid (∀ w, Calls Try.prog 15 #[.agg (bA a), .agg (bA b)] w fun e w' => e = .returned (.agg (bA ((a + b) % fP))) ∧ Below w.heap.size w w') := fun w => refAdd_any a b w ha hb
  have Cd : Hid (∀ w, Calls Try.prog 10 #[.agg (bA a), .agg (bA b)] w fun e w' => e = .returned (.tuple #[.agg (bA ((a + (fP - b)) % fP)), .int .i64 0]) ∧ Below w.heap.size w w') := fun w => fSub_yes a b w ha hb
  have Dd : Hid (∀ w, Calls Try.prog 16 #[.agg (bA a), .agg (bA b)] w fun e w' => e = .returned (.agg (bA ((a + (fP - b)) % fP))) ∧ Below w.heap.size w w') := fun w => refSub_any a b w ha hb
  have Cm : Hid (∀ w, Calls Try.prog 11 #[.agg (bA a), .agg (bA b)] w fun e w' => e = .returned (.tuple #[.agg (bA (a * b % fP)), .int .i64 0]) ∧ Below w.heap.size w w') := fun w => fMul_yes a b w ha hb
  have Dm : Hid (∀ w, Calls Try.prog 17 #[.agg (bA a), .agg (bA b)] w fun e w' => e = .returned (.agg (bA (a * b % fP))) ∧ Below w.heap.size w w') := fun w => refMul_any a b w ha hb
  have IA : Hid (∀ w, Calls Try.prog 12 #[.agg (bA a)] w fun e w' => e = .returned (.bool true) ∧ Below w.heap.size w w') := fun w => is_yes ha w
  have JA : Hid (∀ w, Calls Try.prog 13 #[.agg (bA a)] w fun e w' => e = .returned (.bool true) ∧ Below w.heap.size w w') := fun w => refIs_yes ha w
  have JB : Hid (∀ w, Calls Try.prog 13 #[.agg (bA b)] w fun e w' => e = .returned (.bool true) ∧ Below w.heap.size w w') := fun w => refIs_yes hb w
  have HL : Hid ((a + b) % fP < 2 ^ 256 ∧ (a + (fP - b)) % fP < 2 ^ 256 ∧ a * b % fP < 2 ^ 256) := ⟨mod_lt256 _, mod_lt256 _, mod_lt256 _⟩
  generalize (a + b) % fP = s at *
  generalize (a + (fP - b)) % fP = d at *
  generalize a * b % fP = m at *
  clear ha hb
  have V0 := Vars.start w
  go_enter Try.func3, Try.ntmps3
  go_wp2_with (first
    | (refine wpList_boxV V0 2 22 _ rfl rfl rfl (bA a) rfl ?_; intro w1 g2 V3)
    | (refine wpList_boxV V3 3 22 _ rfl rfl rfl (bA b) rfl ?_; intro w4 g5 V6)
    | (refine wpList_loadV V6 1 rfl 13 _ rfl rfl rfl rfl Try.underlying22 Try.szB (bA_size _) ?_)
    | (refine wpList_loadV V6 0 rfl 14 _ rfl rfl rfl rfl Try.underlying22 Try.szB (bA_size _) ?_))
  refine (Cs.out w4).mono ?_
  rintro e w7 ⟨rfl, q9⟩
  have V8 := V6.call q9
  clear q9 V6
  go_wp2_with (first
    | (refine wpList_allocV V8 5 22 rfl rfl rfl (bA 0) zeroB ?_; intro w10 g11 V12)
    | (refine wpList_storeV V12 0 rfl _ (.tmp 16) rfl rfl rfl (bA s) rfl rfl Try.szB (bA_size _) (bA_size _) (bA_one _) ?_; intro w13 V14)
    | (refine wpList_loadV V14 2 rfl 19 _ rfl rfl rfl rfl Try.underlying22 Try.szB (bA_size _) ?_)
    | (refine wpList_loadV V14 1 rfl 20 _ rfl rfl rfl rfl Try.underlying22 Try.szB (bA_size _) ?_))
  refine (Cd.out w13).mono ?_
  rintro e w15 ⟨rfl, q17⟩
  have V16 := V14.call q17
  clear q17 V14
  go_wp2_with (first
    | (refine wpList_allocV V16 7 22 rfl rfl rfl (bA 0) zeroB ?_; intro w18 g19 V20)
    | (refine wpList_storeV V20 0 rfl _ (.tmp 22) rfl rfl rfl (bA d) rfl rfl Try.szB (bA_size _) (bA_size _) (bA_one _) ?_; intro w21 V22)
    | (refine wpList_loadV V22 3 rfl 25 _ rfl rfl rfl rfl Try.underlying22 Try.szB (bA_size _) ?_)
    | (refine wpList_loadV V22 2 rfl 26 _ rfl rfl rfl rfl Try.underlying22 Try.szB (bA_size _) ?_))
  refine (Cm.out w21).mono ?_
  rintro e w23 ⟨rfl, q25⟩
  have V24 := V22.call q25
  clear q25 V22
  go_wp2_with (first
    | (refine wpList_allocV V24 9 22 rfl rfl rfl (bA 0) zeroB ?_; intro w26 g27 V28)
    | (refine wpList_storeV V28 0 rfl _ (.tmp 28) rfl rfl rfl (bA m) rfl rfl Try.szB (bA_size _) (bA_size _) (bA_one _) ?_; intro w29 V30))
  refine av_open (fun w' => Vars w w' [⟨g27, 22, bA m⟩, ⟨g19, 22, bA d⟩, ⟨g11, 22, bA s⟩, ⟨g5, 22, bA b⟩, ⟨g2, 22, bA a⟩]) (by kernel_rfl) ?_
  have V31 := V30.drew
  refine held_reads (rs := [0, 2]) (fuel := 3) (by kernel_rfl) (fun c d v a w h => by cases d <;> exact h) (by kernel_rfl) (V31) (fun K hK => ?_)
  refine calm_do (.agg (bA a)) rfl (by rfl) (fun w' hw' => exec_loadV hw' 4 rfl _ rfl rfl Try.underlying22 Try.szB (bA_size _)) ?_
  go_simp
  refine calm_do (.agg (bA a)) rfl (by rfl) (fun w' hw' => exec_loadV hw' 4 rfl _ rfl rfl Try.underlying22 Try.szB (bA_size _)) ?_
  go_simp
  refine calm_nil (hK.out _ ?_)
  clear hK K
  refine av_op (i := 1) (fuel := 2) (by kernel_rfl) rfl (by rfl) (fun K hK => ?_)
  go_simp
  refine (IA.out w29.drew).mono ?_
  rintro e w32 ⟨rfl, q34⟩
  have V33 := V31.call q34
  refine hK _ _ (V33) ?_
  clear hK K q34
  refine av_op (i := 3) (fuel := 1) (by kernel_rfl) rfl (by rfl) (fun K hK => ?_)
  go_simp
  refine (JA.out w32).mono ?_
  rintro e w35 ⟨rfl, q37⟩
  have V36 := V33.call q37
  refine hK _ _ (V36) ?_
  clear hK K q37
  refine held_reads (rs := [4]) (fuel := 0) (by kernel_rfl) (fun c d v a w h => by cases d <;> exact h) (by kernel_rfl) (V36) (fun K hK => ?_)
  go_simp
  refine calm_do (.bool false) rfl (by rfl) (fun w' hw' => ?_) ?_
  · go_simp
  go_simp
  refine calm_nil (hK.out _ ?_)
  clear hK K
  refine wpAnyH_done (by kernel_rfl) ?_ _
  go_wp2_with (refine wpList_loadV V36 4 rfl 35 _ rfl rfl rfl rfl Try.underlying22 Try.szB (bA_size _) ?_)
  refine (JA.out w35).mono ?_
  rintro e w38 ⟨rfl, q40⟩
  have V39 := V36.call q40
  clear q40 V36
  go_wp2_with (refine wpList_loadV V39 3 rfl 39 _ rfl rfl rfl rfl Try.underlying22 Try.szB (bA_size _) ?_)
  refine (JB.out w38).mono ?_
  rintro e w41 ⟨rfl, q43⟩
  have V42 := V39.call q43
  clear q43 V39
  go_wp2_with fail
  refine av_open (fun w' => Vars w w' [⟨g27, 22, bA m⟩, ⟨g19, 22, bA d⟩, ⟨g11, 22, bA s⟩, ⟨g5, 22, bA b⟩, ⟨g2, 22, bA a⟩]) (by kernel_rfl) ?_
  have V44 := V42.drew
  refine av_op (i := 0) (fuel := 36) (by kernel_rfl) rfl (by rfl) (fun K hK => ?_)
  go_simp
  refine (awake16_any w41.drew).mono ?_
  rintro e w45 ⟨rfl, q47⟩
  have V46 := V44.call q47
  refine hK _ _ (V46) ?_
  clear hK K q47
  refine held_reads (rs := [1, 2, 3, 4, 5, 6, 7, 8, 9, 10, 11, 12, 13, 14, 15, 16, 17, 18]) (fuel := 18) (by kernel_rfl) (fun c d v a w h => by cases d <;> exact h) (by kernel_rfl) (V46) (fun K hK => ?_)
  go_simp
  refine calm_move _ rfl (by rfl) rfl ?_
  go_simp
  refine calm_move _ rfl (by rfl) rfl ?_
  go_simp
  refine calm_do (.bool true) rfl (by rfl) (fun w' hw' => ?_) ?_
  · go_simp
  go_simp
  refine calm_do (.bool true) rfl (by rfl) (fun w' hw' => ?_) ?_
  · go_simp
  go_simp
  refine calm_move _ rfl (by rfl) rfl ?_
  go_simp
  refine calm_move _ rfl (by rfl) rfl ?_
  go_simp
  refine calm_move _ rfl (by rfl) rfl ?_
  go_simp
  refine calm_do (.bool true) rfl (by rfl) (fun w' hw' => ?_) ?_
  · go_simp
  go_simp
  refine calm_do (.bool true) rfl (by rfl) (fun w' hw' => ?_) ?_
  · go_simp
  go_simp
  refine calm_move _ rfl (by rfl) rfl ?_
  go_simp
  refine calm_move _ rfl (by rfl) rfl ?_
  go_simp
  refine calm_move _ rfl (by rfl) rfl ?_
  go_simp
  refine calm_do (.bool true) rfl (by rfl) (fun w' hw' => ?_) ?_
  · go_simp
  go_simp
  refine calm_do (.bool true) rfl (by rfl) (fun w' hw' => ?_) ?_
  · go_simp
  go_simp
  refine calm_move _ rfl (by rfl) rfl ?_
  go_simp
  refine calm_do (.agg (bA s)) rfl (by rfl) (fun w' hw' => exec_loadV hw' 2 rfl _ rfl rfl Try.underlying22 Try.szB (bA_size _)) ?_
  go_simp
  refine calm_do (.agg (bA a)) rfl (by rfl) (fun w' hw' => exec_loadV hw' 4 rfl _ rfl rfl Try.underlying22 Try.szB (bA_size _)) ?_
  go_simp
  refine calm_do (.agg (bA b)) rfl (by rfl) (fun w' hw' => exec_loadV hw' 3 rfl _ rfl rfl Try.underlying22 Try.szB (bA_size _)) ?_
  go_simp
  refine calm_nil (hK.out _ ?_)
  clear hK K
  refine av_op (i := 19) (fuel := 17) (by kernel_rfl) rfl (by rfl) (fun K hK => ?_)
  go_simp
  refine (Ds.out w45).mono ?_
  rintro e w48 ⟨rfl, q50⟩
  have V49 := V46.call q50
  refine hK _ _ (V49) ?_
  clear hK K q50
  refine held_reads (rs := [20, 21, 22, 23, 24, 25]) (fuel := 11) (by kernel_rfl) (fun c d v a w h => by cases d <;> exact h) (by kernel_rfl) (V49) (fun K hK => ?_)
  go_simp
  refine calm_do (.bool true) rfl (by rfl) (fun w' hw' => exec_eqlB _ _ rfl true _ _ (dtrue rfl) rfl rfl HL.out.1 HL.out.1) ?_
  go_simp
  refine calm_do (.bool true) rfl (by rfl) (fun w' hw' => ?_) ?_
  · go_simp
  go_simp
  refine calm_move _ rfl (by rfl) rfl ?_
  go_simp
  refine calm_do (.agg (bA d)) rfl (by rfl) (fun w' hw' => exec_loadV hw' 1 rfl _ rfl rfl Try.underlying22 Try.szB (bA_size _)) ?_
  go_simp
  refine calm_do (.agg (bA a)) rfl (by rfl) (fun w' hw' => exec_loadV hw' 4 rfl _ rfl rfl Try.underlying22 Try.szB (bA_size _)) ?_
  go_simp
  refine calm_do (.agg (bA b)) rfl (by rfl) (fun w' hw' => exec_loadV hw' 3 rfl _ rfl rfl Try.underlying22 Try.szB (bA_size _)) ?_
  go_simp
  refine calm_nil (hK.out _ ?_)
  clear hK K
  refine av_op (i := 26) (fuel := 10) (by kernel_rfl) rfl (by rfl) (fun K hK => ?_)
  go_simp
  refine (Dd.out w48).mono ?_
  rintro e w51 ⟨rfl, q53⟩
  have V52 := V49.call q53
  refine hK _ _ (V52) ?_
  clear hK K q53
  refine held_reads (rs := [27, 28, 29, 30, 31, 32]) (fuel := 4) (by kernel_rfl) (fun c d v a w h => by cases d <;> exact h) (by kernel_rfl) (V52) (fun K hK => ?_)
  go_simp
  refine calm_do (.bool true) rfl (by rfl) (fun w' hw' => exec_eqlB _ _ rfl true _ _ (dtrue rfl) rfl rfl HL.out.2.1 HL.out.2.1) ?_
  go_simp
  refine calm_do (.bool true) rfl (by rfl) (fun w' hw' => ?_) ?_
  · go_simp
  go_simp
  refine calm_move _ rfl (by rfl) rfl ?_
  go_simp
  refine calm_do (.agg (bA m)) rfl (by rfl) (fun w' hw' => exec_loadV hw' 0 rfl _ rfl rfl Try.underlying22 Try.szB (bA_size _)) ?_
  go_simp
  refine calm_do (.agg (bA a)) rfl (by rfl) (fun w' hw' => exec_loadV hw' 4 rfl _ rfl rfl Try.underlying22 Try.szB (bA_size _)) ?_
  go_simp
  refine calm_do (.agg (bA b)) rfl (by rfl) (fun w' hw' => exec_loadV hw' 3 rfl _ rfl rfl Try.underlying22 Try.szB (bA_size _)) ?_
  go_simp
  refine calm_nil (hK.out _ ?_)
  clear hK K
  refine av_op (i := 33) (fuel := 3) (by kernel_rfl) rfl (by rfl) (fun K hK => ?_)
  go_simp
  refine (Dm.out w51).mono ?_
  rintro e w54 ⟨rfl, q56⟩
  have V55 := V52.call q56
  refine hK _ _ (V55) ?_
  clear hK K q56
  refine held_reads (rs := [34, 35, 36]) (fuel := 0) (by kernel_rfl) (fun c d v a w h => by cases d <;> exact h) (by kernel_rfl) (V55) (fun K hK => ?_)
  go_simp
  refine calm_do (.bool true) rfl (by rfl) (fun w' hw' => exec_eqlB _ _ rfl true _ _ (dtrue rfl) rfl rfl HL.out.2.2 HL.out.2.2) ?_
  go_simp
  refine calm_do (.bool true) rfl (by rfl) (fun w' hw' => ?_) ?_
  · go_simp
  go_simp
  refine calm_assign _ rfl (by rfl) rfl ?_
  go_simp
  refine calm_nil (hK.out _ ?_)
  clear hK K
  refine wpAnyH_done (by kernel_rfl) ?_ _
  go_wp2_with fail
  go_ret
  exact ⟨rfl, V55.bel⟩
set_option maxHeartbeats 3200000 in
theorem reckons_no1 (a b : Nat) (w : World) (ha : a < 2 ^ 256) (hb : b < 2 ^ 256) (h : ¬ a < fP) : Calls Try.prog 3 #[.agg (bA a), .agg (bA b)] w fun e w' => e = .returned (.bool true) ∧ Below w.heap.size w w' := by
  have Cs : Hid (∀ w, Calls Try.prog 9 #[.agg (bA a), .agg (bA b)] w fun e w' => e = .returned (.tuple #[.agg (bA 0), .int .i64 1]) ∧ Below w.heap.size w w') := fun w => fAdd_no a b w ha hb (fun x => h x.1)
  have Cd : Hid (∀ w, Calls Try.prog 10 #[.agg (bA a), .agg (bA b)] w fun e w' => e = .returned (.tuple #[.agg (bA 0), .int .i64 1]) ∧ Below w.heap.size w w') := fun w => fSub_no a b w ha hb (fun x => h x.1)
  have Cm : Hid (∀ w, Calls Try.prog 11 #[.agg (bA a), .agg (bA b)] w fun e w' => e = .returned (.tuple #[.agg (bA 0), .int .i64 1]) ∧ Below w.heap.size w w') := fun w => fMul_no a b w ha hb (fun x => h x.1)
  have IA : Hid (∀ w, Calls Try.prog 12 #[.agg (bA a)] w fun e w' => e = .returned (.bool false) ∧ Below w.heap.size w w') := fun w => is_no ha h w
  have JA : Hid (∀ w, Calls Try.prog 13 #[.agg (bA a)] w fun e w' => e = .returned (.bool false) ∧ Below w.heap.size w w') := fun w => refIs_no ha h w
  clear ha hb h
  have V0 := Vars.start w
  go_enter Try.func3, Try.ntmps3
  go_wp2_with (first
    | (refine wpList_boxV V0 2 22 _ rfl rfl rfl (bA a) rfl ?_; intro w1 g2 V3)
    | (refine wpList_boxV V3 3 22 _ rfl rfl rfl (bA b) rfl ?_; intro w4 g5 V6)
    | (refine wpList_loadV V6 1 rfl 13 _ rfl rfl rfl rfl Try.underlying22 Try.szB (bA_size _) ?_)
    | (refine wpList_loadV V6 0 rfl 14 _ rfl rfl rfl rfl Try.underlying22 Try.szB (bA_size _) ?_))
  refine (Cs.out w4).mono ?_
  rintro e w7 ⟨rfl, q9⟩
  have V8 := V6.call q9
  clear q9 V6
  go_wp2_with (first
    | (refine wpList_allocV V8 5 22 rfl rfl rfl (bA 0) zeroB ?_; intro w10 g11 V12)
    | (refine wpList_storeV V12 0 rfl _ (.tmp 16) rfl rfl rfl (bA 0) rfl rfl Try.szB (bA_size _) (bA_size _) (bA_one _) ?_; intro w13 V14)
    | (refine wpList_loadV V14 2 rfl 19 _ rfl rfl rfl rfl Try.underlying22 Try.szB (bA_size _) ?_)
    | (refine wpList_loadV V14 1 rfl 20 _ rfl rfl rfl rfl Try.underlying22 Try.szB (bA_size _) ?_))
  refine (Cd.out w13).mono ?_
  rintro e w15 ⟨rfl, q17⟩
  have V16 := V14.call q17
  clear q17 V14
  go_wp2_with (first
    | (refine wpList_allocV V16 7 22 rfl rfl rfl (bA 0) zeroB ?_; intro w18 g19 V20)
    | (refine wpList_storeV V20 0 rfl _ (.tmp 22) rfl rfl rfl (bA 0) rfl rfl Try.szB (bA_size _) (bA_size _) (bA_one _) ?_; intro w21 V22)
    | (refine wpList_loadV V22 3 rfl 25 _ rfl rfl rfl rfl Try.underlying22 Try.szB (bA_size _) ?_)
    | (refine wpList_loadV V22 2 rfl 26 _ rfl rfl rfl rfl Try.underlying22 Try.szB (bA_size _) ?_))
  refine (Cm.out w21).mono ?_
  rintro e w23 ⟨rfl, q25⟩
  have V24 := V22.call q25
  clear q25 V22
  go_wp2_with (first
    | (refine wpList_allocV V24 9 22 rfl rfl rfl (bA 0) zeroB ?_; intro w26 g27 V28)
    | (refine wpList_storeV V28 0 rfl _ (.tmp 28) rfl rfl rfl (bA 0) rfl rfl Try.szB (bA_size _) (bA_size _) (bA_one _) ?_; intro w29 V30))
  refine av_open (fun w' => Vars w w' [⟨g27, 22, bA 0⟩, ⟨g19, 22, bA 0⟩, ⟨g11, 22, bA 0⟩, ⟨g5, 22, bA b⟩, ⟨g2, 22, bA a⟩]) (by kernel_rfl) ?_
  have V31 := V30.drew
  refine held_reads (rs := [0, 2]) (fuel := 3) (by kernel_rfl) (fun c d v a w h => by cases d <;> exact h) (by kernel_rfl) (V31) (fun K hK => ?_)
  refine calm_do (.agg (bA a)) rfl (by rfl) (fun w' hw' => exec_loadV hw' 4 rfl _ rfl rfl Try.underlying22 Try.szB (bA_size _)) ?_
  go_simp
  refine calm_do (.agg (bA a)) rfl (by rfl) (fun w' hw' => exec_loadV hw' 4 rfl _ rfl rfl Try.underlying22 Try.szB (bA_size _)) ?_
  go_simp
  refine calm_nil (hK.out _ ?_)
  clear hK K
  refine av_op (i := 1) (fuel := 2) (by kernel_rfl) rfl (by rfl) (fun K hK => ?_)
  go_simp
  refine (IA.out w29.drew).mono ?_
  rintro e w32 ⟨rfl, q34⟩
  have V33 := V31.call q34
  refine hK _ _ (V33) ?_
  clear hK K q34
  refine av_op (i := 3) (fuel := 1) (by kernel_rfl) rfl (by rfl) (fun K hK => ?_)
  go_simp
  refine (JA.out w32).mono ?_
  rintro e w35 ⟨rfl, q37⟩
  have V36 := V33.call q37
  refine hK _ _ (V36) ?_
  clear hK K q37
  refine held_reads (rs := [4]) (fuel := 0) (by kernel_rfl) (fun c d v a w h => by cases d <;> exact h) (by kernel_rfl) (V36) (fun K hK => ?_)
  go_simp
  refine calm_do (.bool false) rfl (by rfl) (fun w' hw' => ?_) ?_
  · go_simp
  go_simp
  refine calm_nil (hK.out _ ?_)
  clear hK K
  refine wpAnyH_done (by kernel_rfl) ?_ _
  go_wp2_with (refine wpList_loadV V36 4 rfl 35 _ rfl rfl rfl rfl Try.underlying22 Try.szB (bA_size _) ?_)
  refine (JA.out w35).mono ?_
  rintro e w38 ⟨rfl, q40⟩
  have V39 := V36.call q40
  clear q40 V36
  go_wp2_with (first
    | (refine wpList_buildV 43 22 _ rfl rfl rfl (bA 0) bA_num0 ?_)
    | (refine wpList_allocV V39 11 22 rfl rfl rfl (bA 0) zeroB ?_; intro w41 g42 V43)
    | (refine wpList_storeV V43 0 rfl _ (.tmp 43) rfl rfl rfl (bA 0) rfl rfl Try.szB (bA_size _) (bA_size _) (bA_one _) ?_; intro w44 V45))
  refine (awake16_any w44).mono ?_
  rintro e w46 ⟨rfl, q48⟩
  have V47 := V45.call q48
  clear q48 V45
  go_wp2_with (first
    | (refine wpList_loadV V47 3 rfl 60 _ rfl rfl rfl rfl Try.underlying22 Try.szB (bA_size _) ?_)
    | (refine wpList_loadV V47 0 rfl 61 _ rfl rfl rfl rfl Try.underlying22 Try.szB (bA_size _) ?_)
    | (refine wpList_exec rfl (exec_eqlB _ _ rfl true _ _ (dtrue rfl) rfl rfl zero256 zero256) ?_)
    | (refine wpList_loadV V47 2 rfl 65 _ rfl rfl rfl rfl Try.underlying22 Try.szB (bA_size _) ?_)
    | (refine wpList_loadV V47 0 rfl 66 _ rfl rfl rfl rfl Try.underlying22 Try.szB (bA_size _) ?_)
    | (refine wpList_exec rfl (exec_eqlB _ _ rfl true _ _ (dtrue rfl) rfl rfl zero256 zero256) ?_)
    | (refine wpList_loadV V47 1 rfl 70 _ rfl rfl rfl rfl Try.underlying22 Try.szB (bA_size _) ?_)
    | (refine wpList_loadV V47 0 rfl 71 _ rfl rfl rfl rfl Try.underlying22 Try.szB (bA_size _) ?_)
    | (refine wpList_exec rfl (exec_eqlB _ _ rfl true _ _ (dtrue rfl) rfl rfl zero256 zero256) ?_))
  go_ret
  exact ⟨rfl, V47.bel⟩
set_option maxHeartbeats 3200000 in
theorem reckons_no2 (a b : Nat) (w : World) (ha : a < fP) (hb : b < 2 ^ 256) (h : ¬ b < fP) : Calls Try.prog 3 #[.agg (bA a), .agg (bA b)] w fun e w' => e = .returned (.bool true) ∧ Below w.heap.size w w' := by
  have Cs : Hid (∀ w, Calls Try.prog 9 #[.agg (bA a), .agg (bA b)] w fun e w' => e = .returned (.tuple #[.agg (bA 0), .int .i64 1]) ∧ Below w.heap.size w w') := fun w => fAdd_no a b w (elt256 ha) hb (fun x => h x.2)
  have Cd : Hid (∀ w, Calls Try.prog 10 #[.agg (bA a), .agg (bA b)] w fun e w' => e = .returned (.tuple #[.agg (bA 0), .int .i64 1]) ∧ Below w.heap.size w w') := fun w => fSub_no a b w (elt256 ha) hb (fun x => h x.2)
  have Cm : Hid (∀ w, Calls Try.prog 11 #[.agg (bA a), .agg (bA b)] w fun e w' => e = .returned (.tuple #[.agg (bA 0), .int .i64 1]) ∧ Below w.heap.size w w') := fun w => fMul_no a b w (elt256 ha) hb (fun x => h x.2)
  have IA : Hid (∀ w, Calls Try.prog 12 #[.agg (bA a)] w fun e w' => e = .returned (.bool true) ∧ Below w.heap.size w w') := fun w => is_yes ha w
  have JA : Hid (∀ w, Calls Try.prog 13 #[.agg (bA a)] w fun e w' => e = .returned (.bool true) ∧ Below w.heap.size w w') := fun w => refIs_yes ha w
  have JB : Hid (∀ w, Calls Try.prog 13 #[.agg (bA b)] w fun e w' => e = .returned (.bool false) ∧ Below w.heap.size w w') := fun w => refIs_no hb h w
  clear ha hb h
  have V0 := Vars.start w
  go_enter Try.func3, Try.ntmps3
  go_wp2_with (first
    | (refine wpList_boxV V0 2 22 _ rfl rfl rfl (bA a) rfl ?_; intro w1 g2 V3)
    | (refine wpList_boxV V3 3 22 _ rfl rfl rfl (bA b) rfl ?_; intro w4 g5 V6)
    | (refine wpList_loadV V6 1 rfl 13 _ rfl rfl rfl rfl Try.underlying22 Try.szB (bA_size _) ?_)
    | (refine wpList_loadV V6 0 rfl 14 _ rfl rfl rfl rfl Try.underlying22 Try.szB (bA_size _) ?_))
  refine (Cs.out w4).mono ?_
  rintro e w7 ⟨rfl, q9⟩
  have V8 := V6.call q9
  clear q9 V6
  go_wp2_with (first
    | (refine wpList_allocV V8 5 22 rfl rfl rfl (bA 0) zeroB ?_; intro w10 g11 V12)
    | (refine wpList_storeV V12 0 rfl _ (.tmp 16) rfl rfl rfl (bA 0) rfl rfl Try.szB (bA_size _) (bA_size _) (bA_one _) ?_; intro w13 V14)
    | (refine wpList_loadV V14 2 rfl 19 _ rfl rfl rfl rfl Try.underlying22 Try.szB (bA_size _) ?_)
    | (refine wpList_loadV V14 1 rfl 20 _ rfl rfl rfl rfl Try.underlying22 Try.szB (bA_size _) ?_))
  refine (Cd.out w13).mono ?_
  rintro e w15 ⟨rfl, q17⟩
  have V16 := V14.call q17
  clear q17 V14
  go_wp2_with (first
    | (refine wpList_allocV V16 7 22 rfl rfl rfl (bA 0) zeroB ?_; intro w18 g19 V20)
    | (refine wpList_storeV V20 0 rfl _ (.tmp 22) rfl rfl rfl (bA 0) rfl rfl Try.szB (bA_size _) (bA_size _) (bA_one _) ?_; intro w21 V22)
    | (refine wpList_loadV V22 3 rfl 25 _ rfl rfl rfl rfl Try.underlying22 Try.szB (bA_size _) ?_)
    | (refine wpList_loadV V22 2 rfl 26 _ rfl rfl rfl rfl Try.underlying22 Try.szB (bA_size _) ?_))
  refine (Cm.out w21).mono ?_
  rintro e w23 ⟨rfl, q25⟩
  have V24 := V22.call q25
  clear q25 V22
  go_wp2_with (first
    | (refine wpList_allocV V24 9 22 rfl rfl rfl (bA 0) zeroB ?_; intro w26 g27 V28)
    | (refine wpList_storeV V28 0 rfl _ (.tmp 28) rfl rfl rfl (bA 0) rfl rfl Try.szB (bA_size _) (bA_size _) (bA_one _) ?_; intro w29 V30))
  refine av_open (fun w' => Vars w w' [⟨g27, 22, bA 0⟩, ⟨g19, 22, bA 0⟩, ⟨g11, 22, bA 0⟩, ⟨g5, 22, bA b⟩, ⟨g2, 22, bA a⟩]) (by kernel_rfl) ?_
  have V31 := V30.drew
  refine held_reads (rs := [0, 2]) (fuel := 3) (by kernel_rfl) (fun c d v a w h => by cases d <;> exact h) (by kernel_rfl) (V31) (fun K hK => ?_)
  refine calm_do (.agg (bA a)) rfl (by rfl) (fun w' hw' => exec_loadV hw' 4 rfl _ rfl rfl Try.underlying22 Try.szB (bA_size _)) ?_
  go_simp
  refine calm_do (.agg (bA a)) rfl (by rfl) (fun w' hw' => exec_loadV hw' 4 rfl _ rfl rfl Try.underlying22 Try.szB (bA_size _)) ?_
  go_simp
  refine calm_nil (hK.out _ ?_)
  clear hK K
  refine av_op (i := 1) (fuel := 2) (by kernel_rfl) rfl (by rfl) (fun K hK => ?_)
  go_simp
  refine (IA.out w29.drew).mono ?_
  rintro e w32 ⟨rfl, q34⟩
  have V33 := V31.call q34
  refine hK _ _ (V33) ?_
  clear hK K q34
  refine av_op (i := 3) (fuel := 1) (by kernel_rfl) rfl (by rfl) (fun K hK => ?_)
  go_simp
  refine (JA.out w32).mono ?_
  rintro e w35 ⟨rfl, q37⟩
  have V36 := V33.call q37
  refine hK _ _ (V36) ?_
  clear hK K q37
  refine held_reads (rs := [4]) (fuel := 0) (by kernel_rfl) (fun c d v a w h => by cases d <;> exact h) (by kernel_rfl) (V36) (fun K hK => ?_)
  go_simp
  refine calm_do (.bool false) rfl (by rfl) (fun w' hw' => ?_) ?_
  · go_simp
  go_simp
  refine calm_nil (hK.out _ ?_)
  clear hK K
  refine wpAnyH_done (by kernel_rfl) ?_ _
  go_wp2_with (refine wpList_loadV V36 4 rfl 35 _ rfl rfl rfl rfl Try.underlying22 Try.szB (bA_size _) ?_)
  refine (JA.out w35).mono ?_
  rintro e w38 ⟨rfl, q40⟩
  have V39 := V36.call q40
  clear q40 V36
  go_wp2_with (refine wpList_loadV V39 3 rfl 39 _ rfl rfl rfl rfl Try.underlying22 Try.szB (bA_size _) ?_)
  refine (JB.out w38).mono ?_
  rintro e w41 ⟨rfl, q43⟩
  have V42 := V39.call q43
  clear q43 V39
  go_wp2_with (first
    | (refine wpList_buildV 43 22 _ rfl rfl rfl (bA 0) bA_num0 ?_)
    | (refine wpList_allocV V42 11 22 rfl rfl rfl (bA 0) zeroB ?_; intro w44 g45 V46)
    | (refine wpList_storeV V46 0 rfl _ (.tmp 43) rfl rfl rfl (bA 0) rfl rfl Try.szB (bA_size _) (bA_size _) (bA_one _) ?_; intro w47 V48))
  refine (awake16_any w47).mono ?_
  rintro e w49 ⟨rfl, q51⟩
  have V50 := V48.call q51
  clear q51 V48
  go_wp2_with (first
    | (refine wpList_loadV V50 3 rfl 60 _ rfl rfl rfl rfl Try.underlying22 Try.szB (bA_size _) ?_)
    | (refine wpList_loadV V50 0 rfl 61 _ rfl rfl rfl rfl Try.underlying22 Try.szB (bA_size _) ?_)
    | (refine wpList_exec rfl (exec_eqlB _ _ rfl true _ _ (dtrue rfl) rfl rfl zero256 zero256) ?_)
    | (refine wpList_loadV V50 2 rfl 65 _ rfl rfl rfl rfl Try.underlying22 Try.szB (bA_size _) ?_)
    | (refine wpList_loadV V50 0 rfl 66 _ rfl rfl rfl rfl Try.underlying22 Try.szB (bA_size _) ?_)
    | (refine wpList_exec rfl (exec_eqlB _ _ rfl true _ _ (dtrue rfl) rfl rfl zero256 zero256) ?_)
    | (refine wpList_loadV V50 1 rfl 70 _ rfl rfl rfl rfl Try.underlying22 Try.szB (bA_size _) ?_)
    | (refine wpList_loadV V50 0 rfl 71 _ rfl rfl rfl rfl Try.underlying22 Try.szB (bA_size _) ?_)
    | (refine wpList_exec rfl (exec_eqlB _ _ rfl true _ _ (dtrue rfl) rfl rfl zero256 zero256) ?_))
  go_ret
  exact ⟨rfl, V50.bel⟩
theorem walk_FieldReckons (a b : Nat) (w : World) (ha : a < 2 ^ 256) (hb : b < 2 ^ 256) : Calls Try.prog 3 #[.agg (bA a), .agg (bA b)] w fun e w' => e = .returned (.bool true) ∧ Below w.heap.size w w' := by
  by_cases h1 : a < fP
  · by_cases h2 : b < fP
    · exact reckons_yes a b w h1 h2
    · exact reckons_no2 a b w h1 hb h2
  · exact reckons_no1 a b w ha hb h1
set_option maxHeartbeats 3200000 in
theorem inverts_no (a : Nat) (w : World) (ha : a < 2 ^ 256) (h : ¬ a < fP) : Calls Try.prog 4 #[.agg (bA a)] w fun e w' => e = .returned (.bool true) ∧ Below w.heap.size w w' := by
  have CI : Hid (∀ w, Calls Try.prog 18 #[.agg (bA a)] w fun e w' => e = .returned (.tuple #[.agg (bA 0), .int .i64 1]) ∧ Below w.heap.size w w') := fun w => fInv_no a w ha h
  have JA : Hid (∀ w, Calls Try.prog 13 #[.agg (bA a)] w fun e w' => e = .returned (.bool false) ∧ Below w.heap.size w w') := fun w => refIs_no ha h w
  clear ha h
  have V0 := Vars.start w
  go_enter Try.func4, Try.ntmps4
  go_wp2_with (first
    | (refine wpList_boxV V0 1 22 _ rfl rfl rfl (bA a) rfl ?_; intro w1 g2 V3)
    | (refine wpList_loadV V3 0 rfl 6 _ rfl rfl rfl rfl Try.underlying22 Try.szB (bA_size _) ?_))
  refine (CI.out w1).mono ?_
  rintro e w4 ⟨rfl, q6⟩
  have V5 := V3.call q6
  clear q6 V3
  go_wp2_with (first
    | (refine wpList_allocV V5 3 22 rfl rfl rfl (bA 0) zeroB ?_; intro w7 g8 V9)
    | (refine wpList_storeV V9 0 rfl _ (.tmp 8) rfl rfl rfl (bA 0) rfl rfl Try.szB (bA_size _) (bA_size _) (bA_one _) ?_; intro w10 V11)
    | (refine wpList_loadV V11 1 rfl 10 _ rfl rfl rfl rfl Try.underlying22 Try.szB (bA_size _) ?_))
  refine (JA.out w10).mono ?_
  rintro e w12 ⟨rfl, q14⟩
  have V13 := V11.call q14
  clear q14 V11
  go_wp2_with fail
  refine (awake16_any w12).mono ?_
  rintro e w15 ⟨rfl, q17⟩
  have V16 := V13.call q17
  clear q17 V13
  go_wp2_with (first
    | (refine wpList_loadV V16 0 rfl 19 _ rfl rfl rfl rfl Try.underlying22 Try.szB (bA_size _) ?_)
    | (refine wpList_buildV 20 22 _ rfl rfl rfl (bA 0) bA_num0 ?_)
    | (refine wpList_exec rfl (exec_eqlB _ _ rfl true _ _ (dtrue rfl) rfl rfl zero256 zero256) ?_))
  go_ret
  exact ⟨rfl, V16.bel⟩
set_option maxHeartbeats 3200000 in
theorem inverts_zero (w : World) : Calls Try.prog 4 #[.agg (bA 0)] w fun e w' => e = .returned (.bool true) ∧ Below w.heap.size w w' := by
  have CI : Hid (∀ w, Calls Try.prog 18 #[.agg (bA 0)] w fun e w' => e = .returned (.tuple #[.agg (bA 0), .int .i64 20]) ∧ Below w.heap.size w w') := fun w => fInv_zero w
  have JA : Hid (∀ w, Calls Try.prog 13 #[.agg (bA 0)] w fun e w' => e = .returned (.bool true) ∧ Below w.heap.size w w') := fun w => refIs_yes fP_pos w
  have N0 : Hid (∀ w, Calls Try.prog 19 #[.int .u8 0] w fun e w' => e = .returned (.agg (bA 0)) ∧ Below w.heap.size w w') := fun w => num_any 0 (by decide) w
  have V0 := Vars.start w
  go_enter Try.func4, Try.ntmps4
  go_wp2_with (first
    | (refine wpList_boxV V0 1 22 _ rfl rfl rfl (bA 0) rfl ?_; intro w1 g2 V3)
    | (refine wpList_loadV V3 0 rfl 6 _ rfl rfl rfl rfl Try.underlying22 Try.szB (bA_size _) ?_))
  refine (CI.out w1).mono ?_
  rintro e w4 ⟨rfl, q6⟩
  have V5 := V3.call q6
  clear q6 V3
  go_wp2_with (first
    | (refine wpList_allocV V5 3 22 rfl rfl rfl (bA 0) zeroB ?_; intro w7 g8 V9)
    | (refine wpList_storeV V9 0 rfl _ (.tmp 8) rfl rfl rfl (bA 0) rfl rfl Try.szB (bA_size _) (bA_size _) (bA_one _) ?_; intro w10 V11)
    | (refine wpList_loadV V11 1 rfl 10 _ rfl rfl rfl rfl Try.underlying22 Try.szB (bA_size _) ?_))
  refine (JA.out w10).mono ?_
  rintro e w12 ⟨rfl, q14⟩
  have V13 := V11.call q14
  clear q14 V11
  go_wp2_with fail
  refine av_open (fun w' => Vars w w' [⟨g8, 22, bA 0⟩, ⟨g2, 22, bA 0⟩]) (by kernel_rfl) ?_
  have V15 := V13.drew
  refine held_reads (rs := [0]) (fuel := 2) (by kernel_rfl) (fun c d v a w h => by cases d <;> exact h) (by kernel_rfl) (V15) (fun K hK => ?_)
  refine calm_do (.agg (bA 0)) rfl (by rfl) (fun w' hw' => exec_loadV hw' 1 rfl _ rfl rfl Try.underlying22 Try.szB (bA_size _)) ?_
  go_simp
  refine calm_nil (hK.out _ ?_)
  clear hK K
  refine av_op (i := 1) (fuel := 1) (by kernel_rfl) rfl (by rfl) (fun K hK => ?_)
  go_simp
  refine (N0.out w12.drew).mono ?_
  rintro e w16 ⟨rfl, q18⟩
  have V17 := V15.call q18
  refine hK _ _ (V17) ?_
  clear hK K q18
  refine held_reads (rs := [2]) (fuel := 0) (by kernel_rfl) (fun c d v a w h => by cases d <;> exact h) (by kernel_rfl) (V17) (fun K hK => ?_)
  go_simp
  refine calm_do (.bool true) rfl (by rfl) (fun w' hw' => exec_eqlB _ _ rfl true _ _ (dtrue rfl) rfl rfl zero256 zero256) ?_
  go_simp
  refine calm_nil (hK.out _ ?_)
  clear hK K
  refine wpAnyH_done (by kernel_rfl) ?_ _
  go_wp2_with fail
  refine (awake16_any w16).mono ?_
  rintro e w19 ⟨rfl, q21⟩
  have V20 := V17.call q21
  clear q21 V17
  go_wp2_with (first
    | (refine wpList_loadV V20 0 rfl 32 _ rfl rfl rfl rfl Try.underlying22 Try.szB (bA_size _) ?_)
    | (refine wpList_buildV 33 22 _ rfl rfl rfl (bA 0) bA_num0 ?_)
    | (refine wpList_exec rfl (exec_eqlB _ _ rfl true _ _ (dtrue rfl) rfl rfl zero256 zero256) ?_))
  go_ret
  exact ⟨rfl, V20.bel⟩
set_option maxHeartbeats 3200000 in
theorem inverts_yes (a : Nat) (w : World) (ha : a < fP) (h : a ≠ 0) : Calls Try.prog 4 #[.agg (bA a)] w fun e w' => e = .returned (.bool true) ∧ Below w.heap.size w w' := by
  have CI : Hid (∀ w, Calls Try.prog 18 #[.agg (bA a)] w fun e w' => e = .returned (.tuple #[.agg (bA (a ^ (fP - 2) % fP)), .int .i64 0]) ∧ Below w.heap.size w w') := fun w => fInv_yes a w ha h
  have JA : Hid (∀ w, Calls Try.prog 13 #[.agg (bA a)] w fun e w' => e = .returned (.bool true) ∧ Below w.heap.size w w') := fun w => refIs_yes ha w
  have JI : Hid (∀ w, Calls Try.prog 13 #[.agg (bA (a ^ (fP - 2) % fP))] w fun e w' => e = .returned (.bool true) ∧ Below w.heap.size w w') := fun w => refIs_yes (mod_fP _) w
  have N0 : Hid (∀ w, Calls Try.prog 19 #[.int .u8 0] w fun e w' => e = .returned (.agg (bA 0)) ∧ Below w.heap.size w w') := fun w => num_any 0 (by decide) w
  have N1 : Hid (∀ w, Calls Try.prog 19 #[.int .u8 1] w fun e w' => e = .returned (.agg (bA 1)) ∧ Below w.heap.size w w') := fun w => num_any 1 (by decide) w
  have h1 : a % fP ≠ 0 := by rw [Nat.mod_eq_of_lt ha]; exact h
  have CM : Hid (∀ w, Calls Try.prog 17 #[.agg (bA a), .agg (bA (a ^ (fP - 2) % fP))] w fun e w' => e = .returned (.agg (bA 1)) ∧ Below w.heap.size w w') := fun w => by have := refMul_any a (a ^ (fP - 2) % fP) w ha (mod_fP _); rwa [inv_mul a h1] at this
  have HE : Hid (decide (a = 0) = false) := dfalse h
  have HL : Hid (a < 2 ^ 256) := elt256 ha
  generalize a ^ (fP - 2) % fP = i at *
  clear ha h h1
  have V0 := Vars.start w
  go_enter Try.func4, Try.ntmps4
  go_wp2_with (first
    | (refine wpList_boxV V0 1 22 _ rfl rfl rfl (bA a) rfl ?_; intro w1 g2 V3)
    | (refine wpList_loadV V3 0 rfl 6 _ rfl rfl rfl rfl Try.underlying22 Try.szB (bA_size _) ?_))
  refine (CI.out w1).mono ?_
  rintro e w4 ⟨rfl, q6⟩
  have V5 := V3.call q6
  clear q6 V3
  go_wp2_with (first
    | (refine wpList_allocV V5 3 22 rfl rfl rfl (bA 0) zeroB ?_; intro w7 g8 V9)
    | (refine wpList_storeV V9 0 rfl _ (.tmp 8) rfl rfl rfl (bA i) rfl rfl Try.szB (bA_size _) (bA_size _) (bA_one _) ?_; intro w10 V11)
    | (refine wpList_loadV V11 1 rfl 10 _ rfl rfl rfl rfl Try.underlying22 Try.szB (bA_size _) ?_))
  refine (JA.out w10).mono ?_
  rintro e w12 ⟨rfl, q14⟩
  have V13 := V11.call q14
  clear q14 V11
  go_wp2_with fail
  refine av_open (fun w' => Vars w w' [⟨g8, 22, bA i⟩, ⟨g2, 22, bA a⟩]) (by kernel_rfl) ?_
  have V15 := V13.drew
  refine held_reads (rs := [0]) (fuel := 2) (by kernel_rfl) (fun c d v a w h => by cases d <;> exact h) (by kernel_rfl) (V15) (fun K hK => ?_)
  refine calm_do (.agg (bA a)) rfl (by rfl) (fun w' hw' => exec_loadV hw' 1 rfl _ rfl rfl Try.underlying22 Try.szB (bA_size _)) ?_
  go_simp
  refine calm_nil (hK.out _ ?_)
  clear hK K
  refine av_op (i := 1) (fuel := 1) (by kernel_rfl) rfl (by rfl) (fun K hK => ?_)
  go_simp
  refine (N0.out w12.drew).mono ?_
  rintro e w16 ⟨rfl, q18⟩
  have V17 := V15.call q18
  refine hK _ _ (V17) ?_
  clear hK K q18
  refine held_reads (rs := [2]) (fuel := 0) (by kernel_rfl) (fun c d v a w h => by cases d <;> exact h) (by kernel_rfl) (V17) (fun K hK => ?_)
  go_simp
  refine calm_do (.bool false) rfl (by rfl) (fun w' hw' => exec_eqlB _ _ rfl false _ _ HE.out rfl rfl HL.out zero256) ?_
  go_simp
  refine calm_nil (hK.out _ ?_)
  clear hK K
  refine wpAnyH_done (by kernel_rfl) ?_ _
  go_wp2_with fail
  refine (awake16_any w16).mono ?_
  rintro e w19 ⟨rfl, q21⟩
  have V20 := V17.call q21
  clear q21 V17
  go_wp2_with (refine wpList_loadV V20 0 rfl 42 _ rfl rfl rfl rfl Try.underlying22 Try.szB (bA_size _) ?_)
  refine (JI.out w19).mono ?_
  rintro e w22 ⟨rfl, q24⟩
  have V23 := V20.call q24
  clear q24 V20
  go_wp2_with (first
    | (refine wpList_loadV V23 1 rfl 46 _ rfl rfl rfl rfl Try.underlying22 Try.szB (bA_size _) ?_)
    | (refine wpList_loadV V23 0 rfl 47 _ rfl rfl rfl rfl Try.underlying22 Try.szB (bA_size _) ?_))
  refine (CM.out w22).mono ?_
  rintro e w25 ⟨rfl, q27⟩
  have V26 := V23.call q27
  clear q27 V23
  go_wp2_with fail
  refine (N1.out w25).mono ?_
  rintro e w28 ⟨rfl, q30⟩
  have V29 := V26.call q30
  clear q30 V26
  go_wp2_with (refine wpList_exec rfl (exec_eqlB _ _ rfl true _ _ (dtrue rfl) rfl rfl (by decide) (by decide)) ?_)
  go_ret
  exact ⟨rfl, V29.bel⟩
theorem walk_FieldInverts (a : Nat) (w : World) (ha : a < 2 ^ 256) : Calls Try.prog 4 #[.agg (bA a)] w fun e w' => e = .returned (.bool true) ∧ Below w.heap.size w w' := by
  by_cases h1 : a < fP
  · by_cases h0 : a = 0
    · subst h0; exact inverts_zero w
    · exact inverts_yes a w h1 h0
  · exact inverts_no a w ha h1
end Go.Proofs.Ytejbpcdfmlkemaa.N
