/-
  Layer 18's laws: Laws.
-/
import Derived.Test.YtgofapndgjfnhaaDoorScalarFace
namespace Go.Proofs.YtgofapndgjfnhaaDoor.N
open Go.RowKit
set_option linter.unusedVariables false
set_option maxRecDepth 8192

set_option maxHeartbeats 800000 in
theorem laws18_long (x y : Nat) (pa : Option Addr) (la ka : Nat) (w : World) (hl : 100 < la) : Calls Tryd.prog 4 #[.slice pa la ka, .agg (bA x), .agg (bA y)] w fun e w' => e = .returned (.bool true) ∧ Below w.heap.size w w' := by
  have hl9 : (100 : Int) < (la : Int) := by omega
  have V0 := Vars.start w
  go_enter Tryd.func4, Tryd.ntmps4
  go_wp2_with (first
    | (refine wpList_boxV V0 4 23 _ rfl rfl rfl (bA x) rfl ?_; intro w1 g2 V3)
    | (refine wpList_boxV V3 5 23 _ rfl rfl rfl (bA y) rfl ?_; intro w4 g5 V6))
  go_ret
  exact ⟨rfl, V6.bel⟩
set_option maxHeartbeats 6400000 in
theorem laws18_core (a : List Nat) (da : Dig a) (pa : Option Addr) (la ka : Nat) (x y : Nat) (hx : x < 2 ^ 256) (hy : y < 2 ^ 256) (w : World) (ho : OAt w) (ra : Row .u8 w pa la ka (nI a)) (h0 : la ≤ 100) : Calls Tryd.prog 4 #[.slice pa la ka, .agg (bA x), .agg (bA y)] w fun e w' => e = .returned (.bool true) ∧ Below w.heap.size w w' := by
  have HB : Hid (∀ w', OAt w' → Below w.heap.size w w' → Calls Tryd.prog 8 #[.slice pa la ka] w' fun e w'' => e = .returned (.agg (bA (vL a % oL))) ∧ Below w'.heap.size w' w'') := fun w' ho q => reduce_any a da pa la ka w' ho (ra.below q (Nat.le_refl _)) (by omega)
  obtain ⟨r, hr⟩ : ∃ r, r = vL a % oL := ⟨_, rfl⟩
  have hrl : r < oL := by rw [hr]; exact mod_oL _
  have hr2 : r < 2 ^ 256 := Nat.lt_trans hrl oL_lt256
  rw [← hr] at HB
  have HX : Hid (∀ (w : World) (g : Nat), OAt w → w.heap[g]? = some (.cells (bA x) 23 (0, 0)) → Calls Tryd.prog 8 #[.slice (some ⟨g, 0, none⟩) 32 32] w fun e w' => e = .returned (.agg (bA (x % oL))) ∧ Below w.heap.size w w') := fun w g ho hg => by
    have h := reduce_any (digL x 32) (digL_dig _ _) (some ⟨g, 0, none⟩) 32 32 w ho (row_bA hg) (by decide)
    rw [vB hx] at h
    exact h
  have HY : Hid (∀ (w : World) (g : Nat), OAt w → w.heap[g]? = some (.cells (bA y) 23 (0, 0)) → Calls Tryd.prog 8 #[.slice (some ⟨g, 0, none⟩) 32 32] w fun e w' => e = .returned (.agg (bA (y % oL))) ∧ Below w.heap.size w w') := fun w g ho hg => by
    have h := reduce_any (digL y 32) (digL_dig _ _) (some ⟨g, 0, none⟩) 32 32 w ho (row_bA hg) (by decide)
    rw [vB hy] at h
    exact h
  have HRR : Hid (∀ (w : World) (g : Nat), OAt w → w.heap[g]? = some (.cells (bA r) 23 (0, 0)) → Calls Tryd.prog 8 #[.slice (some ⟨g, 0, none⟩) 32 32] w fun e w' => e = .returned (.agg (bA r)) ∧ Below w.heap.size w w') := fun w g ho hg => by
    have h := reduce_any (digL r 32) (digL_dig _ _) (some ⟨g, 0, none⟩) 32 32 w ho (row_bA hg) (by decide)
    rw [vB hr2, Nat.mod_eq_of_lt hrl] at h
    exact h
  have HI : Hid (∀ w, OAt w → Calls Tryd.prog 12 #[.agg (bA r)] w fun e w' => e = .returned (.bool true) ∧ Below w.heap.size w w') := fun w ho => by have h := is18_any r w ho hr2; rw [decide_eq_true hrl] at h; exact h
  have M1 : Hid (∀ w, OAt w → Calls Tryd.prog 14 #[.agg (bA x), .agg (bA y), .agg (bA r)] w fun e w' => e = .returned (.agg (bA ((x * y + r) % oL))) ∧ Below w.heap.size w w') := fun w ho => mulAdd_any x y r w ho hx hy hr2
  have M2 : Hid (∀ w, OAt w → Calls Tryd.prog 14 #[.agg (bA (x % oL)), .agg (bA (y % oL)), .agg (bA r)] w fun e w' => e = .returned (.agg (bA ((x * y + r) % oL))) ∧ Below w.heap.size w w') := fun w ho => by have h := mulAdd_any (x % oL) (y % oL) r w ho (mod_oL256 _) (mod_oL256 _) hr2; rw [mulAdd_l, mulAdd_m] at h; exact h
  have M3 : Hid (∀ w, OAt w → Calls Tryd.prog 14 #[.agg (bA y), .agg (bA x), .agg (bA r)] w fun e w' => e = .returned (.agg (bA ((x * y + r) % oL))) ∧ Below w.heap.size w w') := fun w ho => by have h := mulAdd_any y x r w ho hy hx hr2; rw [Nat.mul_comm y x] at h; exact h
  have M4 : Hid (∀ w, OAt w → Calls Tryd.prog 14 #[.agg (bA x), .agg (bA 1), .agg (bA 0)] w fun e w' => e = .returned (.agg (bA (x % oL))) ∧ Below w.heap.size w w') := fun w ho => by have h := mulAdd_any x 1 0 w ho hx (n256 (by decide)) zero18; rw [Nat.mul_one, Nat.add_zero] at h; exact h
  have M5 : Hid (∀ w, OAt w → Calls Tryd.prog 14 #[.agg (bA x), .agg (bA y), .agg (bA x)] w fun e w' => e = .returned (.agg (bA ((x * y + x) % oL))) ∧ Below w.heap.size w w') := fun w ho => mulAdd_any x y x w ho hx hy hx
  have HI2 : Hid (∀ w, OAt w → Calls Tryd.prog 12 #[.agg (bA ((x * y + x) % oL))] w fun e w' => e = .returned (.bool true) ∧ Below w.heap.size w w') := fun w ho => by have h := is18_any _ w ho (mod_oL256 (x * y + x)); rw [decide_eq_true (mod_oL _)] at h; exact h
  have L1 : Hid (r < 2 ^ 256) := hr2
  have L2 : Hid ((x * y + r) % oL < 2 ^ 256) := mod_oL256 _
  have L3 : Hid (x % oL < 2 ^ 256) := mod_oL256 _
  have hl9 : ¬ (100 : Int) < (la : Int) := by omega
  clear hr hrl hr2 hx hy da ra h0
  generalize (x * y + r) % oL = m at *
  generalize (x * y + x) % oL = n at *
  generalize x % oL = xl at *
  generalize y % oL = yl at *
  have V0 := Vars.start w
  go_enter Tryd.func4, Tryd.ntmps4
  go_wp2_with (first
    | (refine wpList_boxV V0 4 23 _ rfl rfl rfl (bA x) rfl ?_; intro w1 g2 V3)
    | (refine wpList_boxV V3 5 23 _ rfl rfl rfl (bA y) rfl ?_; intro w4 g5 V6))
  refine (HB.out w4 (ho.of V6) V6.bel).mono ?_
  rintro e w7 ⟨rfl, q9⟩
  have V8 := V6.call q9
  clear q9 V6
  go_wp2_with (first
    | (refine wpList_allocV V8 7 23 rfl rfl rfl (bA 0) zeroB ?_; intro w10 g11 V12)
    | (refine wpList_storeV V12 0 rfl _ (.tmp 14) rfl rfl rfl (bA r) rfl rfl Tryd.szB (bA_size _) (bA_size _) (bA_one _) ?_; intro w13 V14)
    | (refine wpList_exec rfl (exec_sliceB V14 2 rfl _ rfl rfl) ?_))
  refine (HX.out w13 g2 (ho.of V14) (V14.at 2 rfl)).mono ?_
  rintro e w15 ⟨rfl, q17⟩
  have V16 := V14.call q17
  clear q17 V14
  go_wp2_with (first
    | (refine wpList_allocV V16 8 23 rfl rfl rfl (bA 0) zeroB ?_; intro w18 g19 V20)
    | (refine wpList_storeV V20 0 rfl _ (.tmp 16) rfl rfl rfl (bA xl) rfl rfl Tryd.szB (bA_size _) (bA_size _) (bA_one _) ?_; intro w21 V22)
    | (refine wpList_exec rfl (exec_sliceB V22 2 rfl _ rfl rfl) ?_))
  refine (HY.out w21 g5 (ho.of V22) (V22.at 2 rfl)).mono ?_
  rintro e w23 ⟨rfl, q25⟩
  have V24 := V22.call q25
  clear q25 V22
  go_wp2_with (first
    | (refine wpList_allocV V24 9 23 rfl rfl rfl (bA 0) zeroB ?_; intro w26 g27 V28)
    | (refine wpList_storeV V28 0 rfl _ (.tmp 18) rfl rfl rfl (bA yl) rfl rfl Tryd.szB (bA_size _) (bA_size _) (bA_one _) ?_; intro w29 V30))
  refine av_open (fun w' => Vars w w' [⟨g27, 23, bA yl⟩, ⟨g19, 23, bA xl⟩, ⟨g11, 23, bA r⟩, ⟨g5, 23, bA y⟩, ⟨g2, 23, bA x⟩]) (by kernel_rfl) ?_
  have V31 := V30.drew
  refine av_op (i := 0) (fuel := 48) (by kernel_rfl) rfl (by rfl) (fun K hK => ?_)
  go_simp
  refine (awake18_any w29.drew (ho.of V31)).mono ?_
  rintro e w32 ⟨rfl, q34⟩
  have V33 := V31.call q34
  refine hK _ _ (V33) ?_
  clear hK K q34
  refine held_reads (rs := [1, 2]) (fuel := 46) (by kernel_rfl) (fun c d v a w h => by cases d <;> exact h) (by kernel_rfl) (V33) (fun K hK => ?_)
  go_simp
  refine calm_move _ rfl (by rfl) rfl ?_
  go_simp
  refine calm_do (.agg (bA r)) rfl (by rfl) (fun w' hw' => exec_loadV hw' 2 rfl _ rfl rfl Tryd.underlying23 Tryd.szB (bA_size _)) ?_
  go_simp
  refine calm_nil (hK.out _ ?_)
  clear hK K
  refine av_op (i := 3) (fuel := 45) (by kernel_rfl) rfl (by rfl) (fun K hK => ?_)
  go_simp
  refine (HI.out w32 (ho.of V33)).mono ?_
  rintro e w35 ⟨rfl, q37⟩
  have V36 := V33.call q37
  refine hK _ _ (V36) ?_
  clear hK K q37
  refine held_reads (rs := [4, 5, 6, 8]) (fuel := 41) (by kernel_rfl) (fun c d v a w h => by cases d <;> exact h) (by kernel_rfl) (V36) (fun K hK => ?_)
  go_simp
  refine calm_do (.bool true) rfl (by rfl) (fun w' hw' => ?_) ?_
  · go_simp
  go_simp
  refine calm_move _ rfl (by rfl) rfl ?_
  go_simp
  refine calm_do (.slice (some ⟨g11, 0, none⟩) 32 32) rfl (by rfl) (fun w' hw' => exec_sliceB hw' 2 rfl _ rfl rfl) ?_
  go_simp
  refine calm_do (.agg (bA r)) rfl (by rfl) (fun w' hw' => exec_loadV hw' 2 rfl _ rfl rfl Tryd.underlying23 Tryd.szB (bA_size _)) ?_
  go_simp
  refine calm_nil (hK.out _ ?_)
  clear hK K
  refine av_op (i := 7) (fuel := 40) (by kernel_rfl) rfl (by rfl) (fun K hK => ?_)
  go_simp
  refine (HRR.out w35 g11 (ho.of V36) (V36.at 2 rfl)).mono ?_
  rintro e w38 ⟨rfl, q40⟩
  have V39 := V36.call q40
  refine hK _ _ (V39) ?_
  clear hK K q40
  refine held_reads (rs := [9, 10, 11, 12, 13, 14, 16, 17, 18]) (fuel := 31) (by kernel_rfl) (fun c d v a w h => by cases d <;> exact h) (by kernel_rfl) (V39) (fun K hK => ?_)
  go_simp
  refine calm_do (.bool true) rfl (by rfl) (fun w' hw' => exec_eqlB _ _ rfl true _ _ (decide_eq_true rfl) rfl rfl L1.out L1.out) ?_
  go_simp
  refine calm_do (.bool true) rfl (by rfl) (fun w' hw' => ?_) ?_
  · go_simp
  go_simp
  refine calm_move _ rfl (by rfl) rfl ?_
  go_simp
  refine calm_do (.agg (bA x)) rfl (by rfl) (fun w' hw' => exec_loadV hw' 4 rfl _ rfl rfl Tryd.underlying23 Tryd.szB (bA_size _)) ?_
  go_simp
  refine calm_do (.agg (bA y)) rfl (by rfl) (fun w' hw' => exec_loadV hw' 3 rfl _ rfl rfl Tryd.underlying23 Tryd.szB (bA_size _)) ?_
  go_simp
  refine calm_do (.agg (bA r)) rfl (by rfl) (fun w' hw' => exec_loadV hw' 2 rfl _ rfl rfl Tryd.underlying23 Tryd.szB (bA_size _)) ?_
  go_simp
  refine calm_do (.agg (bA xl)) rfl (by rfl) (fun w' hw' => exec_loadV hw' 1 rfl _ rfl rfl Tryd.underlying23 Tryd.szB (bA_size _)) ?_
  go_simp
  refine calm_do (.agg (bA yl)) rfl (by rfl) (fun w' hw' => exec_loadV hw' 0 rfl _ rfl rfl Tryd.underlying23 Tryd.szB (bA_size _)) ?_
  go_simp
  refine calm_do (.agg (bA r)) rfl (by rfl) (fun w' hw' => exec_loadV hw' 2 rfl _ rfl rfl Tryd.underlying23 Tryd.szB (bA_size _)) ?_
  go_simp
  refine calm_nil (hK.out _ ?_)
  clear hK K
  refine av_op (i := 15) (fuel := 30) (by kernel_rfl) rfl (by rfl) (fun K hK => ?_)
  go_simp
  refine (M1.out w38 (ho.of V39)).mono ?_
  rintro e w41 ⟨rfl, q43⟩
  have V42 := V39.call q43
  refine hK _ _ (V42) ?_
  clear hK K q43
  refine av_op (i := 19) (fuel := 29) (by kernel_rfl) rfl (by rfl) (fun K hK => ?_)
  go_simp
  refine (M2.out w41 (ho.of V42)).mono ?_
  rintro e w44 ⟨rfl, q46⟩
  have V45 := V42.call q46
  refine hK _ _ (V45) ?_
  clear hK K q46
  refine held_reads (rs := [20, 21, 22, 23, 24, 25, 27, 28, 29]) (fuel := 20) (by kernel_rfl) (fun c d v a w h => by cases d <;> exact h) (by kernel_rfl) (V45) (fun K hK => ?_)
  go_simp
  refine calm_do (.bool true) rfl (by rfl) (fun w' hw' => exec_eqlB _ _ rfl true _ _ (decide_eq_true rfl) rfl rfl L2.out L2.out) ?_
  go_simp
  refine calm_do (.bool true) rfl (by rfl) (fun w' hw' => ?_) ?_
  · go_simp
  go_simp
  refine calm_move _ rfl (by rfl) rfl ?_
  go_simp
  refine calm_do (.agg (bA x)) rfl (by rfl) (fun w' hw' => exec_loadV hw' 4 rfl _ rfl rfl Tryd.underlying23 Tryd.szB (bA_size _)) ?_
  go_simp
  refine calm_do (.agg (bA y)) rfl (by rfl) (fun w' hw' => exec_loadV hw' 3 rfl _ rfl rfl Tryd.underlying23 Tryd.szB (bA_size _)) ?_
  go_simp
  refine calm_do (.agg (bA r)) rfl (by rfl) (fun w' hw' => exec_loadV hw' 2 rfl _ rfl rfl Tryd.underlying23 Tryd.szB (bA_size _)) ?_
  go_simp
  refine calm_do (.agg (bA y)) rfl (by rfl) (fun w' hw' => exec_loadV hw' 3 rfl _ rfl rfl Tryd.underlying23 Tryd.szB (bA_size _)) ?_
  go_simp
  refine calm_do (.agg (bA x)) rfl (by rfl) (fun w' hw' => exec_loadV hw' 4 rfl _ rfl rfl Tryd.underlying23 Tryd.szB (bA_size _)) ?_
  go_simp
  refine calm_do (.agg (bA r)) rfl (by rfl) (fun w' hw' => exec_loadV hw' 2 rfl _ rfl rfl Tryd.underlying23 Tryd.szB (bA_size _)) ?_
  go_simp
  refine calm_nil (hK.out _ ?_)
  clear hK K
  refine av_op (i := 26) (fuel := 19) (by kernel_rfl) rfl (by rfl) (fun K hK => ?_)
  go_simp
  refine (M1.out w44 (ho.of V45)).mono ?_
  rintro e w47 ⟨rfl, q49⟩
  have V48 := V45.call q49
  refine hK _ _ (V48) ?_
  clear hK K q49
  refine av_op (i := 30) (fuel := 18) (by kernel_rfl) rfl (by rfl) (fun K hK => ?_)
  go_simp
  refine (M3.out w47 (ho.of V48)).mono ?_
  rintro e w50 ⟨rfl, q52⟩
  have V51 := V48.call q52
  refine hK _ _ (V51) ?_
  clear hK K q52
  refine held_reads (rs := [31, 32, 33, 34, 38]) (fuel := 13) (by kernel_rfl) (fun c d v a w h => by cases d <;> exact h) (by kernel_rfl) (V51) (fun K hK => ?_)
  go_simp
  refine calm_do (.bool true) rfl (by rfl) (fun w' hw' => exec_eqlB _ _ rfl true _ _ (decide_eq_true rfl) rfl rfl L2.out L2.out) ?_
  go_simp
  refine calm_do (.bool true) rfl (by rfl) (fun w' hw' => ?_) ?_
  · go_simp
  go_simp
  refine calm_move _ rfl (by rfl) rfl ?_
  go_simp
  refine calm_do (.agg (bA x)) rfl (by rfl) (fun w' hw' => exec_loadV hw' 4 rfl _ rfl rfl Tryd.underlying23 Tryd.szB (bA_size _)) ?_
  go_simp
  refine calm_do (.agg (bA xl)) rfl (by rfl) (fun w' hw' => exec_loadV hw' 1 rfl _ rfl rfl Tryd.underlying23 Tryd.szB (bA_size _)) ?_
  go_simp
  refine calm_nil (hK.out _ ?_)
  clear hK K
  refine av_op (i := 35) (fuel := 12) (by kernel_rfl) rfl (by rfl) (fun K hK => ?_)
  go_simp
  refine (num18_any 1 (by decide) w50).mono ?_
  rintro e w53 ⟨rfl, q55⟩
  have V54 := V51.call q55
  refine hK _ _ (V54) ?_
  clear hK K q55
  refine av_op (i := 36) (fuel := 11) (by kernel_rfl) rfl (by rfl) (fun K hK => ?_)
  go_simp
  refine (num18_any 0 (by decide) w53).mono ?_
  rintro e w56 ⟨rfl, q58⟩
  have V57 := V54.call q58
  refine hK _ _ (V57) ?_
  clear hK K q58
  refine av_op (i := 37) (fuel := 10) (by kernel_rfl) rfl (by rfl) (fun K hK => ?_)
  go_simp
  refine (M4.out w56 (ho.of V57)).mono ?_
  rintro e w59 ⟨rfl, q61⟩
  have V60 := V57.call q61
  refine hK _ _ (V60) ?_
  clear hK K q61
  refine held_reads (rs := [39, 40, 41, 42, 43, 44]) (fuel := 4) (by kernel_rfl) (fun c d v a w h => by cases d <;> exact h) (by kernel_rfl) (V60) (fun K hK => ?_)
  go_simp
  refine calm_do (.bool true) rfl (by rfl) (fun w' hw' => exec_eqlB _ _ rfl true _ _ (decide_eq_true rfl) rfl rfl L3.out L3.out) ?_
  go_simp
  refine calm_do (.bool true) rfl (by rfl) (fun w' hw' => ?_) ?_
  · go_simp
  go_simp
  refine calm_move _ rfl (by rfl) rfl ?_
  go_simp
  refine calm_do (.agg (bA x)) rfl (by rfl) (fun w' hw' => exec_loadV hw' 4 rfl _ rfl rfl Tryd.underlying23 Tryd.szB (bA_size _)) ?_
  go_simp
  refine calm_do (.agg (bA y)) rfl (by rfl) (fun w' hw' => exec_loadV hw' 3 rfl _ rfl rfl Tryd.underlying23 Tryd.szB (bA_size _)) ?_
  go_simp
  refine calm_do (.agg (bA x)) rfl (by rfl) (fun w' hw' => exec_loadV hw' 4 rfl _ rfl rfl Tryd.underlying23 Tryd.szB (bA_size _)) ?_
  go_simp
  refine calm_nil (hK.out _ ?_)
  clear hK K
  refine av_op (i := 45) (fuel := 3) (by kernel_rfl) rfl (by rfl) (fun K hK => ?_)
  go_simp
  refine (M5.out w59 (ho.of V60)).mono ?_
  rintro e w62 ⟨rfl, q64⟩
  have V63 := V60.call q64
  refine hK _ _ (V63) ?_
  clear hK K q64
  refine av_op (i := 46) (fuel := 2) (by kernel_rfl) rfl (by rfl) (fun K hK => ?_)
  go_simp
  refine (HI2.out w62 (ho.of V63)).mono ?_
  rintro e w65 ⟨rfl, q67⟩
  have V66 := V63.call q67
  refine hK _ _ (V66) ?_
  clear hK K q67
  refine held_reads (rs := [47, 48]) (fuel := 0) (by kernel_rfl) (fun c d v a w h => by cases d <;> exact h) (by kernel_rfl) (V66) (fun K hK => ?_)
  go_simp
  refine calm_do (.bool true) rfl (by rfl) (fun w' hw' => ?_) ?_
  · go_simp
  go_simp
  refine calm_assign _ rfl (by rfl) rfl ?_
  go_simp
  refine calm_nil (hK.out _ ?_)
  clear hK K
  refine wpAnyH_done (by kernel_rfl) ?_ _
  go_wp2_with fail
  go_ret
  exact ⟨rfl, V66.bel⟩
theorem walk_ScalarLaws (a : List Nat) (da : Dig a) (pa : Option Addr) (la ka : Nat) (x y : Nat) (hx : x < 2 ^ 256) (hy : y < 2 ^ 256) (w : World) (ho : OAt w) (ra : Row .u8 w pa la ka (nI a)) : Calls Tryd.prog 4 #[.slice pa la ka, .agg (bA x), .agg (bA y)] w fun e w' => e = .returned (.bool true) ∧ Below w.heap.size w w' := by
  by_cases h0 : la ≤ 100
  · exact laws18_core a da pa la ka x y hx hy w ho ra h0
  · exact laws18_long x y pa la ka w (by omega)
end Go.Proofs.YtgofapndgjfnhaaDoor.N
