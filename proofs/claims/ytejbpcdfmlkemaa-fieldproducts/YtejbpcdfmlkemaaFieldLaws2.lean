/-
  Layer 16's laws: Roots, Squares.
-/
import Derived.Test.YtejbpcdfmlkemaaFieldLaws
import Derived.Deep.CutRange
namespace Go.Proofs.Ytejbpcdfmlkemaa.N
open Go.RowKit
set_option linter.unusedVariables false
set_option maxRecDepth 8192

theorem twice_lt (a : Nat) : (a + a) % fP < fP := mod_fP _
theorem twice_root {a : Nat} : HasRoot ((a + a) % fP) ↔ HasRoot (2 * a) := by rw [hasRoot_mod, Nat.two_mul]
theorem byte0 {r : Nat} : r / 256 ^ 0 % 256 % 2 = r % 2 := by rw [Nat.pow_zero, Nat.div_one, Nat.mod_mod_of_dvd _ (by decide)]
theorem cell0 {w : World} {g : Nat} {T : TypeId} {a : Nat} (h : w.heap[g]? = some (.cells (bA a) T (0, 0))) : w.cell? ⟨g, 0, none⟩ = some (.int .u8 ((a / 256 ^ 0 % 256 : Nat) : Int)) := by
  rw [cell_of_row w g _ _ _ _ h, bA_get a 0 (by decide)]
set_option maxHeartbeats 3200000 in
theorem roots_no (a : Nat) (w : World) (ha : a < 2 ^ 256) (h : ¬ a < fP) : Calls Try.prog 5 #[.agg (bA a)] w fun e w' => e = .returned (.bool true) ∧ Below w.heap.size w w' := by
  have CR : Hid (∀ w, Calls Try.prog 20 #[.agg (bA a)] w fun e w' => e = .returned (.tuple #[.agg (bA 0), .bool false, .int .i64 1]) ∧ Below w.heap.size w w') := fun w => fRoot_no a w ha h
  have JA : Hid (∀ w, Calls Try.prog 13 #[.agg (bA a)] w fun e w' => e = .returned (.bool false) ∧ Below w.heap.size w w') := fun w => refIs_no ha h w
  clear ha h
  have V0 := Vars.start w
  go_enter Try.func5, Try.ntmps5
  go_wp2_with (first
    | (refine wpList_boxV V0 1 22 _ rfl rfl rfl (bA a) rfl ?_; intro w1 g2 V3)
    | (refine wpList_loadV V3 0 rfl 10 _ rfl rfl rfl rfl Try.underlying22 Try.szB (bA_size _) ?_))
  refine (CR.out w1).mono ?_
  rintro e w4 ⟨rfl, q6⟩
  have V5 := V3.call q6
  clear q6 V3
  go_wp2_with (first
    | (refine wpList_allocV V5 3 22 rfl rfl rfl (bA 0) zeroB ?_; intro w7 g8 V9)
    | (refine wpList_storeV V9 0 rfl _ (.tmp 12) rfl rfl rfl (bA 0) rfl rfl Try.szB (bA_size _) (bA_size _) (bA_one _) ?_; intro w10 V11)
    | (refine wpList_loadV V11 1 rfl 15 _ rfl rfl rfl rfl Try.underlying22 Try.szB (bA_size _) ?_))
  refine (JA.out w10).mono ?_
  rintro e w12 ⟨rfl, q14⟩
  have V13 := V11.call q14
  clear q14 V11
  go_wp2_with fail
  refine (awake16_any w12).mono ?_
  rintro e w15 ⟨rfl, q17⟩
  have V16 := V13.call q17
  clear q17 V13
  go_wp2_with (first
    | (refine wpList_loadV V16 0 rfl 28 _ rfl rfl rfl rfl Try.underlying22 Try.szB (bA_size _) ?_)
    | (refine wpList_buildV 29 22 _ rfl rfl rfl (bA 0) bA_num0 ?_)
    | (refine wpList_exec rfl (exec_eqlB _ _ rfl true _ _ (dtrue rfl) rfl rfl zero256 zero256) ?_))
  go_ret
  exact ⟨rfl, V16.bel⟩
set_option maxHeartbeats 3200000 in
theorem roots_zero (a : Nat) (w : World) (r d : Nat) (hdd : (a + a) % fP = d) (ha : a < fP) (hr : r < fP) (hev : r % 2 = 0) (hrr : r * r % fP = a) (CR : ∀ w, Calls Try.prog 20 #[.agg (bA a)] w fun e w' => e = .returned (.tuple #[.agg (bA r), .bool true, .int .i64 0]) ∧ Below w.heap.size w w') (h0 : a = 0) : Calls Try.prog 5 #[.agg (bA a)] w fun e w' => e = .returned (.bool true) ∧ Below w.heap.size w w' := by
  have JA : Hid (∀ w, Calls Try.prog 13 #[.agg (bA a)] w fun e w' => e = .returned (.bool true) ∧ Below w.heap.size w w') := fun w => refIs_yes ha w
  have JR : Hid (∀ w, Calls Try.prog 13 #[.agg (bA r)] w fun e w' => e = .returned (.bool true) ∧ Below w.heap.size w w') := fun w => refIs_yes hr w
  have N0 : Hid (∀ w, Calls Try.prog 19 #[.int .u8 0] w fun e w' => e = .returned (.agg (bA 0)) ∧ Below w.heap.size w w') := fun w => num_any 0 (by decide) w
  have CM : Hid (∀ w, Calls Try.prog 17 #[.agg (bA r), .agg (bA r)] w fun e w' => e = .returned (.agg (bA a)) ∧ Below w.heap.size w w') := fun w => by have := refMul_any r r w hr hr; rwa [hrr] at this
  have HE : Hid (decide (a = 0) = true) := dtrue h0
  have HL : Hid (a < 2 ^ 256) := elt256 ha
  have HCR : Hid (∀ w, Calls Try.prog 20 #[.agg (bA a)] w fun e w' => e = .returned (.tuple #[.agg (bA r), .bool true, .int .i64 0]) ∧ Below w.heap.size w w') := CR
  have hx2 : r / 256 ^ 0 % 256 % 2 = 0 := by rw [byte0]; exact hev
  have hx9 : r / 256 ^ 0 % 256 < 256 := Nat.mod_lt _ (by decide)
  have HC : Hid (∀ (w' : World) (g : Nat), w'.heap[g]? = some (.cells (bA r) 22 (0, 0)) → w'.cell? ⟨g, 0, none⟩ = some (.int .u8 ((r / 256 ^ 0 % 256 : Nat) : Int))) := fun w' g h => cell0 h
  generalize r / 256 ^ 0 % 256 = x0 at *
  have em : (x0 : Int).tmod 2 = 0 := by rw [Int.tmod_eq_emod_of_nonneg (by omega)]; omega
  have em2 : (x0 : Int) % 2 = 0 := by omega
  clear hev hx2
  clear ha hr hrr h0 CR hdd
  have V0 := Vars.start w
  go_enter Try.func5, Try.ntmps5
  go_wp2_with (first
    | (refine wpList_boxV V0 1 22 _ rfl rfl rfl (bA a) rfl ?_; intro w1 g2 V3)
    | (refine wpList_loadV V3 0 rfl 10 _ rfl rfl rfl rfl Try.underlying22 Try.szB (bA_size _) ?_))
  refine (HCR.out w1).mono ?_
  rintro e w4 ⟨rfl, q6⟩
  have V5 := V3.call q6
  clear q6 V3
  go_wp2_with (first
    | (refine wpList_allocV V5 3 22 rfl rfl rfl (bA 0) zeroB ?_; intro w7 g8 V9)
    | (refine wpList_storeV V9 0 rfl _ (.tmp 12) rfl rfl rfl (bA r) rfl rfl Try.szB (bA_size _) (bA_size _) (bA_one _) ?_; intro w10 V11)
    | (refine wpList_loadV V11 1 rfl 15 _ rfl rfl rfl rfl Try.underlying22 Try.szB (bA_size _) ?_))
  refine (JA.out w10).mono ?_
  rintro e w12 ⟨rfl, q14⟩
  have V13 := V11.call q14
  clear q14 V11
  go_wp2_with fail
  refine av_open (fun w' => Vars w w' [⟨g8, 22, bA r⟩, ⟨g2, 22, bA a⟩]) (by kernel_rfl) ?_
  have V15 := V13.drew
  refine held_reads (rs := [0, 1, 2, 3, 4, 5, 6, 7, 8, 9, 10]) (fuel := 0) (by kernel_rfl) (fun c d v a w h => by cases d <;> exact h) (by kernel_rfl) (V15) (fun K hK => ?_)
  refine calm_move _ rfl (by rfl) rfl ?_
  go_simp
  refine calm_do (.bool false) rfl (by rfl) (fun w' hw' => ?_) ?_
  · go_simp
  go_simp
  refine calm_move _ rfl (by rfl) rfl ?_
  go_simp
  refine calm_move _ rfl (by rfl) rfl ?_
  go_simp
  refine calm_do (.bool false) rfl (by rfl) (fun w' hw' => ?_) ?_
  · go_simp
  go_simp
  refine calm_move _ rfl (by rfl) rfl ?_
  go_simp
  refine calm_skip rfl (by rfl) ?_
  go_simp
  refine calm_skip rfl (by rfl) ?_
  go_simp
  refine calm_skip rfl (by rfl) ?_
  go_simp
  refine calm_do (.bool false) rfl (by rfl) (fun w' hw' => ?_) ?_
  · go_simp
  go_simp
  refine calm_do (.bool false) rfl (by rfl) (fun w' hw' => ?_) ?_
  · go_simp
  go_simp
  refine calm_nil (hK.out _ ?_)
  clear hK K
  refine wpAnyH_done (by kernel_rfl) ?_ _
  go_wp2_with fail
  refine av_open (fun w' => Vars w w' [⟨g8, 22, bA r⟩, ⟨g2, 22, bA a⟩]) (by kernel_rfl) ?_
  have V16 := V15.drew
  refine held_reads (rs := [0, 1, 2]) (fuel := 16) (by kernel_rfl) (fun c d v a w h => by cases d <;> exact h) (by kernel_rfl) (V16) (fun K hK => ?_)
  refine calm_move _ rfl (by rfl) rfl ?_
  go_simp
  refine calm_move _ rfl (by rfl) rfl ?_
  go_simp
  refine calm_do (.agg (bA r)) rfl (by rfl) (fun w' hw' => exec_loadV hw' 0 rfl _ rfl rfl Try.underlying22 Try.szB (bA_size _)) ?_
  go_simp
  refine calm_nil (hK.out _ ?_)
  clear hK K
  refine av_op (i := 3) (fuel := 15) (by kernel_rfl) rfl (by rfl) (fun K hK => ?_)
  go_simp
  refine (JR.out w12.drew.drew).mono ?_
  rintro e w17 ⟨rfl, q19⟩
  have V18 := V16.call q19
  refine hK _ _ (V18) ?_
  clear hK K q19
  refine held_reads (rs := [4, 5, 6, 7, 8, 9, 10, 11, 12, 13, 15]) (fuel := 4) (by kernel_rfl) (fun c d v a w h => by cases d <;> exact h) (by kernel_rfl) (V18) (fun K hK => ?_)
  go_simp
  refine calm_do (.bool false) rfl (by rfl) (fun w' hw' => ?_) ?_
  · go_simp
  go_simp
  refine calm_move _ rfl (by rfl) rfl ?_
  go_simp
  refine calm_do (.pointer (some ⟨g8, 0, none⟩)) rfl (by rfl) (fun w' hw' => ?_) ?_
  · go_simp
  go_simp
  refine calm_do (.int .u8 (x0 : Int)) rfl (by rfl) (fun w' hw' => ?_) ?_
  · have hcc := HC.out w' g8 (hw'.at 0 rfl)
    go_simp
  go_simp
  refine calm_do (.int .u8 0) rfl (by rfl) (fun w' hw' => ?_) ?_
  · go_simp
  go_simp
  refine calm_do (.bool false) rfl (by rfl) (fun w' hw' => ?_) ?_
  · go_simp
  go_simp
  refine calm_do (.bool false) rfl (by rfl) (fun w' hw' => ?_) ?_
  · go_simp
  go_simp
  refine calm_move _ rfl (by rfl) rfl ?_
  go_simp
  refine calm_do (.agg (bA r)) rfl (by rfl) (fun w' hw' => exec_loadV hw' 0 rfl _ rfl rfl Try.underlying22 Try.szB (bA_size _)) ?_
  go_simp
  refine calm_do (.agg (bA r)) rfl (by rfl) (fun w' hw' => exec_loadV hw' 0 rfl _ rfl rfl Try.underlying22 Try.szB (bA_size _)) ?_
  go_simp
  refine calm_do (.agg (bA a)) rfl (by rfl) (fun w' hw' => exec_loadV hw' 1 rfl _ rfl rfl Try.underlying22 Try.szB (bA_size _)) ?_
  go_simp
  refine calm_nil (hK.out _ ?_)
  clear hK K
  refine av_op (i := 14) (fuel := 3) (by kernel_rfl) rfl (by rfl) (fun K hK => ?_)
  go_simp
  refine (CM.out w17).mono ?_
  rintro e w20 ⟨rfl, q22⟩
  have V21 := V18.call q22
  refine hK _ _ (V21) ?_
  clear hK K q22
  refine held_reads (rs := [16, 17, 18]) (fuel := 0) (by kernel_rfl) (fun c d v a w h => by cases d <;> exact h) (by kernel_rfl) (V21) (fun K hK => ?_)
  go_simp
  refine calm_do (.bool false) rfl (by rfl) (fun w' hw' => exec_neqB _ _ rfl false _ _ (dtrue rfl) rfl rfl HL.out HL.out) ?_
  go_simp
  refine calm_do (.bool false) rfl (by rfl) (fun w' hw' => ?_) ?_
  · go_simp
  go_simp
  refine calm_do (.bool false) rfl (by rfl) (fun w' hw' => ?_) ?_
  · go_simp
  go_simp
  refine calm_nil (hK.out _ ?_)
  clear hK K
  refine wpAnyH_done (by kernel_rfl) ?_ _
  go_wp2_with fail
  refine av_open (fun w' => Vars w w' [⟨g8, 22, bA r⟩, ⟨g2, 22, bA a⟩]) (by kernel_rfl) ?_
  have V23 := V21.drew
  refine held_reads (rs := [0]) (fuel := 2) (by kernel_rfl) (fun c d v a w h => by cases d <;> exact h) (by kernel_rfl) (V23) (fun K hK => ?_)
  refine calm_do (.agg (bA a)) rfl (by rfl) (fun w' hw' => exec_loadV hw' 1 rfl _ rfl rfl Try.underlying22 Try.szB (bA_size _)) ?_
  go_simp
  refine calm_nil (hK.out _ ?_)
  clear hK K
  refine av_op (i := 1) (fuel := 1) (by kernel_rfl) rfl (by rfl) (fun K hK => ?_)
  go_simp
  refine (N0.out w20.drew).mono ?_
  rintro e w24 ⟨rfl, q26⟩
  have V25 := V23.call q26
  refine hK _ _ (V25) ?_
  clear hK K q26
  refine held_reads (rs := [2]) (fuel := 0) (by kernel_rfl) (fun c d v a w h => by cases d <;> exact h) (by kernel_rfl) (V25) (fun K hK => ?_)
  go_simp
  refine calm_do (.bool true) rfl (by rfl) (fun w' hw' => exec_eqlB _ _ rfl true _ _ HE.out rfl rfl HL.out zero256) ?_
  go_simp
  refine calm_nil (hK.out _ ?_)
  clear hK K
  refine wpAnyH_done (by kernel_rfl) ?_ _
  go_wp2_with fail
  refine (awake16_any w24).mono ?_
  rintro e w27 ⟨rfl, q29⟩
  have V28 := V25.call q29
  clear q29 V25
  go_wp2_with fail
  go_ret
  exact ⟨rfl, V28.bel⟩
set_option maxHeartbeats 3200000 in
theorem roots_yes (a : Nat) (w : World) (r d : Nat) (hdd : (a + a) % fP = d) (ha : a < fP) (hr : r < fP) (hev : r % 2 = 0) (hrr : r * r % fP = a) (CR : ∀ w, Calls Try.prog 20 #[.agg (bA a)] w fun e w' => e = .returned (.tuple #[.agg (bA r), .bool true, .int .i64 0]) ∧ Below w.heap.size w w') (h0 : a ≠ 0) (CD : ∀ w, Calls Try.prog 20 #[.agg (bA d)] w fun e w' => e = .returned (.tuple #[.agg (bA 0), .bool false, .int .i64 0]) ∧ Below w.heap.size w w') : Calls Try.prog 5 #[.agg (bA a)] w fun e w' => e = .returned (.bool true) ∧ Below w.heap.size w w' := by
  have JA : Hid (∀ w, Calls Try.prog 13 #[.agg (bA a)] w fun e w' => e = .returned (.bool true) ∧ Below w.heap.size w w') := fun w => refIs_yes ha w
  have JR : Hid (∀ w, Calls Try.prog 13 #[.agg (bA r)] w fun e w' => e = .returned (.bool true) ∧ Below w.heap.size w w') := fun w => refIs_yes hr w
  have N0 : Hid (∀ w, Calls Try.prog 19 #[.int .u8 0] w fun e w' => e = .returned (.agg (bA 0)) ∧ Below w.heap.size w w') := fun w => num_any 0 (by decide) w
  have CM : Hid (∀ w, Calls Try.prog 17 #[.agg (bA r), .agg (bA r)] w fun e w' => e = .returned (.agg (bA a)) ∧ Below w.heap.size w w') := fun w => by have := refMul_any r r w hr hr; rwa [hrr] at this
  have CA : Hid (∀ w, Calls Try.prog 15 #[.agg (bA a), .agg (bA a)] w fun e w' => e = .returned (.agg (bA d)) ∧ Below w.heap.size w w') := fun w => by have := refAdd_any a a w ha ha; rwa [hdd] at this
  have HE : Hid (decide (a = 0) = false) := dfalse h0
  have HL : Hid (a < 2 ^ 256) := elt256 ha
  have HCR : Hid (∀ w, Calls Try.prog 20 #[.agg (bA a)] w fun e w' => e = .returned (.tuple #[.agg (bA r), .bool true, .int .i64 0]) ∧ Below w.heap.size w w') := CR
  have HCD : Hid (∀ w, Calls Try.prog 20 #[.agg (bA d)] w fun e w' => e = .returned (.tuple #[.agg (bA 0), .bool false, .int .i64 0]) ∧ Below w.heap.size w w') := CD
  have hx2 : r / 256 ^ 0 % 256 % 2 = 0 := by rw [byte0]; exact hev
  have hx9 : r / 256 ^ 0 % 256 < 256 := Nat.mod_lt _ (by decide)
  have HC : Hid (∀ (w' : World) (g : Nat), w'.heap[g]? = some (.cells (bA r) 22 (0, 0)) → w'.cell? ⟨g, 0, none⟩ = some (.int .u8 ((r / 256 ^ 0 % 256 : Nat) : Int))) := fun w' g h => cell0 h
  generalize r / 256 ^ 0 % 256 = x0 at *
  have em : (x0 : Int).tmod 2 = 0 := by rw [Int.tmod_eq_emod_of_nonneg (by omega)]; omega
  have em2 : (x0 : Int) % 2 = 0 := by omega
  clear hev hx2
  clear ha hr hrr h0 CR hdd CD
  have V0 := Vars.start w
  go_enter Try.func5, Try.ntmps5
  go_wp2_with (first
    | (refine wpList_boxV V0 1 22 _ rfl rfl rfl (bA a) rfl ?_; intro w1 g2 V3)
    | (refine wpList_loadV V3 0 rfl 10 _ rfl rfl rfl rfl Try.underlying22 Try.szB (bA_size _) ?_))
  refine (HCR.out w1).mono ?_
  rintro e w4 ⟨rfl, q6⟩
  have V5 := V3.call q6
  clear q6 V3
  go_wp2_with (first
    | (refine wpList_allocV V5 3 22 rfl rfl rfl (bA 0) zeroB ?_; intro w7 g8 V9)
    | (refine wpList_storeV V9 0 rfl _ (.tmp 12) rfl rfl rfl (bA r) rfl rfl Try.szB (bA_size _) (bA_size _) (bA_one _) ?_; intro w10 V11)
    | (refine wpList_loadV V11 1 rfl 15 _ rfl rfl rfl rfl Try.underlying22 Try.szB (bA_size _) ?_))
  refine (JA.out w10).mono ?_
  rintro e w12 ⟨rfl, q14⟩
  have V13 := V11.call q14
  clear q14 V11
  go_wp2_with fail
  refine av_open (fun w' => Vars w w' [⟨g8, 22, bA r⟩, ⟨g2, 22, bA a⟩]) (by kernel_rfl) ?_
  have V15 := V13.drew
  refine held_reads (rs := [0, 1, 2, 3, 4, 5, 6, 7, 8, 9, 10]) (fuel := 0) (by kernel_rfl) (fun c d v a w h => by cases d <;> exact h) (by kernel_rfl) (V15) (fun K hK => ?_)
  refine calm_move _ rfl (by rfl) rfl ?_
  go_simp
  refine calm_do (.bool false) rfl (by rfl) (fun w' hw' => ?_) ?_
  · go_simp
  go_simp
  refine calm_move _ rfl (by rfl) rfl ?_
  go_simp
  refine calm_move _ rfl (by rfl) rfl ?_
  go_simp
  refine calm_do (.bool false) rfl (by rfl) (fun w' hw' => ?_) ?_
  · go_simp
  go_simp
  refine calm_move _ rfl (by rfl) rfl ?_
  go_simp
  refine calm_skip rfl (by rfl) ?_
  go_simp
  refine calm_skip rfl (by rfl) ?_
  go_simp
  refine calm_skip rfl (by rfl) ?_
  go_simp
  refine calm_do (.bool false) rfl (by rfl) (fun w' hw' => ?_) ?_
  · go_simp
  go_simp
  refine calm_do (.bool false) rfl (by rfl) (fun w' hw' => ?_) ?_
  · go_simp
  go_simp
  refine calm_nil (hK.out _ ?_)
  clear hK K
  refine wpAnyH_done (by kernel_rfl) ?_ _
  go_wp2_with fail
  refine av_open (fun w' => Vars w w' [⟨g8, 22, bA r⟩, ⟨g2, 22, bA a⟩]) (by kernel_rfl) ?_
  have V16 := V15.drew
  refine held_reads (rs := [0, 1, 2]) (fuel := 16) (by kernel_rfl) (fun c d v a w h => by cases d <;> exact h) (by kernel_rfl) (V16) (fun K hK => ?_)
  refine calm_move _ rfl (by rfl) rfl ?_
  go_simp
  refine calm_move _ rfl (by rfl) rfl ?_
  go_simp
  refine calm_do (.agg (bA r)) rfl (by rfl) (fun w' hw' => exec_loadV hw' 0 rfl _ rfl rfl Try.underlying22 Try.szB (bA_size _)) ?_
  go_simp
  refine calm_nil (hK.out _ ?_)
  clear hK K
  refine av_op (i := 3) (fuel := 15) (by kernel_rfl) rfl (by rfl) (fun K hK => ?_)
  go_simp
  refine (JR.out w12.drew.drew).mono ?_
  rintro e w17 ⟨rfl, q19⟩
  have V18 := V16.call q19
  refine hK _ _ (V18) ?_
  clear hK K q19
  refine held_reads (rs := [4, 5, 6, 7, 8, 9, 10, 11, 12, 13, 15]) (fuel := 4) (by kernel_rfl) (fun c d v a w h => by cases d <;> exact h) (by kernel_rfl) (V18) (fun K hK => ?_)
  go_simp
  refine calm_do (.bool false) rfl (by rfl) (fun w' hw' => ?_) ?_
  · go_simp
  go_simp
  refine calm_move _ rfl (by rfl) rfl ?_
  go_simp
  refine calm_do (.pointer (some ⟨g8, 0, none⟩)) rfl (by rfl) (fun w' hw' => ?_) ?_
  · go_simp
  go_simp
  refine calm_do (.int .u8 (x0 : Int)) rfl (by rfl) (fun w' hw' => ?_) ?_
  · have hcc := HC.out w' g8 (hw'.at 0 rfl)
    go_simp
  go_simp
  refine calm_do (.int .u8 0) rfl (by rfl) (fun w' hw' => ?_) ?_
  · go_simp
  go_simp
  refine calm_do (.bool false) rfl (by rfl) (fun w' hw' => ?_) ?_
  · go_simp
  go_simp
  refine calm_do (.bool false) rfl (by rfl) (fun w' hw' => ?_) ?_
  · go_simp
  go_simp
  refine calm_move _ rfl (by rfl) rfl ?_
  go_simp
  refine calm_do (.agg (bA r)) rfl (by rfl) (fun w' hw' => exec_loadV hw' 0 rfl _ rfl rfl Try.underlying22 Try.szB (bA_size _)) ?_
  go_simp
  refine calm_do (.agg (bA r)) rfl (by rfl) (fun w' hw' => exec_loadV hw' 0 rfl _ rfl rfl Try.underlying22 Try.szB (bA_size _)) ?_
  go_simp
  refine calm_do (.agg (bA a)) rfl (by rfl) (fun w' hw' => exec_loadV hw' 1 rfl _ rfl rfl Try.underlying22 Try.szB (bA_size _)) ?_
  go_simp
  refine calm_nil (hK.out _ ?_)
  clear hK K
  refine av_op (i := 14) (fuel := 3) (by kernel_rfl) rfl (by rfl) (fun K hK => ?_)
  go_simp
  refine (CM.out w17).mono ?_
  rintro e w20 ⟨rfl, q22⟩
  have V21 := V18.call q22
  refine hK _ _ (V21) ?_
  clear hK K q22
  refine held_reads (rs := [16, 17, 18]) (fuel := 0) (by kernel_rfl) (fun c d v a w h => by cases d <;> exact h) (by kernel_rfl) (V21) (fun K hK => ?_)
  go_simp
  refine calm_do (.bool false) rfl (by rfl) (fun w' hw' => exec_neqB _ _ rfl false _ _ (dtrue rfl) rfl rfl HL.out HL.out) ?_
  go_simp
  refine calm_do (.bool false) rfl (by rfl) (fun w' hw' => ?_) ?_
  · go_simp
  go_simp
  refine calm_do (.bool false) rfl (by rfl) (fun w' hw' => ?_) ?_
  · go_simp
  go_simp
  refine calm_nil (hK.out _ ?_)
  clear hK K
  refine wpAnyH_done (by kernel_rfl) ?_ _
  go_wp2_with fail
  refine av_open (fun w' => Vars w w' [⟨g8, 22, bA r⟩, ⟨g2, 22, bA a⟩]) (by kernel_rfl) ?_
  have V23 := V21.drew
  refine held_reads (rs := [0]) (fuel := 2) (by kernel_rfl) (fun c d v a w h => by cases d <;> exact h) (by kernel_rfl) (V23) (fun K hK => ?_)
  refine calm_do (.agg (bA a)) rfl (by rfl) (fun w' hw' => exec_loadV hw' 1 rfl _ rfl rfl Try.underlying22 Try.szB (bA_size _)) ?_
  go_simp
  refine calm_nil (hK.out _ ?_)
  clear hK K
  refine av_op (i := 1) (fuel := 1) (by kernel_rfl) rfl (by rfl) (fun K hK => ?_)
  go_simp
  refine (N0.out w20.drew).mono ?_
  rintro e w24 ⟨rfl, q26⟩
  have V25 := V23.call q26
  refine hK _ _ (V25) ?_
  clear hK K q26
  refine held_reads (rs := [2]) (fuel := 0) (by kernel_rfl) (fun c d v a w h => by cases d <;> exact h) (by kernel_rfl) (V25) (fun K hK => ?_)
  go_simp
  refine calm_do (.bool false) rfl (by rfl) (fun w' hw' => exec_eqlB _ _ rfl false _ _ HE.out rfl rfl HL.out zero256) ?_
  go_simp
  refine calm_nil (hK.out _ ?_)
  clear hK K
  refine wpAnyH_done (by kernel_rfl) ?_ _
  go_wp2_with (first
    | (refine wpList_loadV V25 1 rfl 70 _ rfl rfl rfl rfl Try.underlying22 Try.szB (bA_size _) ?_)
    | (refine wpList_loadV V25 1 rfl 71 _ rfl rfl rfl rfl Try.underlying22 Try.szB (bA_size _) ?_))
  refine (CA.out w24).mono ?_
  rintro e w27 ⟨rfl, q29⟩
  have V28 := V25.call q29
  clear q29 V25
  go_wp2_with fail
  refine (HCD.out w27).mono ?_
  rintro e w30 ⟨rfl, q32⟩
  have V31 := V28.call q32
  clear q32 V28
  go_wp2_with (first
    | (refine wpList_allocV V31 6 22 rfl rfl rfl (bA 0) zeroB ?_; intro w33 g34 V35)
    | (refine wpList_storeV V35 0 rfl _ (.tmp 74) rfl rfl rfl (bA 0) rfl rfl Try.szB (bA_size _) (bA_size _) (bA_one _) ?_; intro w36 V37))
  refine (awake16_any w36).mono ?_
  rintro e w38 ⟨rfl, q40⟩
  have V39 := V37.call q40
  clear q40 V37
  go_wp2_with fail
  go_ret
  exact ⟨rfl, V39.bel⟩
set_option maxHeartbeats 3200000 in
theorem roots_none (a : Nat) (w : World) (r d : Nat) (hdd : (a + a) % fP = d) (ha : a < fP) (h0 : a ≠ 0) (CR : ∀ w, Calls Try.prog 20 #[.agg (bA a)] w fun e w' => e = .returned (.tuple #[.agg (bA 0), .bool false, .int .i64 0]) ∧ Below w.heap.size w w') (CD : ∀ w, Calls Try.prog 20 #[.agg (bA d)] w fun e w' => e = .returned (.tuple #[.agg (bA r), .bool true, .int .i64 0]) ∧ Below w.heap.size w w') : Calls Try.prog 5 #[.agg (bA a)] w fun e w' => e = .returned (.bool true) ∧ Below w.heap.size w w' := by
  have JA : Hid (∀ w, Calls Try.prog 13 #[.agg (bA a)] w fun e w' => e = .returned (.bool true) ∧ Below w.heap.size w w') := fun w => refIs_yes ha w
  have N0 : Hid (∀ w, Calls Try.prog 19 #[.int .u8 0] w fun e w' => e = .returned (.agg (bA 0)) ∧ Below w.heap.size w w') := fun w => num_any 0 (by decide) w
  have CA : Hid (∀ w, Calls Try.prog 15 #[.agg (bA a), .agg (bA a)] w fun e w' => e = .returned (.agg (bA d)) ∧ Below w.heap.size w w') := fun w => by have := refAdd_any a a w ha ha; rwa [hdd] at this
  have HE : Hid (decide (a = 0) = false) := dfalse h0
  have HL : Hid (a < 2 ^ 256) := elt256 ha
  have HCR : Hid (∀ w, Calls Try.prog 20 #[.agg (bA a)] w fun e w' => e = .returned (.tuple #[.agg (bA 0), .bool false, .int .i64 0]) ∧ Below w.heap.size w w') := CR
  have HCD : Hid (∀ w, Calls Try.prog 20 #[.agg (bA d)] w fun e w' => e = .returned (.tuple #[.agg (bA r), .bool true, .int .i64 0]) ∧ Below w.heap.size w w') := CD
  clear ha h0 CR CD hdd
  have V0 := Vars.start w
  go_enter Try.func5, Try.ntmps5
  go_wp2_with (first
    | (refine wpList_boxV V0 1 22 _ rfl rfl rfl (bA a) rfl ?_; intro w1 g2 V3)
    | (refine wpList_loadV V3 0 rfl 10 _ rfl rfl rfl rfl Try.underlying22 Try.szB (bA_size _) ?_))
  refine (HCR.out w1).mono ?_
  rintro e w4 ⟨rfl, q6⟩
  have V5 := V3.call q6
  clear q6 V3
  go_wp2_with (first
    | (refine wpList_allocV V5 3 22 rfl rfl rfl (bA 0) zeroB ?_; intro w7 g8 V9)
    | (refine wpList_storeV V9 0 rfl _ (.tmp 12) rfl rfl rfl (bA 0) rfl rfl Try.szB (bA_size _) (bA_size _) (bA_one _) ?_; intro w10 V11)
    | (refine wpList_loadV V11 1 rfl 15 _ rfl rfl rfl rfl Try.underlying22 Try.szB (bA_size _) ?_))
  refine (JA.out w10).mono ?_
  rintro e w12 ⟨rfl, q14⟩
  have V13 := V11.call q14
  clear q14 V11
  go_wp2_with fail
  refine av_open (fun w' => Vars w w' [⟨g8, 22, bA 0⟩, ⟨g2, 22, bA a⟩]) (by kernel_rfl) ?_
  have V15 := V13.drew
  refine held_reads (rs := [0, 1, 2, 3, 4, 5, 6]) (fuel := 4) (by kernel_rfl) (fun c d v a w h => by cases d <;> exact h) (by kernel_rfl) (V15) (fun K hK => ?_)
  refine calm_move _ rfl (by rfl) rfl ?_
  go_simp
  refine calm_do (.bool false) rfl (by rfl) (fun w' hw' => ?_) ?_
  · go_simp
  go_simp
  refine calm_move _ rfl (by rfl) rfl ?_
  go_simp
  refine calm_move _ rfl (by rfl) rfl ?_
  go_simp
  refine calm_do (.bool true) rfl (by rfl) (fun w' hw' => ?_) ?_
  · go_simp
  go_simp
  refine calm_move _ rfl (by rfl) rfl ?_
  go_simp
  refine calm_do (.agg (bA 0)) rfl (by rfl) (fun w' hw' => exec_loadV hw' 0 rfl _ rfl rfl Try.underlying22 Try.szB (bA_size _)) ?_
  go_simp
  refine calm_nil (hK.out _ ?_)
  clear hK K
  refine av_op (i := 7) (fuel := 3) (by kernel_rfl) rfl (by rfl) (fun K hK => ?_)
  go_simp
  refine (N0.out w12.drew).mono ?_
  rintro e w16 ⟨rfl, q18⟩
  have V17 := V15.call q18
  refine hK _ _ (V17) ?_
  clear hK K q18
  refine held_reads (rs := [8, 9, 10]) (fuel := 0) (by kernel_rfl) (fun c d v a w h => by cases d <;> exact h) (by kernel_rfl) (V17) (fun K hK => ?_)
  go_simp
  refine calm_do (.bool false) rfl (by rfl) (fun w' hw' => exec_neqB _ _ rfl false _ _ (dtrue rfl) rfl rfl zero256 zero256) ?_
  go_simp
  refine calm_do (.bool false) rfl (by rfl) (fun w' hw' => ?_) ?_
  · go_simp
  go_simp
  refine calm_do (.bool false) rfl (by rfl) (fun w' hw' => ?_) ?_
  · go_simp
  go_simp
  refine calm_nil (hK.out _ ?_)
  clear hK K
  refine wpAnyH_done (by kernel_rfl) ?_ _
  go_wp2_with fail
  refine av_open (fun w' => Vars w w' [⟨g8, 22, bA 0⟩, ⟨g2, 22, bA a⟩]) (by kernel_rfl) ?_
  have V19 := V17.drew
  refine held_reads (rs := [0, 1, 2, 3, 4, 5, 6, 7, 8, 9, 10, 11, 12, 13, 14, 15, 16, 17, 18]) (fuel := 0) (by kernel_rfl) (fun c d v a w h => by cases d <;> exact h) (by kernel_rfl) (V19) (fun K hK => ?_)
  refine calm_move _ rfl (by rfl) rfl ?_
  go_simp
  refine calm_move _ rfl (by rfl) rfl ?_
  go_simp
  refine calm_skip rfl (by rfl) ?_
  go_simp
  refine calm_skip rfl (by rfl) ?_
  go_simp
  refine calm_skip rfl (by rfl) ?_
  go_simp
  refine calm_skip rfl (by rfl) ?_
  go_simp
  refine calm_skip rfl (by rfl) ?_
  go_simp
  refine calm_skip rfl (by rfl) ?_
  go_simp
  refine calm_skip rfl (by rfl) ?_
  go_simp
  refine calm_skip rfl (by rfl) ?_
  go_simp
  refine calm_skip rfl (by rfl) ?_
  go_simp
  refine calm_skip rfl (by rfl) ?_
  go_simp
  refine calm_skip rfl (by rfl) ?_
  go_simp
  refine calm_skip rfl (by rfl) ?_
  go_simp
  refine calm_skip rfl (by rfl) ?_
  go_simp
  refine calm_skip rfl (by rfl) ?_
  go_simp
  refine calm_skip rfl (by rfl) ?_
  go_simp
  refine calm_skip rfl (by rfl) ?_
  go_simp
  refine calm_do (.bool false) rfl (by rfl) (fun w' hw' => ?_) ?_
  · go_simp
  go_simp
  refine calm_nil (hK.out _ ?_)
  clear hK K
  refine wpAnyH_done (by kernel_rfl) ?_ _
  go_wp2_with fail
  refine av_open (fun w' => Vars w w' [⟨g8, 22, bA 0⟩, ⟨g2, 22, bA a⟩]) (by kernel_rfl) ?_
  have V20 := V19.drew
  refine held_reads (rs := [0]) (fuel := 2) (by kernel_rfl) (fun c d v a w h => by cases d <;> exact h) (by kernel_rfl) (V20) (fun K hK => ?_)
  refine calm_do (.agg (bA a)) rfl (by rfl) (fun w' hw' => exec_loadV hw' 1 rfl _ rfl rfl Try.underlying22 Try.szB (bA_size _)) ?_
  go_simp
  refine calm_nil (hK.out _ ?_)
  clear hK K
  refine av_op (i := 1) (fuel := 1) (by kernel_rfl) rfl (by rfl) (fun K hK => ?_)
  go_simp
  refine (N0.out w16.drew.drew).mono ?_
  rintro e w21 ⟨rfl, q23⟩
  have V22 := V20.call q23
  refine hK _ _ (V22) ?_
  clear hK K q23
  refine held_reads (rs := [2]) (fuel := 0) (by kernel_rfl) (fun c d v a w h => by cases d <;> exact h) (by kernel_rfl) (V22) (fun K hK => ?_)
  go_simp
  refine calm_do (.bool false) rfl (by rfl) (fun w' hw' => exec_eqlB _ _ rfl false _ _ HE.out rfl rfl HL.out zero256) ?_
  go_simp
  refine calm_nil (hK.out _ ?_)
  clear hK K
  refine wpAnyH_done (by kernel_rfl) ?_ _
  go_wp2_with (first
    | (refine wpList_loadV V22 1 rfl 70 _ rfl rfl rfl rfl Try.underlying22 Try.szB (bA_size _) ?_)
    | (refine wpList_loadV V22 1 rfl 71 _ rfl rfl rfl rfl Try.underlying22 Try.szB (bA_size _) ?_))
  refine (CA.out w21).mono ?_
  rintro e w24 ⟨rfl, q26⟩
  have V25 := V22.call q26
  clear q26 V22
  go_wp2_with fail
  refine (HCD.out w24).mono ?_
  rintro e w27 ⟨rfl, q29⟩
  have V28 := V25.call q29
  clear q29 V25
  go_wp2_with (first
    | (refine wpList_allocV V28 6 22 rfl rfl rfl (bA 0) zeroB ?_; intro w30 g31 V32)
    | (refine wpList_storeV V32 0 rfl _ (.tmp 74) rfl rfl rfl (bA r) rfl rfl Try.szB (bA_size _) (bA_size _) (bA_one _) ?_; intro w33 V34))
  refine (awake16_any w33).mono ?_
  rintro e w35 ⟨rfl, q37⟩
  have V36 := V34.call q37
  clear q37 V34
  go_wp2_with fail
  go_ret
  exact ⟨rfl, V36.bel⟩
theorem walk_FieldRoots (a : Nat) (w : World) (ha : a < 2 ^ 256) : Calls Try.prog 5 #[.agg (bA a)] w fun e w' => e = .returned (.bool true) ∧ Below w.heap.size w w' := by
  by_cases h1 : a < fP
  · have hd := twice_lt a
    have hdr := twice_root (a := a)
    generalize hdd : (a + a) % fP = d at *
    by_cases hr : HasRoot a
    · have hs := rtN_sq h1 hr
      have hC := fun w => fRoot_yes a w h1 hs
      have hl := rtN_lt a
      have e1 := evN_lt hl
      have e2 := evN_even hl
      have e3 := evN_sq hl
      rw [hs] at e3
      generalize evN (rtN a) = r at *
      by_cases h0 : a = 0
      · exact roots_zero a w r d hdd h1 e1 e2 e3 hC h0
      · have hn : ¬ HasRoot d := fun h => (root_one (by rw [Nat.mod_eq_of_lt h1]; exact h0)).1 hr (hdr.1 h)
        exact roots_yes a w r d hdd h1 e1 e2 e3 hC h0 (fun w => fRoot_none d w hd (fun h => hn ((root_iff hd).1 h)))
    · have h0 : a ≠ 0 := fun h => hr ⟨0, by rw [h]⟩
      have hC := fun w => fRoot_none a w h1 (fun h => hr ((root_iff h1).1 h))
      have hrd : HasRoot d := by
        refine hdr.2 (Classical.byContradiction fun h => hr ((root_one (by rw [Nat.mod_eq_of_lt h1]; exact h0)).2 h))
      have hD := fun w => fRoot_yes d w hd (rtN_sq hd hrd)
      generalize evN (rtN d) = r at *
      exact roots_none a w r d hdd h1 h0 hC hD
  · exact roots_no a w ha h1
set_option maxHeartbeats 3200000 in
theorem squares_no (a : Nat) (w : World) (ha : a < 2 ^ 256) (h : ¬ a < fP) : Calls Try.prog 6 #[.agg (bA a)] w fun e w' => e = .returned (.bool true) ∧ Below w.heap.size w w' := by
  have CM : Hid (∀ w, Calls Try.prog 11 #[.agg (bA a), .agg (bA a)] w fun e w' => e = .returned (.tuple #[.agg (bA 0), .int .i64 1]) ∧ Below w.heap.size w w') := fun w => fMul_no a a w ha ha (fun x => h x.1)
  have IA : Hid (∀ w, Calls Try.prog 12 #[.agg (bA a)] w fun e w' => e = .returned (.bool false) ∧ Below w.heap.size w w') := fun w => is_no ha h w
  clear ha h
  have V0 := Vars.start w
  go_enter Try.func6, Try.ntmps6
  go_wp2_with (first
    | (refine wpList_boxV V0 1 22 _ rfl rfl rfl (bA a) rfl ?_; intro w1 g2 V3)
    | (refine wpList_loadV V3 0 rfl 12 _ rfl rfl rfl rfl Try.underlying22 Try.szB (bA_size _) ?_)
    | (refine wpList_loadV V3 0 rfl 13 _ rfl rfl rfl rfl Try.underlying22 Try.szB (bA_size _) ?_))
  refine (CM.out w1).mono ?_
  rintro e w4 ⟨rfl, q6⟩
  have V5 := V3.call q6
  clear q6 V3
  go_wp2_with (first
    | (refine wpList_allocV V5 3 22 rfl rfl rfl (bA 0) zeroB ?_; intro w7 g8 V9)
    | (refine wpList_storeV V9 0 rfl _ (.tmp 15) rfl rfl rfl (bA 0) rfl rfl Try.szB (bA_size _) (bA_size _) (bA_one _) ?_; intro w10 V11))
  refine (awake16_any w10).mono ?_
  rintro e w12 ⟨rfl, q14⟩
  have V13 := V11.call q14
  clear q14 V11
  go_wp2_with (refine wpList_loadV V13 1 rfl 21 _ rfl rfl rfl rfl Try.underlying22 Try.szB (bA_size _) ?_)
  refine (IA.out w12).mono ?_
  rintro e w15 ⟨rfl, q17⟩
  have V16 := V13.call q17
  clear q17 V13
  go_wp2_with fail
  go_ret
  exact ⟨rfl, V16.bel⟩
set_option maxHeartbeats 3200000 in
theorem squares_odd (a : Nat) (w : World) (o m : Nat) (ho : o < 2 ^ 256) (ha : a < fP) (hpar : a % 2 = 1) (CM : ∀ w, Calls Try.prog 11 #[.agg (bA a), .agg (bA a)] w fun e w' => e = .returned (.tuple #[.agg (bA m), .int .i64 0]) ∧ Below w.heap.size w w') (CR : ∀ w, Calls Try.prog 20 #[.agg (bA m)] w fun e w' => e = .returned (.tuple #[.agg (bA o), .bool true, .int .i64 0]) ∧ Below w.heap.size w w') (CS : ∀ w, Calls Try.prog 10 #[.agg (bA 0), .agg (bA a)] w fun e w' => e = .returned (.tuple #[.agg (bA o), .int .i64 0]) ∧ Below w.heap.size w w') : Calls Try.prog 6 #[.agg (bA a)] w fun e w' => e = .returned (.bool true) ∧ Below w.heap.size w w' := by
  have N0 : Hid (∀ w, Calls Try.prog 19 #[.int .u8 0] w fun e w' => e = .returned (.agg (bA 0)) ∧ Below w.heap.size w w') := fun w => num_any 0 (by decide) w
  have HL : Hid (a < 2 ^ 256 ∧ o < 2 ^ 256) := ⟨elt256 ha, ho⟩
  have HCM : Hid (∀ w, Calls Try.prog 11 #[.agg (bA a), .agg (bA a)] w fun e w' => e = .returned (.tuple #[.agg (bA m), .int .i64 0]) ∧ Below w.heap.size w w') := CM
  have HCR : Hid (∀ w, Calls Try.prog 20 #[.agg (bA m)] w fun e w' => e = .returned (.tuple #[.agg (bA o), .bool true, .int .i64 0]) ∧ Below w.heap.size w w') := CR
  have HCS : Hid (∀ w, Calls Try.prog 10 #[.agg (bA 0), .agg (bA a)] w fun e w' => e = .returned (.tuple #[.agg (bA o), .int .i64 0]) ∧ Below w.heap.size w w') := CS
  have hx2 : a / 256 ^ 0 % 256 % 2 = 1 := by rw [byte0]; exact hpar
  have hx9 : a / 256 ^ 0 % 256 < 256 := Nat.mod_lt _ (by decide)
  have HC : Hid (∀ (w' : World) (g : Nat), w'.heap[g]? = some (.cells (bA a) 22 (0, 0)) → w'.cell? ⟨g, 0, none⟩ = some (.int .u8 ((a / 256 ^ 0 % 256 : Nat) : Int))) := fun w' g h => cell0 h
  generalize a / 256 ^ 0 % 256 = x0 at *
  have em : (x0 : Int).tmod 2 = 1 := by rw [Int.tmod_eq_emod_of_nonneg (by omega)]; omega
  have em2 : (x0 : Int) % 2 = 1 := by omega
  clear hpar hx2 ha ho CM CR CS
  have V0 := Vars.start w
  go_enter Try.func6, Try.ntmps6
  go_wp2_with (first
    | (refine wpList_boxV V0 1 22 _ rfl rfl rfl (bA a) rfl ?_; intro w1 g2 V3)
    | (refine wpList_loadV V3 0 rfl 12 _ rfl rfl rfl rfl Try.underlying22 Try.szB (bA_size _) ?_)
    | (refine wpList_loadV V3 0 rfl 13 _ rfl rfl rfl rfl Try.underlying22 Try.szB (bA_size _) ?_))
  refine (HCM.out w1).mono ?_
  rintro e w4 ⟨rfl, q6⟩
  have V5 := V3.call q6
  clear q6 V3
  go_wp2_with (first
    | (refine wpList_allocV V5 3 22 rfl rfl rfl (bA 0) zeroB ?_; intro w7 g8 V9)
    | (refine wpList_storeV V9 0 rfl _ (.tmp 15) rfl rfl rfl (bA m) rfl rfl Try.szB (bA_size _) (bA_size _) (bA_one _) ?_; intro w10 V11)
    | (refine wpList_loadV V11 0 rfl 26 _ rfl rfl rfl rfl Try.underlying22 Try.szB (bA_size _) ?_))
  refine (HCR.out w10).mono ?_
  rintro e w12 ⟨rfl, q14⟩
  have V13 := V11.call q14
  clear q14 V11
  go_wp2_with (first
    | (refine wpList_allocV V13 5 22 rfl rfl rfl (bA 0) zeroB ?_; intro w15 g16 V17)
    | (refine wpList_storeV V17 0 rfl _ (.tmp 28) rfl rfl rfl (bA o) rfl rfl Try.szB (bA_size _) (bA_size _) (bA_one _) ?_; intro w18 V19))
  refine av_open (fun w' => Vars w w' [⟨g16, 22, bA o⟩, ⟨g8, 22, bA m⟩, ⟨g2, 22, bA a⟩]) (by kernel_rfl) ?_
  have V20 := V19.drew
  apply av_once (Vg := fun g w' => Vars w w' [⟨g, 22, bA o⟩, ⟨g16, 22, bA o⟩, ⟨g8, 22, bA m⟩, ⟨g2, 22, bA a⟩])
  · intro HC21
    refine held_reads (rs := [1]) (fuel := 8) (by kernel_rfl) (fun c d v a w h => by cases d <;> exact h) (by kernel_rfl) (V20) (fun K hK => ?_)
    refine calm_do (.agg (bA a)) rfl (by rfl) (fun w' hw' => exec_loadV hw' 2 rfl _ rfl rfl Try.underlying22 Try.szB (bA_size _)) ?_
    go_simp
    refine calm_nil (hK.out _ ?_)
    clear hK K
    refine av_op2 (i := 0) (j := 6) (fuel := 7) (by kernel_rfl) rfl (by rfl) rfl (by rfl) (fun K hK => ?_) (fun K hK => ?_)
    · go_simp
      refine (N0.out w18.drew).mono ?_
      rintro e w22 ⟨rfl, q24⟩
      have V23 := V20.call q24
      refine hK _ _ (V23) ?_
      clear hK K q24
      refine av_op2 (i := 2) (j := 6) (fuel := 6) (by kernel_rfl) rfl (by rfl) rfl (by rfl) (fun K hK => ?_) (fun K hK => ?_)
      · go_simp
        refine (HCS.out w22).mono ?_
        rintro e w25 ⟨rfl, q27⟩
        have V26 := V23.call q27
        refine hK _ _ (V26) ?_
        clear hK K q27
        refine held_reads (rs := [3, 4, 5]) (fuel := 3) (by kernel_rfl) (fun c d v a w h => by cases d <;> exact h) (by kernel_rfl) (V26) (fun K hK => ?_)
        go_simp
        refine calm_move _ rfl (by rfl) rfl ?_
        go_simp
        refine calm_do (.agg (bA o)) rfl (by rfl) (fun w' hw' => ?_) ?_
        · go_simp
        go_simp
        refine calm_do (.int .i64 0) rfl (by rfl) (fun w' hw' => ?_) ?_
        · go_simp
        go_simp
        refine calm_nil (hK.out _ ?_)
        clear hK K
        refine av_op (i := 6) (fuel := 2) (by kernel_rfl) rfl (by rfl) (fun K hK => ?_)
        refine wp_allocV V26 8 22 rfl rfl (bA 0) zeroB (fun w28 g29 V30 => ?_)
        refine hK _ _ (V30.tail) ?_
        clear hK K
        refine av_op (i := 7) (fuel := 1) (by kernel_rfl) rfl (by rfl) (fun K hK => ?_)
        refine wp_storeV V30 0 rfl _ _ rfl rfl (bA o) rfl rfl Try.szB (bA_size _) (bA_size _) (bA_one _) (fun w31 V32 => ?_)
        refine hK _ _ (V32.tail) ?_
        clear hK K
        refine held_reads (rs := [8]) (fuel := 0) (by kernel_rfl) (fun c d v a w h => by cases d <;> exact h) (by kernel_rfl) (V32.tail) (fun K hK => ?_)
        go_simp
        refine calm_assign _ rfl (by rfl) rfl ?_
        go_simp
        refine calm_nil (hK.out _ ?_)
        clear hK K
        refine wpAnyH_done (by kernel_rfl) ?_ _
        exact HC21 g29 w31 V32
      · refine wp_allocV V23 8 22 rfl rfl (bA 0) zeroB (fun w33 g34 V35 => ?_)
        refine hK _ _ (V35.tail) ?_
        clear hK K
        refine av_op (i := 2) (fuel := 5) (by kernel_rfl) rfl (by rfl) (fun K hK => ?_)
        go_simp
        refine (HCS.out w33).mono ?_
        rintro e w36 ⟨rfl, q38⟩
        have V37 := V35.call q38
        refine hK _ _ (V37.tail) ?_
        clear hK K q38
        refine held_reads (rs := [3, 4, 5]) (fuel := 2) (by kernel_rfl) (fun c d v a w h => by cases d <;> exact h) (by kernel_rfl) (V37.tail) (fun K hK => ?_)
        go_simp
        refine calm_move _ rfl (by rfl) rfl ?_
        go_simp
        refine calm_do (.agg (bA o)) rfl (by rfl) (fun w' hw' => ?_) ?_
        · go_simp
        go_simp
        refine calm_do (.int .i64 0) rfl (by rfl) (fun w' hw' => ?_) ?_
        · go_simp
        go_simp
        refine calm_nil (hK.out _ ?_)
        clear hK K
        refine av_op (i := 7) (fuel := 1) (by kernel_rfl) rfl (by rfl) (fun K hK => ?_)
        refine wp_storeV V37 0 rfl _ _ rfl rfl (bA o) rfl rfl Try.szB (bA_size _) (bA_size _) (bA_one _) (fun w39 V40 => ?_)
        refine hK _ _ (V40.tail) ?_
        clear hK K
        refine held_reads (rs := [8]) (fuel := 0) (by kernel_rfl) (fun c d v a w h => by cases d <;> exact h) (by kernel_rfl) (V40.tail) (fun K hK => ?_)
        go_simp
        refine calm_assign _ rfl (by rfl) rfl ?_
        go_simp
        refine calm_nil (hK.out _ ?_)
        clear hK K
        refine wpAnyH_done (by kernel_rfl) ?_ _
        exact HC21 g34 w39 V40
    · refine wp_allocV V20 8 22 rfl rfl (bA 0) zeroB (fun w41 g42 V43 => ?_)
      refine hK _ _ (V43.tail) ?_
      clear hK K
      refine av_op (i := 0) (fuel := 6) (by kernel_rfl) rfl (by rfl) (fun K hK => ?_)
      go_simp
      refine (N0.out w41).mono ?_
      rintro e w44 ⟨rfl, q46⟩
      have V45 := V43.call q46
      refine hK _ _ (V45.tail) ?_
      clear hK K q46
      refine av_op (i := 2) (fuel := 5) (by kernel_rfl) rfl (by rfl) (fun K hK => ?_)
      go_simp
      refine (HCS.out w44).mono ?_
      rintro e w47 ⟨rfl, q49⟩
      have V48 := V45.call q49
      refine hK _ _ (V48.tail) ?_
      clear hK K q49
      refine held_reads (rs := [3, 4, 5]) (fuel := 2) (by kernel_rfl) (fun c d v a w h => by cases d <;> exact h) (by kernel_rfl) (V48.tail) (fun K hK => ?_)
      go_simp
      refine calm_move _ rfl (by rfl) rfl ?_
      go_simp
      refine calm_do (.agg (bA o)) rfl (by rfl) (fun w' hw' => ?_) ?_
      · go_simp
      go_simp
      refine calm_do (.int .i64 0) rfl (by rfl) (fun w' hw' => ?_) ?_
      · go_simp
      go_simp
      refine calm_nil (hK.out _ ?_)
      clear hK K
      refine av_op (i := 7) (fuel := 1) (by kernel_rfl) rfl (by rfl) (fun K hK => ?_)
      refine wp_storeV V48 0 rfl _ _ rfl rfl (bA o) rfl rfl Try.szB (bA_size _) (bA_size _) (bA_one _) (fun w50 V51 => ?_)
      refine hK _ _ (V51.tail) ?_
      clear hK K
      refine held_reads (rs := [8]) (fuel := 0) (by kernel_rfl) (fun c d v a w h => by cases d <;> exact h) (by kernel_rfl) (V51.tail) (fun K hK => ?_)
      go_simp
      refine calm_assign _ rfl (by rfl) rfl ?_
      go_simp
      refine calm_nil (hK.out _ ?_)
      clear hK K
      refine wpAnyH_done (by kernel_rfl) ?_ _
      exact HC21 g42 w50 V51
  intro g42 w50 V51
  clear V20
  go_upto_region 7 with (first
    | (refine wpList_loadV V51 3 rfl 37 _ rfl rfl rfl rfl Try.underlying22 Try.szB (bA_size _) ?_)
    | (refine wpList_allocV V51 10 22 rfl rfl rfl (bA 0) zeroB ?_; intro w52 g53 V54)
    | (refine wpList_storeV V54 0 rfl _ (.tmp 37) rfl rfl rfl (bA a) rfl rfl Try.szB (bA_size _) (bA_size _) (bA_one _) ?_; intro w55 V56))
  have hc0 := HC.out _ g2 (V56.at 4 rfl)
  go_wp2_with (first
    | (refine wpList_loadV V56 1 rfl 42 _ rfl rfl rfl rfl Try.underlying22 Try.szB (bA_size _) ?_)
    | (refine wpList_storeV V56 0 rfl _ (.tmp 42) rfl rfl rfl (bA o) rfl rfl Try.szB (bA_size _) (bA_size _) (bA_one _) ?_; intro w57 V58))
  refine (awake16_any w57).mono ?_
  rintro e w59 ⟨rfl, q61⟩
  have V60 := V58.call q61
  clear q61 V58
  go_wp2_with (first
    | (refine wpList_loadV V60 2 rfl 57 _ rfl rfl rfl rfl Try.underlying22 Try.szB (bA_size _) ?_)
    | (refine wpList_loadV V60 0 rfl 58 _ rfl rfl rfl rfl Try.underlying22 Try.szB (bA_size _) ?_)
    | (refine wpList_exec rfl (exec_eqlB _ _ rfl true _ _ (dtrue rfl) rfl rfl HL.out.2 HL.out.2) ?_))
  go_ret
  exact ⟨rfl, V60.bel⟩
set_option maxHeartbeats 3200000 in
theorem squares_even (a : Nat) (w : World) (o m : Nat) (ho : o < 2 ^ 256) (ha : a < fP) (hpar : a % 2 = 0) (CM : ∀ w, Calls Try.prog 11 #[.agg (bA a), .agg (bA a)] w fun e w' => e = .returned (.tuple #[.agg (bA m), .int .i64 0]) ∧ Below w.heap.size w w') (CR : ∀ w, Calls Try.prog 20 #[.agg (bA m)] w fun e w' => e = .returned (.tuple #[.agg (bA a), .bool true, .int .i64 0]) ∧ Below w.heap.size w w') (CS : ∀ w, Calls Try.prog 10 #[.agg (bA 0), .agg (bA a)] w fun e w' => e = .returned (.tuple #[.agg (bA o), .int .i64 0]) ∧ Below w.heap.size w w') : Calls Try.prog 6 #[.agg (bA a)] w fun e w' => e = .returned (.bool true) ∧ Below w.heap.size w w' := by
  have N0 : Hid (∀ w, Calls Try.prog 19 #[.int .u8 0] w fun e w' => e = .returned (.agg (bA 0)) ∧ Below w.heap.size w w') := fun w => num_any 0 (by decide) w
  have HL : Hid (a < 2 ^ 256 ∧ o < 2 ^ 256) := ⟨elt256 ha, ho⟩
  have HCM : Hid (∀ w, Calls Try.prog 11 #[.agg (bA a), .agg (bA a)] w fun e w' => e = .returned (.tuple #[.agg (bA m), .int .i64 0]) ∧ Below w.heap.size w w') := CM
  have HCR : Hid (∀ w, Calls Try.prog 20 #[.agg (bA m)] w fun e w' => e = .returned (.tuple #[.agg (bA a), .bool true, .int .i64 0]) ∧ Below w.heap.size w w') := CR
  have HCS : Hid (∀ w, Calls Try.prog 10 #[.agg (bA 0), .agg (bA a)] w fun e w' => e = .returned (.tuple #[.agg (bA o), .int .i64 0]) ∧ Below w.heap.size w w') := CS
  have hx2 : a / 256 ^ 0 % 256 % 2 = 0 := by rw [byte0]; exact hpar
  have hx9 : a / 256 ^ 0 % 256 < 256 := Nat.mod_lt _ (by decide)
  have HC : Hid (∀ (w' : World) (g : Nat), w'.heap[g]? = some (.cells (bA a) 22 (0, 0)) → w'.cell? ⟨g, 0, none⟩ = some (.int .u8 ((a / 256 ^ 0 % 256 : Nat) : Int))) := fun w' g h => cell0 h
  generalize a / 256 ^ 0 % 256 = x0 at *
  have em : (x0 : Int).tmod 2 = 0 := by rw [Int.tmod_eq_emod_of_nonneg (by omega)]; omega
  have em2 : (x0 : Int) % 2 = 0 := by omega
  clear hpar hx2 ha ho CM CR CS
  have V0 := Vars.start w
  go_enter Try.func6, Try.ntmps6
  go_wp2_with (first
    | (refine wpList_boxV V0 1 22 _ rfl rfl rfl (bA a) rfl ?_; intro w1 g2 V3)
    | (refine wpList_loadV V3 0 rfl 12 _ rfl rfl rfl rfl Try.underlying22 Try.szB (bA_size _) ?_)
    | (refine wpList_loadV V3 0 rfl 13 _ rfl rfl rfl rfl Try.underlying22 Try.szB (bA_size _) ?_))
  refine (HCM.out w1).mono ?_
  rintro e w4 ⟨rfl, q6⟩
  have V5 := V3.call q6
  clear q6 V3
  go_wp2_with (first
    | (refine wpList_allocV V5 3 22 rfl rfl rfl (bA 0) zeroB ?_; intro w7 g8 V9)
    | (refine wpList_storeV V9 0 rfl _ (.tmp 15) rfl rfl rfl (bA m) rfl rfl Try.szB (bA_size _) (bA_size _) (bA_one _) ?_; intro w10 V11)
    | (refine wpList_loadV V11 0 rfl 26 _ rfl rfl rfl rfl Try.underlying22 Try.szB (bA_size _) ?_))
  refine (HCR.out w10).mono ?_
  rintro e w12 ⟨rfl, q14⟩
  have V13 := V11.call q14
  clear q14 V11
  go_wp2_with (first
    | (refine wpList_allocV V13 5 22 rfl rfl rfl (bA 0) zeroB ?_; intro w15 g16 V17)
    | (refine wpList_storeV V17 0 rfl _ (.tmp 28) rfl rfl rfl (bA a) rfl rfl Try.szB (bA_size _) (bA_size _) (bA_one _) ?_; intro w18 V19))
  refine av_open (fun w' => Vars w w' [⟨g16, 22, bA a⟩, ⟨g8, 22, bA m⟩, ⟨g2, 22, bA a⟩]) (by kernel_rfl) ?_
  have V20 := V19.drew
  apply av_once (Vg := fun g w' => Vars w w' [⟨g, 22, bA o⟩, ⟨g16, 22, bA a⟩, ⟨g8, 22, bA m⟩, ⟨g2, 22, bA a⟩])
  · intro HC21
    refine held_reads (rs := [1]) (fuel := 8) (by kernel_rfl) (fun c d v a w h => by cases d <;> exact h) (by kernel_rfl) (V20) (fun K hK => ?_)
    refine calm_do (.agg (bA a)) rfl (by rfl) (fun w' hw' => exec_loadV hw' 2 rfl _ rfl rfl Try.underlying22 Try.szB (bA_size _)) ?_
    go_simp
    refine calm_nil (hK.out _ ?_)
    clear hK K
    refine av_op2 (i := 0) (j := 6) (fuel := 7) (by kernel_rfl) rfl (by rfl) rfl (by rfl) (fun K hK => ?_) (fun K hK => ?_)
    · go_simp
      refine (N0.out w18.drew).mono ?_
      rintro e w22 ⟨rfl, q24⟩
      have V23 := V20.call q24
      refine hK _ _ (V23) ?_
      clear hK K q24
      refine av_op2 (i := 2) (j := 6) (fuel := 6) (by kernel_rfl) rfl (by rfl) rfl (by rfl) (fun K hK => ?_) (fun K hK => ?_)
      · go_simp
        refine (HCS.out w22).mono ?_
        rintro e w25 ⟨rfl, q27⟩
        have V26 := V23.call q27
        refine hK _ _ (V26) ?_
        clear hK K q27
        refine held_reads (rs := [3, 4, 5]) (fuel := 3) (by kernel_rfl) (fun c d v a w h => by cases d <;> exact h) (by kernel_rfl) (V26) (fun K hK => ?_)
        go_simp
        refine calm_move _ rfl (by rfl) rfl ?_
        go_simp
        refine calm_do (.agg (bA o)) rfl (by rfl) (fun w' hw' => ?_) ?_
        · go_simp
        go_simp
        refine calm_do (.int .i64 0) rfl (by rfl) (fun w' hw' => ?_) ?_
        · go_simp
        go_simp
        refine calm_nil (hK.out _ ?_)
        clear hK K
        refine av_op (i := 6) (fuel := 2) (by kernel_rfl) rfl (by rfl) (fun K hK => ?_)
        refine wp_allocV V26 8 22 rfl rfl (bA 0) zeroB (fun w28 g29 V30 => ?_)
        refine hK _ _ (V30.tail) ?_
        clear hK K
        refine av_op (i := 7) (fuel := 1) (by kernel_rfl) rfl (by rfl) (fun K hK => ?_)
        refine wp_storeV V30 0 rfl _ _ rfl rfl (bA o) rfl rfl Try.szB (bA_size _) (bA_size _) (bA_one _) (fun w31 V32 => ?_)
        refine hK _ _ (V32.tail) ?_
        clear hK K
        refine held_reads (rs := [8]) (fuel := 0) (by kernel_rfl) (fun c d v a w h => by cases d <;> exact h) (by kernel_rfl) (V32.tail) (fun K hK => ?_)
        go_simp
        refine calm_assign _ rfl (by rfl) rfl ?_
        go_simp
        refine calm_nil (hK.out _ ?_)
        clear hK K
        refine wpAnyH_done (by kernel_rfl) ?_ _
        exact HC21 g29 w31 V32
      · refine wp_allocV V23 8 22 rfl rfl (bA 0) zeroB (fun w33 g34 V35 => ?_)
        refine hK _ _ (V35.tail) ?_
        clear hK K
        refine av_op (i := 2) (fuel := 5) (by kernel_rfl) rfl (by rfl) (fun K hK => ?_)
        go_simp
        refine (HCS.out w33).mono ?_
        rintro e w36 ⟨rfl, q38⟩
        have V37 := V35.call q38
        refine hK _ _ (V37.tail) ?_
        clear hK K q38
        refine held_reads (rs := [3, 4, 5]) (fuel := 2) (by kernel_rfl) (fun c d v a w h => by cases d <;> exact h) (by kernel_rfl) (V37.tail) (fun K hK => ?_)
        go_simp
        refine calm_move _ rfl (by rfl) rfl ?_
        go_simp
        refine calm_do (.agg (bA o)) rfl (by rfl) (fun w' hw' => ?_) ?_
        · go_simp
        go_simp
        refine calm_do (.int .i64 0) rfl (by rfl) (fun w' hw' => ?_) ?_
        · go_simp
        go_simp
        refine calm_nil (hK.out _ ?_)
        clear hK K
        refine av_op (i := 7) (fuel := 1) (by kernel_rfl) rfl (by rfl) (fun K hK => ?_)
        refine wp_storeV V37 0 rfl _ _ rfl rfl (bA o) rfl rfl Try.szB (bA_size _) (bA_size _) (bA_one _) (fun w39 V40 => ?_)
        refine hK _ _ (V40.tail) ?_
        clear hK K
        refine held_reads (rs := [8]) (fuel := 0) (by kernel_rfl) (fun c d v a w h => by cases d <;> exact h) (by kernel_rfl) (V40.tail) (fun K hK => ?_)
        go_simp
        refine calm_assign _ rfl (by rfl) rfl ?_
        go_simp
        refine calm_nil (hK.out _ ?_)
        clear hK K
        refine wpAnyH_done (by kernel_rfl) ?_ _
        exact HC21 g34 w39 V40
    · refine wp_allocV V20 8 22 rfl rfl (bA 0) zeroB (fun w41 g42 V43 => ?_)
      refine hK _ _ (V43.tail) ?_
      clear hK K
      refine av_op (i := 0) (fuel := 6) (by kernel_rfl) rfl (by rfl) (fun K hK => ?_)
      go_simp
      refine (N0.out w41).mono ?_
      rintro e w44 ⟨rfl, q46⟩
      have V45 := V43.call q46
      refine hK _ _ (V45.tail) ?_
      clear hK K q46
      refine av_op (i := 2) (fuel := 5) (by kernel_rfl) rfl (by rfl) (fun K hK => ?_)
      go_simp
      refine (HCS.out w44).mono ?_
      rintro e w47 ⟨rfl, q49⟩
      have V48 := V45.call q49
      refine hK _ _ (V48.tail) ?_
      clear hK K q49
      refine held_reads (rs := [3, 4, 5]) (fuel := 2) (by kernel_rfl) (fun c d v a w h => by cases d <;> exact h) (by kernel_rfl) (V48.tail) (fun K hK => ?_)
      go_simp
      refine calm_move _ rfl (by rfl) rfl ?_
      go_simp
      refine calm_do (.agg (bA o)) rfl (by rfl) (fun w' hw' => ?_) ?_
      · go_simp
      go_simp
      refine calm_do (.int .i64 0) rfl (by rfl) (fun w' hw' => ?_) ?_
      · go_simp
      go_simp
      refine calm_nil (hK.out _ ?_)
      clear hK K
      refine av_op (i := 7) (fuel := 1) (by kernel_rfl) rfl (by rfl) (fun K hK => ?_)
      refine wp_storeV V48 0 rfl _ _ rfl rfl (bA o) rfl rfl Try.szB (bA_size _) (bA_size _) (bA_one _) (fun w50 V51 => ?_)
      refine hK _ _ (V51.tail) ?_
      clear hK K
      refine held_reads (rs := [8]) (fuel := 0) (by kernel_rfl) (fun c d v a w h => by cases d <;> exact h) (by kernel_rfl) (V51.tail) (fun K hK => ?_)
      go_simp
      refine calm_assign _ rfl (by rfl) rfl ?_
      go_simp
      refine calm_nil (hK.out _ ?_)
      clear hK K
      refine wpAnyH_done (by kernel_rfl) ?_ _
      exact HC21 g42 w50 V51
  intro g42 w50 V51
  clear V20
  go_upto_region 7 with (first
    | (refine wpList_loadV V51 3 rfl 37 _ rfl rfl rfl rfl Try.underlying22 Try.szB (bA_size _) ?_)
    | (refine wpList_allocV V51 10 22 rfl rfl rfl (bA 0) zeroB ?_; intro w52 g53 V54)
    | (refine wpList_storeV V54 0 rfl _ (.tmp 37) rfl rfl rfl (bA a) rfl rfl Try.szB (bA_size _) (bA_size _) (bA_one _) ?_; intro w55 V56))
  have hc0 := HC.out _ g2 (V56.at 4 rfl)
  go_wp2_with fail
  refine (awake16_any w55).mono ?_
  rintro e w57 ⟨rfl, q59⟩
  have V58 := V56.call q59
  clear q59 V56
  go_wp2_with (first
    | (refine wpList_loadV V58 2 rfl 57 _ rfl rfl rfl rfl Try.underlying22 Try.szB (bA_size _) ?_)
    | (refine wpList_loadV V58 0 rfl 58 _ rfl rfl rfl rfl Try.underlying22 Try.szB (bA_size _) ?_)
    | (refine wpList_exec rfl (exec_eqlB _ _ rfl true _ _ (dtrue rfl) rfl rfl HL.out.1 HL.out.1) ?_))
  go_ret
  exact ⟨rfl, V58.bel⟩
theorem walk_FieldSquares (a : Nat) (w : World) (ha : a < 2 ^ 256) : Calls Try.prog 6 #[.agg (bA a)] w fun e w' => e = .returned (.bool true) ∧ Below w.heap.size w w' := by
  by_cases h1 : a < fP
  · have hm := mod_fP (a * a)
    have hC := fun w => fMul_yes a a w h1 h1
    have hR := root_of h1
    have hS := fun w => fSub_yes 0 a w fP_pos h1
    have hrt : HasRoot (a * a % fP) := ⟨a, by rw [Nat.mod_mod]⟩
    generalize a * a % fP = m at *
    have hRR := fun w => fRoot_yes m w hm (rtN_sq hm hrt)
    rw [hR, evN_def] at hRR
    have ho := mod_lt256 (0 + (fP - a))
    rcases Nat.mod_two_eq_zero_or_one a with h2 | h2
    · rw [if_neg (by omega)] at hRR
      exact squares_even a w _ m ho h1 h2 hC hRR hS
    · rw [if_pos h2] at hRR
      have e : (0 + (fP - a)) % fP = fP - a := by rw [Nat.zero_add]; exact Nat.mod_eq_of_lt (by omega)
      rw [e] at hS ho
      exact squares_odd a w _ m ho h1 h2 hC hRR hS
  · exact squares_no a w ha h1
end Go.Proofs.Ytejbpcdfmlkemaa.N
