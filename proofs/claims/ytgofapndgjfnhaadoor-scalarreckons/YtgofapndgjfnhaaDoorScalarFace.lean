/-
  Layer 18's laws: num; the examples.
-/
import Derived.Test.YtgofapndgjfnhaaDoorScalarCode2
import Derived.Test.YtgofapndgjfnhaaDoorFieldCode5
namespace Go.Proofs.YtgofapndgjfnhaaDoor.N
open Go.RowKit
set_option linter.unusedVariables false
set_option maxRecDepth 8192

theorem n256 {n : Nat} (h : n < 256) : n < 2 ^ 256 := Nat.lt_of_lt_of_le h (by decide)
theorem zero18 : 0 < 2 ^ 256 := Nat.two_pow_pos 256
theorem ten18 : 10 < 2 ^ 256 := n256 (by decide)
theorem ten_left : (2 * 3 + 4) % oL = 10 := by decide
theorem order_left : vL (digL oL 32) % oL = 0 := by rw [vB oL_lt256]; exact Nat.mod_self oL
theorem order_not : decide (oL < oL) = false := by decide
theorem one_is : decide (1 < oL) = true := by decide
/-- 32 bytes of which the first k are ff. -/
def fillF (k : Nat) : List Nat := List.replicate k 255 ++ List.replicate (32 - k) 0
theorem fillF_next {k : Nat} (h : k < 32) : (fillF k).set k 255 = fillF (k + 1) := by
  unfold fillF
  rw [List.set_append_right _ _ (by simp), List.length_replicate, Nat.sub_self, show 32 - k = (32 - (k + 1)) + 1 by omega, List.replicate_succ, List.set_cons_zero, List.replicate_succ' (n := k), List.append_assoc]
  rfl
theorem fillF_len {k : Nat} (h : k ≤ 32) : (fillF k).length = 32 := by unfold fillF; simp; omega
def allN : Nat := 2 ^ 256 - 1
theorem allN_lt : allN < 2 ^ 256 := by decide
theorem fillF_all : arr .u8 (fillF 32) = bA allN := by
  rw [bA_def, show fillF 32 = digL allN 32 from by decide +kernel]
theorem all_b0 : (bA (clampN allN))[0]? = some (.int .u8 248) := by
  rw [bA_get _ 0 (by decide), clamp_b0, show lowB (allN / 256 ^ 0 % 256) = 248 from by decide +kernel]
  rfl
theorem all_b31 : (bA (clampN allN))[31]? = some (.int .u8 127) := by
  rw [bA_get _ 31 (by decide), clamp_b31, show topB (allN / 256 ^ 31 % 256) = 127 from by decide +kernel]
  rfl
theorem num18_any (n : Nat) (hn : n < 256) (w : World) : Calls Tryd.prog 18 #[.int .u8 (n : Int)] w fun e w' => e = .returned (.agg (bA n)) ∧ Below w.heap.size w w' := by
  have HB := built_B n hn
  clear hn
  have V0 := Vars.start w
  go_enter Tryd.func18, Tryd.ntmps18
  go_wp2_with (first
    | (refine wpList_allocV V0 2 23 rfl rfl rfl (bA 0) zeroB ?_; intro w1 g2 V3)
    | (refine wpList_buildV 4 23 _ rfl rfl rfl (bA n) HB ?_)
    | (refine wpList_storeV V3 0 rfl _ (.tmp 4) rfl rfl rfl (bA n) rfl rfl Tryd.szB (bA_size _) (bA_size _) (bA_one _) ?_; intro w4 V5))
  exact bodyPost_ret (resV1 rfl _ V5 0 rfl rfl Tryd.underlying23 Tryd.szB (bA_size _)) rfl ⟨rfl, V5.bel⟩
set_option maxHeartbeats 3200000 in
theorem awake18_any (w : World) (ho : OAt w) : Calls Tryd.prog 9 #[] w fun e w' => e = .returned (.bool true) ∧ Below w.heap.size w w' := by
  have HO : Hid (∀ w, OAt w → Calls Tryd.prog 7 #[] w fun e w' => e = .returned (.agg (bA oL)) ∧ Below w.heap.size w w') := fun w ho => order18_any w ho
  have HI : Hid (∀ w, OAt w → Calls Tryd.prog 12 #[.agg (bA oL)] w fun e w' => e = .returned (.bool false) ∧ Below w.heap.size w w') := fun w ho => by have h := is18_any oL w ho oL_lt256; rw [order_not] at h; exact h
  have HI1 : Hid (∀ w, OAt w → Calls Tryd.prog 12 #[.agg (bA 1)] w fun e w' => e = .returned (.bool true) ∧ Below w.heap.size w w') := fun w ho => by have h := is18_any 1 w ho (n256 (by decide)); rw [one_is] at h; exact h
  have HR : Hid (∀ (w : World) (g : Nat), OAt w → w.heap[g]? = some (.cells (bA oL) 23 (0, 0)) → Calls Tryd.prog 8 #[.slice (some ⟨g, 0, none⟩) 32 32] w fun e w' => e = .returned (.agg (bA 0)) ∧ Below w.heap.size w w') := fun w g ho hg => by
    have h := reduce_any (digL oL 32) (digL_dig _ _) (some ⟨g, 0, none⟩) 32 32 w ho (row_bA hg) (by decide)
    rw [order_left] at h
    exact h
  have HM : Hid (∀ w, OAt w → Calls Tryd.prog 14 #[.agg (bA 2), .agg (bA 3), .agg (bA 4)] w fun e w' => e = .returned (.agg (bA 10)) ∧ Below w.heap.size w w') := fun w ho => by have h := mulAdd_any 2 3 4 w ho (n256 (by decide)) (n256 (by decide)) (n256 (by decide)); rw [ten_left] at h; exact h
  have HC : Hid (∀ w, Calls Tryd.prog 16 #[.agg (bA allN)] w fun e w' => e = .returned (.agg (bA (clampN allN))) ∧ Below w.heap.size w w') := fun w => clamp_any allN allN_lt w
  have HB0 : Hid ((bA (clampN allN))[0]? = some (.int .u8 248)) := all_b0
  have HB31 : Hid ((bA (clampN allN))[31]? = some (.int .u8 127)) := all_b31
  have HF : Hid (arr .u8 (fillF 32) = bA allN) := fillF_all
  generalize clampN allN = cl at *
  generalize allN = al at *
  have V0 := Vars.start w
  go_enter Tryd.func9, Tryd.ntmps9
  go_wp2_with fail
  refine (HO.out w (ho.of V0)).mono ?_
  rintro e w1 ⟨rfl, q3⟩
  have V2 := V0.call q3
  clear q3 V0
  go_wp2_with (first
    | (refine wpList_allocV V2 1 23 rfl rfl rfl (bA 0) zeroB ?_; intro w4 g5 V6)
    | (refine wpList_storeV V6 0 rfl _ (.tmp 5) rfl rfl rfl (bA oL) rfl rfl Tryd.szB (bA_size _) (bA_size _) (bA_one _) ?_; intro w7 V8)
    | (refine wpList_allocV V8 2 23 rfl rfl rfl _ zeroB32 ?_; intro wz gz VZ))
  go_loopw [3] (fun y wr => ∃ k : Nat, k ≤ 32 ∧ y = .int .i64 (k : Int) ∧ Hid (Vars w wr [⟨gz, 23, arr .u8 (fillF k)⟩, ⟨g5, 23, bA oL⟩])) (fun y _ => 32 - (intOf y).toNat)
  case atStart => exact ⟨0, by omega, rfl, VZ⟩
  case round =>
    clear VZ
    obtain ⟨k, hk, rfl, HV⟩ := hrel
    by_cases hlt : k < 32
    · have V4 := HV.out
      have hc2 := arr_cell (V4.at 0 rfl) k (by rw [fillF_len hk]; exact hlt)
      have hfz := arr_unfrozen (V4.at 0 rfl) k
      generalize (fillF k)[k]?.getD 0 = old at *
      have V5 := V4.setc 0 rfl k 255
      rw [fillF_next hlt] at V5
      have HV5 : Hid (Vars w (wr.setCell ⟨gz, k, none⟩ (.int .u8 ((255 : Nat) : Int))) [⟨gz, 23, arr .u8 (fillF (k + 1))⟩, ⟨g5, 23, bA oL⟩]) := V5
      clear V4 V5 HV
      have hk32 : (k : Int) < 32 := by omega
      go_wp2
      go_roundw
      case rel => exact ⟨k + 1, by omega, by go_num, HV5⟩
      case measure => simp [intOf]; omega
    · obtain rfl : k = 32 := by omega
      have V4 := HV.out
      rw [HF.out] at V4
      clear HV HF hk hlt
      go_wp2_with (refine wpList_loadV V4 0 rfl 12 _ rfl rfl rfl rfl Tryd.underlying23 Tryd.szB (bA_size _) ?_)
      refine (HC.out wr).mono ?_
      rintro e w9 ⟨rfl, q11⟩
      have V10 := V4.call q11
      clear q11 V4
      go_wp2_with (first
        | (refine wpList_allocV V10 4 23 rfl rfl rfl (bA 0) zeroB ?_; intro w12 g13 V14)
        | (refine wpList_storeV V14 0 rfl _ (.tmp 13) rfl rfl rfl (bA cl) rfl rfl Tryd.szB (bA_size _) (bA_size _) (bA_one _) ?_; intro w15 V16)
        | (refine wpList_loadV V16 2 rfl 14 _ rfl rfl rfl rfl Tryd.underlying23 Tryd.szB (bA_size _) ?_))
      refine (HI.out w15 (ho.of V16)).mono ?_
      rintro e w17 ⟨rfl, q19⟩
      have V18 := V16.call q19
      clear q19 V16
      go_wp2_with (refine wpList_exec rfl (exec_sliceB V18 2 rfl _ rfl rfl) ?_)
      refine (HR.out w17 g5 (ho.of V18) (V18.at 2 rfl)).mono ?_
      rintro e w20 ⟨rfl, q22⟩
      have V21 := V18.call q22
      clear q22 V18
      go_wp2_with fail
      refine (num18_any 0 (by decide) w20).mono ?_
      rintro e w23 ⟨rfl, q25⟩
      have V24 := V21.call q25
      clear q25 V21
      go_wp2_with (refine wpList_exec rfl (exec_eqlB _ _ rfl true _ _ (decide_eq_true rfl) rfl rfl zero18 zero18) ?_)
      refine (num18_any 2 (by decide) w23).mono ?_
      rintro e w26 ⟨rfl, q28⟩
      have V27 := V24.call q28
      clear q28 V24
      go_wp2_with fail
      refine (num18_any 3 (by decide) w26).mono ?_
      rintro e w29 ⟨rfl, q31⟩
      have V30 := V27.call q31
      clear q31 V27
      go_wp2_with fail
      refine (num18_any 4 (by decide) w29).mono ?_
      rintro e w32 ⟨rfl, q34⟩
      have V33 := V30.call q34
      clear q34 V30
      go_wp2_with fail
      refine (HM.out w32 (ho.of V33)).mono ?_
      rintro e w35 ⟨rfl, q37⟩
      have V36 := V33.call q37
      clear q37 V33
      go_wp2_with fail
      refine (num18_any 10 (by decide) w35).mono ?_
      rintro e w38 ⟨rfl, q40⟩
      have V39 := V36.call q40
      clear q40 V36
      have hc0 := cell_byte V39 0 rfl 0 HB0.out
      have hc31 := cell_byte V39 0 rfl 31 HB31.out
      go_wp2_with (refine wpList_exec rfl (exec_eqlB _ _ rfl true _ _ (decide_eq_true rfl) rfl rfl ten18 ten18) ?_)
      refine (num18_any 1 (by decide) w38).mono ?_
      rintro e w41 ⟨rfl, q43⟩
      have V42 := V39.call q43
      clear q43 V39
      go_wp2_with fail
      refine (HI1.out w41 (ho.of V42)).mono ?_
      rintro e w44 ⟨rfl, q46⟩
      have V45 := V42.call q46
      clear q46 V42
      go_wp2_with fail
      go_ret
      exact ⟨rfl, V45.bel⟩
end Go.Proofs.YtgofapndgjfnhaaDoor.N
