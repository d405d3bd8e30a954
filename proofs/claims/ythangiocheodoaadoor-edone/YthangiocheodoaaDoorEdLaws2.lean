/-
  Layer 19's laws: One.
-/
import Derived.Test.YthangiocheodoaaDoorEdFace
namespace Go.Proofs.YthangiocheodoaaDoor.N
open Go.RowKit
set_option linter.unusedVariables false
set_option maxRecDepth 8192

set_option maxHeartbeats 800000 in
theorem eone_long (sd more : Nat) (pm : Option Addr) (lm km : Nat) (w : World) (hl : 400 < lm) : Calls Tryd.prog 4 #[.agg (bA sd), .slice pm lm km, .int .u8 (more : Int)] w fun e w' => e = .returned (.bool true) ∧ Below w.heap.size w w' := by
  have hl9 : (400 : Int) < (lm : Int) := by omega
  have V0 := Vars.start w
  go_enter Tryd.func4, Tryd.ntmps4
  go_wp2_with (refine wpList_boxV V0 3 22 _ rfl rfl rfl (bA sd) rfl ?_; intro w1 g2 V3)
  go_ret
  exact ⟨rfl, V3.bel⟩
set_option maxHeartbeats 800000 in
theorem eone_zero (sd : Nat) (pm : Option Addr) (lm km : Nat) (w : World) (hl : lm ≤ 400) : Calls Tryd.prog 4 #[.agg (bA sd), .slice pm lm km, .int .u8 0] w fun e w' => e = .returned (.bool true) ∧ Below w.heap.size w w' := by
  have hl9 : ¬ (400 : Int) < (lm : Int) := by omega
  have V0 := Vars.start w
  go_enter Tryd.func4, Tryd.ntmps4
  go_wp2_with (refine wpList_boxV V0 3 22 _ rfl rfl rfl (bA sd) rfl ?_; intro w1 g2 V3)
  go_ret
  exact ⟨rfl, V3.bel⟩
set_option maxHeartbeats 6400000 in
theorem eone_gen (sd more sg s u fr pu : Nat) (zp zs zu : List Nat) (pm : Option Addr) (lm km : Nat) (w : World) (ho : OAt w) (hd : DAt w) (hl9 : ¬ (400 : Int) < (lm : Int)) (hm9 : ¬ (more : Int) = 0) (hm2 : more < 256)
    (HG : Hid (∀ w', OAt w' → DAt w' → Below w.heap.size w w' → Calls Tryd.prog 6 #[.agg (bA sd), .slice pm lm km] w' fun e w'' => e = .returned (.agg (hA sg)) ∧ Below w'.heap.size w' w''))
    (HP : Hid (∀ w, DAt w → Calls Tryd.prog 8 #[.agg (bA sd)] w fun e w' => e = .returned (.agg (bA pu)) ∧ Below w.heap.size w w')) (HM : Hid (∀ w, OAt w → Calls Tryd.prog 10 #[.agg (bA s), .agg (bA 1), .agg (bA more)] w fun e w' => e = .returned (.agg (bA u)) ∧ Below w.heap.size w w'))
    (HV : Hid (∀ (w' : World) (g : Nat), OAt w' → DAt w' → Below w.heap.size w w' → w'.heap[g]? = some (.cells (hA fr) 24 (0, 0)) → Calls Tryd.prog 7 #[.agg (bA pu), .slice pm lm km, .slice (some ⟨g, 0, none⟩) 64 64] w' fun e w'' => e = .returned (.int .i64 191) ∧ Below w'.heap.size w' w''))
    (HL : Hid (zp.length = 32 ∧ zs.length = 32 ∧ zu.length = 32 ∧ Dig zs ∧ Dig zu)) (HSG : Hid (hA sg = arr .u8 (zp ++ zs))) (HFR : Hid (arr .u8 (zp ++ zu) = hA fr)) (HS : Hid (arr .u8 zs = bA s)) (HU : Hid (bA u = arr .u8 zu)) :
    Calls Tryd.prog 4 #[.agg (bA sd), .slice pm lm km, .int .u8 (more : Int)] w fun e w' => e = .returned (.bool true) ∧ Below w.heap.size w w' := by
  have HB1 := built_B 1 (by decide)
  have HB2 := built_B more hm2
  have V0 := Vars.start w
  go_enter Tryd.func4, Tryd.ntmps4
  go_wp2_with (first
    | (refine wpList_boxV V0 3 22 _ rfl rfl rfl (bA sd) rfl ?_; intro w1 g2 V3)
    | (refine wpList_loadV V3 0 rfl 19 _ rfl rfl rfl rfl Tryd.underlying22 Tryd.szB (bA_size _) ?_))
  refine (HG.out w1 (ho.of V3) (hd.of V3) V3.bel).mono ?_
  rintro e w4 ⟨rfl, q6⟩
  have V5 := V3.call q6
  clear q6 V3
  go_wp2_with (first
    | (refine wpList_allocV V5 7 24 rfl rfl rfl (hA 0) zeroH ?_; intro w7 g8 V9)
    | (refine wpList_storeV V9 0 rfl _ (.tmp 21) rfl rfl rfl (hA sg) rfl rfl Tryd.szH (hA_size _) (hA_size _) (hA_one _) ?_; intro w10 V11)
    | (refine wpList_allocV V11 8 22 rfl rfl rfl (bA 0) zeroB ?_; intro w12 g13 V14))
  go_loopw [9] (fun y wr => ∃ k : Nat, k ≤ 32 ∧ y = .int .i64 (k : Int) ∧ Hid (Vars w wr [⟨g13, 22, arr .u8 (mixL zs (List.replicate 32 0) k)⟩, ⟨g8, 24, hA sg⟩, ⟨g2, 22, bA sd⟩])) (fun y _ => 32 - (intOf y).toNat)
  case atStart => exact ⟨0, by omega, rfl, by rw [mixL_zero, ← bA_zero]; exact V14⟩
  case round =>
    clear V14
    obtain ⟨k, hk, rfl, HV4⟩ := hrel
    have hk9 : (k : Int) ≤ 32 := by omega
    by_cases hlt : k < 32
    · have V4 := HV4.out
      have hc2 := arr_cell (V4.at 0 rfl) k (by rw [mixL_len (by rw [HL.out.2.1, List.length_replicate]) (by rw [List.length_replicate]; omega), List.length_replicate]; exact hlt)
      have hfz := arr_unfrozen (V4.at 0 rfl) k
      have hc1 : wr.cell? ⟨g8, 32 + k, none⟩ = some (.int .u8 ((dg zs k : Nat) : Int)) := by
        refine cell_byte V4 1 rfl (32 + k) ?_
        rw [HSG.out, arr_get _ _ _ (by rw [List.length_append, HL.out.1, HL.out.2.1]; omega), List.getElem?_append_right (by rw [HL.out.1]; omega), HL.out.1, show 32 + k - 32 = k by omega]
        rfl
      generalize (mixL zs (List.replicate 32 0) k)[k]?.getD 0 = old at *
      have V5 := V4.setc 0 rfl k (dg zs k)
      rw [mixL_next (by rw [HL.out.2.1, List.length_replicate]) (by rw [List.length_replicate]; exact hlt)] at V5
      have HV5 : Hid (Vars w (wr.setCell ⟨g13, k, none⟩ (.int .u8 ((dg zs k : Nat) : Int))) [⟨g13, 22, arr .u8 (mixL zs (List.replicate 32 0) (k + 1))⟩, ⟨g8, 24, hA sg⟩, ⟨g2, 22, bA sd⟩]) := V5
      have hx9 := HL.out.2.2.2.1.at k
      clear V4 V5 HV4
      generalize dg zs k = x at *
      have ew : IntKind.i64.wrap ((32 : Int) + (k : Int)) = ((32 + k : Nat) : Int) := by rw [IntKind.wrap_i64]; omega
      have hk32 : (k : Int) < 32 := by omega
      have hk64 : ((32 + k : Nat) : Int) < 64 := by omega
      have en : ((32 : Int) + (k : Int)).toNat = 32 + k := by omega
      go_wp2
      go_roundw
      case rel => exact ⟨k + 1, by omega, by go_num, HV5⟩
      case measure => simp [intOf]; omega
    · obtain rfl : k = 32 := by omega
      have V6 := HV4.out
      rw [mixL_all HL.out.2.1 (by rw [List.length_replicate]), HS.out] at V6
      clear HV4
      go_wp2_with (first
        | (refine wpList_loadV V6 0 rfl 32 _ rfl rfl rfl rfl Tryd.underlying22 Tryd.szB (bA_size _) ?_)
        | (refine wpList_buildV 33 22 _ rfl rfl rfl (bA 1) HB1 ?_)
        | (refine wpList_buildV 35 22 _ rfl rfl rfl (bA more) HB2 ?_))
      refine (HM.out wr (ho.of V6)).mono ?_
      rintro e w15 ⟨rfl, q17⟩
      have V16 := V6.call q17
      clear q17 V6
      go_wp2_with (first
        | (refine wpList_allocV V16 10 22 rfl rfl rfl (bA 0) zeroB ?_; intro w18 g19 V20)
        | (refine wpList_storeV V20 0 rfl _ (.tmp 36) rfl rfl rfl (bA u) rfl rfl Tryd.szB (bA_size _) (bA_size _) (bA_one _) ?_; intro w21 V22))
      go_loopw [11] (fun y wr => ∃ k : Nat, k ≤ 32 ∧ y = .int .i64 (k : Int) ∧ Hid (Vars w wr [⟨g19, 22, bA u⟩, ⟨g13, 22, bA s⟩, ⟨g8, 24, arr .u8 (zp ++ mixL zu zs k)⟩, ⟨g2, 22, bA sd⟩])) (fun y _ => 32 - (intOf y).toNat)
      case atStart => exact ⟨0, by omega, rfl, by rw [mixL_zero, ← HSG.out]; exact V22⟩
      case round =>
        clear V22
        obtain ⟨k, hk, rfl, HV4⟩ := hrel
        have hk9 : (k : Int) ≤ 32 := by omega
        by_cases hlt : k < 32
        · have V4 := HV4.out
          have hml := mixL_len (a := zu) (b := zs) (k := k) (by rw [HL.out.2.1, HL.out.2.2.1]) (by rw [HL.out.2.1]; omega)
          have hc2 := arr_cell (V4.at 2 rfl) (32 + k) (by rw [List.length_append, hml, HL.out.1, HL.out.2.1]; omega)
          have hfz := arr_unfrozen (V4.at 2 rfl) (32 + k)
          have hc1 : wr.cell? ⟨g19, k, none⟩ = some (.int .u8 ((dg zu k : Nat) : Int)) := by
            refine cell_byte V4 0 rfl k ?_
            rw [HU.out, arr_get _ _ _ (by rw [HL.out.2.2.1]; exact hlt)]
            rfl
          generalize (zp ++ mixL zu zs k)[32 + k]?.getD 0 = old at *
          have V5 := V4.setc 2 rfl (32 + k) (dg zu k)
          rw [List.set_append_right _ _ (by rw [HL.out.1]; omega), HL.out.1, show 32 + k - 32 = k by omega, mixL_next (by rw [HL.out.2.1, HL.out.2.2.1]) (by rw [HL.out.2.1]; exact hlt)] at V5
          have HV5 : Hid (Vars w (wr.setCell ⟨g8, 32 + k, none⟩ (.int .u8 ((dg zu k : Nat) : Int))) [⟨g19, 22, bA u⟩, ⟨g13, 22, bA s⟩, ⟨g8, 24, arr .u8 (zp ++ mixL zu zs (k + 1))⟩, ⟨g2, 22, bA sd⟩]) := V5
          have hx9 := HL.out.2.2.2.2.at k
          clear V4 V5 HV4 hml
          generalize dg zu k = x at *
          have ew : IntKind.i64.wrap ((32 : Int) + (k : Int)) = ((32 + k : Nat) : Int) := by rw [IntKind.wrap_i64]; omega
          have hk32 : (k : Int) < 32 := by omega
          have hk64 : ((32 + k : Nat) : Int) < 64 := by omega
          have en : ((32 : Int) + (k : Int)).toNat = 32 + k := by omega
          go_wp2
          go_roundw
          case rel => exact ⟨k + 1, by omega, by go_num, HV5⟩
          case measure => simp [intOf]; omega
        · obtain rfl : k = 32 := by omega
          have V12 := HV4.out
          rw [mixL_all HL.out.2.2.1 HL.out.2.1, HFR.out] at V12
          clear HV4
          go_wp2_with fail
          refine av_open (fun w' => Vars w w' [⟨g19, 22, bA u⟩, ⟨g13, 22, bA s⟩, ⟨g8, 24, hA fr⟩, ⟨g2, 22, bA sd⟩]) (by kernel_rfl) ?_
          have V23 := V12.drew
          refine av_op (i := 0) (fuel := 9) (by kernel_rfl) rfl (by rfl) (fun K hK => ?_)
          go_simp
          refine (awake19_any wr.drew (ho.of V23) (hd.of V23)).mono ?_
          rintro e w24 ⟨rfl, q26⟩
          have V25 := V23.call q26
          refine hK _ _ (V25) ?_
          clear hK K q26
          refine held_reads (rs := [1, 2, 4, 5]) (fuel := 5) (by kernel_rfl) (fun c d v a w h => by cases d <;> exact h) (by kernel_rfl) (V25) (fun K hK => ?_)
          go_simp
          refine calm_move _ rfl (by rfl) rfl ?_
          go_simp
          refine calm_do (.agg (bA sd)) rfl (by rfl) (fun w' hw' => exec_loadV hw' 3 rfl _ rfl rfl Tryd.underlying22 Tryd.szB (bA_size _)) ?_
          go_simp
          refine calm_move _ rfl (by rfl) rfl ?_
          go_simp
          refine calm_do (.slice (some ⟨g8, 0, none⟩) 64 64) rfl (by rfl) (fun w' hw' => exec_sliceH hw' 2 rfl _ rfl rfl) ?_
          go_simp
          refine calm_nil (hK.out _ ?_)
          clear hK K
          refine av_op (i := 3) (fuel := 4) (by kernel_rfl) rfl (by rfl) (fun K hK => ?_)
          go_simp
          refine (HP.out w24 (hd.of V25)).mono ?_
          rintro e w27 ⟨rfl, q29⟩
          have V28 := V25.call q29
          refine hK _ _ (V28) ?_
          clear hK K q29
          refine av_op (i := 6) (fuel := 3) (by kernel_rfl) rfl (by rfl) (fun K hK => ?_)
          go_simp
          refine (HV.out w27 g8 (ho.of V28) (hd.of V28) V28.bel (V28.at 2 rfl)).mono ?_
          rintro e w30 ⟨rfl, q32⟩
          have V31 := V28.call q32
          refine hK _ _ (V31) ?_
          clear hK K q32
          refine held_reads (rs := [7, 8, 9]) (fuel := 0) (by kernel_rfl) (fun c d v a w h => by cases d <;> exact h) (by kernel_rfl) (V31) (fun K hK => ?_)
          go_simp
          refine calm_do (.bool true) rfl (by rfl) (fun w' hw' => ?_) ?_
          · go_simp
          go_simp
          refine calm_do (.bool true) rfl (by rfl) (fun w' hw' => ?_) ?_
          · go_simp
          go_simp
          refine calm_assign _ rfl (by rfl) rfl ?_
          go_simp
          refine calm_nil (hK.out _ ?_)
          clear hK K
          refine wpAnyH_done (by kernel_rfl) ?_ _
          go_wp2_with fail
          go_ret
          exact ⟨rfl, V31.bel⟩
theorem walk_EdOne (sd : Nat) (hs : sd < 2 ^ 256) (m : List Nat) (dm : Dig m) (pm : Option Addr) (lm km : Nat) (more : Nat) (hm2 : more < 256) (w : World) (ho : OAt w) (hd : DAt w) (hm : Row .u8 w pm lm km (nI m)) : Calls Tryd.prog 4 #[.agg (bA sd), .slice pm lm km, .int .u8 (more : Int)] w fun e w' => e = .returned (.bool true) ∧ Below w.heap.size w w' := by
  by_cases h0 : lm ≤ 400
  case neg => exact eone_long sd more pm lm km w (by omega)
  by_cases h1 : more = 0
  · subst h1; exact eone_zero sd pm lm km w h0
  · have hu : (sN sd m * 1 + more) % oL < oL := mod_oL _
    have hu2 : (sN sd m * 1 + more) % oL < 2 ^ 256 := mod_oL256 _
    have hf : ptN sd m + 2 ^ 256 * ((sN sd m * 1 + more) % oL) = packN (rP sd m) + 2 ^ 256 * ((sN sd m * 1 + more) % oL) := rfl
    refine eone_gen sd more (sgN sd m) (sN sd m) ((sN sd m * 1 + more) % oL) (ptN sd m + 2 ^ 256 * ((sN sd m * 1 + more) % oL)) (pubN sd) (digL (ptN sd m) 32) (digL (sN sd m) 32) (digL ((sN sd m * 1 + more) % oL) 32) pm lm km w ho hd (by omega) (by omega) hm2
      (fun w' ho hd q => sign_any sd hs pm lm km m dm w' ho hd (hm.below q (Nat.le_refl _)) (by omega)) (fun w hd => public_any sd hs w hd) (fun w ho => mulAdd_any _ 1 more w ho (sN_lt256 sd m) (by decide) (Nat.lt_of_lt_of_le hm2 (by decide))) ?_ ⟨digL_length _ _, digL_length _ _, digL_length _ _, digL_dig _ _, digL_dig _ _⟩ ?_ ?_ ?_ ?_
    · intro w' g ho hd q hg
      have hr := row_hA hg
      refine verify_fail (pubP_on sd) (rP_on sd m) hu m dm ?_ pm _ lm km 64 w' ho hd (hm.below q (Nat.le_refl _)) (by omega) hr
      have e := sign_holds sd m
      intro h2
      have h3 : ptimes ((sN sd m * 1 + more) % oL) pbase = ptimes (sN sd m) pbase := h2.trans e.symm
      exact one_alone h1 hm2 h3
    · show hA (sgN sd m) = _
      rw [hA_def, show sgN sd m = ptN sd m + 2 ^ 256 * sN sd m from rfl, digL_both (ptN_lt sd m)]
    · show arr _ _ = _
      rw [← digL_both (ptN_lt sd m), ← hA_def]
    · show arr _ _ = _
      rw [bA_def]
    · show bA _ = _
      rw [bA_def]
end Go.Proofs.YthangiocheodoaaDoor.N
