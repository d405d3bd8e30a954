/-
 Layer 19's laws: Tells.
-/
import Derived.Test.YthangiocheodoaaGreatDoorPackFb
import Derived.Test.YthangiocheodoaaGreatDoorEdFace
import Derived.Test.YthangiocheodoaaGreatDoorEdRef4
namespace Go.Proofs.YthangiocheodoaaGreatDoor.N
open Go.RowKit
set_option linter.unusedVariables false
set_option maxRecDepth 8192

set_option maxHeartbeats 800000 in
theorem etells_long1 (pu : Nat) (pm ps : Option Addr) (lm km ls ks : Nat) (w : World) (hl : 400 < lm) : Calls Tryz.prog 5 #[.agg (bA pu), .slice pm lm km, .slice ps ls ks] w fun e w' => e = .returned (.bool true) ∧ Below w.heap.size w w' := by
 have hl9 : (400 : Int) < (lm : Int) := by omega
 have V0 := Vars.start w
 go_enter Tryz.func5, Tryz.ntmps5
 go_wp2_with (refine wpList_boxV V0 3 22 _ rfl rfl rfl (bA pu) rfl ?_; intro w1 g2 V3)
 go_ret
 exact ⟨rfl, V3.bel⟩
set_option maxHeartbeats 800000 in
theorem etells_long2 (pu : Nat) (pm ps : Option Addr) (lm km ls ks : Nat) (w : World) (hl : lm ≤ 400) (hl2 : 100 < ls) : Calls Tryz.prog 5 #[.agg (bA pu), .slice pm lm km, .slice ps ls ks] w fun e w' => e = .returned (.bool true) ∧ Below w.heap.size w w' := by
 have hl9 : ¬ (400 : Int) < (lm : Int) := by omega
 have hl8 : (100 : Int) < (ls : Int) := by omega
 have V0 := Vars.start w
 go_enter Tryz.func5, Tryz.ntmps5
 go_wp2_with (refine wpList_boxV V0 3 22 _ rfl rfl rfl (bA pu) rfl ?_; intro w1 g2 V3)
 go_ret
 exact ⟨rfl, V3.bel⟩
set_option maxHeartbeats 1600000 in
theorem etells_len (pu : Nat) (pm ps : Option Addr) (lm km ls ks : Nat) (w : World) (ho : OAt w) (hd : DAt w) (hl : lm ≤ 400) (hl2 : ls ≤ 100) (hn : ls ≠ 64) : Calls Tryz.prog 5 #[.agg (bA pu), .slice pm lm km, .slice ps ls ks] w fun e w' => e = .returned (.bool true) ∧ Below w.heap.size w w' := by
 have hl9 : ¬ (400 : Int) < (lm : Int) := by omega
 have hl8 : ¬ (100 : Int) < (ls : Int) := by omega
 have hl7 : ((ls : Int) != 64) = true := by rw [bne_iff_ne]; omega
 have HV : Hid (∀ w, Rt Tryz.prog 18 #[.agg (bA pu), .slice pm lm km, .slice ps ls ks] (.int .i64 1) w) := fun w => verify_len pu pm ps lm km ls ks hn w
 clear hl hl2 hn
 have V0 := Vars.start w
 go_enter Tryz.func5, Tryz.ntmps5
 go_wp2_with (first
  | (refine wpList_boxV V0 3 22 _ rfl rfl rfl (bA pu) rfl ?_; intro w1 g2 V3)
  | (refine zD V3 0 rfl 24 _ rfl rfl rfl rfl ?_))
 refine (HV.out w1).mono ?_
 rintro e w4 ⟨rfl, q6⟩
 have V5 := V3.call q6
 clear q6 V3
 go_wp2_with fail
 refine (awake19_any w4 (ho.of V5) (hd.of V5)).mono ?_
 rintro e w7 ⟨rfl, q9⟩
 have V8 := V5.call q9
 clear q9 V5
 go_wp2_with fail
 go_ret
 exact ⟨rfl, V8.bel⟩
set_option maxHeartbeats 3200000 in
theorem etells_pt1 (pu R s : Nat) (zr zs : List Nat) (bb off : Nat) (pm : Option Addr) (lm km ks : Nat) (kx ky qx qy : Nat) (e2 : Int) (w : World) (ho : OAt w) (hd : DAt w) (hl : lm ≤ 400) (HC : Hid (∀ w' i, Below w.heap.size w w' → i < 64 → w'.cell? ⟨bb, off + i, none⟩ = some (.int .u8 ((dg (zr ++ zs) i : Nat) : Int)))) (HL : Hid (zr.length = 32 ∧ zs.length = 32 ∧ Dig zr ∧ Dig zs)) (HZ : Hid (arr .u8 zr = bA R ∧ arr .u8 zs = bA s)) (HV : Hid (∀ w', Below w.heap.size w w' → OAt w' → DAt w' → Rt Tryz.prog 18 #[.agg (bA pu), .slice pm lm km, .slice (some ⟨bb, off, none⟩) 64 ks] (.int .i64 170) w')) (HU1 : Hid (∀ w, DAt w → Rt Tryz.prog 8 #[.agg (bA pu)] (.tuple #[.agg (pA kx ky), .int .i64 170]) w)) (HU2 : Hid (∀ w, DAt w → Rt Tryz.prog 8 #[.agg (bA R)] (.tuple #[.agg (pA qx qy), .int .i64 e2]) w)) : Calls Tryz.prog 5 #[.agg (bA pu), .slice pm lm km, .slice (some ⟨bb, off, none⟩) 64 ks] w fun e w' => e = .returned (.bool true) ∧ Below w.heap.size w w' := by
 have hl9 : ¬ (400 : Int) < (lm : Int) := by omega
 have V0 := Vars.start w
 go_enter Tryz.func5, Tryz.ntmps5
 go_wp2_with (first
  | (refine wpList_boxV V0 3 22 _ rfl rfl rfl (bA pu) rfl ?_; intro w1 g2 V3)
  | (refine zD V3 0 rfl 24 _ rfl rfl rfl rfl ?_))
 refine (HV.out w1 V3.bel (ho.of V3) (hd.of V3)).mono ?_
 rintro e w4 ⟨rfl, q6⟩
 have V5 := V3.call q6
 clear q6 V3
 go_wp2_with (first
  | (refine zA V5 8 rfl rfl rfl ?_; intro w7 g8 V9)
  | (refine zA V9 9 rfl rfl rfl ?_; intro w10 g11 V12))
 go_loopw [10] (fun y wr => ∃ k : Nat, k ≤ 32 ∧ y = .int .i64 (k : Int) ∧ Hid (Vars w wr [⟨g11, 22, arr .u8 (mixL zs (List.replicate 32 0) k)⟩, ⟨g8, 22, arr .u8 (mixL zr (List.replicate 32 0) k)⟩, ⟨g2, 22, bA pu⟩])) (fun y _ => 32 - (intOf y).toNat)
 case atStart => exact ⟨0, by omega, rfl, by rw [mixL_zero, mixL_zero, ← bA_zero]; exact V12⟩
 case round =>
  clear V12
  obtain ⟨k, hk, rfl, HV4⟩ := hrel
  have hk9 : (k : Int) ≤ 32 := by omega
  by_cases hlt : k < 32
  ·have V4 := HV4.out
   have hm1 := mixL_len (a := zr) (b := List.replicate 32 0) (k := k) (by rw [HL.out.1, List.length_replicate]) (by rw [List.length_replicate]; omega)
   have hm2 := mixL_len (a := zs) (b := List.replicate 32 0) (k := k) (by rw [HL.out.2.1, List.length_replicate]) (by rw [List.length_replicate]; omega)
   rw [List.length_replicate] at hm1 hm2
   have hc2 := arr_cell (V4.at 1 rfl) k (by rw [hm1]; exact hlt)
   have hfz := arr_unfrozen (V4.at 1 rfl) k
   have hc1 : wr.cell? ⟨bb, off + k, none⟩ = some (.int .u8 ((dg zr k : Nat) : Int)) := by
    rw [HC.out wr k V4.bel (by omega)]
    unfold dg
    rw [List.getElem?_append_left (by rw [HL.out.1]; omega)]
   have V5 := V4.setc 1 rfl k (dg zr k)
   rw [mixL_next (by rw [HL.out.1, List.length_replicate]) (by rw [List.length_replicate]; exact hlt)] at V5
   have hc4 := arr_cell (V5.at 0 rfl) k (by rw [hm2]; exact hlt)
   have hfz4 := arr_unfrozen (V5.at 0 rfl) k
   have hc3 : (wr.setCell ⟨g8, k, none⟩ (.int .u8 ((dg zr k : Nat) : Int))).cell? ⟨bb, off + (32 + k), none⟩ = some (.int .u8 ((dg zs k : Nat) : Int)) := by
    rw [HC.out _ (32 + k) V5.bel (by omega)]
    unfold dg
    rw [List.getElem?_append_right (by rw [HL.out.1]; omega), HL.out.1, show 32 + k - 32 = k by omega]
   have V6 := V5.setc 0 rfl k (dg zs k)
   rw [mixL_next (by rw [HL.out.2.1, List.length_replicate]) (by rw [List.length_replicate]; exact hlt)] at V6
   have HV6 : Hid (Vars w ((wr.setCell ⟨g8, k, none⟩ (.int .u8 ((dg zr k : Nat) : Int))).setCell ⟨g11, k, none⟩ (.int .u8 ((dg zs k : Nat) : Int))) [⟨g11, 22, arr .u8 (mixL zs (List.replicate 32 0) (k + 1))⟩, ⟨g8, 22, arr .u8 (mixL zr (List.replicate 32 0) (k + 1))⟩, ⟨g2, 22, bA pu⟩]) := V6
   generalize (mixL zr (List.replicate 32 0) k)[k]?.getD 0 = old at *
   generalize (mixL zs (List.replicate 32 0) k)[k]?.getD 0 = old2 at *
   have hx9 := HL.out.2.2.1.at k
   have hy9 := HL.out.2.2.2.at k
   clear V4 V5 V6 HV4 hm1 hm2
   generalize dg zr k = x at *
   generalize dg zs k = y at *
   have ew : IntKind.i64.wrap ((32 : Int) + (k : Int)) = ((32 + k : Nat) : Int) := by rw [IntKind.wrap_i64]; omega
   have hk32 : (k : Int) < 32 := by omega
   have hk64 : ((32 + k : Nat) : Int) < 64 := by omega
   have hk65 : (k : Int) < 64 := by omega
   have en : ((32 : Int) + (k : Int)).toNat = 32 + k := by omega
   go_wp2
   go_roundw
   case rel => exact ⟨k + 1, by omega, by go_num, HV6⟩
   case measure => simp [intOf]; omega
  ·obtain rfl : k = 32 := by omega
   have VE := HV4.out
   rw [mixL_all HL.out.1 (by rw [List.length_replicate]), mixL_all HL.out.2.1 (by rw [List.length_replicate]), HZ.out.1, HZ.out.2] at VE
   clear HV4
   go_wp2_with (refine zD VE 2 rfl 54 _ rfl rfl rfl rfl ?_)
   refine (HU1.out wr (hd.of VE)).mono ?_
   rintro e w13 ⟨rfl, q15⟩
   have V14 := VE.call q15
   clear q15 VE
   go_wp2_with (first
    | (refine wpList_allocV V14 11 28 rfl rfl rfl (pA 0 0) zeroP ?_; intro w16 g17 V18)
    | (refine wpList_storeV V18 0 rfl _ (.tmp 56) rfl rfl rfl (pA kx ky) rfl rfl Tryz.szP (pA_size _ _) (pA_size _ _) (pA_one _ _) ?_; intro w19 V20)
    | (refine zD V20 2 rfl 59 _ rfl rfl rfl rfl ?_))
   refine (HU2.out w19 (hd.of V20)).mono ?_
   rintro e w21 ⟨rfl, q23⟩
   have V22 := V20.call q23
   clear q23 V20
   go_wp2_with (first
    | (refine wpList_allocV V22 13 28 rfl rfl rfl (pA 0 0) zeroP ?_; intro w24 g25 V26)
    | (refine wpList_storeV V26 0 rfl _ (.tmp 61) rfl rfl rfl (pA qx qy) rfl rfl Tryz.szP (pA_size _ _) (pA_size _ _) (pA_one _ _) ?_; intro w27 V28))
   refine (awake19_any w27 (ho.of V28) (hd.of V28)).mono ?_
   rintro e w29 ⟨rfl, q31⟩
   have V30 := V28.call q31
   clear q31 V28
   go_wp2_with fail
   go_ret
   exact ⟨rfl, V30.bel⟩
set_option maxHeartbeats 3200000 in
theorem etells_pt2 (pu R s : Nat) (zr zs : List Nat) (bb off : Nat) (pm : Option Addr) (lm km ks : Nat) (kx ky qx qy : Nat) (w : World) (ho : OAt w) (hd : DAt w) (hl : lm ≤ 400) (HC : Hid (∀ w' i, Below w.heap.size w w' → i < 64 → w'.cell? ⟨bb, off + i, none⟩ = some (.int .u8 ((dg (zr ++ zs) i : Nat) : Int)))) (HL : Hid (zr.length = 32 ∧ zs.length = 32 ∧ Dig zr ∧ Dig zs)) (HZ : Hid (arr .u8 zr = bA R ∧ arr .u8 zs = bA s)) (HV : Hid (∀ w', Below w.heap.size w w' → OAt w' → DAt w' → Rt Tryz.prog 18 #[.agg (bA pu), .slice pm lm km, .slice (some ⟨bb, off, none⟩) 64 ks] (.int .i64 170) w')) (HU1 : Hid (∀ w, DAt w → Rt Tryz.prog 8 #[.agg (bA pu)] (.tuple #[.agg (pA kx ky), .int .i64 0]) w)) (HU2 : Hid (∀ w, DAt w → Rt Tryz.prog 8 #[.agg (bA R)] (.tuple #[.agg (pA qx qy), .int .i64 170]) w)) : Calls Tryz.prog 5 #[.agg (bA pu), .slice pm lm km, .slice (some ⟨bb, off, none⟩) 64 ks] w fun e w' => e = .returned (.bool true) ∧ Below w.heap.size w w' := by
 have hl9 : ¬ (400 : Int) < (lm : Int) := by omega
 have V0 := Vars.start w
 go_enter Tryz.func5, Tryz.ntmps5
 go_wp2_with (first
  | (refine wpList_boxV V0 3 22 _ rfl rfl rfl (bA pu) rfl ?_; intro w1 g2 V3)
  | (refine zD V3 0 rfl 24 _ rfl rfl rfl rfl ?_))
 refine (HV.out w1 V3.bel (ho.of V3) (hd.of V3)).mono ?_
 rintro e w4 ⟨rfl, q6⟩
 have V5 := V3.call q6
 clear q6 V3
 go_wp2_with (first
  | (refine zA V5 8 rfl rfl rfl ?_; intro w7 g8 V9)
  | (refine zA V9 9 rfl rfl rfl ?_; intro w10 g11 V12))
 go_loopw [10] (fun y wr => ∃ k : Nat, k ≤ 32 ∧ y = .int .i64 (k : Int) ∧ Hid (Vars w wr [⟨g11, 22, arr .u8 (mixL zs (List.replicate 32 0) k)⟩, ⟨g8, 22, arr .u8 (mixL zr (List.replicate 32 0) k)⟩, ⟨g2, 22, bA pu⟩])) (fun y _ => 32 - (intOf y).toNat)
 case atStart => exact ⟨0, by omega, rfl, by rw [mixL_zero, mixL_zero, ← bA_zero]; exact V12⟩
 case round =>
  clear V12
  obtain ⟨k, hk, rfl, HV4⟩ := hrel
  have hk9 : (k : Int) ≤ 32 := by omega
  by_cases hlt : k < 32
  ·have V4 := HV4.out
   have hm1 := mixL_len (a := zr) (b := List.replicate 32 0) (k := k) (by rw [HL.out.1, List.length_replicate]) (by rw [List.length_replicate]; omega)
   have hm2 := mixL_len (a := zs) (b := List.replicate 32 0) (k := k) (by rw [HL.out.2.1, List.length_replicate]) (by rw [List.length_replicate]; omega)
   rw [List.length_replicate] at hm1 hm2
   have hc2 := arr_cell (V4.at 1 rfl) k (by rw [hm1]; exact hlt)
   have hfz := arr_unfrozen (V4.at 1 rfl) k
   have hc1 : wr.cell? ⟨bb, off + k, none⟩ = some (.int .u8 ((dg zr k : Nat) : Int)) := by
    rw [HC.out wr k V4.bel (by omega)]
    unfold dg
    rw [List.getElem?_append_left (by rw [HL.out.1]; omega)]
   have V5 := V4.setc 1 rfl k (dg zr k)
   rw [mixL_next (by rw [HL.out.1, List.length_replicate]) (by rw [List.length_replicate]; exact hlt)] at V5
   have hc4 := arr_cell (V5.at 0 rfl) k (by rw [hm2]; exact hlt)
   have hfz4 := arr_unfrozen (V5.at 0 rfl) k
   have hc3 : (wr.setCell ⟨g8, k, none⟩ (.int .u8 ((dg zr k : Nat) : Int))).cell? ⟨bb, off + (32 + k), none⟩ = some (.int .u8 ((dg zs k : Nat) : Int)) := by
    rw [HC.out _ (32 + k) V5.bel (by omega)]
    unfold dg
    rw [List.getElem?_append_right (by rw [HL.out.1]; omega), HL.out.1, show 32 + k - 32 = k by omega]
   have V6 := V5.setc 0 rfl k (dg zs k)
   rw [mixL_next (by rw [HL.out.2.1, List.length_replicate]) (by rw [List.length_replicate]; exact hlt)] at V6
   have HV6 : Hid (Vars w ((wr.setCell ⟨g8, k, none⟩ (.int .u8 ((dg zr k : Nat) : Int))).setCell ⟨g11, k, none⟩ (.int .u8 ((dg zs k : Nat) : Int))) [⟨g11, 22, arr .u8 (mixL zs (List.replicate 32 0) (k + 1))⟩, ⟨g8, 22, arr .u8 (mixL zr (List.replicate 32 0) (k + 1))⟩, ⟨g2, 22, bA pu⟩]) := V6
   generalize (mixL zr (List.replicate 32 0) k)[k]?.getD 0 = old at *
   generalize (mixL zs (List.replicate 32 0) k)[k]?.getD 0 = old2 at *
   have hx9 := HL.out.2.2.1.at k
   have hy9 := HL.out.2.2.2.at k
   clear V4 V5 V6 HV4 hm1 hm2
   generalize dg zr k = x at *
   generalize dg zs k = y at *
   have ew : IntKind.i64.wrap ((32 : Int) + (k : Int)) = ((32 + k : Nat) : Int) := by rw [IntKind.wrap_i64]; omega
   have hk32 : (k : Int) < 32 := by omega
   have hk64 : ((32 + k : Nat) : Int) < 64 := by omega
   have hk65 : (k : Int) < 64 := by omega
   have en : ((32 : Int) + (k : Int)).toNat = 32 + k := by omega
   go_wp2
   go_roundw
   case rel => exact ⟨k + 1, by omega, by go_num, HV6⟩
   case measure => simp [intOf]; omega
  ·obtain rfl : k = 32 := by omega
   have VE := HV4.out
   rw [mixL_all HL.out.1 (by rw [List.length_replicate]), mixL_all HL.out.2.1 (by rw [List.length_replicate]), HZ.out.1, HZ.out.2] at VE
   clear HV4
   go_wp2_with (refine zD VE 2 rfl 54 _ rfl rfl rfl rfl ?_)
   refine (HU1.out wr (hd.of VE)).mono ?_
   rintro e w13 ⟨rfl, q15⟩
   have V14 := VE.call q15
   clear q15 VE
   go_wp2_with (first
    | (refine wpList_allocV V14 11 28 rfl rfl rfl (pA 0 0) zeroP ?_; intro w16 g17 V18)
    | (refine wpList_storeV V18 0 rfl _ (.tmp 56) rfl rfl rfl (pA kx ky) rfl rfl Tryz.szP (pA_size _ _) (pA_size _ _) (pA_one _ _) ?_; intro w19 V20)
    | (refine zD V20 2 rfl 59 _ rfl rfl rfl rfl ?_))
   refine (HU2.out w19 (hd.of V20)).mono ?_
   rintro e w21 ⟨rfl, q23⟩
   have V22 := V20.call q23
   clear q23 V20
   go_wp2_with (first
    | (refine wpList_allocV V22 13 28 rfl rfl rfl (pA 0 0) zeroP ?_; intro w24 g25 V26)
    | (refine wpList_storeV V26 0 rfl _ (.tmp 61) rfl rfl rfl (pA qx qy) rfl rfl Tryz.szP (pA_size _ _) (pA_size _ _) (pA_one _ _) ?_; intro w27 V28))
   refine (awake19_any w27 (ho.of V28) (hd.of V28)).mono ?_
   rintro e w29 ⟨rfl, q31⟩
   have V30 := V28.call q31
   clear q31 V28
   go_wp2_with fail
   go_ret
   exact ⟨rfl, V30.bel⟩
set_option maxHeartbeats 3200000 in
theorem etells_is (pu R s : Nat) (zr zs : List Nat) (bb off : Nat) (pm : Option Addr) (lm km ks : Nat) (kx ky qx qy : Nat) (w : World) (ho : OAt w) (hd : DAt w) (hl : lm ≤ 400) (HC : Hid (∀ w' i, Below w.heap.size w w' → i < 64 → w'.cell? ⟨bb, off + i, none⟩ = some (.int .u8 ((dg (zr ++ zs) i : Nat) : Int)))) (HL : Hid (zr.length = 32 ∧ zs.length = 32 ∧ Dig zr ∧ Dig zs)) (HZ : Hid (arr .u8 zr = bA R ∧ arr .u8 zs = bA s)) (HV : Hid (∀ w', Below w.heap.size w w' → OAt w' → DAt w' → Rt Tryz.prog 18 #[.agg (bA pu), .slice pm lm km, .slice (some ⟨bb, off, none⟩) 64 ks] (.int .i64 191) w')) (HU1 : Hid (∀ w, DAt w → Rt Tryz.prog 8 #[.agg (bA pu)] (.tuple #[.agg (pA kx ky), .int .i64 0]) w)) (HU2 : Hid (∀ w, DAt w → Rt Tryz.prog 8 #[.agg (bA R)] (.tuple #[.agg (pA qx qy), .int .i64 0]) w)) (HI : Hid (∀ w, OAt w → Rt Tryz.prog 19 #[.agg (bA s)] (.bool false) w)) : Calls Tryz.prog 5 #[.agg (bA pu), .slice pm lm km, .slice (some ⟨bb, off, none⟩) 64 ks] w fun e w' => e = .returned (.bool true) ∧ Below w.heap.size w w' := by
 have hl9 : ¬ (400 : Int) < (lm : Int) := by omega
 have V0 := Vars.start w
 go_enter Tryz.func5, Tryz.ntmps5
 go_wp2_with (first
  | (refine wpList_boxV V0 3 22 _ rfl rfl rfl (bA pu) rfl ?_; intro w1 g2 V3)
  | (refine zD V3 0 rfl 24 _ rfl rfl rfl rfl ?_))
 refine (HV.out w1 V3.bel (ho.of V3) (hd.of V3)).mono ?_
 rintro e w4 ⟨rfl, q6⟩
 have V5 := V3.call q6
 clear q6 V3
 go_wp2_with (first
  | (refine zA V5 8 rfl rfl rfl ?_; intro w7 g8 V9)
  | (refine zA V9 9 rfl rfl rfl ?_; intro w10 g11 V12))
 go_loopw [10] (fun y wr => ∃ k : Nat, k ≤ 32 ∧ y = .int .i64 (k : Int) ∧ Hid (Vars w wr [⟨g11, 22, arr .u8 (mixL zs (List.replicate 32 0) k)⟩, ⟨g8, 22, arr .u8 (mixL zr (List.replicate 32 0) k)⟩, ⟨g2, 22, bA pu⟩])) (fun y _ => 32 - (intOf y).toNat)
 case atStart => exact ⟨0, by omega, rfl, by rw [mixL_zero, mixL_zero, ← bA_zero]; exact V12⟩
 case round =>
  clear V12
  obtain ⟨k, hk, rfl, HV4⟩ := hrel
  have hk9 : (k : Int) ≤ 32 := by omega
  by_cases hlt : k < 32
  ·have V4 := HV4.out
   have hm1 := mixL_len (a := zr) (b := List.replicate 32 0) (k := k) (by rw [HL.out.1, List.length_replicate]) (by rw [List.length_replicate]; omega)
   have hm2 := mixL_len (a := zs) (b := List.replicate 32 0) (k := k) (by rw [HL.out.2.1, List.length_replicate]) (by rw [List.length_replicate]; omega)
   rw [List.length_replicate] at hm1 hm2
   have hc2 := arr_cell (V4.at 1 rfl) k (by rw [hm1]; exact hlt)
   have hfz := arr_unfrozen (V4.at 1 rfl) k
   have hc1 : wr.cell? ⟨bb, off + k, none⟩ = some (.int .u8 ((dg zr k : Nat) : Int)) := by
    rw [HC.out wr k V4.bel (by omega)]
    unfold dg
    rw [List.getElem?_append_left (by rw [HL.out.1]; omega)]
   have V5 := V4.setc 1 rfl k (dg zr k)
   rw [mixL_next (by rw [HL.out.1, List.length_replicate]) (by rw [List.length_replicate]; exact hlt)] at V5
   have hc4 := arr_cell (V5.at 0 rfl) k (by rw [hm2]; exact hlt)
   have hfz4 := arr_unfrozen (V5.at 0 rfl) k
   have hc3 : (wr.setCell ⟨g8, k, none⟩ (.int .u8 ((dg zr k : Nat) : Int))).cell? ⟨bb, off + (32 + k), none⟩ = some (.int .u8 ((dg zs k : Nat) : Int)) := by
    rw [HC.out _ (32 + k) V5.bel (by omega)]
    unfold dg
    rw [List.getElem?_append_right (by rw [HL.out.1]; omega), HL.out.1, show 32 + k - 32 = k by omega]
   have V6 := V5.setc 0 rfl k (dg zs k)
   rw [mixL_next (by rw [HL.out.2.1, List.length_replicate]) (by rw [List.length_replicate]; exact hlt)] at V6
   have HV6 : Hid (Vars w ((wr.setCell ⟨g8, k, none⟩ (.int .u8 ((dg zr k : Nat) : Int))).setCell ⟨g11, k, none⟩ (.int .u8 ((dg zs k : Nat) : Int))) [⟨g11, 22, arr .u8 (mixL zs (List.replicate 32 0) (k + 1))⟩, ⟨g8, 22, arr .u8 (mixL zr (List.replicate 32 0) (k + 1))⟩, ⟨g2, 22, bA pu⟩]) := V6
   generalize (mixL zr (List.replicate 32 0) k)[k]?.getD 0 = old at *
   generalize (mixL zs (List.replicate 32 0) k)[k]?.getD 0 = old2 at *
   have hx9 := HL.out.2.2.1.at k
   have hy9 := HL.out.2.2.2.at k
   clear V4 V5 V6 HV4 hm1 hm2
   generalize dg zr k = x at *
   generalize dg zs k = y at *
   have ew : IntKind.i64.wrap ((32 : Int) + (k : Int)) = ((32 + k : Nat) : Int) := by rw [IntKind.wrap_i64]; omega
   have hk32 : (k : Int) < 32 := by omega
   have hk64 : ((32 + k : Nat) : Int) < 64 := by omega
   have hk65 : (k : Int) < 64 := by omega
   have en : ((32 : Int) + (k : Int)).toNat = 32 + k := by omega
   go_wp2
   go_roundw
   case rel => exact ⟨k + 1, by omega, by go_num, HV6⟩
   case measure => simp [intOf]; omega
  ·obtain rfl : k = 32 := by omega
   have VE := HV4.out
   rw [mixL_all HL.out.1 (by rw [List.length_replicate]), mixL_all HL.out.2.1 (by rw [List.length_replicate]), HZ.out.1, HZ.out.2] at VE
   clear HV4
   go_wp2_with (refine zD VE 2 rfl 54 _ rfl rfl rfl rfl ?_)
   refine (HU1.out wr (hd.of VE)).mono ?_
   rintro e w13 ⟨rfl, q15⟩
   have V14 := VE.call q15
   clear q15 VE
   go_wp2_with (first
    | (refine wpList_allocV V14 11 28 rfl rfl rfl (pA 0 0) zeroP ?_; intro w16 g17 V18)
    | (refine wpList_storeV V18 0 rfl _ (.tmp 56) rfl rfl rfl (pA kx ky) rfl rfl Tryz.szP (pA_size _ _) (pA_size _ _) (pA_one _ _) ?_; intro w19 V20)
    | (refine zD V20 2 rfl 59 _ rfl rfl rfl rfl ?_))
   refine (HU2.out w19 (hd.of V20)).mono ?_
   rintro e w21 ⟨rfl, q23⟩
   have V22 := V20.call q23
   clear q23 V20
   go_wp2_with (first
    | (refine wpList_allocV V22 13 28 rfl rfl rfl (pA 0 0) zeroP ?_; intro w24 g25 V26)
    | (refine wpList_storeV V26 0 rfl _ (.tmp 61) rfl rfl rfl (pA qx qy) rfl rfl Tryz.szP (pA_size _ _) (pA_size _ _) (pA_one _ _) ?_; intro w27 V28))
   refine av_open (fun w' => Vars w w' [⟨g25, 28, pA qx qy⟩, ⟨g17, 28, pA kx ky⟩, ⟨g11, 22, bA s⟩, ⟨g8, 22, bA R⟩, ⟨g2, 22, bA pu⟩]) (by kernel_rfl) ?_
   have V29 := V28.drew
   refine zR [0] 12 (by kernel_rfl) (fun _ _ _ _ _ h => h) V29 fun K hK => ?_
   refine zC (.agg (bA s)) rfl (by rfl) (fun w' hw' => zB hw' 2 rfl _ rfl rfl) ?_
   go_simp
   refine calm_nil (hK.out _ ?_)
   clear hK K
   refine zO 1 11 (by kernel_rfl) rfl (by rfl) fun K hK => ?_
   go_simp
   refine (HI.out w27.drew (ho.of V29)).mono ?_
   rintro e w30 ⟨rfl, q32⟩
   have V31 := V29.call q32
   refine hK _ _ (V31) ?_
   clear hK K q32
   refine zR [2, 3, 4, 5, 6, 7, 8, 9, 10, 11, 12] 0 (by kernel_rfl) (fun _ _ _ _ _ h => h) V31 fun K hK => ?_
   go_simp
   refine calm_move _ rfl (by rfl) rfl ?_
   go_simp
   refine calm_skip rfl (by rfl) ?_
   go_simp
   refine calm_skip rfl (by rfl) ?_
   go_simp
   refine calm_skip rfl (by rfl) ?_
   go_simp
   refine calm_skip rfl (by rfl) ?_
   go_simp
   refine calm_skip rfl (by rfl) ?_
   go_simp
   refine calm_skip rfl (by rfl) ?_
   go_simp
   refine calm_skip rfl (by rfl) ?_
   go_simp
   refine calm_skip rfl (by rfl) ?_
   go_simp
   refine calm_skip rfl (by rfl) ?_
   go_simp
   refine zC (.bool false) rfl (by rfl) (fun w' hw' => ?_) ?_
   ·go_simp
   go_simp
   refine calm_nil (hK.out _ ?_)
   clear hK K
   refine wpAnyH_done (by kernel_rfl) ?_ _
   go_wp2_with fail
   refine (awake19_any w30 (ho.of V31) (hd.of V31)).mono ?_
   rintro e w33 ⟨rfl, q35⟩
   have V34 := V31.call q35
   clear q35 V31
   go_wp2_with fail
   go_ret
   exact ⟨rfl, V34.bel⟩
set_option maxHeartbeats 6400000 in
theorem etells_yes (pu R s : Nat) (zr zs : List Nat) (bb off : Nat) (pm : Option Addr) (lm km ks : Nat) (kx ky qx qy : Nat) (bx by9 kk : Nat) (w : World) (ho : OAt w) (hd : DAt w) (hl : lm ≤ 400) (HC : Hid (∀ w' i, Below w.heap.size w w' → i < 64 → w'.cell? ⟨bb, off + i, none⟩ = some (.int .u8 ((dg (zr ++ zs) i : Nat) : Int)))) (HL : Hid (zr.length = 32 ∧ zs.length = 32 ∧ Dig zr ∧ Dig zs)) (HZ : Hid (arr .u8 zr = bA R ∧ arr .u8 zs = bA s)) (HV : Hid (∀ w', Below w.heap.size w w' → OAt w' → DAt w' → Rt Tryz.prog 18 #[.agg (bA pu), .slice pm lm km, .slice (some ⟨bb, off, none⟩) 64 ks] (.int .i64 0) w')) (HU1 : Hid (∀ w, DAt w → Rt Tryz.prog 8 #[.agg (bA pu)] (.tuple #[.agg (pA kx ky), .int .i64 0]) w)) (HU2 : Hid (∀ w, DAt w → Rt Tryz.prog 8 #[.agg (bA R)] (.tuple #[.agg (pA qx qy), .int .i64 0]) w)) (HI : Hid (∀ w, OAt w → Rt Tryz.prog 19 #[.agg (bA s)] (.bool true) w)) (HB : Hid (∀ w, DAt w → Rt Tryz.prog 13 #[] (.agg (pA bx by9)) w)) (HK : Hid (∀ w', Below w.heap.size w w' → Rt Tryz.prog 16 #[.agg (bA R), .agg (bA pu), .slice pm lm km] (.agg (bA kk)) w')) (HH : Hid (∀ w, Rt Tryz.prog 20 #[.agg (pA bx by9), .agg (pA kx ky), .agg (pA qx qy), .agg (bA kk), .agg (bA s)] (.bool true) w)) : Calls Tryz.prog 5 #[.agg (bA pu), .slice pm lm km, .slice (some ⟨bb, off, none⟩) 64 ks] w fun e w' => e = .returned (.bool true) ∧ Below w.heap.size w w' := by
 have hl9 : ¬ (400 : Int) < (lm : Int) := by omega
 have V0 := Vars.start w
 go_enter Tryz.func5, Tryz.ntmps5
 go_wp2_with (first
  | (refine wpList_boxV V0 3 22 _ rfl rfl rfl (bA pu) rfl ?_; intro w1 g2 V3)
  | (refine zD V3 0 rfl 24 _ rfl rfl rfl rfl ?_))
 refine (HV.out w1 V3.bel (ho.of V3) (hd.of V3)).mono ?_
 rintro e w4 ⟨rfl, q6⟩
 have V5 := V3.call q6
 clear q6 V3
 go_wp2_with (first
  | (refine zA V5 8 rfl rfl rfl ?_; intro w7 g8 V9)
  | (refine zA V9 9 rfl rfl rfl ?_; intro w10 g11 V12))
 go_loopw [10] (fun y wr => ∃ k : Nat, k ≤ 32 ∧ y = .int .i64 (k : Int) ∧ Hid (Vars w wr [⟨g11, 22, arr .u8 (mixL zs (List.replicate 32 0) k)⟩, ⟨g8, 22, arr .u8 (mixL zr (List.replicate 32 0) k)⟩, ⟨g2, 22, bA pu⟩])) (fun y _ => 32 - (intOf y).toNat)
 case atStart => exact ⟨0, by omega, rfl, by rw [mixL_zero, mixL_zero, ← bA_zero]; exact V12⟩
 case round =>
  clear V12
  obtain ⟨k, hk, rfl, HV4⟩ := hrel
  have hk9 : (k : Int) ≤ 32 := by omega
  by_cases hlt : k < 32
  ·have V4 := HV4.out
   have hm1 := mixL_len (a := zr) (b := List.replicate 32 0) (k := k) (by rw [HL.out.1, List.length_replicate]) (by rw [List.length_replicate]; omega)
   have hm2 := mixL_len (a := zs) (b := List.replicate 32 0) (k := k) (by rw [HL.out.2.1, List.length_replicate]) (by rw [List.length_replicate]; omega)
   rw [List.length_replicate] at hm1 hm2
   have hc2 := arr_cell (V4.at 1 rfl) k (by rw [hm1]; exact hlt)
   have hfz := arr_unfrozen (V4.at 1 rfl) k
   have hc1 : wr.cell? ⟨bb, off + k, none⟩ = some (.int .u8 ((dg zr k : Nat) : Int)) := by
    rw [HC.out wr k V4.bel (by omega)]
    unfold dg
    rw [List.getElem?_append_left (by rw [HL.out.1]; omega)]
   have V5 := V4.setc 1 rfl k (dg zr k)
   rw [mixL_next (by rw [HL.out.1, List.length_replicate]) (by rw [List.length_replicate]; exact hlt)] at V5
   have hc4 := arr_cell (V5.at 0 rfl) k (by rw [hm2]; exact hlt)
   have hfz4 := arr_unfrozen (V5.at 0 rfl) k
   have hc3 : (wr.setCell ⟨g8, k, none⟩ (.int .u8 ((dg zr k : Nat) : Int))).cell? ⟨bb, off + (32 + k), none⟩ = some (.int .u8 ((dg zs k : Nat) : Int)) := by
    rw [HC.out _ (32 + k) V5.bel (by omega)]
    unfold dg
    rw [List.getElem?_append_right (by rw [HL.out.1]; omega), HL.out.1, show 32 + k - 32 = k by omega]
   have V6 := V5.setc 0 rfl k (dg zs k)
   rw [mixL_next (by rw [HL.out.2.1, List.length_replicate]) (by rw [List.length_replicate]; exact hlt)] at V6
   have HV6 : Hid (Vars w ((wr.setCell ⟨g8, k, none⟩ (.int .u8 ((dg zr k : Nat) : Int))).setCell ⟨g11, k, none⟩ (.int .u8 ((dg zs k : Nat) : Int))) [⟨g11, 22, arr .u8 (mixL zs (List.replicate 32 0) (k + 1))⟩, ⟨g8, 22, arr .u8 (mixL zr (List.replicate 32 0) (k + 1))⟩, ⟨g2, 22, bA pu⟩]) := V6
   generalize (mixL zr (List.replicate 32 0) k)[k]?.getD 0 = old at *
   generalize (mixL zs (List.replicate 32 0) k)[k]?.getD 0 = old2 at *
   have hx9 := HL.out.2.2.1.at k
   have hy9 := HL.out.2.2.2.at k
   clear V4 V5 V6 HV4 hm1 hm2
   generalize dg zr k = x at *
   generalize dg zs k = y at *
   have ew : IntKind.i64.wrap ((32 : Int) + (k : Int)) = ((32 + k : Nat) : Int) := by rw [IntKind.wrap_i64]; omega
   have hk32 : (k : Int) < 32 := by omega
   have hk64 : ((32 + k : Nat) : Int) < 64 := by omega
   have hk65 : (k : Int) < 64 := by omega
   have en : ((32 : Int) + (k : Int)).toNat = 32 + k := by omega
   go_wp2
   go_roundw
   case rel => exact ⟨k + 1, by omega, by go_num, HV6⟩
   case measure => simp [intOf]; omega
  ·obtain rfl : k = 32 := by omega
   have VE := HV4.out
   rw [mixL_all HL.out.1 (by rw [List.length_replicate]), mixL_all HL.out.2.1 (by rw [List.length_replicate]), HZ.out.1, HZ.out.2] at VE
   clear HV4
   go_wp2_with (refine zD VE 2 rfl 54 _ rfl rfl rfl rfl ?_)
   refine (HU1.out wr (hd.of VE)).mono ?_
   rintro e w13 ⟨rfl, q15⟩
   have V14 := VE.call q15
   clear q15 VE
   go_wp2_with (first
    | (refine wpList_allocV V14 11 28 rfl rfl rfl (pA 0 0) zeroP ?_; intro w16 g17 V18)
    | (refine wpList_storeV V18 0 rfl _ (.tmp 56) rfl rfl rfl (pA kx ky) rfl rfl Tryz.szP (pA_size _ _) (pA_size _ _) (pA_one _ _) ?_; intro w19 V20)
    | (refine zD V20 2 rfl 59 _ rfl rfl rfl rfl ?_))
   refine (HU2.out w19 (hd.of V20)).mono ?_
   rintro e w21 ⟨rfl, q23⟩
   have V22 := V20.call q23
   clear q23 V20
   go_wp2_with (first
    | (refine wpList_allocV V22 13 28 rfl rfl rfl (pA 0 0) zeroP ?_; intro w24 g25 V26)
    | (refine wpList_storeV V26 0 rfl _ (.tmp 61) rfl rfl rfl (pA qx qy) rfl rfl Tryz.szP (pA_size _ _) (pA_size _ _) (pA_one _ _) ?_; intro w27 V28))
   refine av_open (fun w' => Vars w w' [⟨g25, 28, pA qx qy⟩, ⟨g17, 28, pA kx ky⟩, ⟨g11, 22, bA s⟩, ⟨g8, 22, bA R⟩, ⟨g2, 22, bA pu⟩]) (by kernel_rfl) ?_
   have V29 := V28.drew
   refine zR [0] 12 (by kernel_rfl) (fun _ _ _ _ _ h => h) V29 fun K hK => ?_
   refine zC (.agg (bA s)) rfl (by rfl) (fun w' hw' => zB hw' 2 rfl _ rfl rfl) ?_
   go_simp
   refine calm_nil (hK.out _ ?_)
   clear hK K
   refine zO 1 11 (by kernel_rfl) rfl (by rfl) fun K hK => ?_
   go_simp
   refine (HI.out w27.drew (ho.of V29)).mono ?_
   rintro e w30 ⟨rfl, q32⟩
   have V31 := V29.call q32
   refine hK _ _ (V31) ?_
   clear hK K q32
   refine zR [2, 4, 5, 6, 7, 8, 10] 4 (by kernel_rfl) (fun _ _ _ _ _ h => h) V31 fun K hK => ?_
   go_simp
   refine calm_move _ rfl (by rfl) rfl ?_
   go_simp
   refine zC (.agg (pA kx ky)) rfl (by rfl) (fun w' hw' => exec_loadS hw' 1 rfl _ rfl rfl Tryz.underlying28 Tryz.szP (pA_size _ _)) ?_
   go_simp
   refine zC (.agg (pA qx qy)) rfl (by rfl) (fun w' hw' => exec_loadS hw' 0 rfl _ rfl rfl Tryz.underlying28 Tryz.szP (pA_size _ _)) ?_
   go_simp
   refine zC (.agg (bA R)) rfl (by rfl) (fun w' hw' => zB hw' 3 rfl _ rfl rfl) ?_
   go_simp
   refine zC (.agg (bA pu)) rfl (by rfl) (fun w' hw' => zB hw' 4 rfl _ rfl rfl) ?_
   go_simp
   refine calm_move _ rfl (by rfl) rfl ?_
   go_simp
   refine zC (.agg (bA s)) rfl (by rfl) (fun w' hw' => zB hw' 2 rfl _ rfl rfl) ?_
   go_simp
   refine calm_nil (hK.out _ ?_)
   clear hK K
   refine zO 3 3 (by kernel_rfl) rfl (by rfl) fun K hK => ?_
   go_simp
   refine (HB.out w30 (hd.of V31)).mono ?_
   rintro e w33 ⟨rfl, q35⟩
   have V34 := V31.call q35
   refine hK _ _ (V34) ?_
   clear hK K q35
   refine zO 9 2 (by kernel_rfl) rfl (by rfl) fun K hK => ?_
   go_simp
   refine (HK.out w33 V34.bel).mono ?_
   rintro e w36 ⟨rfl, q38⟩
   have V37 := V34.call q38
   refine hK _ _ (V37) ?_
   clear hK K q38
   refine zO 11 1 (by kernel_rfl) rfl (by rfl) fun K hK => ?_
   go_simp
   refine (HH.out w36).mono ?_
   rintro e w39 ⟨rfl, q41⟩
   have V40 := V37.call q41
   refine hK _ _ (V40) ?_
   clear hK K q41
   refine zR [12] 0 (by kernel_rfl) (fun _ _ _ _ _ h => h) V40 fun K hK => ?_
   go_simp
   refine zC (.bool true) rfl (by rfl) (fun w' hw' => ?_) ?_
   ·go_simp
   go_simp
   refine calm_nil (hK.out _ ?_)
   clear hK K
   refine wpAnyH_done (by kernel_rfl) ?_ _
   go_wp2_with fail
   refine (awake19_any w39 (ho.of V40) (hd.of V40)).mono ?_
   rintro e w42 ⟨rfl, q44⟩
   have V43 := V40.call q44
   clear q44 V40
   go_wp2_with fail
   go_ret
   exact ⟨rfl, V43.bel⟩
set_option maxHeartbeats 6400000 in
theorem etells_no (pu R s : Nat) (zr zs : List Nat) (bb off : Nat) (pm : Option Addr) (lm km ks : Nat) (kx ky qx qy : Nat) (bx by9 kk : Nat) (w : World) (ho : OAt w) (hd : DAt w) (hl : lm ≤ 400) (HC : Hid (∀ w' i, Below w.heap.size w w' → i < 64 → w'.cell? ⟨bb, off + i, none⟩ = some (.int .u8 ((dg (zr ++ zs) i : Nat) : Int)))) (HL : Hid (zr.length = 32 ∧ zs.length = 32 ∧ Dig zr ∧ Dig zs)) (HZ : Hid (arr .u8 zr = bA R ∧ arr .u8 zs = bA s)) (HV : Hid (∀ w', Below w.heap.size w w' → OAt w' → DAt w' → Rt Tryz.prog 18 #[.agg (bA pu), .slice pm lm km, .slice (some ⟨bb, off, none⟩) 64 ks] (.int .i64 191) w')) (HU1 : Hid (∀ w, DAt w → Rt Tryz.prog 8 #[.agg (bA pu)] (.tuple #[.agg (pA kx ky), .int .i64 0]) w)) (HU2 : Hid (∀ w, DAt w → Rt Tryz.prog 8 #[.agg (bA R)] (.tuple #[.agg (pA qx qy), .int .i64 0]) w)) (HI : Hid (∀ w, OAt w → Rt Tryz.prog 19 #[.agg (bA s)] (.bool true) w)) (HB : Hid (∀ w, DAt w → Rt Tryz.prog 13 #[] (.agg (pA bx by9)) w)) (HK : Hid (∀ w', Below w.heap.size w w' → Rt Tryz.prog 16 #[.agg (bA R), .agg (bA pu), .slice pm lm km] (.agg (bA kk)) w')) (HH : Hid (∀ w, Rt Tryz.prog 20 #[.agg (pA bx by9), .agg (pA kx ky), .agg (pA qx qy), .agg (bA kk), .agg (bA s)] (.bool false) w)) : Calls Tryz.prog 5 #[.agg (bA pu), .slice pm lm km, .slice (some ⟨bb, off, none⟩) 64 ks] w fun e w' => e = .returned (.bool true) ∧ Below w.heap.size w w' := by
 have hl9 : ¬ (400 : Int) < (lm : Int) := by omega
 have V0 := Vars.start w
 go_enter Tryz.func5, Tryz.ntmps5
 go_wp2_with (first
  | (refine wpList_boxV V0 3 22 _ rfl rfl rfl (bA pu) rfl ?_; intro w1 g2 V3)
  | (refine zD V3 0 rfl 24 _ rfl rfl rfl rfl ?_))
 refine (HV.out w1 V3.bel (ho.of V3) (hd.of V3)).mono ?_
 rintro e w4 ⟨rfl, q6⟩
 have V5 := V3.call q6
 clear q6 V3
 go_wp2_with (first
  | (refine zA V5 8 rfl rfl rfl ?_; intro w7 g8 V9)
  | (refine zA V9 9 rfl rfl rfl ?_; intro w10 g11 V12))
 go_loopw [10] (fun y wr => ∃ k : Nat, k ≤ 32 ∧ y = .int .i64 (k : Int) ∧ Hid (Vars w wr [⟨g11, 22, arr .u8 (mixL zs (List.replicate 32 0) k)⟩, ⟨g8, 22, arr .u8 (mixL zr (List.replicate 32 0) k)⟩, ⟨g2, 22, bA pu⟩])) (fun y _ => 32 - (intOf y).toNat)
 case atStart => exact ⟨0, by omega, rfl, by rw [mixL_zero, mixL_zero, ← bA_zero]; exact V12⟩
 case round =>
  clear V12
  obtain ⟨k, hk, rfl, HV4⟩ := hrel
  have hk9 : (k : Int) ≤ 32 := by omega
  by_cases hlt : k < 32
  ·have V4 := HV4.out
   have hm1 := mixL_len (a := zr) (b := List.replicate 32 0) (k := k) (by rw [HL.out.1, List.length_replicate]) (by rw [List.length_replicate]; omega)
   have hm2 := mixL_len (a := zs) (b := List.replicate 32 0) (k := k) (by rw [HL.out.2.1, List.length_replicate]) (by rw [List.length_replicate]; omega)
   rw [List.length_replicate] at hm1 hm2
   have hc2 := arr_cell (V4.at 1 rfl) k (by rw [hm1]; exact hlt)
   have hfz := arr_unfrozen (V4.at 1 rfl) k
   have hc1 : wr.cell? ⟨bb, off + k, none⟩ = some (.int .u8 ((dg zr k : Nat) : Int)) := by
    rw [HC.out wr k V4.bel (by omega)]
    unfold dg
    rw [List.getElem?_append_left (by rw [HL.out.1]; omega)]
   have V5 := V4.setc 1 rfl k (dg zr k)
   rw [mixL_next (by rw [HL.out.1, List.length_replicate]) (by rw [List.length_replicate]; exact hlt)] at V5
   have hc4 := arr_cell (V5.at 0 rfl) k (by rw [hm2]; exact hlt)
   have hfz4 := arr_unfrozen (V5.at 0 rfl) k
   have hc3 : (wr.setCell ⟨g8, k, none⟩ (.int .u8 ((dg zr k : Nat) : Int))).cell? ⟨bb, off + (32 + k), none⟩ = some (.int .u8 ((dg zs k : Nat) : Int)) := by
    rw [HC.out _ (32 + k) V5.bel (by omega)]
    unfold dg
    rw [List.getElem?_append_right (by rw [HL.out.1]; omega), HL.out.1, show 32 + k - 32 = k by omega]
   have V6 := V5.setc 0 rfl k (dg zs k)
   rw [mixL_next (by rw [HL.out.2.1, List.length_replicate]) (by rw [List.length_replicate]; exact hlt)] at V6
   have HV6 : Hid (Vars w ((wr.setCell ⟨g8, k, none⟩ (.int .u8 ((dg zr k : Nat) : Int))).setCell ⟨g11, k, none⟩ (.int .u8 ((dg zs k : Nat) : Int))) [⟨g11, 22, arr .u8 (mixL zs (List.replicate 32 0) (k + 1))⟩, ⟨g8, 22, arr .u8 (mixL zr (List.replicate 32 0) (k + 1))⟩, ⟨g2, 22, bA pu⟩]) := V6
   generalize (mixL zr (List.replicate 32 0) k)[k]?.getD 0 = old at *
   generalize (mixL zs (List.replicate 32 0) k)[k]?.getD 0 = old2 at *
   have hx9 := HL.out.2.2.1.at k
   have hy9 := HL.out.2.2.2.at k
   clear V4 V5 V6 HV4 hm1 hm2
   generalize dg zr k = x at *
   generalize dg zs k = y at *
   have ew : IntKind.i64.wrap ((32 : Int) + (k : Int)) = ((32 + k : Nat) : Int) := by rw [IntKind.wrap_i64]; omega
   have hk32 : (k : Int) < 32 := by omega
   have hk64 : ((32 + k : Nat) : Int) < 64 := by omega
   have hk65 : (k : Int) < 64 := by omega
   have en : ((32 : Int) + (k : Int)).toNat = 32 + k := by omega
   go_wp2
   go_roundw
   case rel => exact ⟨k + 1, by omega, by go_num, HV6⟩
   case measure => simp [intOf]; omega
  ·obtain rfl : k = 32 := by omega
   have VE := HV4.out
   rw [mixL_all HL.out.1 (by rw [List.length_replicate]), mixL_all HL.out.2.1 (by rw [List.length_replicate]), HZ.out.1, HZ.out.2] at VE
   clear HV4
   go_wp2_with (refine zD VE 2 rfl 54 _ rfl rfl rfl rfl ?_)
   refine (HU1.out wr (hd.of VE)).mono ?_
   rintro e w13 ⟨rfl, q15⟩
   have V14 := VE.call q15
   clear q15 VE
   go_wp2_with (first
    | (refine wpList_allocV V14 11 28 rfl rfl rfl (pA 0 0) zeroP ?_; intro w16 g17 V18)
    | (refine wpList_storeV V18 0 rfl _ (.tmp 56) rfl rfl rfl (pA kx ky) rfl rfl Tryz.szP (pA_size _ _) (pA_size _ _) (pA_one _ _) ?_; intro w19 V20)
    | (refine zD V20 2 rfl 59 _ rfl rfl rfl rfl ?_))
   refine (HU2.out w19 (hd.of V20)).mono ?_
   rintro e w21 ⟨rfl, q23⟩
   have V22 := V20.call q23
   clear q23 V20
   go_wp2_with (first
    | (refine wpList_allocV V22 13 28 rfl rfl rfl (pA 0 0) zeroP ?_; intro w24 g25 V26)
    | (refine wpList_storeV V26 0 rfl _ (.tmp 61) rfl rfl rfl (pA qx qy) rfl rfl Tryz.szP (pA_size _ _) (pA_size _ _) (pA_one _ _) ?_; intro w27 V28))
   refine av_open (fun w' => Vars w w' [⟨g25, 28, pA qx qy⟩, ⟨g17, 28, pA kx ky⟩, ⟨g11, 22, bA s⟩, ⟨g8, 22, bA R⟩, ⟨g2, 22, bA pu⟩]) (by kernel_rfl) ?_
   have V29 := V28.drew
   refine zR [0] 12 (by kernel_rfl) (fun _ _ _ _ _ h => h) V29 fun K hK => ?_
   refine zC (.agg (bA s)) rfl (by rfl) (fun w' hw' => zB hw' 2 rfl _ rfl rfl) ?_
   go_simp
   refine calm_nil (hK.out _ ?_)
   clear hK K
   refine zO 1 11 (by kernel_rfl) rfl (by rfl) fun K hK => ?_
   go_simp
   refine (HI.out w27.drew (ho.of V29)).mono ?_
   rintro e w30 ⟨rfl, q32⟩
   have V31 := V29.call q32
   refine hK _ _ (V31) ?_
   clear hK K q32
   refine zR [2, 4, 5, 6, 7, 8, 10] 4 (by kernel_rfl) (fun _ _ _ _ _ h => h) V31 fun K hK => ?_
   go_simp
   refine calm_move _ rfl (by rfl) rfl ?_
   go_simp
   refine zC (.agg (pA kx ky)) rfl (by rfl) (fun w' hw' => exec_loadS hw' 1 rfl _ rfl rfl Tryz.underlying28 Tryz.szP (pA_size _ _)) ?_
   go_simp
   refine zC (.agg (pA qx qy)) rfl (by rfl) (fun w' hw' => exec_loadS hw' 0 rfl _ rfl rfl Tryz.underlying28 Tryz.szP (pA_size _ _)) ?_
   go_simp
   refine zC (.agg (bA R)) rfl (by rfl) (fun w' hw' => zB hw' 3 rfl _ rfl rfl) ?_
   go_simp
   refine zC (.agg (bA pu)) rfl (by rfl) (fun w' hw' => zB hw' 4 rfl _ rfl rfl) ?_
   go_simp
   refine calm_move _ rfl (by rfl) rfl ?_
   go_simp
   refine zC (.agg (bA s)) rfl (by rfl) (fun w' hw' => zB hw' 2 rfl _ rfl rfl) ?_
   go_simp
   refine calm_nil (hK.out _ ?_)
   clear hK K
   refine zO 3 3 (by kernel_rfl) rfl (by rfl) fun K hK => ?_
   go_simp
   refine (HB.out w30 (hd.of V31)).mono ?_
   rintro e w33 ⟨rfl, q35⟩
   have V34 := V31.call q35
   refine hK _ _ (V34) ?_
   clear hK K q35
   refine zO 9 2 (by kernel_rfl) rfl (by rfl) fun K hK => ?_
   go_simp
   refine (HK.out w33 V34.bel).mono ?_
   rintro e w36 ⟨rfl, q38⟩
   have V37 := V34.call q38
   refine hK _ _ (V37) ?_
   clear hK K q38
   refine zO 11 1 (by kernel_rfl) rfl (by rfl) fun K hK => ?_
   go_simp
   refine (HH.out w36).mono ?_
   rintro e w39 ⟨rfl, q41⟩
   have V40 := V37.call q41
   refine hK _ _ (V40) ?_
   clear hK K q41
   refine zR [12] 0 (by kernel_rfl) (fun _ _ _ _ _ h => h) V40 fun K hK => ?_
   go_simp
   refine zC (.bool false) rfl (by rfl) (fun w' hw' => ?_) ?_
   ·go_simp
   go_simp
   refine calm_nil (hK.out _ ?_)
   clear hK K
   refine wpAnyH_done (by kernel_rfl) ?_ _
   go_wp2_with fail
   refine (awake19_any w39 (ho.of V40) (hd.of V40)).mono ?_
   rintro e w42 ⟨rfl, q44⟩
   have V43 := V40.call q44
   clear q44 V40
   go_wp2_with fail
   go_ret
   exact ⟨rfl, V43.bel⟩
theorem walk_EdTells (pu : Nat) (hpu : pu < 2 ^ 256) (m : List Nat) (dm : Dig m) (pm : Option Addr) (lm km : Nat) (z : List Nat) (dz : Dig z) (ps : Option Addr) (ls ks : Nat) (w : World) (ho : OAt w) (hd : DAt w) (hm : Row .u8 w pm lm km (nI m)) (hz : Row .u8 w ps ls ks (nI z)) : Calls Tryz.prog 5 #[.agg (bA pu), .slice pm lm km, .slice ps ls ks] w fun e w' => e = .returned (.bool true) ∧ Below w.heap.size w w' := by
 by_cases h0 : lm ≤ 400
 case neg => exact etells_long1 pu pm ps lm km ls ks w (by omega)
 by_cases h1 : ls ≤ 100
 case neg => exact etells_long2 pu pm ps lm km ls ks w h0 (by omega)
 by_cases h2 : ls = 64
 case neg => exact etells_len pu pm ps lm km ls ks w ho hd h0 h1 h2
 subst h2
 have hml : m.length = lm := by have := hm.hlen; rwa [nI_length] at this
 have hzl : z.length = 64 := by have := hz.hlen; rwa [nI_length] at this
 obtain ⟨bb, off, rfl, hbs, _⟩ := hz.hcell (by decide)
 obtain ⟨v, hv⟩ : ∃ v, v = vL z := ⟨_, rfl⟩
 have ez : z = digL v 64 := by rw [hv]; have h := digL_of dz; rwa [hzl] at h
 have hvl : v < 2 ^ 256 * 2 ^ 256 := by
  have h := dz.vL_lt
  rw [hzl, show 64 = 32 + 32 from rfl, Nat.pow_add, p256] at h
  rw [hv]; exact h
 clear hv
 obtain ⟨R, hR⟩ : ∃ R, v % 2 ^ 256 = R := ⟨_, rfl⟩
 obtain ⟨s, hs⟩ : ∃ s, v / 2 ^ 256 = s := ⟨_, rfl⟩
 have hRl : R < 2 ^ 256 := by rw [← hR]; exact h_low v
 have hsl : s < 2 ^ 256 := by rw [← hs]; exact h_high hvl
 have ev : v = R + 2 ^ 256 * s := by rw [← hR, ← hs]; exact (two_parts v).symm
 rw [ez, ev] at hz
 have hz2 := hz
 rw [digL_both hRl] at hz2
 have HC : Hid (∀ w' i, Below w.heap.size w w' → i < 64 → w'.cell? ⟨bb, off + i, none⟩ = some (.int .u8 ((dg (digL R 32 ++ digL s 32) i : Nat) : Int))) := fun w' i q hi => by
  obtain ⟨b2, o2, e2, _, hc⟩ := (hz2.below q (Nat.le_refl _)).hcell (by decide)
  cases e2
  rw [hc i hi, nI_dg]
 have HL : Hid ((digL R 32).length = 32 ∧ (digL s 32).length = 32 ∧ Dig (digL R 32) ∧ Dig (digL s 32)) := ⟨digL_length _ _, digL_length _ _, digL_dig _ _, digL_dig _ _⟩
 have HZ : Hid (arr .u8 (digL R 32) = bA R ∧ arr .u8 (digL s 32) = bA s) := ⟨(bA_def _).symm, (bA_def _).symm⟩
 have bad : ((∀ p, OnC p → packN p ≠ pu) ∨ (∀ p, OnC p → packN p ≠ R)) → ∀ w', Below w.heap.size w w' → OAt w' → DAt w' → Calls Tryz.prog 18 #[.agg (bA pu), .slice pm lm km, .slice (some ⟨bb, off, none⟩) 64 ks] w' fun e w'' => e = .returned (.int .i64 170) ∧ Below w'.heap.size w' w'' := fun h w' q ho hd => verify_bad hpu hRl hsl h pm _ lm km ks w' hd (hz.below q (Nat.le_refl _))
 by_cases h3 : ∃ p, OnC p ∧ packN p = pu
 case neg =>
  have h4 : ∀ p, OnC p → packN p ≠ pu := fun p hp e => h3 ⟨p, hp, e⟩
  obtain ⟨x, y, e, hu⟩ := unp_some hRl
  exact etells_pt1 pu R s _ _ bb off pm lm km ks 0 0 x y e w ho hd h0 HC HL HZ (bad (.inl h4)) (fun w hd => cUnpack_no hpu h4 w hd) hu
 obtain ⟨A, hA, rfl⟩ := h3
 by_cases h4 : ∃ p, OnC p ∧ packN p = R
 case neg =>
  have h5 : ∀ p, OnC p → packN p ≠ R := fun p hp e => h4 ⟨p, hp, e⟩
  exact etells_pt2 _ R s _ _ bb off pm lm km ks _ _ 0 0 w ho hd h0 HC HL HZ (bad (.inr h5)) (fun w hd => cUnpack_yes hA w hd) (fun w hd => cUnpack_no hRl h5 w hd)
 obtain ⟨Q, hQ, rfl⟩ := h4
 have U1 : ∀ w, DAt w → Calls Tryz.prog 8 #[.agg (bA (packN A))] w fun e w' => e = .returned (.tuple #[.agg (pA A.x.val A.y.val), .int .i64 0]) ∧ Below w.heap.size w w' := fun w hd => cUnpack_yes hA w hd
 have U2 : ∀ w, DAt w → Calls Tryz.prog 8 #[.agg (bA (packN Q))] w fun e w' => e = .returned (.tuple #[.agg (pA Q.x.val Q.y.val), .int .i64 0]) ∧ Below w.heap.size w w' := fun w hd => cUnpack_yes hQ w hd
 by_cases h5 : s < oL
 case neg => exact etells_is _ _ s _ _ bb off pm lm km ks _ _ _ _ w ho hd h0 HC HL HZ (fun w' q ho hd => verify_big hA hQ hsl h5 pm _ lm km ks w' ho hd (hz.below q (Nat.le_refl _))) U1 U2 (fun w ho => by have h := is18_any s w ho hsl; rwa [decide_eq_false h5] at h)
 have I1 : ∀ w, OAt w → Calls Tryz.prog 19 #[.agg (bA s)] w fun e w' => e = .returned (.bool true) ∧ Below w.heap.size w w' := fun w ho => by have h := is18_any s w ho hsl; rwa [decide_eq_true h5] at h
 have K1 : ∀ w', Below w.heap.size w w' → Calls Tryz.prog 16 #[.agg (bA (packN Q)), .agg (bA (packN A)), .slice pm lm km] w' fun e w'' => e = .returned (.agg (bA (kN (packN Q) (packN A) m))) ∧ Below w'.heap.size w' w'' := fun w' q => k19_any _ _ dm (by omega) (hm.below q (Nat.le_refl _))
 by_cases h6 : ptimes s pbase = psum Q (ptimes (kN (packN Q) (packN A) m) A)
 ·exact etells_yes _ _ s _ _ bb off pm lm km ks _ _ _ _ _ _ _ w ho hd h0 HC HL HZ (fun w' q ho hd => verify_hold hA hQ h5 m dm h6 pm _ lm km ks w' ho hd (hm.below q (Nat.le_refl _)) (by omega) (hz.below q (Nat.le_refl _))) U1 U2 I1 base_any K1 (fun w => holds19_any pbase_on hA hQ _ s (numN_lt256 _) hsl true ⟨fun _ => h6, fun _ => rfl⟩ w)
 ·exact etells_no _ _ s _ _ bb off pm lm km ks _ _ _ _ _ _ _ w ho hd h0 HC HL HZ (fun w' q ho hd => verify_fail hA hQ h5 m dm h6 pm _ lm km ks w' ho hd (hm.below q (Nat.le_refl _)) (by omega) (hz.below q (Nat.le_refl _))) U1 U2 I1 base_any K1 (fun w => holds19_any pbase_on hA hQ _ s (numN_lt256 _) hsl false ⟨fun h => (by cases h), fun h => absurd h h6⟩ w)
end Go.Proofs.YthangiocheodoaaGreatDoor.N
