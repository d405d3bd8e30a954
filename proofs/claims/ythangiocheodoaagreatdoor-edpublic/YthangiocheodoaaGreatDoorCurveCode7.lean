/-
 The code of layer 17 (curve): Pack, Unpack.
-/
import Derived.Test.YthangiocheodoaaGreatDoorPackFb
import Derived.Test.YthangiocheodoaaGreatDoorCurveCode5
import Derived.Deep.CutRange
namespace Go.Proofs.YthangiocheodoaaGreatDoor.N
open Go.RowKit
set_option linter.unusedVariables false
set_option maxRecDepth 8192

theorem byte_and1 (x : Nat) (hx : x < 256) : bits .and .u8 (x : Int) 1 = ((x % 2 : Nat) : Int) := by
 have h := u8_and_nat x 1 (by omega) (by decide)
 rw [show x &&& 1 = x % 2 from Nat.and_two_pow_sub_one_eq_mod _ 1] at h
 exact h
theorem and128 : ∀ x : Fin 256, x.val &&& 128 = x.val / 128 * 128 := by decide
theorem or128 : ∀ x : Fin 128, x.val ||| 128 = x.val + 128 := by decide
theorem not128 : ∀ x : Fin 256, x.val &&& (255 - 128) = x.val % 128 := by decide
theorem byte_and128 (x : Nat) (hx : x < 256) : bits .and .u8 (x : Int) 128 = ((x / 128 * 128 : Nat) : Int) := by
 have h := u8_and_nat x 128 hx (by decide)
 rw [and128 ⟨x, hx⟩] at h
 exact h
theorem byte_or128 (x : Nat) (hx : x < 128) : bits .or .u8 (x : Int) 128 = ((x + 128 : Nat) : Int) := by
 have h := u8_or_nat x 128 (by omega) (by decide)
 rw [or128 ⟨x, hx⟩] at h
 exact h
theorem byte_not128 (x : Nat) (hx : x < 256) : bits .andNot .u8 (x : Int) 128 = ((x % 128 : Nat) : Int) := by
 have h := u8_andNot_nat x 128 hx (by decide)
 rw [not128 ⟨x, hx⟩] at h
 exact h
theorem tmod2 (x : Nat) : (x : Int).tmod 2 = ((x % 2 : Nat) : Int) := rfl
theorem wrap128 (y : Nat) (h : y < 128) : IntKind.u8.wrap ((y : Int) + 128) = ((y + 128 : Nat) : Int) := by
 rw [IntKind.wrap_u8]; omega
theorem byte0 (x : Nat) : x / 256 ^ 0 % 256 % 2 = x % 2 := by rw [Nat.pow_zero, Nat.div_one, Nat.mod_mod_of_dvd _ (by decide)]
set_option maxHeartbeats 800000 in
theorem cPack_even (x y x0 : Nat) (w : World) (hd : DAt w) (HX : Hid (∀ w, DAt w → Rt Tryz.prog 75 #[.agg (pA x y)] (.bool true) w)) (HX0 : Hid ((pA x y)[0]? = some (.int .u8 (x0 : Int)))) (hx9 : x0 < 256) (ea : bits .and .u8 (x0 : Int) 1 = 0) : Calls Tryz.prog 48 #[.agg (pA x y)] w fun e w' => e = .returned (.tuple #[.agg (bA y), .int .i64 0]) ∧ Below w.heap.size w w' := by
 have V0 := Vars.start w
 go_enter Tryz.func48, Tryz.ntmps48
 go_wp2_with (first
  | (refine wpList_boxV V0 1 28 _ rfl rfl rfl (pA x y) rfl ?_; intro w1 g2 V3)
  | (refine zA V3 2 rfl rfl rfl ?_; intro w4 g5 V6)
  | (refine wpList_exec rfl (exec_loadS V6 1 rfl _ rfl rfl Tryz.underlying28 Tryz.szP (pA_size _ _)) ?_))
 refine (HX.out w4 (hd.of V6)).mono ?_
 rintro e w7 ⟨rfl, q9⟩
 have V8 := V6.call q9
 clear q9 V6
 go_upto_region 4 with (first
  | (refine wpList_exec rfl (exec_loadP V8 1 rfl 32 (pA_part1 _ _) _ rfl rfl Tryz.underlying22 Tryz.szB (bA_size _)) ?_)
  | (refine zA V8 4 rfl rfl rfl ?_; intro w10 g11 V12)
  | (refine zL V12 0 rfl _ (.tmp 10) rfl rfl rfl y rfl rfl ?_; intro w13 V14))
 have hc0 := cell_byte V14 2 rfl 0 HX0.out
 go_wp2_with (first
  | (refine zD V14 0 rfl 20 _ rfl rfl rfl rfl ?_)
  | (refine zL V14 1 rfl _ (.tmp 20) rfl rfl rfl y rfl rfl ?_; intro w15 V16))
 exact bodyPost_ret (resV2 rfl _ V16 1 rfl rfl Tryz.underlying22 Tryz.szB (bA_size _)) rfl ⟨rfl, V16.bel⟩
set_option maxHeartbeats 800000 in
theorem cPack_odd (x y x0 y31 yo r : Nat) (w : World) (hd : DAt w) (HX : Hid (∀ w, DAt w → Rt Tryz.prog 75 #[.agg (pA x y)] (.bool true) w)) (HX0 : Hid ((pA x y)[0]? = some (.int .u8 (x0 : Int)))) (hx9 : x0 < 256) (ea : bits .and .u8 (x0 : Int) 1 = 1) (HY31 : Hid ((bA y)[31]? = some (.int .u8 (y31 : Int)))) (hy9 : y31 < 128) (eo : bits .or .u8 (y31 : Int) 128 = (yo : Int)) (HS : Hid ((digL y 32).set 31 yo = digL r 32)) : Calls Tryz.prog 48 #[.agg (pA x y)] w fun e w' => e = .returned (.tuple #[.agg (bA r), .int .i64 0]) ∧ Below w.heap.size w w' := by
 have V0 := Vars.start w
 go_enter Tryz.func48, Tryz.ntmps48
 go_wp2_with (first
  | (refine wpList_boxV V0 1 28 _ rfl rfl rfl (pA x y) rfl ?_; intro w1 g2 V3)
  | (refine zA V3 2 rfl rfl rfl ?_; intro w4 g5 V6)
  | (refine wpList_exec rfl (exec_loadS V6 1 rfl _ rfl rfl Tryz.underlying28 Tryz.szP (pA_size _ _)) ?_))
 refine (HX.out w4 (hd.of V6)).mono ?_
 rintro e w7 ⟨rfl, q9⟩
 have V8 := V6.call q9
 clear q9 V6
 go_upto_region 4 with (first
  | (refine wpList_exec rfl (exec_loadP V8 1 rfl 32 (pA_part1 _ _) _ rfl rfl Tryz.underlying22 Tryz.szB (bA_size _)) ?_)
  | (refine zA V8 4 rfl rfl rfl ?_; intro w10 g11 V12)
  | (refine zL V12 0 rfl _ (.tmp 10) rfl rfl rfl y rfl rfl ?_; intro w13 V14))
 have hc0 := cell_byte V14 2 rfl 0 HX0.out
 have hc31 := cell_byte V14 0 rfl 31 HY31.out
 have hfz := arr_unfrozen (V14.at 0 rfl) 31
 have VB : Vars w (w13.setCell ⟨g11, 31, none⟩ (.int .u8 (yo : Int))) [⟨g11, 22, bA r⟩, ⟨g5, 22, bA 0⟩, ⟨g2, 28, pA x y⟩] := V14.setB 0 rfl 31 yo r HS.out
 clear V14
 go_wp2_with (first
  | (refine zD VB 0 rfl 20 _ rfl rfl rfl rfl ?_)
  | (refine zL VB 1 rfl _ (.tmp 20) rfl rfl rfl r rfl rfl ?_; intro w15 V16))
 exact bodyPost_ret (resV2 rfl _ V16 1 rfl rfl Tryz.underlying22 Tryz.szB (bA_size _)) rfl ⟨rfl, V16.bel⟩
theorem cPack_yes {p : Pt} (hp : OnC p) (w : World) (hd : DAt w) : Calls Tryz.prog 48 #[.agg (pA p.x.val p.y.val)] w fun e w' => e = .returned (.tuple #[.agg (bA (packN p)), .int .i64 0]) ∧ Below w.heap.size w w' := by
 have hx0 := byte0 p.x.val
 have hy := Nat.lt_trans p.y.isLt fP_255
 have hh := set_high hy
 have h9 : p.x.val / 256 ^ 0 % 256 < 256 := Nat.mod_lt _ (by decide)
 have hg0 := pA_byte p.x.val p.y.val 0 (by decide)
 have hg31 := bA_get p.y.val 31 (by decide)
 rcases Nat.mod_two_eq_zero_or_one p.x.val with h | h
 ·have e : packN p = p.y.val := by unfold packN; rw [h]; rfl
  rw [e]
  rw [h] at hx0
  generalize p.x.val / 256 ^ 0 % 256 = x0 at *
  exact cPack_even _ _ x0 w hd (fun w hd => on_yes hp w hd) hg0 h9 (by rw [byte_and1 _ h9, hx0]; rfl)
 ·have e : packN p = p.y.val + 2 ^ 255 := by unfold packN; rw [h, Nat.mul_one]
  rw [e]
  rw [h] at hx0
  obtain ⟨hh1, hh2⟩ := hh
  generalize p.x.val / 256 ^ 0 % 256 = x0 at *
  generalize p.y.val / 256 ^ 31 % 256 = y31 at *
  exact cPack_odd _ _ x0 y31 (y31 + 128) _ w hd (fun w hd => on_yes hp w hd) hg0 h9 (by rw [byte_and1 _ h9, hx0]; rfl) hg31 hh1 (byte_or128 _ hh1) hh2
set_option maxHeartbeats 800000 in
theorem rPack_even (x y x0 : Nat) (w : World) (HX0 : Hid ((pA x y)[0]? = some (.int .u8 (x0 : Int)))) (hx9 : x0 < 256) (ea : (x0 : Int).tmod 2 = 0) : Calls Tryz.prog 61 #[.agg (pA x y)] w fun e w' => e = .returned (.agg (bA y)) ∧ Below w.heap.size w w' := by
 have V0 := Vars.start w
 go_enter Tryz.func61, Tryz.ntmps61
 go_upto_region 2 with (first
  | (refine wpList_boxV V0 1 28 _ rfl rfl rfl (pA x y) rfl ?_; intro w1 g2 V3)
  | (refine zA V3 2 rfl rfl rfl ?_; intro w4 g5 V6)
  | (refine wpList_exec rfl (exec_loadP V6 1 rfl 32 (pA_part1 _ _) _ rfl rfl Tryz.underlying22 Tryz.szB (bA_size _)) ?_)
  | (refine zA V6 3 rfl rfl rfl ?_; intro w7 g8 V9)
  | (refine zL V9 0 rfl _ (.tmp 5) rfl rfl rfl y rfl rfl ?_; intro w10 V11))
 have hc0 := cell_byte V11 2 rfl 0 HX0.out
 go_wp2_with (first
  | (refine zD V11 0 rfl 15 _ rfl rfl rfl rfl ?_)
  | (refine zL V11 1 rfl _ (.tmp 15) rfl rfl rfl y rfl rfl ?_; intro w12 V13))
 exact bodyPost_ret (resV1 rfl _ V13 1 rfl rfl Tryz.underlying22 Tryz.szB (bA_size _)) rfl ⟨rfl, V13.bel⟩
set_option maxHeartbeats 800000 in
theorem rPack_odd (x y x0 y31 yo r : Nat) (w : World) (HX0 : Hid ((pA x y)[0]? = some (.int .u8 (x0 : Int)))) (hx9 : x0 < 256) (ea : (x0 : Int).tmod 2 = 1) (HY31 : Hid ((bA y)[31]? = some (.int .u8 (y31 : Int)))) (hy9 : y31 < 128) (eo : IntKind.u8.wrap ((y31 : Int) + 128) = (yo : Int)) (HS : Hid ((digL y 32).set 31 yo = digL r 32)) : Calls Tryz.prog 61 #[.agg (pA x y)] w fun e w' => e = .returned (.agg (bA r)) ∧ Below w.heap.size w w' := by
 have V0 := Vars.start w
 go_enter Tryz.func61, Tryz.ntmps61
 go_upto_region 2 with (first
  | (refine wpList_boxV V0 1 28 _ rfl rfl rfl (pA x y) rfl ?_; intro w1 g2 V3)
  | (refine zA V3 2 rfl rfl rfl ?_; intro w4 g5 V6)
  | (refine wpList_exec rfl (exec_loadP V6 1 rfl 32 (pA_part1 _ _) _ rfl rfl Tryz.underlying22 Tryz.szB (bA_size _)) ?_)
  | (refine zA V6 3 rfl rfl rfl ?_; intro w7 g8 V9)
  | (refine zL V9 0 rfl _ (.tmp 5) rfl rfl rfl y rfl rfl ?_; intro w10 V11))
 have hc0 := cell_byte V11 2 rfl 0 HX0.out
 have hc31 := cell_byte V11 0 rfl 31 HY31.out
 have hfz := arr_unfrozen (V11.at 0 rfl) 31
 have VB : Vars w (w10.setCell ⟨g8, 31, none⟩ (.int .u8 (yo : Int))) [⟨g8, 22, bA r⟩, ⟨g5, 22, bA 0⟩, ⟨g2, 28, pA x y⟩] := V11.setB 0 rfl 31 yo r HS.out
 clear V11
 go_wp2_with (first
  | (refine zD VB 0 rfl 15 _ rfl rfl rfl rfl ?_)
  | (refine zL VB 1 rfl _ (.tmp 15) rfl rfl rfl r rfl rfl ?_; intro w12 V13))
 exact bodyPost_ret (resV1 rfl _ V13 1 rfl rfl Tryz.underlying22 Tryz.szB (bA_size _)) rfl ⟨rfl, V13.bel⟩
theorem rPack_yes {p : Pt} (hp : OnC p) (w : World) : Calls Tryz.prog 61 #[.agg (pA p.x.val p.y.val)] w fun e w' => e = .returned (.agg (bA (packN p))) ∧ Below w.heap.size w w' := by
 have hx0 := byte0 p.x.val
 have hy := Nat.lt_trans p.y.isLt fP_255
 have hh := set_high hy
 have h9 : p.x.val / 256 ^ 0 % 256 < 256 := Nat.mod_lt _ (by decide)
 have hg0 := pA_byte p.x.val p.y.val 0 (by decide)
 have hg31 := bA_get p.y.val 31 (by decide)
 rcases Nat.mod_two_eq_zero_or_one p.x.val with h | h
 ·have e : packN p = p.y.val := by unfold packN; rw [h]; rfl
  rw [e]
  rw [h] at hx0
  generalize p.x.val / 256 ^ 0 % 256 = x0 at *
  exact rPack_even _ _ x0 w hg0 h9 (by rw [tmod2, hx0]; rfl)
 ·have e : packN p = p.y.val + 2 ^ 255 := by unfold packN; rw [h, Nat.mul_one]
  rw [e]
  rw [h] at hx0
  obtain ⟨hh1, hh2⟩ := hh
  generalize p.x.val / 256 ^ 0 % 256 = x0 at *
  generalize p.y.val / 256 ^ 31 % 256 = y31 at *
  exact rPack_odd _ _ x0 y31 (y31 + 128) _ w hg0 h9 (by rw [tmod2, hx0]; rfl) hg31 hh1 (wrap128 _ hh1) hh2
set_option maxHeartbeats 1600000 in
theorem unp_field0 (b yl b31 yo : Nat) (w : World) (hd : DAt w) (HB : Hid ((bA b)[31]? = some (.int .u8 (b31 : Int)))) (hb9 : b31 < 256) (ea : bits .and .u8 (b31 : Int) 128 = 0) (en : bits .andNot .u8 (b31 : Int) 128 = (yo : Int)) (HS : Hid ((digL b 32).set 31 yo = digL yl 32)) (HI : Hid (∀ w, Rt Tryz.prog 25 #[.agg (bA yl)] (.bool false) w)) : Calls Tryz.prog 8 #[.agg (bA b)] w fun e w' => e = .returned (.tuple #[.agg (pA 0 0), .int .i64 170]) ∧ Below w.heap.size w w' := by
 have V0 := Vars.start w
 go_enter Tryz.func8, Tryz.ntmps8
 go_wp2_with (first
  | (refine wpList_boxV V0 1 22 _ rfl rfl rfl (bA b) rfl ?_; intro w1 g2 V3)
  | (refine wpList_allocV V3 2 28 rfl rfl rfl (pA 0 0) zeroP ?_; intro w4 g5 V6))
 refine av_open (fun w' => Vars w w' [⟨g5, 28, pA 0 0⟩, ⟨g2, 22, bA b⟩]) (by kernel_rfl) ?_
 have V7 := V6.drew
 refine zR [0, 1, 2, 3, 4] 3 (by kernel_rfl) (fun _ _ _ _ _ h => h) V7 fun K hK => ?_
 refine zC (.agg (bA b)) rfl (by rfl) (fun w' hw' => zB hw' 1 rfl _ rfl rfl) ?_
 go_simp
 refine zC (.pointer (some ⟨g2, 31, none⟩)) rfl (by rfl) (fun w' hw' => ?_) ?_
 ·go_simp
 go_simp
 refine zC (.int .u8 (b31 : Int)) rfl (by rfl) (fun w' hw' => ?_) ?_
 ·have hcc := cell_byte hw' 1 rfl 31 HB.out
  go_simp
 go_simp
 refine zC (.int .u8 0) rfl (by rfl) (fun w' hw' => ?_) ?_
 ·go_simp
 go_simp
 refine zC (.bool false) rfl (by rfl) (fun w' hw' => ?_) ?_
 ·go_simp
 go_simp
 refine calm_nil (hK.out _ ?_)
 clear hK K
 refine zO 5 2 (by kernel_rfl) rfl (by rfl) fun K hK => ?_
 refine zN V7 4 rfl rfl (fun w8 g9 V10 => ?_)
 refine hK _ _ (V10.tail) ?_
 clear hK K
 refine zO 6 1 (by kernel_rfl) rfl (by rfl) fun K hK => ?_
 refine zS V10 0 rfl _ _ rfl rfl b rfl rfl (fun w11 V12 => ?_)
 refine hK _ _ (V12.tail) ?_
 clear hK K
 refine zR [7] 0 (by kernel_rfl) (fun _ _ _ _ _ h => h) (V12.tail) fun K hK => ?_
 go_simp
 refine calm_assign _ rfl (by rfl) rfl ?_
 go_simp
 refine calm_nil (hK.out _ ?_)
 clear hK K
 refine wpAnyH_done (by kernel_rfl) ?_ _
 have hc31 := cell_byte V12 0 rfl 31 HB.out
 have hfz := arr_unfrozen (V12.at 0 rfl) 31
 have VB : Vars w (w11.setCell ⟨g9, 31, none⟩ (.int .u8 (yo : Int))) [⟨g9, 22, bA yl⟩, ⟨g5, 28, pA 0 0⟩, ⟨g2, 22, bA b⟩] := V12.setB 0 rfl 31 yo yl HS.out
 clear V12
 go_wp2_with (refine zD VB 0 rfl 17 _ rfl rfl rfl rfl ?_)
 refine (HI.out (w11.setCell ⟨g9, 31, none⟩ (.int .u8 (yo : Int)))).mono ?_
 rintro e w13 ⟨rfl, q15⟩
 have V14 := VB.call q15
 clear q15 VB
 go_wp2_with (first
  | (refine wpList_buildV 20 28 _ rfl rfl rfl (pA 0 0) built_P0 ?_)
  | (refine wpList_storeV V14 1 rfl _ (.tmp 20) rfl rfl rfl (pA 0 0) rfl rfl Tryz.szP (pA_size _ _) (pA_size _ _) (pA_one _ _) ?_; intro w16 V17))
 exact bodyPost_ret (resS2 rfl _ V17 1 rfl rfl Tryz.underlying28 Tryz.szP (pA_size _ _)) rfl ⟨rfl, V17.bel⟩
set_option maxHeartbeats 1600000 in
theorem unp_none0 (b yl b31 yo : Nat) (w : World) (hd : DAt w) (HB : Hid ((bA b)[31]? = some (.int .u8 (b31 : Int)))) (hb9 : b31 < 256) (ea : bits .and .u8 (b31 : Int) 128 = 0) (en : bits .andNot .u8 (b31 : Int) 128 = (yo : Int)) (HS : Hid ((digL b 32).set 31 yo = digL yl 32)) (HI : Hid (∀ w, Rt Tryz.prog 25 #[.agg (bA yl)] (.bool true) w)) (HA : Hid (∀ w, DAt w → Rt Tryz.prog 26 #[.agg (bA yl)] (.tuple #[.agg (bA 0), .bool false]) w)) : Calls Tryz.prog 8 #[.agg (bA b)] w fun e w' => e = .returned (.tuple #[.agg (pA 0 0), .int .i64 170]) ∧ Below w.heap.size w w' := by
 have V0 := Vars.start w
 go_enter Tryz.func8, Tryz.ntmps8
 go_wp2_with (first
  | (refine wpList_boxV V0 1 22 _ rfl rfl rfl (bA b) rfl ?_; intro w1 g2 V3)
  | (refine wpList_allocV V3 2 28 rfl rfl rfl (pA 0 0) zeroP ?_; intro w4 g5 V6))
 refine av_open (fun w' => Vars w w' [⟨g5, 28, pA 0 0⟩, ⟨g2, 22, bA b⟩]) (by kernel_rfl) ?_
 have V7 := V6.drew
 refine zR [0, 1, 2, 3, 4] 3 (by kernel_rfl) (fun _ _ _ _ _ h => h) V7 fun K hK => ?_
 refine zC (.agg (bA b)) rfl (by rfl) (fun w' hw' => zB hw' 1 rfl _ rfl rfl) ?_
 go_simp
 refine zC (.pointer (some ⟨g2, 31, none⟩)) rfl (by rfl) (fun w' hw' => ?_) ?_
 ·go_simp
 go_simp
 refine zC (.int .u8 (b31 : Int)) rfl (by rfl) (fun w' hw' => ?_) ?_
 ·have hcc := cell_byte hw' 1 rfl 31 HB.out
  go_simp
 go_simp
 refine zC (.int .u8 0) rfl (by rfl) (fun w' hw' => ?_) ?_
 ·go_simp
 go_simp
 refine zC (.bool false) rfl (by rfl) (fun w' hw' => ?_) ?_
 ·go_simp
 go_simp
 refine calm_nil (hK.out _ ?_)
 clear hK K
 refine zO 5 2 (by kernel_rfl) rfl (by rfl) fun K hK => ?_
 refine zN V7 4 rfl rfl (fun w8 g9 V10 => ?_)
 refine hK _ _ (V10.tail) ?_
 clear hK K
 refine zO 6 1 (by kernel_rfl) rfl (by rfl) fun K hK => ?_
 refine zS V10 0 rfl _ _ rfl rfl b rfl rfl (fun w11 V12 => ?_)
 refine hK _ _ (V12.tail) ?_
 clear hK K
 refine zR [7] 0 (by kernel_rfl) (fun _ _ _ _ _ h => h) (V12.tail) fun K hK => ?_
 go_simp
 refine calm_assign _ rfl (by rfl) rfl ?_
 go_simp
 refine calm_nil (hK.out _ ?_)
 clear hK K
 refine wpAnyH_done (by kernel_rfl) ?_ _
 have hc31 := cell_byte V12 0 rfl 31 HB.out
 have hfz := arr_unfrozen (V12.at 0 rfl) 31
 have VB : Vars w (w11.setCell ⟨g9, 31, none⟩ (.int .u8 (yo : Int))) [⟨g9, 22, bA yl⟩, ⟨g5, 28, pA 0 0⟩, ⟨g2, 22, bA b⟩] := V12.setB 0 rfl 31 yo yl HS.out
 clear V12
 go_wp2_with (refine zD VB 0 rfl 17 _ rfl rfl rfl rfl ?_)
 refine (HI.out (w11.setCell ⟨g9, 31, none⟩ (.int .u8 (yo : Int)))).mono ?_
 rintro e w13 ⟨rfl, q15⟩
 have V14 := VB.call q15
 clear q15 VB
 go_wp2_with (refine zD V14 0 rfl 22 _ rfl rfl rfl rfl ?_)
 refine (HA.out w13 (hd.of V14)).mono ?_
 rintro e w16 ⟨rfl, q18⟩
 have V17 := V14.call q18
 clear q18 V14
 go_wp2_with (first
  | (refine zA V17 6 rfl rfl rfl ?_; intro w19 g20 V21)
  | (refine zL V21 0 rfl _ (.tmp 24) rfl rfl rfl 0 rfl rfl ?_; intro w22 V23)
  | (refine wpList_buildV 36 28 _ rfl rfl rfl (pA 0 0) built_P0 ?_)
  | (refine wpList_storeV V23 2 rfl _ (.tmp 36) rfl rfl rfl (pA 0 0) rfl rfl Tryz.szP (pA_size _ _) (pA_size _ _) (pA_one _ _) ?_; intro w24 V25))
 exact bodyPost_ret (resS2 rfl _ V25 2 rfl rfl Tryz.underlying28 Tryz.szP (pA_size _ _)) rfl ⟨rfl, V25.bel⟩
set_option maxHeartbeats 1600000 in
theorem unp_good0 (b yl b31 yo x : Nat) (w : World) (hd : DAt w) (HB : Hid ((bA b)[31]? = some (.int .u8 (b31 : Int)))) (hb9 : b31 < 256) (ea : bits .and .u8 (b31 : Int) 128 = 0) (en : bits .andNot .u8 (b31 : Int) 128 = (yo : Int)) (HS : Hid ((digL b 32).set 31 yo = digL yl 32)) (HI : Hid (∀ w, Rt Tryz.prog 25 #[.agg (bA yl)] (.bool true) w)) (HA : Hid (∀ w, DAt w → Rt Tryz.prog 26 #[.agg (bA yl)] (.tuple #[.agg (bA x), .bool true]) w)) : Calls Tryz.prog 8 #[.agg (bA b)] w fun e w' => e = .returned (.tuple #[.agg (pA x yl), .int .i64 0]) ∧ Below w.heap.size w w' := by
 have V0 := Vars.start w
 go_enter Tryz.func8, Tryz.ntmps8
 go_wp2_with (first
  | (refine wpList_boxV V0 1 22 _ rfl rfl rfl (bA b) rfl ?_; intro w1 g2 V3)
  | (refine wpList_allocV V3 2 28 rfl rfl rfl (pA 0 0) zeroP ?_; intro w4 g5 V6))
 refine av_open (fun w' => Vars w w' [⟨g5, 28, pA 0 0⟩, ⟨g2, 22, bA b⟩]) (by kernel_rfl) ?_
 have V7 := V6.drew
 refine zR [0, 1, 2, 3, 4] 3 (by kernel_rfl) (fun _ _ _ _ _ h => h) V7 fun K hK => ?_
 refine zC (.agg (bA b)) rfl (by rfl) (fun w' hw' => zB hw' 1 rfl _ rfl rfl) ?_
 go_simp
 refine zC (.pointer (some ⟨g2, 31, none⟩)) rfl (by rfl) (fun w' hw' => ?_) ?_
 ·go_simp
 go_simp
 refine zC (.int .u8 (b31 : Int)) rfl (by rfl) (fun w' hw' => ?_) ?_
 ·have hcc := cell_byte hw' 1 rfl 31 HB.out
  go_simp
 go_simp
 refine zC (.int .u8 0) rfl (by rfl) (fun w' hw' => ?_) ?_
 ·go_simp
 go_simp
 refine zC (.bool false) rfl (by rfl) (fun w' hw' => ?_) ?_
 ·go_simp
 go_simp
 refine calm_nil (hK.out _ ?_)
 clear hK K
 refine zO 5 2 (by kernel_rfl) rfl (by rfl) fun K hK => ?_
 refine zN V7 4 rfl rfl (fun w8 g9 V10 => ?_)
 refine hK _ _ (V10.tail) ?_
 clear hK K
 refine zO 6 1 (by kernel_rfl) rfl (by rfl) fun K hK => ?_
 refine zS V10 0 rfl _ _ rfl rfl b rfl rfl (fun w11 V12 => ?_)
 refine hK _ _ (V12.tail) ?_
 clear hK K
 refine zR [7] 0 (by kernel_rfl) (fun _ _ _ _ _ h => h) (V12.tail) fun K hK => ?_
 go_simp
 refine calm_assign _ rfl (by rfl) rfl ?_
 go_simp
 refine calm_nil (hK.out _ ?_)
 clear hK K
 refine wpAnyH_done (by kernel_rfl) ?_ _
 have hc31 := cell_byte V12 0 rfl 31 HB.out
 have hfz := arr_unfrozen (V12.at 0 rfl) 31
 have VB : Vars w (w11.setCell ⟨g9, 31, none⟩ (.int .u8 (yo : Int))) [⟨g9, 22, bA yl⟩, ⟨g5, 28, pA 0 0⟩, ⟨g2, 22, bA b⟩] := V12.setB 0 rfl 31 yo yl HS.out
 clear V12
 go_wp2_with (refine zD VB 0 rfl 17 _ rfl rfl rfl rfl ?_)
 refine (HI.out (w11.setCell ⟨g9, 31, none⟩ (.int .u8 (yo : Int)))).mono ?_
 rintro e w13 ⟨rfl, q15⟩
 have V14 := VB.call q15
 clear q15 VB
 go_wp2_with (refine zD V14 0 rfl 22 _ rfl rfl rfl rfl ?_)
 refine (HA.out w13 (hd.of V14)).mono ?_
 rintro e w16 ⟨rfl, q18⟩
 have V17 := V14.call q18
 clear q18 V14
 go_wp2_with (first
  | (refine zA V17 6 rfl rfl rfl ?_; intro w19 g20 V21)
  | (refine zL V21 0 rfl _ (.tmp 24) rfl rfl rfl x rfl rfl ?_; intro w22 V23)
  | (refine zD V23 0 rfl 41 _ rfl rfl rfl rfl ?_)
  | (refine zD V23 1 rfl 42 _ rfl rfl rfl rfl ?_)
  | (refine wpList_buildV 43 28 _ rfl rfl rfl (pA x yl) (built_P _ _) ?_)
  | (refine wpList_storeV V23 2 rfl _ (.tmp 43) rfl rfl rfl (pA x yl) rfl rfl Tryz.szP (pA_size _ _) (pA_size _ _) (pA_one _ _) ?_; intro w24 V25))
 exact bodyPost_ret (resS2 rfl _ V25 2 rfl rfl Tryz.underlying28 Tryz.szP (pA_size _ _)) rfl ⟨rfl, V25.bel⟩
set_option maxHeartbeats 1600000 in
theorem unp_field1 (b yl b31 yo : Nat) (w : World) (hd : DAt w) (HB : Hid ((bA b)[31]? = some (.int .u8 (b31 : Int)))) (hb9 : b31 < 256) (ea : bits .and .u8 (b31 : Int) 128 = 128) (en : bits .andNot .u8 (b31 : Int) 128 = (yo : Int)) (HS : Hid ((digL b 32).set 31 yo = digL yl 32)) (HI : Hid (∀ w, Rt Tryz.prog 25 #[.agg (bA yl)] (.bool false) w)) : Calls Tryz.prog 8 #[.agg (bA b)] w fun e w' => e = .returned (.tuple #[.agg (pA 0 0), .int .i64 170]) ∧ Below w.heap.size w w' := by
 have V0 := Vars.start w
 go_enter Tryz.func8, Tryz.ntmps8
 go_wp2_with (first
  | (refine wpList_boxV V0 1 22 _ rfl rfl rfl (bA b) rfl ?_; intro w1 g2 V3)
  | (refine wpList_allocV V3 2 28 rfl rfl rfl (pA 0 0) zeroP ?_; intro w4 g5 V6))
 refine av_open (fun w' => Vars w w' [⟨g5, 28, pA 0 0⟩, ⟨g2, 22, bA b⟩]) (by kernel_rfl) ?_
 have V7 := V6.drew
 refine zR [0, 1, 2, 3, 4] 3 (by kernel_rfl) (fun _ _ _ _ _ h => h) V7 fun K hK => ?_
 refine zC (.agg (bA b)) rfl (by rfl) (fun w' hw' => zB hw' 1 rfl _ rfl rfl) ?_
 go_simp
 refine zC (.pointer (some ⟨g2, 31, none⟩)) rfl (by rfl) (fun w' hw' => ?_) ?_
 ·go_simp
 go_simp
 refine zC (.int .u8 (b31 : Int)) rfl (by rfl) (fun w' hw' => ?_) ?_
 ·have hcc := cell_byte hw' 1 rfl 31 HB.out
  go_simp
 go_simp
 refine zC (.int .u8 128) rfl (by rfl) (fun w' hw' => ?_) ?_
 ·go_simp
 go_simp
 refine zC (.bool true) rfl (by rfl) (fun w' hw' => ?_) ?_
 ·go_simp
 go_simp
 refine calm_nil (hK.out _ ?_)
 clear hK K
 refine zO 5 2 (by kernel_rfl) rfl (by rfl) fun K hK => ?_
 refine zN V7 4 rfl rfl (fun w8 g9 V10 => ?_)
 refine hK _ _ (V10.tail) ?_
 clear hK K
 refine zO 6 1 (by kernel_rfl) rfl (by rfl) fun K hK => ?_
 refine zS V10 0 rfl _ _ rfl rfl b rfl rfl (fun w11 V12 => ?_)
 refine hK _ _ (V12.tail) ?_
 clear hK K
 refine zR [7] 0 (by kernel_rfl) (fun _ _ _ _ _ h => h) (V12.tail) fun K hK => ?_
 go_simp
 refine calm_assign _ rfl (by rfl) rfl ?_
 go_simp
 refine calm_nil (hK.out _ ?_)
 clear hK K
 refine wpAnyH_done (by kernel_rfl) ?_ _
 have hc31 := cell_byte V12 0 rfl 31 HB.out
 have hfz := arr_unfrozen (V12.at 0 rfl) 31
 have VB : Vars w (w11.setCell ⟨g9, 31, none⟩ (.int .u8 (yo : Int))) [⟨g9, 22, bA yl⟩, ⟨g5, 28, pA 0 0⟩, ⟨g2, 22, bA b⟩] := V12.setB 0 rfl 31 yo yl HS.out
 clear V12
 go_wp2_with (refine zD VB 0 rfl 17 _ rfl rfl rfl rfl ?_)
 refine (HI.out (w11.setCell ⟨g9, 31, none⟩ (.int .u8 (yo : Int)))).mono ?_
 rintro e w13 ⟨rfl, q15⟩
 have V14 := VB.call q15
 clear q15 VB
 go_wp2_with (first
  | (refine wpList_buildV 20 28 _ rfl rfl rfl (pA 0 0) built_P0 ?_)
  | (refine wpList_storeV V14 1 rfl _ (.tmp 20) rfl rfl rfl (pA 0 0) rfl rfl Tryz.szP (pA_size _ _) (pA_size _ _) (pA_one _ _) ?_; intro w16 V17))
 exact bodyPost_ret (resS2 rfl _ V17 1 rfl rfl Tryz.underlying28 Tryz.szP (pA_size _ _)) rfl ⟨rfl, V17.bel⟩
set_option maxHeartbeats 1600000 in
theorem unp_none1 (b yl b31 yo : Nat) (w : World) (hd : DAt w) (HB : Hid ((bA b)[31]? = some (.int .u8 (b31 : Int)))) (hb9 : b31 < 256) (ea : bits .and .u8 (b31 : Int) 128 = 128) (en : bits .andNot .u8 (b31 : Int) 128 = (yo : Int)) (HS : Hid ((digL b 32).set 31 yo = digL yl 32)) (HI : Hid (∀ w, Rt Tryz.prog 25 #[.agg (bA yl)] (.bool true) w)) (HA : Hid (∀ w, DAt w → Rt Tryz.prog 26 #[.agg (bA yl)] (.tuple #[.agg (bA 0), .bool false]) w)) : Calls Tryz.prog 8 #[.agg (bA b)] w fun e w' => e = .returned (.tuple #[.agg (pA 0 0), .int .i64 170]) ∧ Below w.heap.size w w' := by
 have V0 := Vars.start w
 go_enter Tryz.func8, Tryz.ntmps8
 go_wp2_with (first
  | (refine wpList_boxV V0 1 22 _ rfl rfl rfl (bA b) rfl ?_; intro w1 g2 V3)
  | (refine wpList_allocV V3 2 28 rfl rfl rfl (pA 0 0) zeroP ?_; intro w4 g5 V6))
 refine av_open (fun w' => Vars w w' [⟨g5, 28, pA 0 0⟩, ⟨g2, 22, bA b⟩]) (by kernel_rfl) ?_
 have V7 := V6.drew
 refine zR [0, 1, 2, 3, 4] 3 (by kernel_rfl) (fun _ _ _ _ _ h => h) V7 fun K hK => ?_
 refine zC (.agg (bA b)) rfl (by rfl) (fun w' hw' => zB hw' 1 rfl _ rfl rfl) ?_
 go_simp
 refine zC (.pointer (some ⟨g2, 31, none⟩)) rfl (by rfl) (fun w' hw' => ?_) ?_
 ·go_simp
 go_simp
 refine zC (.int .u8 (b31 : Int)) rfl (by rfl) (fun w' hw' => ?_) ?_
 ·have hcc := cell_byte hw' 1 rfl 31 HB.out
  go_simp
 go_simp
 refine zC (.int .u8 128) rfl (by rfl) (fun w' hw' => ?_) ?_
 ·go_simp
 go_simp
 refine zC (.bool true) rfl (by rfl) (fun w' hw' => ?_) ?_
 ·go_simp
 go_simp
 refine calm_nil (hK.out _ ?_)
 clear hK K
 refine zO 5 2 (by kernel_rfl) rfl (by rfl) fun K hK => ?_
 refine zN V7 4 rfl rfl (fun w8 g9 V10 => ?_)
 refine hK _ _ (V10.tail) ?_
 clear hK K
 refine zO 6 1 (by kernel_rfl) rfl (by rfl) fun K hK => ?_
 refine zS V10 0 rfl _ _ rfl rfl b rfl rfl (fun w11 V12 => ?_)
 refine hK _ _ (V12.tail) ?_
 clear hK K
 refine zR [7] 0 (by kernel_rfl) (fun _ _ _ _ _ h => h) (V12.tail) fun K hK => ?_
 go_simp
 refine calm_assign _ rfl (by rfl) rfl ?_
 go_simp
 refine calm_nil (hK.out _ ?_)
 clear hK K
 refine wpAnyH_done (by kernel_rfl) ?_ _
 have hc31 := cell_byte V12 0 rfl 31 HB.out
 have hfz := arr_unfrozen (V12.at 0 rfl) 31
 have VB : Vars w (w11.setCell ⟨g9, 31, none⟩ (.int .u8 (yo : Int))) [⟨g9, 22, bA yl⟩, ⟨g5, 28, pA 0 0⟩, ⟨g2, 22, bA b⟩] := V12.setB 0 rfl 31 yo yl HS.out
 clear V12
 go_wp2_with (refine zD VB 0 rfl 17 _ rfl rfl rfl rfl ?_)
 refine (HI.out (w11.setCell ⟨g9, 31, none⟩ (.int .u8 (yo : Int)))).mono ?_
 rintro e w13 ⟨rfl, q15⟩
 have V14 := VB.call q15
 clear q15 VB
 go_wp2_with (refine zD V14 0 rfl 22 _ rfl rfl rfl rfl ?_)
 refine (HA.out w13 (hd.of V14)).mono ?_
 rintro e w16 ⟨rfl, q18⟩
 have V17 := V14.call q18
 clear q18 V14
 go_wp2_with (first
  | (refine zA V17 6 rfl rfl rfl ?_; intro w19 g20 V21)
  | (refine zL V21 0 rfl _ (.tmp 24) rfl rfl rfl 0 rfl rfl ?_; intro w22 V23)
  | (refine wpList_buildV 36 28 _ rfl rfl rfl (pA 0 0) built_P0 ?_)
  | (refine wpList_storeV V23 2 rfl _ (.tmp 36) rfl rfl rfl (pA 0 0) rfl rfl Tryz.szP (pA_size _ _) (pA_size _ _) (pA_one _ _) ?_; intro w24 V25))
 exact bodyPost_ret (resS2 rfl _ V25 2 rfl rfl Tryz.underlying28 Tryz.szP (pA_size _ _)) rfl ⟨rfl, V25.bel⟩
set_option maxHeartbeats 1600000 in
theorem unp_good1 (b yl b31 yo x nx : Nat) (w : World) (hd : DAt w) (HB : Hid ((bA b)[31]? = some (.int .u8 (b31 : Int)))) (hb9 : b31 < 256) (ea : bits .and .u8 (b31 : Int) 128 = 128) (en : bits .andNot .u8 (b31 : Int) 128 = (yo : Int)) (HS : Hid ((digL b 32).set 31 yo = digL yl 32)) (HI : Hid (∀ w, Rt Tryz.prog 25 #[.agg (bA yl)] (.bool true) w)) (HA : Hid (∀ w, DAt w → Rt Tryz.prog 26 #[.agg (bA yl)] (.tuple #[.agg (bA x), .bool true]) w)) (HE : Hid (decide (x = 0) = false)) (HL : Hid (x < 2 ^ 256)) (HN : Hid (∀ w, Rt Tryz.prog 27 #[.agg (bA 0), .agg (bA x)] (.agg (bA nx)) w)) : Calls Tryz.prog 8 #[.agg (bA b)] w fun e w' => e = .returned (.tuple #[.agg (pA nx yl), .int .i64 0]) ∧ Below w.heap.size w w' := by
 have V0 := Vars.start w
 go_enter Tryz.func8, Tryz.ntmps8
 go_wp2_with (first
  | (refine wpList_boxV V0 1 22 _ rfl rfl rfl (bA b) rfl ?_; intro w1 g2 V3)
  | (refine wpList_allocV V3 2 28 rfl rfl rfl (pA 0 0) zeroP ?_; intro w4 g5 V6))
 refine av_open (fun w' => Vars w w' [⟨g5, 28, pA 0 0⟩, ⟨g2, 22, bA b⟩]) (by kernel_rfl) ?_
 have V7 := V6.drew
 refine zR [0, 1, 2, 3, 4] 3 (by kernel_rfl) (fun _ _ _ _ _ h => h) V7 fun K hK => ?_
 refine zC (.agg (bA b)) rfl (by rfl) (fun w' hw' => zB hw' 1 rfl _ rfl rfl) ?_
 go_simp
 refine zC (.pointer (some ⟨g2, 31, none⟩)) rfl (by rfl) (fun w' hw' => ?_) ?_
 ·go_simp
 go_simp
 refine zC (.int .u8 (b31 : Int)) rfl (by rfl) (fun w' hw' => ?_) ?_
 ·have hcc := cell_byte hw' 1 rfl 31 HB.out
  go_simp
 go_simp
 refine zC (.int .u8 128) rfl (by rfl) (fun w' hw' => ?_) ?_
 ·go_simp
 go_simp
 refine zC (.bool true) rfl (by rfl) (fun w' hw' => ?_) ?_
 ·go_simp
 go_simp
 refine calm_nil (hK.out _ ?_)
 clear hK K
 refine zO 5 2 (by kernel_rfl) rfl (by rfl) fun K hK => ?_
 refine zN V7 4 rfl rfl (fun w8 g9 V10 => ?_)
 refine hK _ _ (V10.tail) ?_
 clear hK K
 refine zO 6 1 (by kernel_rfl) rfl (by rfl) fun K hK => ?_
 refine zS V10 0 rfl _ _ rfl rfl b rfl rfl (fun w11 V12 => ?_)
 refine hK _ _ (V12.tail) ?_
 clear hK K
 refine zR [7] 0 (by kernel_rfl) (fun _ _ _ _ _ h => h) (V12.tail) fun K hK => ?_
 go_simp
 refine calm_assign _ rfl (by rfl) rfl ?_
 go_simp
 refine calm_nil (hK.out _ ?_)
 clear hK K
 refine wpAnyH_done (by kernel_rfl) ?_ _
 have hc31 := cell_byte V12 0 rfl 31 HB.out
 have hfz := arr_unfrozen (V12.at 0 rfl) 31
 have VB : Vars w (w11.setCell ⟨g9, 31, none⟩ (.int .u8 (yo : Int))) [⟨g9, 22, bA yl⟩, ⟨g5, 28, pA 0 0⟩, ⟨g2, 22, bA b⟩] := V12.setB 0 rfl 31 yo yl HS.out
 clear V12
 go_wp2_with (refine zD VB 0 rfl 17 _ rfl rfl rfl rfl ?_)
 refine (HI.out (w11.setCell ⟨g9, 31, none⟩ (.int .u8 (yo : Int)))).mono ?_
 rintro e w13 ⟨rfl, q15⟩
 have V14 := VB.call q15
 clear q15 VB
 go_wp2_with (refine zD V14 0 rfl 22 _ rfl rfl rfl rfl ?_)
 refine (HA.out w13 (hd.of V14)).mono ?_
 rintro e w16 ⟨rfl, q18⟩
 have V17 := V14.call q18
 clear q18 V14
 go_wp2_with (first
  | (refine zA V17 6 rfl rfl rfl ?_; intro w19 g20 V21)
  | (refine zL V21 0 rfl _ (.tmp 24) rfl rfl rfl x rfl rfl ?_; intro w22 V23)
  | (refine zD V23 0 rfl 31 _ rfl rfl rfl rfl ?_)
  | (refine wpList_buildV 32 22 _ rfl rfl rfl (bA 0) bA_num0 ?_)
  | (refine wpList_exec rfl (exec_eqlB _ _ rfl false _ _ HE.out rfl rfl HL.out (Nat.two_pow_pos 256)) ?_)
  | (refine wpList_buildV 38 22 _ rfl rfl rfl (bA 0) bA_num0 ?_)
  | (refine zD V23 0 rfl 39 _ rfl rfl rfl rfl ?_))
 refine (HN.out w22).mono ?_
 rintro e w24 ⟨rfl, q26⟩
 have V25 := V23.call q26
 clear q26 V23
 go_wp2_with (first
  | (refine zL V25 0 rfl _ (.tmp 40) rfl rfl rfl nx rfl rfl ?_; intro w27 V28)
  | (refine zD V28 0 rfl 41 _ rfl rfl rfl rfl ?_)
  | (refine zD V28 1 rfl 42 _ rfl rfl rfl rfl ?_)
  | (refine wpList_buildV 43 28 _ rfl rfl rfl (pA nx yl) (built_P _ _) ?_)
  | (refine wpList_storeV V28 2 rfl _ (.tmp 43) rfl rfl rfl (pA nx yl) rfl rfl Tryz.szP (pA_size _ _) (pA_size _ _) (pA_one _ _) ?_; intro w29 V30))
 exact bodyPost_ret (resS2 rfl _ V30 2 rfl rfl Tryz.underlying28 Tryz.szP (pA_size _ _)) rfl ⟨rfl, V30.bel⟩
set_option maxHeartbeats 1600000 in
theorem unp_zero (b yl b31 yo x : Nat) (w : World) (hd : DAt w) (HB : Hid ((bA b)[31]? = some (.int .u8 (b31 : Int)))) (hb9 : b31 < 256) (ea : bits .and .u8 (b31 : Int) 128 = 128) (en : bits .andNot .u8 (b31 : Int) 128 = (yo : Int)) (HS : Hid ((digL b 32).set 31 yo = digL yl 32)) (HI : Hid (∀ w, Rt Tryz.prog 25 #[.agg (bA yl)] (.bool true) w)) (HA : Hid (∀ w, DAt w → Rt Tryz.prog 26 #[.agg (bA yl)] (.tuple #[.agg (bA x), .bool true]) w)) (HE : Hid (decide (x = 0) = true)) (HL : Hid (x < 2 ^ 256)) : Calls Tryz.prog 8 #[.agg (bA b)] w fun e w' => e = .returned (.tuple #[.agg (pA 0 0), .int .i64 170]) ∧ Below w.heap.size w w' := by
 have V0 := Vars.start w
 go_enter Tryz.func8, Tryz.ntmps8
 go_wp2_with (first
  | (refine wpList_boxV V0 1 22 _ rfl rfl rfl (bA b) rfl ?_; intro w1 g2 V3)
  | (refine wpList_allocV V3 2 28 rfl rfl rfl (pA 0 0) zeroP ?_; intro w4 g5 V6))
 refine av_open (fun w' => Vars w w' [⟨g5, 28, pA 0 0⟩, ⟨g2, 22, bA b⟩]) (by kernel_rfl) ?_
 have V7 := V6.drew
 refine zR [0, 1, 2, 3, 4] 3 (by kernel_rfl) (fun _ _ _ _ _ h => h) V7 fun K hK => ?_
 refine zC (.agg (bA b)) rfl (by rfl) (fun w' hw' => zB hw' 1 rfl _ rfl rfl) ?_
 go_simp
 refine zC (.pointer (some ⟨g2, 31, none⟩)) rfl (by rfl) (fun w' hw' => ?_) ?_
 ·go_simp
 go_simp
 refine zC (.int .u8 (b31 : Int)) rfl (by rfl) (fun w' hw' => ?_) ?_
 ·have hcc := cell_byte hw' 1 rfl 31 HB.out
  go_simp
 go_simp
 refine zC (.int .u8 128) rfl (by rfl) (fun w' hw' => ?_) ?_
 ·go_simp
 go_simp
 refine zC (.bool true) rfl (by rfl) (fun w' hw' => ?_) ?_
 ·go_simp
 go_simp
 refine calm_nil (hK.out _ ?_)
 clear hK K
 refine zO 5 2 (by kernel_rfl) rfl (by rfl) fun K hK => ?_
 refine zN V7 4 rfl rfl (fun w8 g9 V10 => ?_)
 refine hK _ _ (V10.tail) ?_
 clear hK K
 refine zO 6 1 (by kernel_rfl) rfl (by rfl) fun K hK => ?_
 refine zS V10 0 rfl _ _ rfl rfl b rfl rfl (fun w11 V12 => ?_)
 refine hK _ _ (V12.tail) ?_
 clear hK K
 refine zR [7] 0 (by kernel_rfl) (fun _ _ _ _ _ h => h) (V12.tail) fun K hK => ?_
 go_simp
 refine calm_assign _ rfl (by rfl) rfl ?_
 go_simp
 refine calm_nil (hK.out _ ?_)
 clear hK K
 refine wpAnyH_done (by kernel_rfl) ?_ _
 have hc31 := cell_byte V12 0 rfl 31 HB.out
 have hfz := arr_unfrozen (V12.at 0 rfl) 31
 have VB : Vars w (w11.setCell ⟨g9, 31, none⟩ (.int .u8 (yo : Int))) [⟨g9, 22, bA yl⟩, ⟨g5, 28, pA 0 0⟩, ⟨g2, 22, bA b⟩] := V12.setB 0 rfl 31 yo yl HS.out
 clear V12
 go_wp2_with (refine zD VB 0 rfl 17 _ rfl rfl rfl rfl ?_)
 refine (HI.out (w11.setCell ⟨g9, 31, none⟩ (.int .u8 (yo : Int)))).mono ?_
 rintro e w13 ⟨rfl, q15⟩
 have V14 := VB.call q15
 clear q15 VB
 go_wp2_with (refine zD V14 0 rfl 22 _ rfl rfl rfl rfl ?_)
 refine (HA.out w13 (hd.of V14)).mono ?_
 rintro e w16 ⟨rfl, q18⟩
 have V17 := V14.call q18
 clear q18 V14
 go_wp2_with (first
  | (refine zA V17 6 rfl rfl rfl ?_; intro w19 g20 V21)
  | (refine zL V21 0 rfl _ (.tmp 24) rfl rfl rfl x rfl rfl ?_; intro w22 V23)
  | (refine zD V23 0 rfl 31 _ rfl rfl rfl rfl ?_)
  | (refine wpList_buildV 32 22 _ rfl rfl rfl (bA 0) bA_num0 ?_)
  | (refine wpList_exec rfl (exec_eqlB _ _ rfl true _ _ HE.out rfl rfl HL.out (Nat.two_pow_pos 256)) ?_)
  | (refine wpList_buildV 36 28 _ rfl rfl rfl (pA 0 0) built_P0 ?_)
  | (refine wpList_storeV V23 2 rfl _ (.tmp 36) rfl rfl rfl (pA 0 0) rfl rfl Tryz.szP (pA_size _ _) (pA_size _ _) (pA_one _ _) ?_; intro w24 V25))
 exact bodyPost_ret (resS2 rfl _ V25 2 rfl rfl Tryz.underlying28 Tryz.szP (pA_size _ _)) rfl ⟨rfl, V25.bel⟩
theorem odd_or {b : Nat} (hb : b < 2 ^ 256) : b / 2 ^ 255 = 0 ∨ b / 2 ^ 255 = 1 := by
 have h : b / 2 ^ 255 < 2 := Nat.div_lt_of_lt_mul (by rw [Nat.mul_comm, ← two_255]; exact hb)
 omega
theorem and_top {b : Nat} (hb : b < 2 ^ 256) (c : Nat) (h : b / 2 ^ 255 = c) : bits .and .u8 ((b / 256 ^ 31 % 256 : Nat) : Int) 128 = ((c * 128 : Nat) : Int) := by
 rw [byte_and128 _ (Nat.mod_lt _ (by decide)), top_bit hb, h]
theorem cUnpack_yes {p : Pt} (hp : OnC p) (w : World) (hd : DAt w) : Calls Tryz.prog 8 #[.agg (bA (packN p))] w fun e w' => e = .returned (.tuple #[.agg (pA p.x.val p.y.val), .int .i64 0]) ∧ Below w.heap.size w w' := by
 have hb := packN_lt p
 have hq := packN_parts p
 have hg := bA_get (packN p) 31 (by decide)
 have hs := set_low hb
 rw [hq.1] at hs
 have h9 : packN p / 256 ^ 31 % 256 < 256 := Nat.mod_lt _ (by decide)
 have en := byte_not128 _ h9
 have HI : Hid (∀ w, Rt Tryz.prog 25 #[.agg (bA p.y.val)] (.bool true) w) := fun w => is_yes p.y.isLt w
 rcases Nat.mod_two_eq_zero_or_one p.x.val with h | h
 ·have ea := and_top hb 0 (hq.2.trans h)
  generalize packN p / 256 ^ 31 % 256 = b31 at *
  exact unp_good0 _ _ b31 (b31 % 128) p.x.val w hd hg h9 ea en hs HI (fun w hd => across_yes hp h w hd)
 ·have ea := and_top hb 1 (hq.2.trans h)
  have hx : p.x ≠ 0 := fun e => by rw [e] at h; exact absurd h (by decide)
  have hn : OnC ⟨-p.x, p.y⟩ := on_neg hp
  have he : (-p.x).val % 2 = 0 := by rw [neg_par hx, h]
  generalize packN p / 256 ^ 31 % 256 = b31 at *
  refine unp_good1 _ _ b31 (b31 % 128) (-p.x).val p.x.val w hd hg h9 ea en hs HI (fun w hd => across_yes hn he w hd) (decide_eq_false (fp_pos (neg_ne hx))) (elt256 (-p.x).isLt) (fun w => ?_)
  have := csub_any 0 (-p.x) w
  rw [fp_zero_sub, neg_neg_fp] at this
  exact this
theorem cUnpack_no {b : Nat} (hb : b < 2 ^ 256) (h : ∀ p, OnC p → packN p ≠ b) (w : World) (hd : DAt w) : Calls Tryz.prog 8 #[.agg (bA b)] w fun e w' => e = .returned (.tuple #[.agg (pA 0 0), .int .i64 170]) ∧ Below w.heap.size w w' := by
 have hg := bA_get b 31 (by decide)
 have hs := set_low hb
 have h9 : b / 256 ^ 31 % 256 < 256 := Nat.mod_lt _ (by decide)
 have en := byte_not128 _ h9
 have hl : b % 2 ^ 255 < 2 ^ 256 := Nat.lt_trans (Nat.mod_lt _ (Nat.two_pow_pos 255)) (by rw [two_255]; have := Nat.two_pow_pos 255; omega)
 have hdm := Nat.div_add_mod b (2 ^ 255)
 have hoo := odd_or hb
 have ea0 := and_top hb 0
 have ea1 := and_top hb 1
 generalize b / 256 ^ 31 % 256 = b31 at *
 generalize hq : b / 2 ^ 255 = od at *
 generalize hyl : b % 2 ^ 255 = yl at *
 by_cases h1 : yl < fP
 ·have HI : Hid (∀ w, Rt Tryz.prog 25 #[.agg (bA yl)] (.bool true) w) := fun w => is_yes h1 w
  by_cases h2 : ∃ x, OnC ⟨x, (⟨yl, h1⟩ : Fp)⟩
  ·obtain ⟨x, hx⟩ := h2
   obtain ⟨u, hu, he, _⟩ := even_x hx
   rcases hoo with h3 | h3
   ·exfalso
    apply h ⟨u, ⟨yl, h1⟩⟩ hu
    show yl + 2 ^ 255 * (u.val % 2) = b
    rw [he, ← hdm, h3]; omega
   ·by_cases h4 : u = 0
    ·exact unp_zero _ _ b31 (b31 % 128) u.val w hd hg h9 (ea1 h3) en hs HI (fun w hd => across_yes hu he w hd) (decide_eq_true (by rw [h4]; rfl)) (elt256 u.isLt)
    ·exfalso
     apply h ⟨-u, ⟨yl, h1⟩⟩ (on_neg hu)
     show yl + 2 ^ 255 * ((-u).val % 2) = b
     rw [neg_par h4, he, ← hdm, h3]; omega
  ·have HA : Hid (∀ w, DAt w → Rt Tryz.prog 26 #[.agg (bA yl)] (.tuple #[.agg (bA 0), .bool false]) w) := fun w hd => across_none (y := ⟨yl, h1⟩) (fun x hx => h2 ⟨x, hx⟩) w hd
   rcases hoo with h3 | h3
   ·exact unp_none0 _ _ b31 (b31 % 128) w hd hg h9 (ea0 h3) en hs HI HA
   ·exact unp_none1 _ _ b31 (b31 % 128) w hd hg h9 (ea1 h3) en hs HI HA
 ·have HI : Hid (∀ w, Rt Tryz.prog 25 #[.agg (bA yl)] (.bool false) w) := fun w => is_no hl h1 w
  rcases hoo with h3 | h3
  ·exact unp_field0 _ _ b31 (b31 % 128) w hd hg h9 (ea0 h3) en hs HI
  ·exact unp_field1 _ _ b31 (b31 % 128) w hd hg h9 (ea1 h3) en hs HI
end Go.Proofs.YthangiocheodoaaGreatDoor.N
