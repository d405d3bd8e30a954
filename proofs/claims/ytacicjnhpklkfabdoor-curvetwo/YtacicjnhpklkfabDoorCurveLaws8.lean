/-
  Layer 17's laws: Two.
-/
import Derived.Test.YtacicjnhpklkfabDoorCurveFace
namespace Go.Proofs.YtacicjnhpklkfabDoor.N
open Go.RowKit
set_option linter.unusedVariables false
set_option maxRecDepth 8192

/-- 32 bytes with the highest bit turned. -/
def turnN (v : Nat) : Nat := (v + 2 ^ 255) % 2 ^ 256
theorem turnN_lt (v : Nat) : turnN v < 2 ^ 256 := Nat.mod_lt _ (Nat.two_pow_pos 256)
theorem turn_turn {v : Nat} (h : v < 2 ^ 256) : turnN (turnN v) = v := by
  unfold turnN
  have h1 := two_255
  generalize (2 : Nat) ^ 255 = A at *
  generalize (2 : Nat) ^ 256 = B at *
  subst h1
  rcases Nat.lt_or_ge (v + A) (2 * A) with h2 | h2
  · rw [Nat.mod_eq_of_lt h2, show v + A + A = v + 2 * A by omega, Nat.add_mod_right, Nat.mod_eq_of_lt h]
  · rw [Nat.mod_eq_sub_mod h2, Nat.mod_eq_of_lt (show v + A - 2 * A < 2 * A by omega), show v + A - 2 * A + A = v by omega, Nat.mod_eq_of_lt h]
theorem turn_pack {r : Pt} (hx : r.x ≠ 0) : packN (pneg r) = turnN (packN r) := by
  show r.y.val + 2 ^ 255 * ((-r.x).val % 2) = (r.y.val + 2 ^ 255 * (r.x.val % 2) + 2 ^ 255) % 2 ^ 256
  rw [neg_par hx]
  have hy := Nat.lt_trans r.y.isLt fP_255
  have h1 := two_255
  generalize (2 : Nat) ^ 255 = A at *
  generalize (2 : Nat) ^ 256 = B at *
  subst h1
  rcases Nat.mod_two_eq_zero_or_one r.x.val with h | h <;> rw [h]
  · rw [Nat.mul_zero, Nat.add_zero, Nat.mul_one, Nat.mod_eq_of_lt (by omega)]
  · rw [Nat.mul_one, show 1 - 1 = 0 from rfl, Nat.mul_zero, Nat.add_zero, show r.y.val + A + A = r.y.val + 2 * A by omega, Nat.add_mod_right, Nat.mod_eq_of_lt (by omega)]
theorem turn_zero {r : Pt} (hr : OnC r) (hx : r.x = 0) {s : Pt} (hs : OnC s) : packN s ≠ turnN (packN r) := fun e => by
  have hy := Nat.lt_trans r.y.isLt fP_255
  have h0 : packN r = r.y.val := by unfold packN; rw [hx]; rfl
  have h1 := two_255
  have h2 : turnN (packN r) = r.y.val + 2 ^ 255 := by
    rw [h0]
    unfold turnN
    generalize (2 : Nat) ^ 255 = A at *
    generalize (2 : Nat) ^ 256 = B at *
    subst h1
    exact Nat.mod_eq_of_lt (by omega)
  have h3 := packN_parts s
  rw [e, h2, Nat.add_mod_right, Nat.mod_eq_of_lt hy, Nat.add_div_right _ (Nat.two_pow_pos 255), Nat.div_eq_of_lt hy] at h3
  have hsy : s.y = r.y := Fin.ext h3.1.symm
  have e2 : s = ⟨s.x, r.y⟩ := by rw [← hsy]
  rw [e2] at hs
  have hr' : OnC ⟨r.x, r.y⟩ := hr
  rcases on_two hs hr' with h4 | h4
  · rw [h4, hx] at h3; exact absurd h3.2 (by decide)
  · rw [h4, hx] at h3; exact absurd h3.2 (by decide)
set_option maxHeartbeats 1600000 in
theorem two_none (v u v31 vo : Nat) (HV : Hid ((bA v)[31]? = some (.int .u8 (v31 : Int)))) (hv9 : v31 < 256) (eo : IntKind.u8.wrap ((v31 : Int) + 128) = (vo : Int)) (HS : Hid ((digL v 32).set 31 vo = digL u 32)) (w : World) (hd : DAt w) (H1 : Hid (∀ w, DAt w → Calls Tryd.prog 12 #[.agg (bA v)] w fun e w' => e = .returned (.tuple #[.agg (pA 0 0), .int .i64 170]) ∧ Below w.heap.size w w')) (H2 : Hid (∀ w, DAt w → Calls Tryd.prog 12 #[.agg (bA u)] w fun e w' => e = .returned (.tuple #[.agg (pA 0 0), .int .i64 170]) ∧ Below w.heap.size w w')) : Calls Tryd.prog 4 #[.agg (bA v)] w fun e w' => e = .returned (.bool true) ∧ Below w.heap.size w w' := by
  have V0 := Vars.start w
  go_enter Tryd.func4, Tryd.ntmps4
  go_upto_region 2 with (first
    | (refine wpList_boxV V0 1 23 _ rfl rfl rfl (bA v) rfl ?_; intro w1 g2 V3)
    | (refine wpList_loadV V3 0 rfl 11 _ rfl rfl rfl rfl Tryd.underlying23 Tryd.szB (bA_size _) ?_)
    | (refine wpList_allocV V3 3 23 rfl rfl rfl (bA 0) zeroB ?_; intro w4 g5 V6)
    | (refine wpList_storeV V6 0 rfl _ (.tmp 11) rfl rfl rfl (bA v) rfl rfl Tryd.szB (bA_size _) (bA_size _) (bA_one _) ?_; intro w7 V8))
  have hc31 := cell_byte V8 0 rfl 31 HV.out
  have hfz := arr_unfrozen (V8.at 0 rfl) 31
  have VB : Vars w (w7.setCell ⟨g5, 31, none⟩ (.int .u8 (vo : Int))) [⟨g5, 23, bA u⟩, ⟨g2, 23, bA v⟩] := V8.setB 0 rfl 31 vo u HS.out
  clear V8
  go_wp2_with (refine wpList_loadV VB 1 rfl 17 _ rfl rfl rfl rfl Tryd.underlying23 Tryd.szB (bA_size _) ?_)
  refine (H1.out (w7.setCell ⟨g5, 31, none⟩ (.int .u8 (vo : Int))) (hd.of VB)).mono ?_
  rintro e w9 ⟨rfl, q11⟩
  have V10 := VB.call q11
  clear q11 VB
  go_wp2_with (first
    | (refine wpList_allocV V10 4 25 rfl rfl rfl (pA 0 0) zeroP ?_; intro w12 g13 V14)
    | (refine wpList_storeV V14 0 rfl _ (.tmp 19) rfl rfl rfl (pA 0 0) rfl rfl Tryd.szP (pA_size _ _) (pA_size _ _) (pA_one _ _) ?_; intro w15 V16)
    | (refine wpList_loadV V16 1 rfl 22 _ rfl rfl rfl rfl Tryd.underlying23 Tryd.szB (bA_size _) ?_))
  refine (H2.out w15 (hd.of V16)).mono ?_
  rintro e w17 ⟨rfl, q19⟩
  have V18 := V16.call q19
  clear q19 V16
  go_wp2_with (first
    | (refine wpList_allocV V18 6 25 rfl rfl rfl (pA 0 0) zeroP ?_; intro w20 g21 V22)
    | (refine wpList_storeV V22 0 rfl _ (.tmp 24) rfl rfl rfl (pA 0 0) rfl rfl Tryd.szP (pA_size _ _) (pA_size _ _) (pA_one _ _) ?_; intro w23 V24))
  refine (awake17_any w23 (hd.of V24)).mono ?_
  rintro e w25 ⟨rfl, q27⟩
  have V26 := V24.call q27
  clear q27 V24
  go_wp2_with fail
  go_ret
  exact ⟨rfl, V26.bel⟩
set_option maxHeartbeats 1600000 in
theorem two_first (v u v31 vo : Nat) (HV : Hid ((bA v)[31]? = some (.int .u8 (v31 : Int)))) (hv9 : v31 < 256) (eo : IntKind.u8.wrap ((v31 : Int) + 128) = (vo : Int)) (HS : Hid ((digL v 32).set 31 vo = digL u 32)) (ry : Nat) (w : World) (hd : DAt w) (H1 : Hid (∀ w, DAt w → Calls Tryd.prog 12 #[.agg (bA v)] w fun e w' => e = .returned (.tuple #[.agg (pA 0 ry), .int .i64 0]) ∧ Below w.heap.size w w')) (H2 : Hid (∀ w, DAt w → Calls Tryd.prog 12 #[.agg (bA u)] w fun e w' => e = .returned (.tuple #[.agg (pA 0 0), .int .i64 170]) ∧ Below w.heap.size w w')) : Calls Tryd.prog 4 #[.agg (bA v)] w fun e w' => e = .returned (.bool true) ∧ Below w.heap.size w w' := by
  have V0 := Vars.start w
  go_enter Tryd.func4, Tryd.ntmps4
  go_upto_region 2 with (first
    | (refine wpList_boxV V0 1 23 _ rfl rfl rfl (bA v) rfl ?_; intro w1 g2 V3)
    | (refine wpList_loadV V3 0 rfl 11 _ rfl rfl rfl rfl Tryd.underlying23 Tryd.szB (bA_size _) ?_)
    | (refine wpList_allocV V3 3 23 rfl rfl rfl (bA 0) zeroB ?_; intro w4 g5 V6)
    | (refine wpList_storeV V6 0 rfl _ (.tmp 11) rfl rfl rfl (bA v) rfl rfl Tryd.szB (bA_size _) (bA_size _) (bA_one _) ?_; intro w7 V8))
  have hc31 := cell_byte V8 0 rfl 31 HV.out
  have hfz := arr_unfrozen (V8.at 0 rfl) 31
  have VB : Vars w (w7.setCell ⟨g5, 31, none⟩ (.int .u8 (vo : Int))) [⟨g5, 23, bA u⟩, ⟨g2, 23, bA v⟩] := V8.setB 0 rfl 31 vo u HS.out
  clear V8
  go_wp2_with (refine wpList_loadV VB 1 rfl 17 _ rfl rfl rfl rfl Tryd.underlying23 Tryd.szB (bA_size _) ?_)
  refine (H1.out (w7.setCell ⟨g5, 31, none⟩ (.int .u8 (vo : Int))) (hd.of VB)).mono ?_
  rintro e w9 ⟨rfl, q11⟩
  have V10 := VB.call q11
  clear q11 VB
  go_wp2_with (first
    | (refine wpList_allocV V10 4 25 rfl rfl rfl (pA 0 0) zeroP ?_; intro w12 g13 V14)
    | (refine wpList_storeV V14 0 rfl _ (.tmp 19) rfl rfl rfl (pA 0 ry) rfl rfl Tryd.szP (pA_size _ _) (pA_size _ _) (pA_one _ _) ?_; intro w15 V16)
    | (refine wpList_loadV V16 1 rfl 22 _ rfl rfl rfl rfl Tryd.underlying23 Tryd.szB (bA_size _) ?_))
  refine (H2.out w15 (hd.of V16)).mono ?_
  rintro e w17 ⟨rfl, q19⟩
  have V18 := V16.call q19
  clear q19 V16
  go_wp2_with (first
    | (refine wpList_allocV V18 6 25 rfl rfl rfl (pA 0 0) zeroP ?_; intro w20 g21 V22)
    | (refine wpList_storeV V22 0 rfl _ (.tmp 24) rfl rfl rfl (pA 0 0) rfl rfl Tryd.szP (pA_size _ _) (pA_size _ _) (pA_one _ _) ?_; intro w23 V24)
    | (refine wpList_buildV 33 23 _ rfl rfl rfl (bA 0) bA_num0 ?_)
    | (refine wpList_allocV V24 8 23 rfl rfl rfl (bA 0) zeroB ?_; intro w25 g26 V27)
    | (refine wpList_storeV V27 0 rfl _ (.tmp 33) rfl rfl rfl (bA 0) rfl rfl Tryd.szB (bA_size _) (bA_size _) (bA_one _) ?_; intro w28 V29))
  refine (awake17_any w28 (hd.of V29)).mono ?_
  rintro e w30 ⟨rfl, q32⟩
  have V31 := V29.call q32
  clear q32 V29
  go_wp2_with (first
    | (refine wpList_exec rfl (exec_loadP V31 2 rfl 0 (pA_part0 _ _) _ rfl rfl Tryd.underlying23 Tryd.szB (bA_size _)) ?_)
    | (refine wpList_loadV V31 0 rfl 47 _ rfl rfl rfl rfl Tryd.underlying23 Tryd.szB (bA_size _) ?_)
    | (refine wpList_exec rfl (exec_eqlB _ _ rfl true _ _ (decide_eq_true rfl) rfl rfl zero2 zero2) ?_))
  go_ret
  exact ⟨rfl, V31.bel⟩
set_option maxHeartbeats 1600000 in
theorem two_second (v u v31 vo : Nat) (HV : Hid ((bA v)[31]? = some (.int .u8 (v31 : Int)))) (hv9 : v31 < 256) (eo : IntKind.u8.wrap ((v31 : Int) + 128) = (vo : Int)) (HS : Hid ((digL v 32).set 31 vo = digL u 32)) (sy : Nat) (w : World) (hd : DAt w) (H1 : Hid (∀ w, DAt w → Calls Tryd.prog 12 #[.agg (bA v)] w fun e w' => e = .returned (.tuple #[.agg (pA 0 0), .int .i64 170]) ∧ Below w.heap.size w w')) (H2 : Hid (∀ w, DAt w → Calls Tryd.prog 12 #[.agg (bA u)] w fun e w' => e = .returned (.tuple #[.agg (pA 0 sy), .int .i64 0]) ∧ Below w.heap.size w w')) : Calls Tryd.prog 4 #[.agg (bA v)] w fun e w' => e = .returned (.bool true) ∧ Below w.heap.size w w' := by
  have V0 := Vars.start w
  go_enter Tryd.func4, Tryd.ntmps4
  go_upto_region 2 with (first
    | (refine wpList_boxV V0 1 23 _ rfl rfl rfl (bA v) rfl ?_; intro w1 g2 V3)
    | (refine wpList_loadV V3 0 rfl 11 _ rfl rfl rfl rfl Tryd.underlying23 Tryd.szB (bA_size _) ?_)
    | (refine wpList_allocV V3 3 23 rfl rfl rfl (bA 0) zeroB ?_; intro w4 g5 V6)
    | (refine wpList_storeV V6 0 rfl _ (.tmp 11) rfl rfl rfl (bA v) rfl rfl Tryd.szB (bA_size _) (bA_size _) (bA_one _) ?_; intro w7 V8))
  have hc31 := cell_byte V8 0 rfl 31 HV.out
  have hfz := arr_unfrozen (V8.at 0 rfl) 31
  have VB : Vars w (w7.setCell ⟨g5, 31, none⟩ (.int .u8 (vo : Int))) [⟨g5, 23, bA u⟩, ⟨g2, 23, bA v⟩] := V8.setB 0 rfl 31 vo u HS.out
  clear V8
  go_wp2_with (refine wpList_loadV VB 1 rfl 17 _ rfl rfl rfl rfl Tryd.underlying23 Tryd.szB (bA_size _) ?_)
  refine (H1.out (w7.setCell ⟨g5, 31, none⟩ (.int .u8 (vo : Int))) (hd.of VB)).mono ?_
  rintro e w9 ⟨rfl, q11⟩
  have V10 := VB.call q11
  clear q11 VB
  go_wp2_with (first
    | (refine wpList_allocV V10 4 25 rfl rfl rfl (pA 0 0) zeroP ?_; intro w12 g13 V14)
    | (refine wpList_storeV V14 0 rfl _ (.tmp 19) rfl rfl rfl (pA 0 0) rfl rfl Tryd.szP (pA_size _ _) (pA_size _ _) (pA_one _ _) ?_; intro w15 V16)
    | (refine wpList_loadV V16 1 rfl 22 _ rfl rfl rfl rfl Tryd.underlying23 Tryd.szB (bA_size _) ?_))
  refine (H2.out w15 (hd.of V16)).mono ?_
  rintro e w17 ⟨rfl, q19⟩
  have V18 := V16.call q19
  clear q19 V16
  go_wp2_with (first
    | (refine wpList_allocV V18 6 25 rfl rfl rfl (pA 0 0) zeroP ?_; intro w20 g21 V22)
    | (refine wpList_storeV V22 0 rfl _ (.tmp 24) rfl rfl rfl (pA 0 sy) rfl rfl Tryd.szP (pA_size _ _) (pA_size _ _) (pA_one _ _) ?_; intro w23 V24)
    | (refine wpList_buildV 33 23 _ rfl rfl rfl (bA 0) bA_num0 ?_)
    | (refine wpList_allocV V24 8 23 rfl rfl rfl (bA 0) zeroB ?_; intro w25 g26 V27)
    | (refine wpList_storeV V27 0 rfl _ (.tmp 33) rfl rfl rfl (bA 0) rfl rfl Tryd.szB (bA_size _) (bA_size _) (bA_one _) ?_; intro w28 V29))
  refine (awake17_any w28 (hd.of V29)).mono ?_
  rintro e w30 ⟨rfl, q32⟩
  have V31 := V29.call q32
  clear q32 V29
  go_wp2_with (first
    | (refine wpList_exec rfl (exec_loadP V31 1 rfl 0 (pA_part0 _ _) _ rfl rfl Tryd.underlying23 Tryd.szB (bA_size _)) ?_)
    | (refine wpList_loadV V31 0 rfl 56 _ rfl rfl rfl rfl Tryd.underlying23 Tryd.szB (bA_size _) ?_)
    | (refine wpList_exec rfl (exec_eqlB _ _ rfl true _ _ (decide_eq_true rfl) rfl rfl zero2 zero2) ?_))
  go_ret
  exact ⟨rfl, V31.bel⟩
set_option maxHeartbeats 1600000 in
theorem two_both (v u v31 vo : Nat) (HV : Hid ((bA v)[31]? = some (.int .u8 (v31 : Int)))) (hv9 : v31 < 256) (eo : IntKind.u8.wrap ((v31 : Int) + 128) = (vo : Int)) (HS : Hid ((digL v 32).set 31 vo = digL u 32)) (rx ry sx sy : Nat) (w : World) (hd : DAt w) (H1 : Hid (∀ w, DAt w → Calls Tryd.prog 12 #[.agg (bA v)] w fun e w' => e = .returned (.tuple #[.agg (pA rx ry), .int .i64 0]) ∧ Below w.heap.size w w')) (H2 : Hid (∀ w, DAt w → Calls Tryd.prog 12 #[.agg (bA u)] w fun e w' => e = .returned (.tuple #[.agg (pA sx sy), .int .i64 0]) ∧ Below w.heap.size w w')) (HN : Hid (∀ w, DAt w → Calls Tryd.prog 8 #[.agg (pA rx ry)] w fun e w' => e = .returned (.tuple #[.agg (pA sx sy), .int .i64 0]) ∧ Below w.heap.size w w')) (L1 : Hid (sx < 2 ^ 256 ∧ sy < 2 ^ 256)) : Calls Tryd.prog 4 #[.agg (bA v)] w fun e w' => e = .returned (.bool true) ∧ Below w.heap.size w w' := by
  have V0 := Vars.start w
  go_enter Tryd.func4, Tryd.ntmps4
  go_upto_region 2 with (first
    | (refine wpList_boxV V0 1 23 _ rfl rfl rfl (bA v) rfl ?_; intro w1 g2 V3)
    | (refine wpList_loadV V3 0 rfl 11 _ rfl rfl rfl rfl Tryd.underlying23 Tryd.szB (bA_size _) ?_)
    | (refine wpList_allocV V3 3 23 rfl rfl rfl (bA 0) zeroB ?_; intro w4 g5 V6)
    | (refine wpList_storeV V6 0 rfl _ (.tmp 11) rfl rfl rfl (bA v) rfl rfl Tryd.szB (bA_size _) (bA_size _) (bA_one _) ?_; intro w7 V8))
  have hc31 := cell_byte V8 0 rfl 31 HV.out
  have hfz := arr_unfrozen (V8.at 0 rfl) 31
  have VB : Vars w (w7.setCell ⟨g5, 31, none⟩ (.int .u8 (vo : Int))) [⟨g5, 23, bA u⟩, ⟨g2, 23, bA v⟩] := V8.setB 0 rfl 31 vo u HS.out
  clear V8
  go_wp2_with (refine wpList_loadV VB 1 rfl 17 _ rfl rfl rfl rfl Tryd.underlying23 Tryd.szB (bA_size _) ?_)
  refine (H1.out (w7.setCell ⟨g5, 31, none⟩ (.int .u8 (vo : Int))) (hd.of VB)).mono ?_
  rintro e w9 ⟨rfl, q11⟩
  have V10 := VB.call q11
  clear q11 VB
  go_wp2_with (first
    | (refine wpList_allocV V10 4 25 rfl rfl rfl (pA 0 0) zeroP ?_; intro w12 g13 V14)
    | (refine wpList_storeV V14 0 rfl _ (.tmp 19) rfl rfl rfl (pA rx ry) rfl rfl Tryd.szP (pA_size _ _) (pA_size _ _) (pA_one _ _) ?_; intro w15 V16)
    | (refine wpList_loadV V16 1 rfl 22 _ rfl rfl rfl rfl Tryd.underlying23 Tryd.szB (bA_size _) ?_))
  refine (H2.out w15 (hd.of V16)).mono ?_
  rintro e w17 ⟨rfl, q19⟩
  have V18 := V16.call q19
  clear q19 V16
  go_wp2_with (first
    | (refine wpList_allocV V18 6 25 rfl rfl rfl (pA 0 0) zeroP ?_; intro w20 g21 V22)
    | (refine wpList_storeV V22 0 rfl _ (.tmp 24) rfl rfl rfl (pA sx sy) rfl rfl Tryd.szP (pA_size _ _) (pA_size _ _) (pA_one _ _) ?_; intro w23 V24)
    | (refine wpList_buildV 33 23 _ rfl rfl rfl (bA 0) bA_num0 ?_)
    | (refine wpList_allocV V24 8 23 rfl rfl rfl (bA 0) zeroB ?_; intro w25 g26 V27)
    | (refine wpList_storeV V27 0 rfl _ (.tmp 33) rfl rfl rfl (bA 0) rfl rfl Tryd.szB (bA_size _) (bA_size _) (bA_one _) ?_; intro w28 V29)
    | (refine wpList_exec rfl (exec_loadS V29 2 rfl _ rfl rfl Tryd.underlying25 Tryd.szP (pA_size _ _)) ?_))
  refine (HN.out w28 (hd.of V29)).mono ?_
  rintro e w30 ⟨rfl, q32⟩
  have V31 := V29.call q32
  clear q32 V29
  go_wp2_with (first
    | (refine wpList_allocV V31 9 25 rfl rfl rfl (pA 0 0) zeroP ?_; intro w33 g34 V35)
    | (refine wpList_storeV V35 0 rfl _ (.tmp 64) rfl rfl rfl (pA sx sy) rfl rfl Tryd.szP (pA_size _ _) (pA_size _ _) (pA_one _ _) ?_; intro w36 V37))
  refine (awake17_any w36 (hd.of V37)).mono ?_
  rintro e w38 ⟨rfl, q40⟩
  have V39 := V37.call q40
  clear q40 V37
  go_wp2_with (first
    | (refine wpList_exec rfl (exec_loadS V39 0 rfl _ rfl rfl Tryd.underlying25 Tryd.szP (pA_size _ _)) ?_)
    | (refine wpList_exec rfl (exec_loadS V39 2 rfl _ rfl rfl Tryd.underlying25 Tryd.szP (pA_size _ _)) ?_)
    | (refine wpList_exec rfl (exec_eqlP _ _ rfl true _ _ _ _ (ptrue _ _) rfl rfl L1.out L1.out) ?_))
  go_ret
  exact ⟨rfl, V39.bel⟩
theorem wrap_turn (x : Nat) (h : x < 256) : IntKind.u8.wrap ((x : Int) + 128) = (((x + 128) % 256 : Nat) : Int) := by
  rw [IntKind.wrap_u8]; omega
theorem walk_CurveTwo (v : Nat) (hv : v < 2 ^ 256) (w : World) (hd : DAt w) : Calls Tryd.prog 4 #[.agg (bA v)] w fun e w' => e = .returned (.bool true) ∧ Below w.heap.size w w' := by
  have hg := bA_get v 31 (by decide)
  have h9 : v / 256 ^ 31 % 256 < 256 := Nat.mod_lt _ (by decide)
  have hs := set_turn hv
  have ew := wrap_turn _ h9
  have hu := turnN_lt v
  have htt := turn_turn hv
  have hs' : (digL v 32).set 31 ((v / 256 ^ 31 % 256 + 128) % 256) = digL (turnN v) 32 := hs
  clear hs
  generalize v / 256 ^ 31 % 256 = v31 at *
  by_cases h1 : ∃ r, OnC r ∧ packN r = v
  · obtain ⟨r, hr, rfl⟩ := h1
    by_cases h2 : ∃ s, OnC s ∧ packN s = turnN (packN r)
    · obtain ⟨s, hs, h3⟩ := h2
      have hx : r.x ≠ 0 := fun e => turn_zero hr e hs h3
      have e2 : s = pneg r := packN_inj hs (pneg_on hr) (h3.trans (turn_pack hx).symm)
      refine two_both (packN r) (turnN (packN r)) v31 ((v31 + 128) % 256) hg h9 ew hs' r.x.val r.y.val s.x.val s.y.val w hd (fun w hd => cUnpack_yes hr w hd) (fun w hd => ?_) (fun w hd => ?_) (pt256 s)
      · rw [← h3]; exact cUnpack_yes hs w hd
      · rw [e2]; exact cNeg_yes hr w hd
    · have h3 : ∀ s, OnC s → packN s ≠ turnN (packN r) := fun s hs e => h2 ⟨s, hs, e⟩
      have hx : r.x.val = 0 := by
        by_cases h : r.x = 0
        · rw [h]; rfl
        · exact absurd (turn_pack h) (h3 _ (pneg_on hr))
      refine two_first (packN r) (turnN (packN r)) v31 ((v31 + 128) % 256) hg h9 ew hs' r.y.val w hd (fun w hd => ?_) (fun w hd => cUnpack_no hu h3 w hd)
      have := cUnpack_yes hr w hd
      rwa [hx] at this
  · have h3 : ∀ s, OnC s → packN s ≠ v := fun s hs e => h1 ⟨s, hs, e⟩
    by_cases h2 : ∃ s, OnC s ∧ packN s = turnN v
    · obtain ⟨s, hs, h4⟩ := h2
      have hx : s.x.val = 0 := by
        by_cases h : s.x = 0
        · rw [h]; rfl
        · exact absurd ((turn_pack h).trans (by rw [h4]; exact htt)) (h3 _ (pneg_on hs))
      refine two_second v (turnN v) v31 ((v31 + 128) % 256) hg h9 ew hs' s.y.val w hd (fun w hd => cUnpack_no hv h3 w hd) (fun w hd => ?_)
      have := cUnpack_yes hs w hd
      rw [hx, h4] at this
      exact this
    · exact two_none v (turnN v) v31 ((v31 + 128) % 256) hg h9 ew hs' w hd (fun w hd => cUnpack_no hv h3 w hd) (fun w hd => cUnpack_no hu (fun s hs e => h2 ⟨s, hs, e⟩) w hd)
end Go.Proofs.YtacicjnhpklkfabDoor.N
