/-
 The document's answers of layer 19: num, mul, add, Of, same.
-/
import Derived.Test.YthangiocheodoaaGreatDoorPackFb
import Derived.Test.YthangiocheodoaaGreatDoorEdRefBase
import Derived.Test.YthangiocheodoaaGreatDoorCurveRef
namespace Go.Proofs.YthangiocheodoaaGreatDoor.N
open Go.RowKit
set_option linter.unusedVariables false
set_option maxRecDepth 8192

set_option maxHeartbeats 1600000 in
theorem num19_any (n : Nat) (hn : n < 4294967296) (w : World) : Calls Tryz.prog 31 #[.int .i64 (n : Int)] w fun e w' => e = .returned (.agg (bA n)) ∧ Below w.heap.size w w' := by
 have HE : Hid (arr .u8 (fillQ (digL n 32) 32 4) = bA n) := fill_tail (by show n < 256 ^ 4; exact hn) (by decide)
 have V0 := Vars.start w
 go_enter Tryz.func31, Tryz.ntmps31
 go_wp2_with (first
  | (refine zA V0 2 rfl rfl rfl ?_; intro w2 g2 V2)
  | (refine wpList_allocV V2 3 22 rfl rfl rfl _ zeroB32 ?_; intro w3 g3 V3))
 clear V0 V2
 go_loopw [0, 4] (fun q y wr => ∃ k : Nat, k ≤ 4 ∧ y = .int .i64 (k : Int) ∧ q = .int .i64 ((n / 256 ^ k : Nat) : Int) ∧ Hid (Vars w wr [⟨g3, 22, arr .u8 (fillQ (digL n 32) 32 k)⟩, ⟨g2, 22, bA 0⟩])) (fun q y _ => 4 - (intOf y).toNat)
 case atStart => exact ⟨0, by omega, rfl, by rw [Nat.pow_zero, Nat.div_one], by rw [show fillQ (digL n 32) 32 0 = List.replicate 32 0 from by simp [fillQ]]; exact V3⟩
 case round =>
  clear V3
  obtain ⟨k, hk, rfl, rfl, HV⟩ := hrel
  by_cases hlt : k < 4
  ·have V4 := HV.out
   have hc2 := arr_cell (V4.at 0 rfl) k (by simp [fillQ, digL_length]; omega)
   have hfz := arr_unfrozen (V4.at 0 rfl) k
   generalize (fillQ (digL n 32) 32 k)[k]?.getD 0 = old at *
   have V5 := V4.setc 0 rfl k (n / 256 ^ k % 256)
   have e5 : (fillQ (digL n 32) 32 k).set k (n / 256 ^ k % 256) = fillQ (digL n 32) 32 (k + 1) := by
    rw [← dg_digL (x := n) (n := 32) (by omega)]
    exact fillQ_next (digL_length _ _) (by omega)
   rw [e5] at V5
   have HV5 : Hid (Vars w (wr.setCell ⟨g3, k, none⟩ (.int .u8 ((n / 256 ^ k % 256 : Nat) : Int))) [⟨g3, 22, arr .u8 (fillQ (digL n 32) 32 (k + 1))⟩, ⟨g2, 22, bA 0⟩]) := V5
   have HQ : Hid (n / 256 ^ (k + 1) = n / 256 ^ k / 256) := by show _ = _; rw [Nat.pow_succ, Nat.div_div_eq_div_mul]
   have hx9 : n / 256 ^ k < 4294967296 := Nat.lt_of_le_of_lt (Nat.div_le_self _ _) hn
   clear V4 V5 e5 HV hn
   generalize n / 256 ^ k = x at *
   have et : (x : Int).tdiv 256 = ((x / 256 : Nat) : Int) := by rw [Int.tdiv_eq_ediv_of_nonneg (by omega)]; omega
   have em : (x : Int).tmod 256 = ((x % 256 : Nat) : Int) := by rw [Int.tmod_eq_emod_of_nonneg (by omega)]; omega
   have hr9 : x % 256 < 256 := Nat.mod_lt _ (by decide)
   have hq9 : x / 256 < 4294967296 := by omega
   generalize x % 256 = r at *
   generalize x / 256 = q at *
   have ew : IntKind.u8.wrap (r : Int) = (r : Int) := by rw [IntKind.wrap_u8]; omega
   have ev : IntKind.i64.wrap (q : Int) = (q : Int) := by rw [IntKind.wrap_i64]; omega
   have hk32 : (k : Int) < 32 := by omega
   have hk4 : (k : Int) < 4 := by omega
   go_wp2
   go_roundw
   case rel => exact ⟨k + 1, by omega, by go_num, by rw [HQ.out], HV5⟩
   case measure => simp [intOf]; omega
  ·obtain rfl : k = 4 := by omega
   have V4 := HV.out
   rw [HE.out] at V4
   go_wp2_with (first
    | (refine zD V4 0 rfl 16 _ rfl rfl rfl rfl ?_)
    | (refine wpList_storeV V4 1 rfl _ _ rfl rfl rfl _ rfl rfl Tryz.szB (bA_size _) (bA_size _) (bA_one _) ?_; intro w5 V5))
   exact bodyPost_ret (resV1 rfl _ V5 1 rfl rfl Tryz.underlying22 Tryz.szB (bA_size _)) rfl ⟨rfl, V5.bel⟩
set_option maxHeartbeats 800000 in
theorem mul19_any (a b : Fp) (w : World) : Calls Tryz.prog 62 #[.agg (bA a.val), .agg (bA b.val)] w fun e w' => e = .returned (.agg (bA (a * b).val)) ∧ Below w.heap.size w w' := by
 have HM : Hid (∀ w, Rt Tryz.prog 103 #[.agg (bA a.val), .agg (bA b.val)] (.agg (bA (a * b).val)) w) := fun w => rmul_any a b w
 generalize (a * b).val = r at *
 generalize a.val = x at *
 generalize b.val = y at *
 have V0 := Vars.start w
 go_enter Tryz.func62, Tryz.ntmps62
 go_wp2_with (first
  | (refine wpList_boxV V0 2 22 _ rfl rfl rfl (bA x) rfl ?_; intro w1 g2 V3)
  | (refine wpList_boxV V3 3 22 _ rfl rfl rfl (bA y) rfl ?_; intro w4 g5 V6)
  | (refine zA V6 4 rfl rfl rfl ?_; intro w7 g8 V9)
  | (refine zD V9 2 rfl 5 _ rfl rfl rfl rfl ?_)
  | (refine zD V9 1 rfl 6 _ rfl rfl rfl rfl ?_))
 refine (HM.out w7).mono ?_
 rintro e w10 ⟨rfl, q12⟩
 have V11 := V9.call q12
 clear q12 V9
 go_wp2_with (refine zL V11 0 rfl _ (.tmp 7) rfl rfl rfl r rfl rfl ?_; intro w13 V14)
 exact bodyPost_ret (resV1 rfl _ V14 0 rfl rfl Tryz.underlying22 Tryz.szB (bA_size _)) rfl ⟨rfl, V14.bel⟩
set_option maxHeartbeats 12800000 in
theorem add19_any (p q : T3) (w : World) : Calls Tryz.prog 32 #[.agg (tA p.x.val p.y.val p.z.val), .agg (tA q.x.val q.y.val q.z.val)] w fun e w' => e = .returned (.agg (tA (rplus3 p q).x.val (rplus3 p q).y.val (rplus3 p q).z.val)) ∧ Below w.heap.size w w' := by
 have N121666 : Hid (∀ w, Rt Tryz.prog 31 #[.int .i64 121666] (.agg (bA 121666)) w) := fun w => num19_any 121666 (by decide) w
 have N121665 : Hid (∀ w, Rt Tryz.prog 31 #[.int .i64 121665] (.agg (bA 121665)) w) := fun w => num19_any 121665 (by decide) w
 have H1 : Hid (∀ w, Rt Tryz.prog 62 #[.agg (bA p.z.val), .agg (bA q.z.val)] (.agg (bA (p.z * q.z).val)) w) := fun w => mul19_any p.z q.z w
 have H2 : Hid (∀ w, Rt Tryz.prog 62 #[.agg (bA (p.z * q.z).val), .agg (bA (p.z * q.z).val)] (.agg (bA ((p.z * q.z) * (p.z * q.z)).val)) w) := fun w => mul19_any (p.z * q.z) (p.z * q.z) w
 have H3 : Hid (∀ w, Rt Tryz.prog 62 #[.agg (bA 121666), .agg (bA ((p.z * q.z) * (p.z * q.z)).val)] (.agg (bA (n66 * ((p.z * q.z) * (p.z * q.z))).val)) w) := fun w => mul19_any n66 ((p.z * q.z) * (p.z * q.z)) w
 have H4 : Hid (∀ w, Rt Tryz.prog 62 #[.agg (bA p.x.val), .agg (bA q.y.val)] (.agg (bA (p.x * q.y).val)) w) := fun w => mul19_any p.x q.y w
 have H5 : Hid (∀ w, Rt Tryz.prog 62 #[.agg (bA p.y.val), .agg (bA q.x.val)] (.agg (bA (p.y * q.x).val)) w) := fun w => mul19_any p.y q.x w
 have H6 : Hid (∀ w, Rt Tryz.prog 62 #[.agg (bA p.y.val), .agg (bA q.y.val)] (.agg (bA (p.y * q.y).val)) w) := fun w => mul19_any p.y q.y w
 have H7 : Hid (∀ w, Rt Tryz.prog 62 #[.agg (bA p.x.val), .agg (bA q.x.val)] (.agg (bA (p.x * q.x).val)) w) := fun w => mul19_any p.x q.x w
 have H8 : Hid (∀ w, Rt Tryz.prog 62 #[.agg (bA (p.x * q.y).val), .agg (bA (p.y * q.x).val)] (.agg (bA ((p.x * q.y) * (p.y * q.x)).val)) w) := fun w => mul19_any (p.x * q.y) (p.y * q.x) w
 have H9 : Hid (∀ w, Rt Tryz.prog 62 #[.agg (bA 121665), .agg (bA ((p.x * q.y) * (p.y * q.x)).val)] (.agg (bA (n65 * ((p.x * q.y) * (p.y * q.x))).val)) w) := fun w => mul19_any n65 ((p.x * q.y) * (p.y * q.x)) w
 have H10 : Hid (∀ w, Rt Tryz.prog 63 #[.agg (bA (n66 * ((p.z * q.z) * (p.z * q.z))).val), .agg (bA (n65 * ((p.x * q.y) * (p.y * q.x))).val)] (.agg (bA ((n66 * ((p.z * q.z) * (p.z * q.z))) - (n65 * ((p.x * q.y) * (p.y * q.x)))).val)) w) := fun w => rsub_any (n66 * ((p.z * q.z) * (p.z * q.z))) (n65 * ((p.x * q.y) * (p.y * q.x))) w
 have H11 : Hid (∀ w, Rt Tryz.prog 64 #[.agg (bA (n66 * ((p.z * q.z) * (p.z * q.z))).val), .agg (bA (n65 * ((p.x * q.y) * (p.y * q.x))).val)] (.agg (bA ((n66 * ((p.z * q.z) * (p.z * q.z))) + (n65 * ((p.x * q.y) * (p.y * q.x)))).val)) w) := fun w => radd_any (n66 * ((p.z * q.z) * (p.z * q.z))) (n65 * ((p.x * q.y) * (p.y * q.x))) w
 have H12 : Hid (∀ w, Rt Tryz.prog 62 #[.agg (bA 121666), .agg (bA (p.z * q.z).val)] (.agg (bA (n66 * (p.z * q.z)).val)) w) := fun w => mul19_any n66 (p.z * q.z) w
 have H13 : Hid (∀ w, Rt Tryz.prog 64 #[.agg (bA (p.x * q.y).val), .agg (bA (p.y * q.x).val)] (.agg (bA ((p.x * q.y) + (p.y * q.x)).val)) w) := fun w => radd_any (p.x * q.y) (p.y * q.x) w
 have H14 : Hid (∀ w, Rt Tryz.prog 62 #[.agg (bA (n66 * (p.z * q.z)).val), .agg (bA ((p.x * q.y) + (p.y * q.x)).val)] (.agg (bA ((n66 * (p.z * q.z)) * ((p.x * q.y) + (p.y * q.x))).val)) w) := fun w => mul19_any (n66 * (p.z * q.z)) ((p.x * q.y) + (p.y * q.x)) w
 have H15 : Hid (∀ w, Rt Tryz.prog 64 #[.agg (bA (p.y * q.y).val), .agg (bA (p.x * q.x).val)] (.agg (bA ((p.y * q.y) + (p.x * q.x)).val)) w) := fun w => radd_any (p.y * q.y) (p.x * q.x) w
 have H16 : Hid (∀ w, Rt Tryz.prog 62 #[.agg (bA (n66 * (p.z * q.z)).val), .agg (bA ((p.y * q.y) + (p.x * q.x)).val)] (.agg (bA ((n66 * (p.z * q.z)) * ((p.y * q.y) + (p.x * q.x))).val)) w) := fun w => mul19_any (n66 * (p.z * q.z)) ((p.y * q.y) + (p.x * q.x)) w
 have H17 : Hid (∀ w, Rt Tryz.prog 62 #[.agg (bA ((n66 * (p.z * q.z)) * ((p.x * q.y) + (p.y * q.x))).val), .agg (bA ((n66 * ((p.z * q.z) * (p.z * q.z))) + (n65 * ((p.x * q.y) * (p.y * q.x)))).val)] (.agg (bA (((n66 * (p.z * q.z)) * ((p.x * q.y) + (p.y * q.x))) * ((n66 * ((p.z * q.z) * (p.z * q.z))) + (n65 * ((p.x * q.y) * (p.y * q.x))))).val)) w) := fun w => mul19_any ((n66 * (p.z * q.z)) * ((p.x * q.y) + (p.y * q.x))) ((n66 * ((p.z * q.z) * (p.z * q.z))) + (n65 * ((p.x * q.y) * (p.y * q.x)))) w
 have H18 : Hid (∀ w, Rt Tryz.prog 62 #[.agg (bA ((n66 * (p.z * q.z)) * ((p.y * q.y) + (p.x * q.x))).val), .agg (bA ((n66 * ((p.z * q.z) * (p.z * q.z))) - (n65 * ((p.x * q.y) * (p.y * q.x)))).val)] (.agg (bA (((n66 * (p.z * q.z)) * ((p.y * q.y) + (p.x * q.x))) * ((n66 * ((p.z * q.z) * (p.z * q.z))) - (n65 * ((p.x * q.y) * (p.y * q.x))))).val)) w) := fun w => mul19_any ((n66 * (p.z * q.z)) * ((p.y * q.y) + (p.x * q.x))) ((n66 * ((p.z * q.z) * (p.z * q.z))) - (n65 * ((p.x * q.y) * (p.y * q.x)))) w
 have H19 : Hid (∀ w, Rt Tryz.prog 62 #[.agg (bA ((n66 * ((p.z * q.z) * (p.z * q.z))) - (n65 * ((p.x * q.y) * (p.y * q.x)))).val), .agg (bA ((n66 * ((p.z * q.z) * (p.z * q.z))) + (n65 * ((p.x * q.y) * (p.y * q.x)))).val)] (.agg (bA (((n66 * ((p.z * q.z) * (p.z * q.z))) - (n65 * ((p.x * q.y) * (p.y * q.x)))) * ((n66 * ((p.z * q.z) * (p.z * q.z))) + (n65 * ((p.x * q.y) * (p.y * q.x))))).val)) w) := fun w => mul19_any ((n66 * ((p.z * q.z) * (p.z * q.z))) - (n65 * ((p.x * q.y) * (p.y * q.x)))) ((n66 * ((p.z * q.z) * (p.z * q.z))) + (n65 * ((p.x * q.y) * (p.y * q.x)))) w
 show Calls _ _ _ w fun e w' => e = .returned (.agg (tA (((n66 * (p.z * q.z)) * ((p.x * q.y) + (p.y * q.x))) * ((n66 * ((p.z * q.z) * (p.z * q.z))) + (n65 * ((p.x * q.y) * (p.y * q.x))))).val (((n66 * (p.z * q.z)) * ((p.y * q.y) + (p.x * q.x))) * ((n66 * ((p.z * q.z) * (p.z * q.z))) - (n65 * ((p.x * q.y) * (p.y * q.x))))).val (((n66 * ((p.z * q.z) * (p.z * q.z))) - (n65 * ((p.x * q.y) * (p.y * q.x)))) * ((n66 * ((p.z * q.z) * (p.z * q.z))) + (n65 * ((p.x * q.y) * (p.y * q.x))))).val)) ∧ Below w.heap.size w w'
 generalize (((n66 * (p.z * q.z)) * ((p.x * q.y) + (p.y * q.x))) * ((n66 * ((p.z * q.z) * (p.z * q.z))) + (n65 * ((p.x * q.y) * (p.y * q.x))))).val = xu at *
 generalize (((n66 * (p.z * q.z)) * ((p.y * q.y) + (p.x * q.x))) * ((n66 * ((p.z * q.z) * (p.z * q.z))) - (n65 * ((p.x * q.y) * (p.y * q.x))))).val = yd at *
 generalize (((n66 * ((p.z * q.z) * (p.z * q.z))) - (n65 * ((p.x * q.y) * (p.y * q.x)))) * ((n66 * ((p.z * q.z) * (p.z * q.z))) + (n65 * ((p.x * q.y) * (p.y * q.x))))).val = du at *
 generalize ((n66 * (p.z * q.z)) * ((p.x * q.y) + (p.y * q.x))).val = x9 at *
 generalize ((n66 * (p.z * q.z)) * ((p.y * q.y) + (p.x * q.x))).val = y9 at *
 generalize ((n66 * ((p.z * q.z) * (p.z * q.z))) - (n65 * ((p.x * q.y) * (p.y * q.x)))).val = dn at *
 generalize ((n66 * ((p.z * q.z) * (p.z * q.z))) + (n65 * ((p.x * q.y) * (p.y * q.x)))).val = up at *
 generalize (n65 * ((p.x * q.y) * (p.y * q.x))).val = al at *
 generalize (n66 * ((p.z * q.z) * (p.z * q.z))).val = wh at *
 generalize (n66 * (p.z * q.z)).val = tp at *
 generalize ((p.x * q.y) + (p.y * q.x)).val = s1 at *
 generalize ((p.y * q.y) + (p.x * q.x)).val = s2 at *
 generalize ((p.x * q.y) * (p.y * q.x)).val = ab at *
 generalize ((p.z * q.z) * (p.z * q.z)).val = z2 at *
 generalize (p.z * q.z).val = zz at *
 generalize (p.x * q.y).val = a9 at *
 generalize (p.y * q.x).val = b9 at *
 generalize (p.y * q.y).val = c9 at *
 generalize (p.x * q.x).val = e9 at *
 generalize p.x.val = px at *
 generalize p.y.val = py at *
 generalize p.z.val = pz at *
 generalize q.x.val = qx at *
 generalize q.y.val = qy at *
 generalize q.z.val = qz at *
 have V0 := Vars.start w
 go_enter Tryz.func32, Tryz.ntmps32
 go_wp2_with (first
  | (refine wpList_boxV V0 2 35 _ rfl rfl rfl (tA px py pz) rfl ?_; intro w1 g2 V3)
  | (refine wpList_boxV V3 3 35 _ rfl rfl rfl (tA qx qy qz) rfl ?_; intro w4 g5 V6)
  | (refine wpList_allocV V6 4 35 rfl rfl rfl (tA 0 0 0) zeroPl ?_; intro w7 g8 V9)
  | (refine wpList_exec rfl (exec_loadP V9 2 rfl 64 (tA_part2 _ _ _) _ rfl rfl Tryz.underlying22 Tryz.szB (bA_size _)) ?_)
  | (refine wpList_exec rfl (exec_loadP V9 1 rfl 64 (tA_part2 _ _ _) _ rfl rfl Tryz.underlying22 Tryz.szB (bA_size _)) ?_))
 refine (H1.out w7).mono ?_
 rintro e w10 ⟨rfl, q12⟩
 have V11 := V9.call q12
 clear q12 V9
 go_wp2_with (first
  | (refine zA V11 5 rfl rfl rfl ?_; intro w13 g14 V15)
  | (refine zL V15 0 rfl _ (.tmp 21) rfl rfl rfl zz rfl rfl ?_; intro w16 V17))
 refine av_open (fun w' => Vars w w' [⟨g14, 22, bA zz⟩, ⟨g8, 35, tA 0 0 0⟩, ⟨g5, 35, tA qx qy qz⟩, ⟨g2, 35, tA px py pz⟩]) (by kernel_rfl) ?_
 have V18 := V17.drew
 apply av_once (Vg := fun g w' => Vars w w' [⟨g, 22, bA wh⟩, ⟨g14, 22, bA zz⟩, ⟨g8, 35, tA 0 0 0⟩, ⟨g5, 35, tA qx qy qz⟩, ⟨g2, 35, tA px py pz⟩])
 ·intro HC19
  refine zR [1, 2] 5 (by kernel_rfl) (fun _ _ _ _ _ h => h) V18 fun K hK => ?_
  refine zC (.agg (bA zz)) rfl (by rfl) (fun w' hw' => zB hw' 0 rfl _ rfl rfl) ?_
  go_simp
  refine zC (.agg (bA zz)) rfl (by rfl) (fun w' hw' => zB hw' 0 rfl _ rfl rfl) ?_
  go_simp
  refine calm_nil (hK.out _ ?_)
  clear hK K
  refine zP 0 5 4 (by kernel_rfl) rfl (by rfl) rfl (by rfl) (fun K hK => ?_) (fun K hK => ?_)
  ·go_simp
   refine (N121666.out w16.drew).mono ?_
   rintro e w20 ⟨rfl, q22⟩
   have V21 := V18.call q22
   refine hK _ _ (V21) ?_
   clear hK K q22
   refine zP 3 5 3 (by kernel_rfl) rfl (by rfl) rfl (by rfl) (fun K hK => ?_) (fun K hK => ?_)
   ·go_simp
    refine (H2.out w20).mono ?_
    rintro e w23 ⟨rfl, q25⟩
    have V24 := V21.call q25
    refine hK _ _ (V24) ?_
    clear hK K q25
    refine zP 4 5 2 (by kernel_rfl) rfl (by rfl) rfl (by rfl) (fun K hK => ?_) (fun K hK => ?_)
    ·go_simp
     refine (H3.out w23).mono ?_
     rintro e w26 ⟨rfl, q28⟩
     have V27 := V24.call q28
     refine hK _ _ (V27) ?_
     clear hK K q28
     refine zO 5 1 (by kernel_rfl) rfl (by rfl) fun K hK => ?_
     refine zN V27 6 rfl rfl (fun w29 g30 V31 => ?_)
     refine hK _ _ (V31.tail) ?_
     clear hK K
     refine zO 6 0 (by kernel_rfl) rfl (by rfl) fun K hK => ?_
     refine zS V31 0 rfl _ _ rfl rfl wh rfl rfl (fun w32 V33 => ?_)
     refine hK _ _ (V33.tail) ?_
     clear hK K
     refine wpAnyH_done (by kernel_rfl) ?_ _
     exact HC19 g30 w32 V33
    ·refine zN V24 6 rfl rfl (fun w34 g35 V36 => ?_)
     refine hK _ _ (V36.tail) ?_
     clear hK K
     refine zO 4 1 (by kernel_rfl) rfl (by rfl) fun K hK => ?_
     go_simp
     refine (H3.out w34).mono ?_
     rintro e w37 ⟨rfl, q39⟩
     have V38 := V36.call q39
     refine hK _ _ (V38.tail) ?_
     clear hK K q39
     refine zO 6 0 (by kernel_rfl) rfl (by rfl) fun K hK => ?_
     refine zS V38 0 rfl _ _ rfl rfl wh rfl rfl (fun w40 V41 => ?_)
     refine hK _ _ (V41.tail) ?_
     clear hK K
     refine wpAnyH_done (by kernel_rfl) ?_ _
     exact HC19 g35 w40 V41
   ·refine zN V21 6 rfl rfl (fun w42 g43 V44 => ?_)
    refine hK _ _ (V44.tail) ?_
    clear hK K
    refine zO 3 2 (by kernel_rfl) rfl (by rfl) fun K hK => ?_
    go_simp
    refine (H2.out w42).mono ?_
    rintro e w45 ⟨rfl, q47⟩
    have V46 := V44.call q47
    refine hK _ _ (V46.tail) ?_
    clear hK K q47
    refine zO 4 1 (by kernel_rfl) rfl (by rfl) fun K hK => ?_
    go_simp
    refine (H3.out w45).mono ?_
    rintro e w48 ⟨rfl, q50⟩
    have V49 := V46.call q50
    refine hK _ _ (V49.tail) ?_
    clear hK K q50
    refine zO 6 0 (by kernel_rfl) rfl (by rfl) fun K hK => ?_
    refine zS V49 0 rfl _ _ rfl rfl wh rfl rfl (fun w51 V52 => ?_)
    refine hK _ _ (V52.tail) ?_
    clear hK K
    refine wpAnyH_done (by kernel_rfl) ?_ _
    exact HC19 g43 w51 V52
  ·refine zN V18 6 rfl rfl (fun w53 g54 V55 => ?_)
   refine hK _ _ (V55.tail) ?_
   clear hK K
   refine zO 0 3 (by kernel_rfl) rfl (by rfl) fun K hK => ?_
   go_simp
   refine (N121666.out w53).mono ?_
   rintro e w56 ⟨rfl, q58⟩
   have V57 := V55.call q58
   refine hK _ _ (V57.tail) ?_
   clear hK K q58
   refine zO 3 2 (by kernel_rfl) rfl (by rfl) fun K hK => ?_
   go_simp
   refine (H2.out w56).mono ?_
   rintro e w59 ⟨rfl, q61⟩
   have V60 := V57.call q61
   refine hK _ _ (V60.tail) ?_
   clear hK K q61
   refine zO 4 1 (by kernel_rfl) rfl (by rfl) fun K hK => ?_
   go_simp
   refine (H3.out w59).mono ?_
   rintro e w62 ⟨rfl, q64⟩
   have V63 := V60.call q64
   refine hK _ _ (V63.tail) ?_
   clear hK K q64
   refine zO 6 0 (by kernel_rfl) rfl (by rfl) fun K hK => ?_
   refine zS V63 0 rfl _ _ rfl rfl wh rfl rfl (fun w65 V66 => ?_)
   refine hK _ _ (V66.tail) ?_
   clear hK K
   refine wpAnyH_done (by kernel_rfl) ?_ _
   exact HC19 g54 w65 V66
 intro g54 w65 V66
 clear V18
 go_wp2_with (first
  | (refine wpList_exec rfl (exec_loadP V66 4 rfl 0 (tA_part0 _ _ _) _ rfl rfl Tryz.underlying22 Tryz.szB (bA_size _)) ?_)
  | (refine wpList_exec rfl (exec_loadP V66 3 rfl 32 (tA_part1 _ _ _) _ rfl rfl Tryz.underlying22 Tryz.szB (bA_size _)) ?_))
 refine (H4.out w65).mono ?_
 rintro e w67 ⟨rfl, q69⟩
 have V68 := V66.call q69
 clear q69 V66
 go_wp2_with (first
  | (refine zA V68 7 rfl rfl rfl ?_; intro w70 g71 V72)
  | (refine zL V72 0 rfl _ (.tmp 31) rfl rfl rfl a9 rfl rfl ?_; intro w73 V74)
  | (refine wpList_exec rfl (exec_loadP V74 5 rfl 32 (tA_part1 _ _ _) _ rfl rfl Tryz.underlying22 Tryz.szB (bA_size _)) ?_)
  | (refine wpList_exec rfl (exec_loadP V74 4 rfl 0 (tA_part0 _ _ _) _ rfl rfl Tryz.underlying22 Tryz.szB (bA_size _)) ?_))
 refine (H5.out w73).mono ?_
 rintro e w75 ⟨rfl, q77⟩
 have V76 := V74.call q77
 clear q77 V74
 go_wp2_with (first
  | (refine zA V76 8 rfl rfl rfl ?_; intro w78 g79 V80)
  | (refine zL V80 0 rfl _ (.tmp 36) rfl rfl rfl b9 rfl rfl ?_; intro w81 V82)
  | (refine wpList_exec rfl (exec_loadP V82 6 rfl 32 (tA_part1 _ _ _) _ rfl rfl Tryz.underlying22 Tryz.szB (bA_size _)) ?_)
  | (refine wpList_exec rfl (exec_loadP V82 5 rfl 32 (tA_part1 _ _ _) _ rfl rfl Tryz.underlying22 Tryz.szB (bA_size _)) ?_))
 refine (H6.out w81).mono ?_
 rintro e w83 ⟨rfl, q85⟩
 have V84 := V82.call q85
 clear q85 V82
 go_wp2_with (first
  | (refine zA V84 9 rfl rfl rfl ?_; intro w86 g87 V88)
  | (refine zL V88 0 rfl _ (.tmp 41) rfl rfl rfl c9 rfl rfl ?_; intro w89 V90)
  | (refine wpList_exec rfl (exec_loadP V90 7 rfl 0 (tA_part0 _ _ _) _ rfl rfl Tryz.underlying22 Tryz.szB (bA_size _)) ?_)
  | (refine wpList_exec rfl (exec_loadP V90 6 rfl 0 (tA_part0 _ _ _) _ rfl rfl Tryz.underlying22 Tryz.szB (bA_size _)) ?_))
 refine (H7.out w89).mono ?_
 rintro e w91 ⟨rfl, q93⟩
 have V92 := V90.call q93
 clear q93 V90
 go_wp2_with (first
  | (refine zA V92 10 rfl rfl rfl ?_; intro w94 g95 V96)
  | (refine zL V96 0 rfl _ (.tmp 46) rfl rfl rfl e9 rfl rfl ?_; intro w97 V98))
 refine av_open (fun w' => Vars w w' [⟨g95, 22, bA e9⟩, ⟨g87, 22, bA c9⟩, ⟨g79, 22, bA b9⟩, ⟨g71, 22, bA a9⟩, ⟨g54, 22, bA wh⟩, ⟨g14, 22, bA zz⟩, ⟨g8, 35, tA 0 0 0⟩, ⟨g5, 35, tA qx qy qz⟩, ⟨g2, 35, tA px py pz⟩]) (by kernel_rfl) ?_
 have V99 := V98.drew
 apply av_once (Vg := fun g w' => Vars w w' [⟨g, 22, bA al⟩, ⟨g95, 22, bA e9⟩, ⟨g87, 22, bA c9⟩, ⟨g79, 22, bA b9⟩, ⟨g71, 22, bA a9⟩, ⟨g54, 22, bA wh⟩, ⟨g14, 22, bA zz⟩, ⟨g8, 35, tA 0 0 0⟩, ⟨g5, 35, tA qx qy qz⟩, ⟨g2, 35, tA px py pz⟩])
 ·intro HC100
  refine zR [1, 2] 5 (by kernel_rfl) (fun _ _ _ _ _ h => h) V99 fun K hK => ?_
  refine zC (.agg (bA a9)) rfl (by rfl) (fun w' hw' => zB hw' 3 rfl _ rfl rfl) ?_
  go_simp
  refine zC (.agg (bA b9)) rfl (by rfl) (fun w' hw' => zB hw' 2 rfl _ rfl rfl) ?_
  go_simp
  refine calm_nil (hK.out _ ?_)
  clear hK K
  refine zP 0 5 4 (by kernel_rfl) rfl (by rfl) rfl (by rfl) (fun K hK => ?_) (fun K hK => ?_)
  ·go_simp
   refine (N121665.out w97.drew).mono ?_
   rintro e w101 ⟨rfl, q103⟩
   have V102 := V99.call q103
   refine hK _ _ (V102) ?_
   clear hK K q103
   refine zP 3 5 3 (by kernel_rfl) rfl (by rfl) rfl (by rfl) (fun K hK => ?_) (fun K hK => ?_)
   ·go_simp
    refine (H8.out w101).mono ?_
    rintro e w104 ⟨rfl, q106⟩
    have V105 := V102.call q106
    refine hK _ _ (V105) ?_
    clear hK K q106
    refine zP 4 5 2 (by kernel_rfl) rfl (by rfl) rfl (by rfl) (fun K hK => ?_) (fun K hK => ?_)
    ·go_simp
     refine (H9.out w104).mono ?_
     rintro e w107 ⟨rfl, q109⟩
     have V108 := V105.call q109
     refine hK _ _ (V108) ?_
     clear hK K q109
     refine zO 5 1 (by kernel_rfl) rfl (by rfl) fun K hK => ?_
     refine zN V108 11 rfl rfl (fun w110 g111 V112 => ?_)
     refine hK _ _ (V112.tail) ?_
     clear hK K
     refine zO 6 0 (by kernel_rfl) rfl (by rfl) fun K hK => ?_
     refine zS V112 0 rfl _ _ rfl rfl al rfl rfl (fun w113 V114 => ?_)
     refine hK _ _ (V114.tail) ?_
     clear hK K
     refine wpAnyH_done (by kernel_rfl) ?_ _
     exact HC100 g111 w113 V114
    ·refine zN V105 11 rfl rfl (fun w115 g116 V117 => ?_)
     refine hK _ _ (V117.tail) ?_
     clear hK K
     refine zO 4 1 (by kernel_rfl) rfl (by rfl) fun K hK => ?_
     go_simp
     refine (H9.out w115).mono ?_
     rintro e w118 ⟨rfl, q120⟩
     have V119 := V117.call q120
     refine hK _ _ (V119.tail) ?_
     clear hK K q120
     refine zO 6 0 (by kernel_rfl) rfl (by rfl) fun K hK => ?_
     refine zS V119 0 rfl _ _ rfl rfl al rfl rfl (fun w121 V122 => ?_)
     refine hK _ _ (V122.tail) ?_
     clear hK K
     refine wpAnyH_done (by kernel_rfl) ?_ _
     exact HC100 g116 w121 V122
   ·refine zN V102 11 rfl rfl (fun w123 g124 V125 => ?_)
    refine hK _ _ (V125.tail) ?_
    clear hK K
    refine zO 3 2 (by kernel_rfl) rfl (by rfl) fun K hK => ?_
    go_simp
    refine (H8.out w123).mono ?_
    rintro e w126 ⟨rfl, q128⟩
    have V127 := V125.call q128
    refine hK _ _ (V127.tail) ?_
    clear hK K q128
    refine zO 4 1 (by kernel_rfl) rfl (by rfl) fun K hK => ?_
    go_simp
    refine (H9.out w126).mono ?_
    rintro e w129 ⟨rfl, q131⟩
    have V130 := V127.call q131
    refine hK _ _ (V130.tail) ?_
    clear hK K q131
    refine zO 6 0 (by kernel_rfl) rfl (by rfl) fun K hK => ?_
    refine zS V130 0 rfl _ _ rfl rfl al rfl rfl (fun w132 V133 => ?_)
    refine hK _ _ (V133.tail) ?_
    clear hK K
    refine wpAnyH_done (by kernel_rfl) ?_ _
    exact HC100 g124 w132 V133
  ·refine zN V99 11 rfl rfl (fun w134 g135 V136 => ?_)
   refine hK _ _ (V136.tail) ?_
   clear hK K
   refine zO 0 3 (by kernel_rfl) rfl (by rfl) fun K hK => ?_
   go_simp
   refine (N121665.out w134).mono ?_
   rintro e w137 ⟨rfl, q139⟩
   have V138 := V136.call q139
   refine hK _ _ (V138.tail) ?_
   clear hK K q139
   refine zO 3 2 (by kernel_rfl) rfl (by rfl) fun K hK => ?_
   go_simp
   refine (H8.out w137).mono ?_
   rintro e w140 ⟨rfl, q142⟩
   have V141 := V138.call q142
   refine hK _ _ (V141.tail) ?_
   clear hK K q142
   refine zO 4 1 (by kernel_rfl) rfl (by rfl) fun K hK => ?_
   go_simp
   refine (H9.out w140).mono ?_
   rintro e w143 ⟨rfl, q145⟩
   have V144 := V141.call q145
   refine hK _ _ (V144.tail) ?_
   clear hK K q145
   refine zO 6 0 (by kernel_rfl) rfl (by rfl) fun K hK => ?_
   refine zS V144 0 rfl _ _ rfl rfl al rfl rfl (fun w146 V147 => ?_)
   refine hK _ _ (V147.tail) ?_
   clear hK K
   refine wpAnyH_done (by kernel_rfl) ?_ _
   exact HC100 g135 w146 V147
 intro g135 w146 V147
 clear V99
 go_wp2_with (first
  | (refine zD V147 5 rfl 52 _ rfl rfl rfl rfl ?_)
  | (refine zD V147 0 rfl 53 _ rfl rfl rfl rfl ?_))
 refine (H10.out w146).mono ?_
 rintro e w148 ⟨rfl, q150⟩
 have V149 := V147.call q150
 clear q150 V147
 go_wp2_with (first
  | (refine zA V149 12 rfl rfl rfl ?_; intro w151 g152 V153)
  | (refine zL V153 0 rfl _ (.tmp 54) rfl rfl rfl dn rfl rfl ?_; intro w154 V155)
  | (refine zD V155 6 rfl 55 _ rfl rfl rfl rfl ?_)
  | (refine zD V155 1 rfl 56 _ rfl rfl rfl rfl ?_))
 refine (H11.out w154).mono ?_
 rintro e w156 ⟨rfl, q158⟩
 have V157 := V155.call q158
 clear q158 V155
 go_wp2_with (first
  | (refine zA V157 13 rfl rfl rfl ?_; intro w159 g160 V161)
  | (refine zL V161 0 rfl _ (.tmp 57) rfl rfl rfl up rfl rfl ?_; intro w162 V163))
 refine av_open (fun w' => Vars w w' [⟨g160, 22, bA up⟩, ⟨g152, 22, bA dn⟩, ⟨g135, 22, bA al⟩, ⟨g95, 22, bA e9⟩, ⟨g87, 22, bA c9⟩, ⟨g79, 22, bA b9⟩, ⟨g71, 22, bA a9⟩, ⟨g54, 22, bA wh⟩, ⟨g14, 22, bA zz⟩, ⟨g8, 35, tA 0 0 0⟩, ⟨g5, 35, tA qx qy qz⟩, ⟨g2, 35, tA px py pz⟩]) (by kernel_rfl) ?_
 have V164 := V163.drew
 apply av_once (Vg := fun g w' => Vars w w' [⟨g, 22, bA tp⟩, ⟨g160, 22, bA up⟩, ⟨g152, 22, bA dn⟩, ⟨g135, 22, bA al⟩, ⟨g95, 22, bA e9⟩, ⟨g87, 22, bA c9⟩, ⟨g79, 22, bA b9⟩, ⟨g71, 22, bA a9⟩, ⟨g54, 22, bA wh⟩, ⟨g14, 22, bA zz⟩, ⟨g8, 35, tA 0 0 0⟩, ⟨g5, 35, tA qx qy qz⟩, ⟨g2, 35, tA px py pz⟩])
 ·intro HC165
  refine zR [1] 4 (by kernel_rfl) (fun _ _ _ _ _ h => h) V164 fun K hK => ?_
  refine zC (.agg (bA zz)) rfl (by rfl) (fun w' hw' => zB hw' 8 rfl _ rfl rfl) ?_
  go_simp
  refine calm_nil (hK.out _ ?_)
  clear hK K
  refine zP 0 3 3 (by kernel_rfl) rfl (by rfl) rfl (by rfl) (fun K hK => ?_) (fun K hK => ?_)
  ·go_simp
   refine (N121666.out w162.drew).mono ?_
   rintro e w166 ⟨rfl, q168⟩
   have V167 := V164.call q168
   refine hK _ _ (V167) ?_
   clear hK K q168
   refine zP 2 3 2 (by kernel_rfl) rfl (by rfl) rfl (by rfl) (fun K hK => ?_) (fun K hK => ?_)
   ·go_simp
    refine (H12.out w166).mono ?_
    rintro e w169 ⟨rfl, q171⟩
    have V170 := V167.call q171
    refine hK _ _ (V170) ?_
    clear hK K q171
    refine zO 3 1 (by kernel_rfl) rfl (by rfl) fun K hK => ?_
    refine zN V170 14 rfl rfl (fun w172 g173 V174 => ?_)
    refine hK _ _ (V174.tail) ?_
    clear hK K
    refine zO 4 0 (by kernel_rfl) rfl (by rfl) fun K hK => ?_
    refine zS V174 0 rfl _ _ rfl rfl tp rfl rfl (fun w175 V176 => ?_)
    refine hK _ _ (V176.tail) ?_
    clear hK K
    refine wpAnyH_done (by kernel_rfl) ?_ _
    exact HC165 g173 w175 V176
   ·refine zN V167 14 rfl rfl (fun w177 g178 V179 => ?_)
    refine hK _ _ (V179.tail) ?_
    clear hK K
    refine zO 2 1 (by kernel_rfl) rfl (by rfl) fun K hK => ?_
    go_simp
    refine (H12.out w177).mono ?_
    rintro e w180 ⟨rfl, q182⟩
    have V181 := V179.call q182
    refine hK _ _ (V181.tail) ?_
    clear hK K q182
    refine zO 4 0 (by kernel_rfl) rfl (by rfl) fun K hK => ?_
    refine zS V181 0 rfl _ _ rfl rfl tp rfl rfl (fun w183 V184 => ?_)
    refine hK _ _ (V184.tail) ?_
    clear hK K
    refine wpAnyH_done (by kernel_rfl) ?_ _
    exact HC165 g178 w183 V184
  ·refine zN V164 14 rfl rfl (fun w185 g186 V187 => ?_)
   refine hK _ _ (V187.tail) ?_
   clear hK K
   refine zO 0 2 (by kernel_rfl) rfl (by rfl) fun K hK => ?_
   go_simp
   refine (N121666.out w185).mono ?_
   rintro e w188 ⟨rfl, q190⟩
   have V189 := V187.call q190
   refine hK _ _ (V189.tail) ?_
   clear hK K q190
   refine zO 2 1 (by kernel_rfl) rfl (by rfl) fun K hK => ?_
   go_simp
   refine (H12.out w188).mono ?_
   rintro e w191 ⟨rfl, q193⟩
   have V192 := V189.call q193
   refine hK _ _ (V192.tail) ?_
   clear hK K q193
   refine zO 4 0 (by kernel_rfl) rfl (by rfl) fun K hK => ?_
   refine zS V192 0 rfl _ _ rfl rfl tp rfl rfl (fun w194 V195 => ?_)
   refine hK _ _ (V195.tail) ?_
   clear hK K
   refine wpAnyH_done (by kernel_rfl) ?_ _
   exact HC165 g186 w194 V195
 intro g186 w194 V195
 clear V164
 go_wp2_with fail
 refine av_open (fun w' => Vars w w' [⟨g186, 22, bA tp⟩, ⟨g160, 22, bA up⟩, ⟨g152, 22, bA dn⟩, ⟨g135, 22, bA al⟩, ⟨g95, 22, bA e9⟩, ⟨g87, 22, bA c9⟩, ⟨g79, 22, bA b9⟩, ⟨g71, 22, bA a9⟩, ⟨g54, 22, bA wh⟩, ⟨g14, 22, bA zz⟩, ⟨g8, 35, tA 0 0 0⟩, ⟨g5, 35, tA qx qy qz⟩, ⟨g2, 35, tA px py pz⟩]) (by kernel_rfl) ?_
 have V196 := V195.drew
 apply av_once (Vg := fun g w' => Vars w w' [⟨g, 22, bA x9⟩, ⟨g186, 22, bA tp⟩, ⟨g160, 22, bA up⟩, ⟨g152, 22, bA dn⟩, ⟨g135, 22, bA al⟩, ⟨g95, 22, bA e9⟩, ⟨g87, 22, bA c9⟩, ⟨g79, 22, bA b9⟩, ⟨g71, 22, bA a9⟩, ⟨g54, 22, bA wh⟩, ⟨g14, 22, bA zz⟩, ⟨g8, 35, tA 0 0 0⟩, ⟨g5, 35, tA qx qy qz⟩, ⟨g2, 35, tA px py pz⟩])
 ·intro HC197
  refine zR [0, 1, 2] 4 (by kernel_rfl) (fun _ _ _ _ _ h => h) V196 fun K hK => ?_
  refine zC (.agg (bA tp)) rfl (by rfl) (fun w' hw' => zB hw' 0 rfl _ rfl rfl) ?_
  go_simp
  refine zC (.agg (bA a9)) rfl (by rfl) (fun w' hw' => zB hw' 7 rfl _ rfl rfl) ?_
  go_simp
  refine zC (.agg (bA b9)) rfl (by rfl) (fun w' hw' => zB hw' 6 rfl _ rfl rfl) ?_
  go_simp
  refine calm_nil (hK.out _ ?_)
  clear hK K
  refine zP 3 5 3 (by kernel_rfl) rfl (by rfl) rfl (by rfl) (fun K hK => ?_) (fun K hK => ?_)
  ·go_simp
   refine (H13.out w194.drew).mono ?_
   rintro e w198 ⟨rfl, q200⟩
   have V199 := V196.call q200
   refine hK _ _ (V199) ?_
   clear hK K q200
   refine zP 4 5 2 (by kernel_rfl) rfl (by rfl) rfl (by rfl) (fun K hK => ?_) (fun K hK => ?_)
   ·go_simp
    refine (H14.out w198).mono ?_
    rintro e w201 ⟨rfl, q203⟩
    have V202 := V199.call q203
    refine hK _ _ (V202) ?_
    clear hK K q203
    refine zO 5 1 (by kernel_rfl) rfl (by rfl) fun K hK => ?_
    refine zN V202 15 rfl rfl (fun w204 g205 V206 => ?_)
    refine hK _ _ (V206.tail) ?_
    clear hK K
    refine zO 6 0 (by kernel_rfl) rfl (by rfl) fun K hK => ?_
    refine zS V206 0 rfl _ _ rfl rfl x9 rfl rfl (fun w207 V208 => ?_)
    refine hK _ _ (V208.tail) ?_
    clear hK K
    refine wpAnyH_done (by kernel_rfl) ?_ _
    exact HC197 g205 w207 V208
   ·refine zN V199 15 rfl rfl (fun w209 g210 V211 => ?_)
    refine hK _ _ (V211.tail) ?_
    clear hK K
    refine zO 4 1 (by kernel_rfl) rfl (by rfl) fun K hK => ?_
    go_simp
    refine (H14.out w209).mono ?_
    rintro e w212 ⟨rfl, q214⟩
    have V213 := V211.call q214
    refine hK _ _ (V213.tail) ?_
    clear hK K q214
    refine zO 6 0 (by kernel_rfl) rfl (by rfl) fun K hK => ?_
    refine zS V213 0 rfl _ _ rfl rfl x9 rfl rfl (fun w215 V216 => ?_)
    refine hK _ _ (V216.tail) ?_
    clear hK K
    refine wpAnyH_done (by kernel_rfl) ?_ _
    exact HC197 g210 w215 V216
  ·refine zN V196 15 rfl rfl (fun w217 g218 V219 => ?_)
   refine hK _ _ (V219.tail) ?_
   clear hK K
   refine zO 3 2 (by kernel_rfl) rfl (by rfl) fun K hK => ?_
   go_simp
   refine (H13.out w217).mono ?_
   rintro e w220 ⟨rfl, q222⟩
   have V221 := V219.call q222
   refine hK _ _ (V221.tail) ?_
   clear hK K q222
   refine zO 4 1 (by kernel_rfl) rfl (by rfl) fun K hK => ?_
   go_simp
   refine (H14.out w220).mono ?_
   rintro e w223 ⟨rfl, q225⟩
   have V224 := V221.call q225
   refine hK _ _ (V224.tail) ?_
   clear hK K q225
   refine zO 6 0 (by kernel_rfl) rfl (by rfl) fun K hK => ?_
   refine zS V224 0 rfl _ _ rfl rfl x9 rfl rfl (fun w226 V227 => ?_)
   refine hK _ _ (V227.tail) ?_
   clear hK K
   refine wpAnyH_done (by kernel_rfl) ?_ _
   exact HC197 g218 w226 V227
 intro g218 w226 V227
 clear V196
 go_wp2_with fail
 refine av_open (fun w' => Vars w w' [⟨g218, 22, bA x9⟩, ⟨g186, 22, bA tp⟩, ⟨g160, 22, bA up⟩, ⟨g152, 22, bA dn⟩, ⟨g135, 22, bA al⟩, ⟨g95, 22, bA e9⟩, ⟨g87, 22, bA c9⟩, ⟨g79, 22, bA b9⟩, ⟨g71, 22, bA a9⟩, ⟨g54, 22, bA wh⟩, ⟨g14, 22, bA zz⟩, ⟨g8, 35, tA 0 0 0⟩, ⟨g5, 35, tA qx qy qz⟩, ⟨g2, 35, tA px py pz⟩]) (by kernel_rfl) ?_
 have V228 := V227.drew
 apply av_once (Vg := fun g w' => Vars w w' [⟨g, 22, bA y9⟩, ⟨g218, 22, bA x9⟩, ⟨g186, 22, bA tp⟩, ⟨g160, 22, bA up⟩, ⟨g152, 22, bA dn⟩, ⟨g135, 22, bA al⟩, ⟨g95, 22, bA e9⟩, ⟨g87, 22, bA c9⟩, ⟨g79, 22, bA b9⟩, ⟨g71, 22, bA a9⟩, ⟨g54, 22, bA wh⟩, ⟨g14, 22, bA zz⟩, ⟨g8, 35, tA 0 0 0⟩, ⟨g5, 35, tA qx qy qz⟩, ⟨g2, 35, tA px py pz⟩])
 ·intro HC229
  refine zR [0, 1, 2] 4 (by kernel_rfl) (fun _ _ _ _ _ h => h) V228 fun K hK => ?_
  refine zC (.agg (bA tp)) rfl (by rfl) (fun w' hw' => zB hw' 1 rfl _ rfl rfl) ?_
  go_simp
  refine zC (.agg (bA c9)) rfl (by rfl) (fun w' hw' => zB hw' 6 rfl _ rfl rfl) ?_
  go_simp
  refine zC (.agg (bA e9)) rfl (by rfl) (fun w' hw' => zB hw' 5 rfl _ rfl rfl) ?_
  go_simp
  refine calm_nil (hK.out _ ?_)
  clear hK K
  refine zP 3 5 3 (by kernel_rfl) rfl (by rfl) rfl (by rfl) (fun K hK => ?_) (fun K hK => ?_)
  ·go_simp
   refine (H15.out w226.drew).mono ?_
   rintro e w230 ⟨rfl, q232⟩
   have V231 := V228.call q232
   refine hK _ _ (V231) ?_
   clear hK K q232
   refine zP 4 5 2 (by kernel_rfl) rfl (by rfl) rfl (by rfl) (fun K hK => ?_) (fun K hK => ?_)
   ·go_simp
    refine (H16.out w230).mono ?_
    rintro e w233 ⟨rfl, q235⟩
    have V234 := V231.call q235
    refine hK _ _ (V234) ?_
    clear hK K q235
    refine zO 5 1 (by kernel_rfl) rfl (by rfl) fun K hK => ?_
    refine zN V234 16 rfl rfl (fun w236 g237 V238 => ?_)
    refine hK _ _ (V238.tail) ?_
    clear hK K
    refine zO 6 0 (by kernel_rfl) rfl (by rfl) fun K hK => ?_
    refine zS V238 0 rfl _ _ rfl rfl y9 rfl rfl (fun w239 V240 => ?_)
    refine hK _ _ (V240.tail) ?_
    clear hK K
    refine wpAnyH_done (by kernel_rfl) ?_ _
    exact HC229 g237 w239 V240
   ·refine zN V231 16 rfl rfl (fun w241 g242 V243 => ?_)
    refine hK _ _ (V243.tail) ?_
    clear hK K
    refine zO 4 1 (by kernel_rfl) rfl (by rfl) fun K hK => ?_
    go_simp
    refine (H16.out w241).mono ?_
    rintro e w244 ⟨rfl, q246⟩
    have V245 := V243.call q246
    refine hK _ _ (V245.tail) ?_
    clear hK K q246
    refine zO 6 0 (by kernel_rfl) rfl (by rfl) fun K hK => ?_
    refine zS V245 0 rfl _ _ rfl rfl y9 rfl rfl (fun w247 V248 => ?_)
    refine hK _ _ (V248.tail) ?_
    clear hK K
    refine wpAnyH_done (by kernel_rfl) ?_ _
    exact HC229 g242 w247 V248
  ·refine zN V228 16 rfl rfl (fun w249 g250 V251 => ?_)
   refine hK _ _ (V251.tail) ?_
   clear hK K
   refine zO 3 2 (by kernel_rfl) rfl (by rfl) fun K hK => ?_
   go_simp
   refine (H15.out w249).mono ?_
   rintro e w252 ⟨rfl, q254⟩
   have V253 := V251.call q254
   refine hK _ _ (V253.tail) ?_
   clear hK K q254
   refine zO 4 1 (by kernel_rfl) rfl (by rfl) fun K hK => ?_
   go_simp
   refine (H16.out w252).mono ?_
   rintro e w255 ⟨rfl, q257⟩
   have V256 := V253.call q257
   refine hK _ _ (V256.tail) ?_
   clear hK K q257
   refine zO 6 0 (by kernel_rfl) rfl (by rfl) fun K hK => ?_
   refine zS V256 0 rfl _ _ rfl rfl y9 rfl rfl (fun w258 V259 => ?_)
   refine hK _ _ (V259.tail) ?_
   clear hK K
   refine wpAnyH_done (by kernel_rfl) ?_ _
   exact HC229 g250 w258 V259
 intro g250 w258 V259
 clear V228
 go_wp2_with fail
 refine av_open (fun w' => Vars w w' [⟨g250, 22, bA y9⟩, ⟨g218, 22, bA x9⟩, ⟨g186, 22, bA tp⟩, ⟨g160, 22, bA up⟩, ⟨g152, 22, bA dn⟩, ⟨g135, 22, bA al⟩, ⟨g95, 22, bA e9⟩, ⟨g87, 22, bA c9⟩, ⟨g79, 22, bA b9⟩, ⟨g71, 22, bA a9⟩, ⟨g54, 22, bA wh⟩, ⟨g14, 22, bA zz⟩, ⟨g5, 35, tA qx qy qz⟩, ⟨g2, 35, tA px py pz⟩]) (by kernel_rfl) ?_
 have V260 := V259.drew
 refine zR [0, 1, 3, 4, 6, 7] 5 (by kernel_rfl) (fun _ _ _ _ _ h => h) ((V260.del 12)) fun K hK => ?_
 refine zC (.agg (bA x9)) rfl (by rfl) (fun w' hw' => zB hw' 1 rfl _ rfl rfl) ?_
 go_simp
 refine zC (.agg (bA up)) rfl (by rfl) (fun w' hw' => zB hw' 3 rfl _ rfl rfl) ?_
 go_simp
 refine zC (.agg (bA y9)) rfl (by rfl) (fun w' hw' => zB hw' 0 rfl _ rfl rfl) ?_
 go_simp
 refine zC (.agg (bA dn)) rfl (by rfl) (fun w' hw' => zB hw' 4 rfl _ rfl rfl) ?_
 go_simp
 refine zC (.agg (bA dn)) rfl (by rfl) (fun w' hw' => zB hw' 4 rfl _ rfl rfl) ?_
 go_simp
 refine zC (.agg (bA up)) rfl (by rfl) (fun w' hw' => zB hw' 3 rfl _ rfl rfl) ?_
 go_simp
 refine calm_nil (hK.out _ ?_)
 clear hK K
 refine zO 2 4 (by kernel_rfl) rfl (by rfl) fun K hK => ?_
 go_simp
 refine (H17.out w258.drew).mono ?_
 rintro e w261 ⟨rfl, q263⟩
 have V262 := V260.call q263
 refine hK _ _ ((V262.del 12)) ?_
 clear hK K q263
 refine zO 5 3 (by kernel_rfl) rfl (by rfl) fun K hK => ?_
 go_simp
 refine (H18.out w261).mono ?_
 rintro e w264 ⟨rfl, q266⟩
 have V265 := V262.call q266
 refine hK _ _ ((V265.del 12)) ?_
 clear hK K q266
 refine zO 8 2 (by kernel_rfl) rfl (by rfl) fun K hK => ?_
 go_simp
 refine (H19.out w264).mono ?_
 rintro e w267 ⟨rfl, q269⟩
 have V268 := V265.call q269
 refine hK _ _ ((V268.del 12)) ?_
 clear hK K q269
 refine zR [9] 1 (by kernel_rfl) (fun _ _ _ _ _ h => h) ((V268.del 12)) fun K hK => ?_
 go_simp
 refine zC (.agg (tA xu yd du)) rfl (by rfl) (fun w' hw' => ?_) ?_
 ·refine exec_buildV 35 _ rfl (tA xu yd du) ?_
  exact (built_Pl _ _ _)
 go_simp
 refine calm_nil (hK.out _ ?_)
 clear hK K
 refine zO 10 0 (by kernel_rfl) rfl (by rfl) fun K hK => ?_
 refine wp_storeV V268 12 rfl _ _ rfl rfl (tA xu yd du) rfl rfl Tryz.szPl (tA_size _ _ _) (tA_size _ _ _) (tA_one _ _ _) (fun w270 V271 => ?_)
 refine hK _ _ ((V271.del 12)) ?_
 clear hK K
 refine wpAnyH_done (by kernel_rfl) ?_ _
 go_wp2_with fail
 exact bodyPost_ret (resS1 rfl _ V271 12 rfl rfl Tryz.underlying35 Tryz.szPl (tA_size _ _ _)) rfl ⟨rfl, V271.bel⟩
set_option maxHeartbeats 800000 in
theorem of19_any (p : Pt) (w : World) : Calls Tryz.prog 12 #[.agg (pA p.x.val p.y.val)] w fun e w' => e = .returned (.agg (tA (⟨p.x, p.y, 1⟩ : T3).x.val (⟨p.x, p.y, 1⟩ : T3).y.val (⟨p.x, p.y, 1⟩ : T3).z.val)) ∧ Below w.heap.size w w' := by
 have HN : Hid (∀ w, Rt Tryz.prog 31 #[.int .i64 1] (.agg (bA 1)) w) := fun w => num19_any 1 (by decide) w
 show Calls _ _ _ w fun e w' => e = .returned (.agg (tA p.x.val p.y.val 1)) ∧ Below w.heap.size w w'
 generalize p.x.val = x at *
 generalize p.y.val = y at *
 have V0 := Vars.start w
 go_enter Tryz.func12, Tryz.ntmps12
 go_wp2_with (first
  | (refine wpList_boxV V0 1 28 _ rfl rfl rfl (pA x y) rfl ?_; intro w1 g2 V3)
  | (refine wpList_allocV V3 2 35 rfl rfl rfl (tA 0 0 0) zeroPl ?_; intro w4 g5 V6))
 refine av_open (fun w' => Vars w w' [⟨g2, 28, pA x y⟩]) (by kernel_rfl) ?_
 have V7 := V6.drew
 refine zR [0, 1, 2, 3] 3 (by kernel_rfl) (fun _ _ _ _ _ h => h) (V7.tail) fun K hK => ?_
 refine zC (.pointer (some ⟨g2, 0, none⟩)) rfl (by rfl) (fun w' hw' => ?_) ?_
 ·go_simp
 go_simp
 refine zC (.agg (bA x)) rfl (by rfl) (fun w' hw' => exec_loadP hw' 0 rfl 0 (pA_part0 _ _) _ rfl rfl Tryz.underlying22 Tryz.szB (bA_size _)) ?_
 go_simp
 refine zC (.pointer (some ⟨g2, 32, none⟩)) rfl (by rfl) (fun w' hw' => ?_) ?_
 ·go_simp
 go_simp
 refine zC (.agg (bA y)) rfl (by rfl) (fun w' hw' => exec_loadP hw' 0 rfl 32 (pA_part1 _ _) _ rfl rfl Tryz.underlying22 Tryz.szB (bA_size _)) ?_
 go_simp
 refine calm_nil (hK.out _ ?_)
 clear hK K
 refine zO 4 2 (by kernel_rfl) rfl (by rfl) fun K hK => ?_
 go_simp
 refine (HN.out w4.drew).mono ?_
 rintro e w8 ⟨rfl, q10⟩
 have V9 := V7.call q10
 refine hK _ _ (V9.tail) ?_
 clear hK K q10
 refine zR [5] 1 (by kernel_rfl) (fun _ _ _ _ _ h => h) (V9.tail) fun K hK => ?_
 go_simp
 refine zC (.agg (tA x y 1)) rfl (by rfl) (fun w' hw' => ?_) ?_
 ·refine exec_buildV 35 _ rfl (tA x y 1) ?_
  exact (built_Pl _ _ _)
 go_simp
 refine calm_nil (hK.out _ ?_)
 clear hK K
 refine zO 6 0 (by kernel_rfl) rfl (by rfl) fun K hK => ?_
 refine wp_storeV V9 0 rfl _ _ rfl rfl (tA x y 1) rfl rfl Tryz.szPl (tA_size _ _ _) (tA_size _ _ _) (tA_one _ _ _) (fun w11 V12 => ?_)
 refine hK _ _ (V12.tail) ?_
 clear hK K
 refine wpAnyH_done (by kernel_rfl) ?_ _
 go_wp2_with fail
 exact bodyPost_ret (resS1 rfl _ V12 0 rfl rfl Tryz.underlying35 Tryz.szPl (tA_size _ _ _)) rfl ⟨rfl, V12.bel⟩
set_option maxHeartbeats 1600000 in
theorem same19_no (p q : T3) (h : decide ((p.x * q.z).val = (q.x * p.z).val) = false) (w : World) : Calls Tryz.prog 30 #[.agg (tA p.x.val p.y.val p.z.val), .agg (tA q.x.val q.y.val q.z.val)] w fun e w' => e = .returned (.bool false) ∧ Below w.heap.size w w' := by
 have H1 : Hid (∀ w, Rt Tryz.prog 62 #[.agg (bA p.x.val), .agg (bA q.z.val)] (.agg (bA (p.x * q.z).val)) w) := fun w => mul19_any p.x q.z w
 have H2 : Hid (∀ w, Rt Tryz.prog 62 #[.agg (bA q.x.val), .agg (bA p.z.val)] (.agg (bA (q.x * p.z).val)) w) := fun w => mul19_any q.x p.z w
 have HE : Hid (decide ((p.x * q.z).val = (q.x * p.z).val) = false ∧ (p.x * q.z).val < 2 ^ 256 ∧ (q.x * p.z).val < 2 ^ 256) := ⟨h, t256 _, t256 _⟩
 clear h
 generalize (p.x * q.z).val = a at *
 generalize (q.x * p.z).val = u at *
 generalize p.x.val = px at *
 generalize p.y.val = py at *
 generalize p.z.val = pz at *
 generalize q.x.val = qx at *
 generalize q.y.val = qy at *
 generalize q.z.val = qz at *
 have V0 := Vars.start w
 go_enter Tryz.func30, Tryz.ntmps30
 go_wp2_with (first
  | (refine wpList_boxV V0 2 35 _ rfl rfl rfl (tA px py pz) rfl ?_; intro w1 g2 V3)
  | (refine wpList_boxV V3 3 35 _ rfl rfl rfl (tA qx qy qz) rfl ?_; intro w4 g5 V6))
 refine av_open (fun w' => Vars w w' [⟨g5, 35, tA qx qy qz⟩, ⟨g2, 35, tA px py pz⟩]) (by kernel_rfl) ?_
 have V7 := V6.drew
 refine zR [0, 1, 2, 3, 5, 6, 7, 8] 17 (by kernel_rfl) (fun _ _ _ _ _ h => h) V7 fun K hK => ?_
 refine zC (.pointer (some ⟨g2, 0, none⟩)) rfl (by rfl) (fun w' hw' => ?_) ?_
 ·go_simp
 go_simp
 refine zC (.agg (bA px)) rfl (by rfl) (fun w' hw' => exec_loadP hw' 1 rfl 0 (tA_part0 _ _ _) _ rfl rfl Tryz.underlying22 Tryz.szB (bA_size _)) ?_
 go_simp
 refine zC (.pointer (some ⟨g5, 64, none⟩)) rfl (by rfl) (fun w' hw' => ?_) ?_
 ·go_simp
 go_simp
 refine zC (.agg (bA qz)) rfl (by rfl) (fun w' hw' => exec_loadP hw' 0 rfl 64 (tA_part2 _ _ _) _ rfl rfl Tryz.underlying22 Tryz.szB (bA_size _)) ?_
 go_simp
 refine zC (.pointer (some ⟨g5, 0, none⟩)) rfl (by rfl) (fun w' hw' => ?_) ?_
 ·go_simp
 go_simp
 refine zC (.agg (bA qx)) rfl (by rfl) (fun w' hw' => exec_loadP hw' 0 rfl 0 (tA_part0 _ _ _) _ rfl rfl Tryz.underlying22 Tryz.szB (bA_size _)) ?_
 go_simp
 refine zC (.pointer (some ⟨g2, 64, none⟩)) rfl (by rfl) (fun w' hw' => ?_) ?_
 ·go_simp
 go_simp
 refine zC (.agg (bA pz)) rfl (by rfl) (fun w' hw' => exec_loadP hw' 1 rfl 64 (tA_part2 _ _ _) _ rfl rfl Tryz.underlying22 Tryz.szB (bA_size _)) ?_
 go_simp
 refine calm_nil (hK.out _ ?_)
 clear hK K
 refine zO 4 16 (by kernel_rfl) rfl (by rfl) fun K hK => ?_
 go_simp
 refine (H1.out w4.drew).mono ?_
 rintro e w8 ⟨rfl, q10⟩
 have V9 := V7.call q10
 refine hK _ _ (V9) ?_
 clear hK K q10
 refine zO 9 15 (by kernel_rfl) rfl (by rfl) fun K hK => ?_
 go_simp
 refine (H2.out w8).mono ?_
 rintro e w11 ⟨rfl, q13⟩
 have V12 := V9.call q13
 refine hK _ _ (V12) ?_
 clear hK K q13
 refine zR [10, 11, 12, 13, 14, 15, 16, 17, 18, 19, 20, 21, 22, 23, 24] 0 (by kernel_rfl) (fun _ _ _ _ _ h => h) V12 fun K hK => ?_
 go_simp
 refine zC (.bool false) rfl (by rfl) (fun w' hw' => exec_eqlB _ _ rfl false _ _ HE.out.1 rfl rfl HE.out.2.1 HE.out.2.2) ?_
 go_simp
 refine calm_move _ rfl (by rfl) rfl ?_
 go_simp
 refine calm_skip rfl (by rfl) ?_
 go_simp
 refine calm_skip rfl (by rfl) ?_
 go_simp
 refine calm_skip rfl (by rfl) ?_
 go_simp
 refine calm_skip rfl (by rfl) ?_
 go_simp
 refine calm_skip rfl (by rfl) ?_
 go_simp
 refine calm_skip rfl (by rfl) ?_
 go_simp
 refine calm_skip rfl (by rfl) ?_
 go_simp
 refine calm_skip rfl (by rfl) ?_
 go_simp
 refine calm_skip rfl (by rfl) ?_
 go_simp
 refine calm_skip rfl (by rfl) ?_
 go_simp
 refine calm_skip rfl (by rfl) ?_
 go_simp
 refine zC (.bool false) rfl (by rfl) (fun w' hw' => ?_) ?_
 ·go_simp
 go_simp
 refine calm_assign _ rfl (by rfl) rfl ?_
 go_simp
 refine calm_nil (hK.out _ ?_)
 clear hK K
 refine wpAnyH_done (by kernel_rfl) ?_ _
 go_wp2_with fail
 go_ret
 exact ⟨rfl, V12.bel⟩
set_option maxHeartbeats 1600000 in
theorem same19_go (p q : T3) (b : Bool) (h : p.x * q.z = q.x * p.z) (hb : decide ((p.y * q.z).val = (q.y * p.z).val) = b) (w : World) : Calls Tryz.prog 30 #[.agg (tA p.x.val p.y.val p.z.val), .agg (tA q.x.val q.y.val q.z.val)] w fun e w' => e = .returned (.bool b) ∧ Below w.heap.size w w' := by
 have H1 : Hid (∀ w, Rt Tryz.prog 62 #[.agg (bA p.x.val), .agg (bA q.z.val)] (.agg (bA (p.x * q.z).val)) w) := fun w => mul19_any p.x q.z w
 have H2 : Hid (∀ w, Rt Tryz.prog 62 #[.agg (bA q.x.val), .agg (bA p.z.val)] (.agg (bA (q.x * p.z).val)) w) := fun w => mul19_any q.x p.z w
 have H3 : Hid (∀ w, Rt Tryz.prog 62 #[.agg (bA p.y.val), .agg (bA q.z.val)] (.agg (bA (p.y * q.z).val)) w) := fun w => mul19_any p.y q.z w
 have H4 : Hid (∀ w, Rt Tryz.prog 62 #[.agg (bA q.y.val), .agg (bA p.z.val)] (.agg (bA (q.y * p.z).val)) w) := fun w => mul19_any q.y p.z w
 rw [h] at H1
 clear h
 have HE : Hid (decide ((p.y * q.z).val = (q.y * p.z).val) = b ∧ (q.x * p.z).val < 2 ^ 256 ∧ (p.y * q.z).val < 2 ^ 256 ∧ (q.y * p.z).val < 2 ^ 256) := ⟨hb, t256 _, t256 _, t256 _⟩
 clear hb
 generalize (q.x * p.z).val = u at *
 generalize (p.y * q.z).val = c at *
 generalize (q.y * p.z).val = d at *
 generalize p.x.val = px at *
 generalize p.y.val = py at *
 generalize p.z.val = pz at *
 generalize q.x.val = qx at *
 generalize q.y.val = qy at *
 generalize q.z.val = qz at *
 have V0 := Vars.start w
 go_enter Tryz.func30, Tryz.ntmps30
 go_wp2_with (first
  | (refine wpList_boxV V0 2 35 _ rfl rfl rfl (tA px py pz) rfl ?_; intro w1 g2 V3)
  | (refine wpList_boxV V3 3 35 _ rfl rfl rfl (tA qx qy qz) rfl ?_; intro w4 g5 V6))
 refine av_open (fun w' => Vars w w' [⟨g5, 35, tA qx qy qz⟩, ⟨g2, 35, tA px py pz⟩]) (by kernel_rfl) ?_
 have V7 := V6.drew
 refine zR [0, 1, 2, 3, 5, 6, 7, 8] 17 (by kernel_rfl) (fun _ _ _ _ _ h => h) V7 fun K hK => ?_
 refine zC (.pointer (some ⟨g2, 0, none⟩)) rfl (by rfl) (fun w' hw' => ?_) ?_
 ·go_simp
 go_simp
 refine zC (.agg (bA px)) rfl (by rfl) (fun w' hw' => exec_loadP hw' 1 rfl 0 (tA_part0 _ _ _) _ rfl rfl Tryz.underlying22 Tryz.szB (bA_size _)) ?_
 go_simp
 refine zC (.pointer (some ⟨g5, 64, none⟩)) rfl (by rfl) (fun w' hw' => ?_) ?_
 ·go_simp
 go_simp
 refine zC (.agg (bA qz)) rfl (by rfl) (fun w' hw' => exec_loadP hw' 0 rfl 64 (tA_part2 _ _ _) _ rfl rfl Tryz.underlying22 Tryz.szB (bA_size _)) ?_
 go_simp
 refine zC (.pointer (some ⟨g5, 0, none⟩)) rfl (by rfl) (fun w' hw' => ?_) ?_
 ·go_simp
 go_simp
 refine zC (.agg (bA qx)) rfl (by rfl) (fun w' hw' => exec_loadP hw' 0 rfl 0 (tA_part0 _ _ _) _ rfl rfl Tryz.underlying22 Tryz.szB (bA_size _)) ?_
 go_simp
 refine zC (.pointer (some ⟨g2, 64, none⟩)) rfl (by rfl) (fun w' hw' => ?_) ?_
 ·go_simp
 go_simp
 refine zC (.agg (bA pz)) rfl (by rfl) (fun w' hw' => exec_loadP hw' 1 rfl 64 (tA_part2 _ _ _) _ rfl rfl Tryz.underlying22 Tryz.szB (bA_size _)) ?_
 go_simp
 refine calm_nil (hK.out _ ?_)
 clear hK K
 refine zO 4 16 (by kernel_rfl) rfl (by rfl) fun K hK => ?_
 go_simp
 refine (H1.out w4.drew).mono ?_
 rintro e w8 ⟨rfl, q10⟩
 have V9 := V7.call q10
 refine hK _ _ (V9) ?_
 clear hK K q10
 refine zO 9 15 (by kernel_rfl) rfl (by rfl) fun K hK => ?_
 go_simp
 refine (H2.out w8).mono ?_
 rintro e w11 ⟨rfl, q13⟩
 have V12 := V9.call q13
 refine hK _ _ (V12) ?_
 clear hK K q13
 refine zR [10, 11, 12, 13, 14, 15, 17, 18, 19, 20] 5 (by kernel_rfl) (fun _ _ _ _ _ h => h) V12 fun K hK => ?_
 go_simp
 refine zC (.bool true) rfl (by rfl) (fun w' hw' => exec_eqlB _ _ rfl true _ _ (decide_eq_true rfl) rfl rfl HE.out.2.1 HE.out.2.1) ?_
 go_simp
 refine calm_move _ rfl (by rfl) rfl ?_
 go_simp
 refine zC (.pointer (some ⟨g2, 32, none⟩)) rfl (by rfl) (fun w' hw' => ?_) ?_
 ·go_simp
 go_simp
 refine zC (.agg (bA py)) rfl (by rfl) (fun w' hw' => exec_loadP hw' 1 rfl 32 (tA_part1 _ _ _) _ rfl rfl Tryz.underlying22 Tryz.szB (bA_size _)) ?_
 go_simp
 refine zC (.pointer (some ⟨g5, 64, none⟩)) rfl (by rfl) (fun w' hw' => ?_) ?_
 ·go_simp
 go_simp
 refine zC (.agg (bA qz)) rfl (by rfl) (fun w' hw' => exec_loadP hw' 0 rfl 64 (tA_part2 _ _ _) _ rfl rfl Tryz.underlying22 Tryz.szB (bA_size _)) ?_
 go_simp
 refine zC (.pointer (some ⟨g5, 32, none⟩)) rfl (by rfl) (fun w' hw' => ?_) ?_
 ·go_simp
 go_simp
 refine zC (.agg (bA qy)) rfl (by rfl) (fun w' hw' => exec_loadP hw' 0 rfl 32 (tA_part1 _ _ _) _ rfl rfl Tryz.underlying22 Tryz.szB (bA_size _)) ?_
 go_simp
 refine zC (.pointer (some ⟨g2, 64, none⟩)) rfl (by rfl) (fun w' hw' => ?_) ?_
 ·go_simp
 go_simp
 refine zC (.agg (bA pz)) rfl (by rfl) (fun w' hw' => exec_loadP hw' 1 rfl 64 (tA_part2 _ _ _) _ rfl rfl Tryz.underlying22 Tryz.szB (bA_size _)) ?_
 go_simp
 refine calm_nil (hK.out _ ?_)
 clear hK K
 refine zO 16 4 (by kernel_rfl) rfl (by rfl) fun K hK => ?_
 go_simp
 refine (H3.out w11).mono ?_
 rintro e w14 ⟨rfl, q16⟩
 have V15 := V12.call q16
 refine hK _ _ (V15) ?_
 clear hK K q16
 refine zO 21 3 (by kernel_rfl) rfl (by rfl) fun K hK => ?_
 go_simp
 refine (H4.out w14).mono ?_
 rintro e w17 ⟨rfl, q19⟩
 have V18 := V15.call q19
 refine hK _ _ (V18) ?_
 clear hK K q19
 refine zR [22, 23, 24] 0 (by kernel_rfl) (fun _ _ _ _ _ h => h) V18 fun K hK => ?_
 go_simp
 refine zC (.bool b) rfl (by rfl) (fun w' hw' => exec_eqlB _ _ rfl b _ _ HE.out.1 rfl rfl HE.out.2.2.1 HE.out.2.2.2) ?_
 go_simp
 refine zC (.bool b) rfl (by rfl) (fun w' hw' => ?_) ?_
 ·go_simp
 go_simp
 refine calm_assign _ rfl (by rfl) rfl ?_
 go_simp
 refine calm_nil (hK.out _ ?_)
 clear hK K
 refine wpAnyH_done (by kernel_rfl) ?_ _
 go_wp2_with fail
 go_ret
 exact ⟨rfl, V18.bel⟩
theorem same19_any {s t : T3} {p q : Pt} (hs : Stands s p) (ht : Stands t q) (b : Bool) (hb : b = true ↔ p = q) (w : World) : Calls Tryz.prog 30 #[.agg (tA s.x.val s.y.val s.z.val), .agg (tA t.x.val t.y.val t.z.val)] w fun e w' => e = .returned (.bool b) ∧ Below w.heap.size w w' := by
 have h := same_iff hs ht
 by_cases hx : s.x * t.z = t.x * s.z
 ·refine same19_go s t b hx ?_ w
  rw [Bool.eq_iff_iff, decide_eq_true_iff, hb, ← h]
  exact ⟨fun e => ⟨hx, Fin.ext e⟩, fun e => congrArg Fin.val e.2⟩
 ·have e : b = false := by
   rw [Bool.eq_false_iff]
   intro e
   exact hx (h.2 (hb.1 e)).1
  rw [e]
  refine same19_no s t ?_ w
  rw [decide_eq_false_iff_not]
  exact fun e => hx (Fin.ext e)
end Go.Proofs.YthangiocheodoaaGreatDoor.N
