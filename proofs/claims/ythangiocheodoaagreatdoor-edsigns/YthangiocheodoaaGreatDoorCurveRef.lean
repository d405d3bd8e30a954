/-
 The document's answers of layer 17: num, On.
-/
import Derived.Test.YthangiocheodoaaGreatDoorPackFb
import Derived.Test.YthangiocheodoaaGreatDoorPackFs
import Derived.Test.YthangiocheodoaaGreatDoorPackCb
namespace Go.Proofs.YthangiocheodoaaGreatDoor.N
open Go.RowKit
set_option linter.unusedVariables false
set_option maxRecDepth 8192

def n66 : Fp := ⟨121666, by decide⟩
def n65 : Fp := ⟨121665, by decide⟩
theorem n66_ne : n66 ≠ 0 := by decide
theorem n66_cD : n66 * cD = -n65 := by
 have h : n65 ≠ 0 := by decide
 apply Fin.ext
 rw [fp_mul, neg_val h]
 exact dN_is
theorem all_gen (a c d m : Fp) (h : a * c = -d) : a * (1 + c * m) = a - d * m := by grind
theorem ron_iff (p : Pt) : n66 * (p.y * p.y - p.x * p.x) = n66 - n65 * (p.x * p.x * (p.y * p.y)) ↔ OnC p := by
 rw [on_alt, ← all_gen n66 cD n65 _ n66_cD]
 constructor
 ·exact fp_cancel n66_ne
 ·intro h; rw [h]
theorem radd_any (a b : Fp) (w : World) : Calls Tryz.prog 64 #[.agg (bA a.val), .agg (bA b.val)] w fun e w' => e = .returned (.agg (bA (a + b).val)) ∧ Below w.heap.size w w' := by
 have := refAdd_any a.val b.val w a.isLt b.isLt
 rwa [← fp_add] at this
theorem rsub_any (a b : Fp) (w : World) : Calls Tryz.prog 63 #[.agg (bA a.val), .agg (bA b.val)] w fun e w' => e = .returned (.agg (bA (a - b).val)) ∧ Below w.heap.size w w' := by
 have := refSub_any a.val b.val w a.isLt b.isLt
 rwa [← fp_sub] at this
theorem rmul_any (a b : Fp) (w : World) : Calls Tryz.prog 103 #[.agg (bA a.val), .agg (bA b.val)] w fun e w' => e = .returned (.agg (bA (a * b).val)) ∧ Below w.heap.size w w' := by
 have := refMul_any a.val b.val w a.isLt b.isLt
 rwa [← fp_mul] at this
set_option maxHeartbeats 1600000 in
theorem rnum_any (n : Nat) (hn : n < 4294967296) (w : World) : Calls Tryz.prog 104 #[.int .i64 (n : Int)] w fun e w' => e = .returned (.agg (bA n)) ∧ Below w.heap.size w w' := by
 have HE : Hid (arr .u8 (fillQ (digL n 32) 32 4) = bA n) := fill_tail (by show n < 256 ^ 4; exact hn) (by decide)
 have V0 := Vars.start w
 go_enter Tryz.func104, Tryz.ntmps104
 go_wp2_with (first
  | (refine zA V0 2 rfl rfl rfl ?_; intro w2 g2 V2)
  | (refine wpList_allocV V2 3 22 rfl rfl rfl _ zeroB32 ?_; intro w3 g3 V3))
 clear V0 V2
 go_loopw [0, 4] (fun q y wr => ∃ k : Nat, k ≤ 4 ∧ y = .int .i64 (k : Int) ∧ q = .int .i64 ((n / 256 ^ k : Nat) : Int) ∧ Hid (Vars w wr [⟨g3, 22, arr .u8 (fillQ (digL n 32) 32 k)⟩, ⟨g2, 22, bA 0⟩])) (fun q y _ => 4 - (intOf y).toNat)
 case atStart => exact ⟨0, by omega, rfl, by rw [Nat.pow_zero, Nat.div_one], by rw [show fillQ (digL n 32) 32 0 = List.replicate 32 0 from by simp [fillQ]]; exact V3⟩
 case round =>
  clear V3
  obtain ⟨k, hk, rfl, rfl, HV⟩ := hrel
  by_cases hlt : k < 4
  ·have V4 := HV.out
   have hc2 := arr_cell (V4.at 0 rfl) k (by simp [fillQ, digL_length]; omega)
   have hfz := arr_unfrozen (V4.at 0 rfl) k
   generalize (fillQ (digL n 32) 32 k)[k]?.getD 0 = old at *
   have V5 := V4.setc 0 rfl k (n / 256 ^ k % 256)
   have e5 : (fillQ (digL n 32) 32 k).set k (n / 256 ^ k % 256) = fillQ (digL n 32) 32 (k + 1) := by
    rw [← dg_digL (x := n) (n := 32) (by omega)]
    exact fillQ_next (digL_length _ _) (by omega)
   rw [e5] at V5
   have HV5 : Hid (Vars w (wr.setCell ⟨g3, k, none⟩ (.int .u8 ((n / 256 ^ k % 256 : Nat) : Int))) [⟨g3, 22, arr .u8 (fillQ (digL n 32) 32 (k + 1))⟩, ⟨g2, 22, bA 0⟩]) := V5
   have HQ : Hid (n / 256 ^ (k + 1) = n / 256 ^ k / 256) := by show _ = _; rw [Nat.pow_succ, Nat.div_div_eq_div_mul]
   have hx9 : n / 256 ^ k < 4294967296 := Nat.lt_of_le_of_lt (Nat.div_le_self _ _) hn
   clear V4 V5 e5 HV hn
   generalize n / 256 ^ k = x at *
   have et : (x : Int).tdiv 256 = ((x / 256 : Nat) : Int) := by rw [Int.tdiv_eq_ediv_of_nonneg (by omega)]; omega
   have em : (x : Int).tmod 256 = ((x % 256 : Nat) : Int) := by rw [Int.tmod_eq_emod_of_nonneg (by omega)]; omega
   have hr9 : x % 256 < 256 := Nat.mod_lt _ (by decide)
   have hq9 : x / 256 < 4294967296 := by omega
   generalize x % 256 = r at *
   generalize x / 256 = q at *
   have ew : IntKind.u8.wrap (r : Int) = (r : Int) := by rw [IntKind.wrap_u8]; omega
   have ev : IntKind.i64.wrap (q : Int) = (q : Int) := by rw [IntKind.wrap_i64]; omega
   have hk32 : (k : Int) < 32 := by omega
   have hk4 : (k : Int) < 4 := by omega
   go_wp2
   go_roundw
   case rel => exact ⟨k + 1, by omega, by go_num, by rw [HQ.out], HV5⟩
   case measure => simp [intOf]; omega
  ·obtain rfl : k = 4 := by omega
   have V4 := HV.out
   rw [HE.out] at V4
   go_wp2_with (first
    | (refine zD V4 0 rfl 16 _ rfl rfl rfl rfl ?_)
    | (refine wpList_storeV V4 1 rfl _ _ rfl rfl rfl _ rfl rfl Tryz.szB (bA_size _) (bA_size _) (bA_one _) ?_; intro w5 V5))
   exact bodyPost_ret (resV1 rfl _ V5 1 rfl rfl Tryz.underlying22 Tryz.szB (bA_size _)) rfl ⟨rfl, V5.bel⟩
theorem ris_yes {a : Nat} (h : a < fP) (w : World) : Calls Tryz.prog 102 #[.agg (bA a)] w fun e w' => e = .returned (.bool true) ∧ Below w.heap.size w w' := by
 have := refIs_any a w (elt256 h)
 rwa [decide_eq_true h] at this
set_option maxHeartbeats 3200000 in
theorem ron_gen (p : Pt) (b : Bool) (hb : decide ((n66 * (p.y * p.y - p.x * p.x)).val = (n66 - n65 * (p.x * p.x * (p.y * p.y))).val) = b) (w : World) : Calls Tryz.prog 60 #[.agg (pA p.x.val p.y.val)] w fun e w' => e = .returned (.bool b) ∧ Below w.heap.size w w' := by
 have HX : Hid (∀ w, Rt Tryz.prog 102 #[.agg (bA p.x.val)] (.bool true) w) := fun w => ris_yes p.x.isLt w
 have HY : Hid (∀ w, Rt Tryz.prog 102 #[.agg (bA p.y.val)] (.bool true) w) := fun w => ris_yes p.y.isLt w
 have N121666 : Hid (∀ w, Rt Tryz.prog 104 #[.int .i64 121666] (.agg (bA 121666)) w) := fun w => rnum_any 121666 (by decide) w
 have N121665 : Hid (∀ w, Rt Tryz.prog 104 #[.int .i64 121665] (.agg (bA 121665)) w) := fun w => rnum_any 121665 (by decide) w
 have H1 : Hid (∀ w, Rt Tryz.prog 103 #[.agg (bA p.x.val), .agg (bA p.x.val)] (.agg (bA (p.x * p.x).val)) w) := fun w => rmul_any p.x p.x w
 have H2 : Hid (∀ w, Rt Tryz.prog 103 #[.agg (bA p.y.val), .agg (bA p.y.val)] (.agg (bA (p.y * p.y).val)) w) := fun w => rmul_any p.y p.y w
 have H3 : Hid (∀ w, Rt Tryz.prog 63 #[.agg (bA (p.y * p.y).val), .agg (bA (p.x * p.x).val)] (.agg (bA ((p.y * p.y) - (p.x * p.x)).val)) w) := fun w => rsub_any (p.y * p.y) (p.x * p.x) w
 have H4 : Hid (∀ w, Rt Tryz.prog 103 #[.agg (bA 121666), .agg (bA ((p.y * p.y) - (p.x * p.x)).val)] (.agg (bA (n66 * ((p.y * p.y) - (p.x * p.x))).val)) w) := fun w => rmul_any n66 ((p.y * p.y) - (p.x * p.x)) w
 have H5 : Hid (∀ w, Rt Tryz.prog 103 #[.agg (bA (p.x * p.x).val), .agg (bA (p.y * p.y).val)] (.agg (bA ((p.x * p.x) * (p.y * p.y)).val)) w) := fun w => rmul_any (p.x * p.x) (p.y * p.y) w
 have H6 : Hid (∀ w, Rt Tryz.prog 103 #[.agg (bA 121665), .agg (bA ((p.x * p.x) * (p.y * p.y)).val)] (.agg (bA (n65 * ((p.x * p.x) * (p.y * p.y))).val)) w) := fun w => rmul_any n65 ((p.x * p.x) * (p.y * p.y)) w
 have H7 : Hid (∀ w, Rt Tryz.prog 63 #[.agg (bA 121666), .agg (bA (n65 * ((p.x * p.x) * (p.y * p.y))).val)] (.agg (bA (n66 - (n65 * ((p.x * p.x) * (p.y * p.y)))).val)) w) := fun w => rsub_any n66 (n65 * ((p.x * p.x) * (p.y * p.y))) w
 have HE : Hid (decide ((n66 * (p.y * p.y - p.x * p.x)).val = (n66 - n65 * (p.x * p.x * (p.y * p.y))).val) = b) := hb
 have HL : Hid ((n66 * (p.y * p.y - p.x * p.x)).val < 2 ^ 256 ∧ (n66 - n65 * (p.x * p.x * (p.y * p.y))).val < 2 ^ 256) := ⟨elt256 (n66 * (p.y * p.y - p.x * p.x)).isLt, elt256 (n66 - n65 * (p.x * p.x * (p.y * p.y))).isLt⟩
 clear hb
 generalize (n66 - (n65 * ((p.x * p.x) * (p.y * p.y)))).val = rr at *
 generalize (n65 * ((p.x * p.x) * (p.y * p.y))).val = dm at *
 generalize ((p.x * p.x) * (p.y * p.y)).val = m at *
 generalize (n66 * ((p.y * p.y) - (p.x * p.x))).val = l at *
 generalize ((p.y * p.y) - (p.x * p.x)).val = s at *
 generalize (p.x * p.x).val = xx at *
 generalize (p.y * p.y).val = yy at *
 generalize p.x.val = x at *
 generalize p.y.val = y at *
 have V0 := Vars.start w
 go_enter Tryz.func60, Tryz.ntmps60
 go_wp2_with (first
  | (refine wpList_boxV V0 1 28 _ rfl rfl rfl (pA x y) rfl ?_; intro w1 g2 V3)
  | (refine wpList_exec rfl (exec_loadP V3 0 rfl 0 (pA_part0 _ _) _ rfl rfl Tryz.underlying22 Tryz.szB (bA_size _)) ?_))
 refine (HX.out w1).mono ?_
 rintro e w4 ⟨rfl, q6⟩
 have V5 := V3.call q6
 clear q6 V3
 go_wp2_with (refine wpList_exec rfl (exec_loadP V5 0 rfl 32 (pA_part1 _ _) _ rfl rfl Tryz.underlying22 Tryz.szB (bA_size _)) ?_)
 refine (HY.out w4).mono ?_
 rintro e w7 ⟨rfl, q9⟩
 have V8 := V5.call q9
 clear q9 V5
 go_wp2_with (first
  | (refine wpList_exec rfl (exec_loadP V8 0 rfl 0 (pA_part0 _ _) _ rfl rfl Tryz.underlying22 Tryz.szB (bA_size _)) ?_)
  | (refine wpList_exec rfl (exec_loadP V8 0 rfl 0 (pA_part0 _ _) _ rfl rfl Tryz.underlying22 Tryz.szB (bA_size _)) ?_))
 refine (H1.out w7).mono ?_
 rintro e w10 ⟨rfl, q12⟩
 have V11 := V8.call q12
 clear q12 V8
 go_wp2_with (first
  | (refine zA V11 3 rfl rfl rfl ?_; intro w13 g14 V15)
  | (refine zL V15 0 rfl _ (.tmp 21) rfl rfl rfl xx rfl rfl ?_; intro w16 V17)
  | (refine wpList_exec rfl (exec_loadP V17 1 rfl 32 (pA_part1 _ _) _ rfl rfl Tryz.underlying22 Tryz.szB (bA_size _)) ?_)
  | (refine wpList_exec rfl (exec_loadP V17 1 rfl 32 (pA_part1 _ _) _ rfl rfl Tryz.underlying22 Tryz.szB (bA_size _)) ?_))
 refine (H2.out w16).mono ?_
 rintro e w18 ⟨rfl, q20⟩
 have V19 := V17.call q20
 clear q20 V17
 go_wp2_with (first
  | (refine zA V19 4 rfl rfl rfl ?_; intro w21 g22 V23)
  | (refine zL V23 0 rfl _ (.tmp 26) rfl rfl rfl yy rfl rfl ?_; intro w24 V25))
 refine av_open (fun w' => Vars w w' [⟨g22, 22, bA yy⟩, ⟨g14, 22, bA xx⟩, ⟨g2, 28, pA x y⟩]) (by kernel_rfl) ?_
 have V26 := V25.drew
 apply av_once (Vg := fun g w' => Vars w w' [⟨g, 22, bA l⟩, ⟨g22, 22, bA yy⟩, ⟨g14, 22, bA xx⟩, ⟨g2, 28, pA x y⟩])
 ·intro HC27
  refine zR [1, 2] 5 (by kernel_rfl) (fun _ _ _ _ _ h => h) V26 fun K hK => ?_
  refine zC (.agg (bA yy)) rfl (by rfl) (fun w' hw' => zB hw' 0 rfl _ rfl rfl) ?_
  go_simp
  refine zC (.agg (bA xx)) rfl (by rfl) (fun w' hw' => zB hw' 1 rfl _ rfl rfl) ?_
  go_simp
  refine calm_nil (hK.out _ ?_)
  clear hK K
  refine zP 0 5 4 (by kernel_rfl) rfl (by rfl) rfl (by rfl) (fun K hK => ?_) (fun K hK => ?_)
  ·go_simp
   refine (N121666.out w24.drew).mono ?_
   rintro e w28 ⟨rfl, q30⟩
   have V29 := V26.call q30
   refine hK _ _ (V29) ?_
   clear hK K q30
   refine zP 3 5 3 (by kernel_rfl) rfl (by rfl) rfl (by rfl) (fun K hK => ?_) (fun K hK => ?_)
   ·go_simp
    refine (H3.out w28).mono ?_
    rintro e w31 ⟨rfl, q33⟩
    have V32 := V29.call q33
    refine hK _ _ (V32) ?_
    clear hK K q33
    refine zP 4 5 2 (by kernel_rfl) rfl (by rfl) rfl (by rfl) (fun K hK => ?_) (fun K hK => ?_)
    ·go_simp
     refine (H4.out w31).mono ?_
     rintro e w34 ⟨rfl, q36⟩
     have V35 := V32.call q36
     refine hK _ _ (V35) ?_
     clear hK K q36
     refine zO 5 1 (by kernel_rfl) rfl (by rfl) fun K hK => ?_
     refine zN V35 5 rfl rfl (fun w37 g38 V39 => ?_)
     refine hK _ _ (V39.tail) ?_
     clear hK K
     refine zO 6 0 (by kernel_rfl) rfl (by rfl) fun K hK => ?_
     refine zS V39 0 rfl _ _ rfl rfl l rfl rfl (fun w40 V41 => ?_)
     refine hK _ _ (V41.tail) ?_
     clear hK K
     refine wpAnyH_done (by kernel_rfl) ?_ _
     exact HC27 g38 w40 V41
    ·refine zN V32 5 rfl rfl (fun w42 g43 V44 => ?_)
     refine hK _ _ (V44.tail) ?_
     clear hK K
     refine zO 4 1 (by kernel_rfl) rfl (by rfl) fun K hK => ?_
     go_simp
     refine (H4.out w42).mono ?_
     rintro e w45 ⟨rfl, q47⟩
     have V46 := V44.call q47
     refine hK _ _ (V46.tail) ?_
     clear hK K q47
     refine zO 6 0 (by kernel_rfl) rfl (by rfl) fun K hK => ?_
     refine zS V46 0 rfl _ _ rfl rfl l rfl rfl (fun w48 V49 => ?_)
     refine hK _ _ (V49.tail) ?_
     clear hK K
     refine wpAnyH_done (by kernel_rfl) ?_ _
     exact HC27 g43 w48 V49
   ·refine zN V29 5 rfl rfl (fun w50 g51 V52 => ?_)
    refine hK _ _ (V52.tail) ?_
    clear hK K
    refine zO 3 2 (by kernel_rfl) rfl (by rfl) fun K hK => ?_
    go_simp
    refine (H3.out w50).mono ?_
    rintro e w53 ⟨rfl, q55⟩
    have V54 := V52.call q55
    refine hK _ _ (V54.tail) ?_
    clear hK K q55
    refine zO 4 1 (by kernel_rfl) rfl (by rfl) fun K hK => ?_
    go_simp
    refine (H4.out w53).mono ?_
    rintro e w56 ⟨rfl, q58⟩
    have V57 := V54.call q58
    refine hK _ _ (V57.tail) ?_
    clear hK K q58
    refine zO 6 0 (by kernel_rfl) rfl (by rfl) fun K hK => ?_
    refine zS V57 0 rfl _ _ rfl rfl l rfl rfl (fun w59 V60 => ?_)
    refine hK _ _ (V60.tail) ?_
    clear hK K
    refine wpAnyH_done (by kernel_rfl) ?_ _
    exact HC27 g51 w59 V60
  ·refine zN V26 5 rfl rfl (fun w61 g62 V63 => ?_)
   refine hK _ _ (V63.tail) ?_
   clear hK K
   refine zO 0 3 (by kernel_rfl) rfl (by rfl) fun K hK => ?_
   go_simp
   refine (N121666.out w61).mono ?_
   rintro e w64 ⟨rfl, q66⟩
   have V65 := V63.call q66
   refine hK _ _ (V65.tail) ?_
   clear hK K q66
   refine zO 3 2 (by kernel_rfl) rfl (by rfl) fun K hK => ?_
   go_simp
   refine (H3.out w64).mono ?_
   rintro e w67 ⟨rfl, q69⟩
   have V68 := V65.call q69
   refine hK _ _ (V68.tail) ?_
   clear hK K q69
   refine zO 4 1 (by kernel_rfl) rfl (by rfl) fun K hK => ?_
   go_simp
   refine (H4.out w67).mono ?_
   rintro e w70 ⟨rfl, q72⟩
   have V71 := V68.call q72
   refine hK _ _ (V71.tail) ?_
   clear hK K q72
   refine zO 6 0 (by kernel_rfl) rfl (by rfl) fun K hK => ?_
   refine zS V71 0 rfl _ _ rfl rfl l rfl rfl (fun w73 V74 => ?_)
   refine hK _ _ (V74.tail) ?_
   clear hK K
   refine wpAnyH_done (by kernel_rfl) ?_ _
   exact HC27 g62 w73 V74
 intro g62 w73 V74
 clear V26
 go_wp2_with fail
 refine av_open (fun w' => Vars w w' [⟨g62, 22, bA l⟩, ⟨g22, 22, bA yy⟩, ⟨g14, 22, bA xx⟩, ⟨g2, 28, pA x y⟩]) (by kernel_rfl) ?_
 have V75 := V74.drew
 apply av_once (Vg := fun g w' => Vars w w' [⟨g, 22, bA rr⟩, ⟨g62, 22, bA l⟩, ⟨g22, 22, bA yy⟩, ⟨g14, 22, bA xx⟩, ⟨g2, 28, pA x y⟩])
 ·intro HC76
  refine zR [2, 3] 7 (by kernel_rfl) (fun _ _ _ _ _ h => h) V75 fun K hK => ?_
  refine zC (.agg (bA xx)) rfl (by rfl) (fun w' hw' => zB hw' 2 rfl _ rfl rfl) ?_
  go_simp
  refine zC (.agg (bA yy)) rfl (by rfl) (fun w' hw' => zB hw' 1 rfl _ rfl rfl) ?_
  go_simp
  refine calm_nil (hK.out _ ?_)
  clear hK K
  refine zP 0 7 6 (by kernel_rfl) rfl (by rfl) rfl (by rfl) (fun K hK => ?_) (fun K hK => ?_)
  ·go_simp
   refine (N121666.out w73.drew).mono ?_
   rintro e w77 ⟨rfl, q79⟩
   have V78 := V75.call q79
   refine hK _ _ (V78) ?_
   clear hK K q79
   refine zP 1 7 5 (by kernel_rfl) rfl (by rfl) rfl (by rfl) (fun K hK => ?_) (fun K hK => ?_)
   ·go_simp
    refine (N121665.out w77).mono ?_
    rintro e w80 ⟨rfl, q82⟩
    have V81 := V78.call q82
    refine hK _ _ (V81) ?_
    clear hK K q82
    refine zP 4 7 4 (by kernel_rfl) rfl (by rfl) rfl (by rfl) (fun K hK => ?_) (fun K hK => ?_)
    ·go_simp
     refine (H5.out w80).mono ?_
     rintro e w83 ⟨rfl, q85⟩
     have V84 := V81.call q85
     refine hK _ _ (V84) ?_
     clear hK K q85
     refine zP 5 7 3 (by kernel_rfl) rfl (by rfl) rfl (by rfl) (fun K hK => ?_) (fun K hK => ?_)
     ·go_simp
      refine (H6.out w83).mono ?_
      rintro e w86 ⟨rfl, q88⟩
      have V87 := V84.call q88
      refine hK _ _ (V87) ?_
      clear hK K q88
      refine zP 6 7 2 (by kernel_rfl) rfl (by rfl) rfl (by rfl) (fun K hK => ?_) (fun K hK => ?_)
      ·go_simp
       refine (H7.out w86).mono ?_
       rintro e w89 ⟨rfl, q91⟩
       have V90 := V87.call q91
       refine hK _ _ (V90) ?_
       clear hK K q91
       refine zO 7 1 (by kernel_rfl) rfl (by rfl) fun K hK => ?_
       refine zN V90 6 rfl rfl (fun w92 g93 V94 => ?_)
       refine hK _ _ (V94.tail) ?_
       clear hK K
       refine zO 8 0 (by kernel_rfl) rfl (by rfl) fun K hK => ?_
       refine zS V94 0 rfl _ _ rfl rfl rr rfl rfl (fun w95 V96 => ?_)
       refine hK _ _ (V96.tail) ?_
       clear hK K
       refine wpAnyH_done (by kernel_rfl) ?_ _
       exact HC76 g93 w95 V96
      ·refine zN V87 6 rfl rfl (fun w97 g98 V99 => ?_)
       refine hK _ _ (V99.tail) ?_
       clear hK K
       refine zO 6 1 (by kernel_rfl) rfl (by rfl) fun K hK => ?_
       go_simp
       refine (H7.out w97).mono ?_
       rintro e w100 ⟨rfl, q102⟩
       have V101 := V99.call q102
       refine hK _ _ (V101.tail) ?_
       clear hK K q102
       refine zO 8 0 (by kernel_rfl) rfl (by rfl) fun K hK => ?_
       refine zS V101 0 rfl _ _ rfl rfl rr rfl rfl (fun w103 V104 => ?_)
       refine hK _ _ (V104.tail) ?_
       clear hK K
       refine wpAnyH_done (by kernel_rfl) ?_ _
       exact HC76 g98 w103 V104
     ·refine zN V84 6 rfl rfl (fun w105 g106 V107 => ?_)
      refine hK _ _ (V107.tail) ?_
      clear hK K
      refine zO 5 2 (by kernel_rfl) rfl (by rfl) fun K hK => ?_
      go_simp
      refine (H6.out w105).mono ?_
      rintro e w108 ⟨rfl, q110⟩
      have V109 := V107.call q110
      refine hK _ _ (V109.tail) ?_
      clear hK K q110
      refine zO 6 1 (by kernel_rfl) rfl (by rfl) fun K hK => ?_
      go_simp
      refine (H7.out w108).mono ?_
      rintro e w111 ⟨rfl, q113⟩
      have V112 := V109.call q113
      refine hK _ _ (V112.tail) ?_
      clear hK K q113
      refine zO 8 0 (by kernel_rfl) rfl (by rfl) fun K hK => ?_
      refine zS V112 0 rfl _ _ rfl rfl rr rfl rfl (fun w114 V115 => ?_)
      refine hK _ _ (V115.tail) ?_
      clear hK K
      refine wpAnyH_done (by kernel_rfl) ?_ _
      exact HC76 g106 w114 V115
    ·refine zN V81 6 rfl rfl (fun w116 g117 V118 => ?_)
     refine hK _ _ (V118.tail) ?_
     clear hK K
     refine zO 4 3 (by kernel_rfl) rfl (by rfl) fun K hK => ?_
     go_simp
     refine (H5.out w116).mono ?_
     rintro e w119 ⟨rfl, q121⟩
     have V120 := V118.call q121
     refine hK _ _ (V120.tail) ?_
     clear hK K q121
     refine zO 5 2 (by kernel_rfl) rfl (by rfl) fun K hK => ?_
     go_simp
     refine (H6.out w119).mono ?_
     rintro e w122 ⟨rfl, q124⟩
     have V123 := V120.call q124
     refine hK _ _ (V123.tail) ?_
     clear hK K q124
     refine zO 6 1 (by kernel_rfl) rfl (by rfl) fun K hK => ?_
     go_simp
     refine (H7.out w122).mono ?_
     rintro e w125 ⟨rfl, q127⟩
     have V126 := V123.call q127
     refine hK _ _ (V126.tail) ?_
     clear hK K q127
     refine zO 8 0 (by kernel_rfl) rfl (by rfl) fun K hK => ?_
     refine zS V126 0 rfl _ _ rfl rfl rr rfl rfl (fun w128 V129 => ?_)
     refine hK _ _ (V129.tail) ?_
     clear hK K
     refine wpAnyH_done (by kernel_rfl) ?_ _
     exact HC76 g117 w128 V129
   ·refine zN V78 6 rfl rfl (fun w130 g131 V132 => ?_)
    refine hK _ _ (V132.tail) ?_
    clear hK K
    refine zO 1 4 (by kernel_rfl) rfl (by rfl) fun K hK => ?_
    go_simp
    refine (N121665.out w130).mono ?_
    rintro e w133 ⟨rfl, q135⟩
    have V134 := V132.call q135
    refine hK _ _ (V134.tail) ?_
    clear hK K q135
    refine zO 4 3 (by kernel_rfl) rfl (by rfl) fun K hK => ?_
    go_simp
    refine (H5.out w133).mono ?_
    rintro e w136 ⟨rfl, q138⟩
    have V137 := V134.call q138
    refine hK _ _ (V137.tail) ?_
    clear hK K q138
    refine zO 5 2 (by kernel_rfl) rfl (by rfl) fun K hK => ?_
    go_simp
    refine (H6.out w136).mono ?_
    rintro e w139 ⟨rfl, q141⟩
    have V140 := V137.call q141
    refine hK _ _ (V140.tail) ?_
    clear hK K q141
    refine zO 6 1 (by kernel_rfl) rfl (by rfl) fun K hK => ?_
    go_simp
    refine (H7.out w139).mono ?_
    rintro e w142 ⟨rfl, q144⟩
    have V143 := V140.call q144
    refine hK _ _ (V143.tail) ?_
    clear hK K q144
    refine zO 8 0 (by kernel_rfl) rfl (by rfl) fun K hK => ?_
    refine zS V143 0 rfl _ _ rfl rfl rr rfl rfl (fun w145 V146 => ?_)
    refine hK _ _ (V146.tail) ?_
    clear hK K
    refine wpAnyH_done (by kernel_rfl) ?_ _
    exact HC76 g131 w145 V146
  ·refine zN V75 6 rfl rfl (fun w147 g148 V149 => ?_)
   refine hK _ _ (V149.tail) ?_
   clear hK K
   refine zO 0 5 (by kernel_rfl) rfl (by rfl) fun K hK => ?_
   go_simp
   refine (N121666.out w147).mono ?_
   rintro e w150 ⟨rfl, q152⟩
   have V151 := V149.call q152
   refine hK _ _ (V151.tail) ?_
   clear hK K q152
   refine zO 1 4 (by kernel_rfl) rfl (by rfl) fun K hK => ?_
   go_simp
   refine (N121665.out w150).mono ?_
   rintro e w153 ⟨rfl, q155⟩
   have V154 := V151.call q155
   refine hK _ _ (V154.tail) ?_
   clear hK K q155
   refine zO 4 3 (by kernel_rfl) rfl (by rfl) fun K hK => ?_
   go_simp
   refine (H5.out w153).mono ?_
   rintro e w156 ⟨rfl, q158⟩
   have V157 := V154.call q158
   refine hK _ _ (V157.tail) ?_
   clear hK K q158
   refine zO 5 2 (by kernel_rfl) rfl (by rfl) fun K hK => ?_
   go_simp
   refine (H6.out w156).mono ?_
   rintro e w159 ⟨rfl, q161⟩
   have V160 := V157.call q161
   refine hK _ _ (V160.tail) ?_
   clear hK K q161
   refine zO 6 1 (by kernel_rfl) rfl (by rfl) fun K hK => ?_
   go_simp
   refine (H7.out w159).mono ?_
   rintro e w162 ⟨rfl, q164⟩
   have V163 := V160.call q164
   refine hK _ _ (V163.tail) ?_
   clear hK K q164
   refine zO 8 0 (by kernel_rfl) rfl (by rfl) fun K hK => ?_
   refine zS V163 0 rfl _ _ rfl rfl rr rfl rfl (fun w165 V166 => ?_)
   refine hK _ _ (V166.tail) ?_
   clear hK K
   refine wpAnyH_done (by kernel_rfl) ?_ _
   exact HC76 g148 w165 V166
 intro g148 w165 V166
 clear V75
 go_wp2_with (first
  | (refine zD V166 1 rfl 39 _ rfl rfl rfl rfl ?_)
  | (refine zD V166 0 rfl 40 _ rfl rfl rfl rfl ?_)
  | (refine wpList_exec rfl (exec_eqlB _ _ rfl b _ _ HE.out rfl rfl HL.out.1 HL.out.2) ?_))
 go_ret
 exact ⟨rfl, V166.bel⟩
theorem ron_yes {p : Pt} (h : OnC p) (w : World) : Calls Tryz.prog 60 #[.agg (pA p.x.val p.y.val)] w fun e w' => e = .returned (.bool true) ∧ Below w.heap.size w w' :=
 ron_gen p true (decide_eq_true (congrArg Fin.val ((ron_iff p).2 h))) w
end Go.Proofs.YthangiocheodoaaGreatDoor.N
