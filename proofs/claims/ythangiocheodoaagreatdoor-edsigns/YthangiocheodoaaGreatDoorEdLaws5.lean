/-
 Layer 19's laws: Signs.
-/
import Derived.Test.YthangiocheodoaaGreatDoorPackFb
import Derived.Test.YthangiocheodoaaGreatDoorEdFace
import Derived.Test.YthangiocheodoaaGreatDoorEdRef4
namespace Go.Proofs.YthangiocheodoaaGreatDoor.N
open Go.RowKit
set_option linter.unusedVariables false
set_option maxRecDepth 8192

set_option maxHeartbeats 800000 in
theorem esigns_long (sd : Nat) (pm : Option Addr) (lm km : Nat) (w : World) (hl : 400 < lm) : Calls Tryz.prog 4 #[.agg (bA sd), .slice pm lm km] w fun e w' => e = .returned (.bool true) ∧ Below w.heap.size w w' := by
 have hl9 : (400 : Int) < (lm : Int) := by omega
 have V0 := Vars.start w
 go_enter Tryz.func4, Tryz.ntmps4
 go_wp2_with (refine wpList_boxV V0 2 22 _ rfl rfl rfl (bA sd) rfl ?_; intro w1 g2 V3)
 go_ret
 exact ⟨rfl, V3.bel⟩
set_option maxHeartbeats 6400000 in
theorem esigns_core (sd : Nat) (hs : sd < 2 ^ 256) (m : List Nat) (dm : Dig m) (pm : Option Addr) (lm km : Nat) (w : World) (ho : OAt w) (hd : DAt w) (hm : Row .u8 w pm lm km (nI m)) (h0 : lm ≤ 400) : Calls Tryz.prog 4 #[.agg (bA sd), .slice pm lm km] w fun e w' => e = .returned (.bool true) ∧ Below w.heap.size w w' := by
 obtain ⟨i0, hi0, hz0, hz1, hz2⟩ := info_parts Tryz.info5
 have hml : m.length = lm := by have := hm.hlen; rwa [nI_length] at this
 have HG : Hid (∀ (w' : World) (ao : Option Addr) (co : Nat), OAt w' → DAt w' → Row .u8 w' ao lm co (nI m) → Rt Tryz.prog 14 #[.agg (bA sd), .slice ao lm co] (.agg (hA (sgN sd m))) w') := fun w' ao co ho hd hr => sign_any sd hs ao lm co m dm w' ho hd hr (by omega)
 have HP : Hid (∀ w, DAt w → Rt Tryz.prog 6 #[.agg (bA sd)] (.agg (bA (pubN sd))) w) := fun w hd => public_any sd hs w hd
 have HSEC : Hid (∀ w, Calls Tryz.prog 7 #[.agg (bA sd)] w fun e w' => ∃ g, e = .returned (.tuple #[.agg (bA (secA sd)), .slice (some ⟨g, 32, none⟩) 32 32]) ∧ w.heap.size ≤ g ∧ w'.heap[g]? = some (.cells (hA (hN (digL sd 32))) 40 (0, 0)) ∧ Below w.heap.size w w') := fun w => secret19_any sd w
 have HB : Hid (∀ w, DAt w → Rt Tryz.prog 13 #[] (.agg (pA pbase.x.val pbase.y.val)) w) := base_any
 have HO : Hid (∀ w, Rt Tryz.prog 12 #[.agg (pA pbase.x.val pbase.y.val)] (.agg (tA pbase.x.val pbase.y.val 1)) w) := fun w => of19_any pbase w
 obtain ⟨L, hL⟩ : ∃ L, L = rrun ⟨pbase.x, pbase.y, 1⟩ (rN sd m) 256 256 := ⟨_, rfl⟩
 have sL : Stands L (rP sd m) := by rw [hL]; exact Stands.rall (Stands.one pbase) pbase_on _ 256 (numN_lt256 _)
 have HNB : Hid (∀ (w' : World) (g : Nat), Below w.heap.size w w' → w'.heap[g]? = some (.cells (hA (hN (digL sd 32))) 40 (0, 0)) → Rt Tryz.prog 15 #[.slice (some ⟨g, 32, none⟩) 32 32, .slice pm lm km] (.agg (bA (rN sd m))) w') := fun w' g q hg => by
  have h := number19_any (digL_dig _ _) dm (by rw [digL_length]; omega) (row_hA32 hg) (hm.below q (Nat.le_refl _))
  rw [← secB_eq] at h
  exact h
 have HU : Hid (∀ w, DAt w → Rt Tryz.prog 8 #[.agg (bA (ptN sd m))] (.tuple #[.agg (pA (rP sd m).x.val (rP sd m).y.val), .int .i64 0]) w) := fun w hd => cUnpack_yes (rP_on sd m) w hd
 have HS : Hid (∀ (w : World) (g : Nat), w.heap[g]? = some (.cells (bA (rN sd m)) 22 (0, 0)) → Rt Tryz.prog 11 #[.slice (some ⟨g, 0, none⟩) 32 32, .agg (tA pbase.x.val pbase.y.val 1)] (.agg (tA L.x.val L.y.val L.z.val)) w) := fun w g hg => by
  have h := scale19_any (digL (rN sd m) 32) (digL_dig _ _) (some ⟨g, 0, none⟩) 32 32 ⟨pbase.x, pbase.y, 1⟩ w (row_bA hg) (by decide)
  rw [vB (show rN sd m < 2 ^ 256 from numN_lt256 _), ← hL] at h
  exact h
 have HK : Hid (∀ w, Rt Tryz.prog 10 #[.agg (bA (ptN sd m)), .agg (pA (rP sd m).x.val (rP sd m).y.val), .agg (tA L.x.val L.y.val L.z.val)] (.bool true) w) := fun w => packs19_any (rP_on sd m) sL w
 have HKK : Hid (∀ w', Below w.heap.size w w' → Rt Tryz.prog 16 #[.agg (bA (ptN sd m)), .agg (bA (pubN sd)), .slice pm lm km] (.agg (bA (kN (ptN sd m) (pubN sd) m))) w') := fun w' q => k19_any _ _ dm (by omega) (hm.below q (Nat.le_refl _))
 have HM : Hid (∀ w, Rt Tryz.prog 17 #[.agg (bA (kN (ptN sd m) (pubN sd) m)), .agg (bA (secA sd)), .agg (bA (rN sd m))] (.agg (bA (sN sd m))) w) := fun w => refMulAdd_any _ _ _ w (numN_lt256 _) (secA_lt _) (numN_lt256 _)
 have HL : Hid ((digL (ptN sd m) 32).length = 32 ∧ (digL (sN sd m) 32).length = 32 ∧ Dig (digL (ptN sd m) 32) ∧ Dig (digL (sN sd m) 32)) := ⟨digL_length _ _, digL_length _ _, digL_dig _ _, digL_dig _ _⟩
 have HZ : Hid (arr .u8 (digL (ptN sd m) 32) = bA (ptN sd m) ∧ arr .u8 (digL (sN sd m) 32) = bA (sN sd m)) := ⟨(bA_def _).symm, (bA_def _).symm⟩
 have HSG : Hid (hA (sgN sd m) = arr .u8 (digL (ptN sd m) 32 ++ digL (sN sd m) 32)) := by show _ = _; rw [hA_def, show sgN sd m = ptN sd m + 2 ^ 256 * sN sd m from rfl, digL_both (ptN_lt sd m)]
 have HLS : Hid (sN sd m < 2 ^ 256) := sN_lt256 sd m
 have hl9 : ¬ (400 : Int) < (lm : Int) := by omega
 clear hs dm hL sL hml
 generalize digL (ptN sd m) 32 = zp at *
 generalize digL (sN sd m) 32 = zs at *
 generalize kN (ptN sd m) (pubN sd) m = kk at *
 generalize sgN sd m = sg at *
 generalize sN sd m = s at *
 generalize ptN sd m = pt at *
 generalize rN sd m = rn at *
 generalize pubN sd = pu at *
 generalize secA sd = sa at *
 generalize hN (digL sd 32) = h at *
 generalize L.x.val = lx at *
 generalize L.y.val = ly at *
 generalize L.z.val = lz at *
 generalize (rP sd m).x.val = rx at *
 generalize (rP sd m).y.val = ry at *
 generalize pbase.x.val = bx at *
 generalize pbase.y.val = by9 at *
 have V0 := Vars.start w
 go_enter Tryz.func4, Tryz.ntmps4
 go_upto_region 3 with (refine wpList_boxV V0 2 22 _ rfl rfl rfl (bA sd) rfl ?_; intro w1 g2 V3)
 have hown0 := World.ownsRow_lit (base := w1.heap.size) (e := 5) (size := 1) w1 #[] 0 (Nat.le_refl _) (Nat.zero_le _) rfl
 have qA := below_one w1 (.cells #[] 5)
 have rd := (hm.below V3.bel (Nat.le_refl _)).below qA (Nat.le_refl _)
 go_upto_region 4 with (at_builtin; refine wpList_append_row _ rfl _ _ 24 rfl w1.heap.size 5 i0 (.int .u8 0) 1 Tryz.underlying24 hi0 hz0 hz1 hz2 rfl _ 0 [] rfl hown0 .u8 pm lm km _ rfl rd (by unfold maxLen; omega) (by omega) (by simp) ?_; intro v1 wo own1 hg1)
 have q1 : Below w1.heap.size w1 wo := qA.grown hg1 (by simp) (fun k hk => (hown0.lt k hk).1)
 rw [List.nil_append, Nat.zero_add] at own1
 obtain ⟨ao, co, ml, rfl, VO, RO⟩ := own_var19 V3 own1 q1
 have HRW : Hid (∀ w' : World, (∀ u ∈ ml, w'.heap[u.g]? = some (.cells u.X u.T (0, 0))) → Row .u8 w' ao lm co (nI m)) := RO
 have VO2 : Vars w wo (⟨g2, 22, bA sd⟩ :: ml) := VO
 clear own1 hg1 hown0 qA rd RO VO q1 V3 hi0 hz0 hz1 hz2
 go_wp2_with (refine zD VO2 0 rfl 22 _ rfl rfl rfl rfl ?_)
 refine (HG.out wo ao co (ho.of VO2) (hd.of VO2) (HRW.out wo VO2.tail.holds)).mono ?_
 rintro e w4 ⟨rfl, q6⟩
 have V5 := VO2.call q6
 clear q6 VO2
 go_upto_region 5 with (first
  | (refine wpList_allocV V5 6 40 rfl rfl rfl (hA 0) zeroH ?_; intro w7 g8 V9)
  | (refine wpList_storeV V9 0 rfl _ (.tmp 24) rfl rfl rfl (hA sg) rfl rfl Tryz.szH (hA_size _) (hA_size _) (hA_one _) ?_; intro w10 V11))
 have hcv1 := conv_row Tryz.underlying24 Tryz.underlying5 Tryz.underlying9 (HRW.out w10 V11.tail.tail.holds)
 have hcv2 := conv_row Tryz.underlying24 Tryz.underlying5 Tryz.underlying9 (hm.below V11.bel (Nat.le_refl _))
 go_wp2_with (refine zD V11 1 rfl 31 _ rfl rfl rfl rfl ?_)
 refine (HSEC.out w10).mono ?_
 rintro e w12 ⟨g15, rfl, hg, hh, q14⟩
 have V13 := V11.made q14 hg hh
 clear hg hh q14
 go_wp2_with (first
  | (refine zA V13 7 rfl rfl rfl ?_; intro w16 g17 V18)
  | (refine zL V18 0 rfl _ (.tmp 33) rfl rfl rfl sa rfl rfl ?_; intro w19 V20))
 go_wp2_with fail
 refine (HNB.out w19 g15 V20.bel (V20.at 1 rfl)).mono ?_
 rintro e w21 ⟨rfl, q23⟩
 have V22 := V20.call q23
 clear q23 V20
 go_wp2_with (first
  | (refine zA V22 9 rfl rfl rfl ?_; intro w24 g25 V26)
  | (refine zL V26 0 rfl _ (.tmp 37) rfl rfl rfl rn rfl rfl ?_; intro w27 V28)
  | (refine zA V28 10 rfl rfl rfl ?_; intro w29 g30 V31)
  | (refine zA V31 11 rfl rfl rfl ?_; intro w32 g33 V34))
 go_loopw [12] (fun y wr => ∃ k : Nat, k ≤ 32 ∧ y = .int .i64 (k : Int) ∧ Hid (Vars w wr (⟨g33, 22, arr .u8 (mixL zs (List.replicate 32 0) k)⟩ :: ⟨g30, 22, arr .u8 (mixL zp (List.replicate 32 0) k)⟩ :: ⟨g25, 22, bA rn⟩ :: ⟨g17, 22, bA sa⟩ :: ⟨g15, 40, hA h⟩ :: ⟨g8, 40, hA sg⟩ :: ⟨g2, 22, bA sd⟩ :: ml))) (fun y _ => 32 - (intOf y).toNat)
 case atStart => exact ⟨0, by omega, rfl, by rw [mixL_zero, mixL_zero, ← bA_zero]; exact V34⟩
 case round =>
  clear V34
  obtain ⟨k, hk, rfl, HV4⟩ := hrel
  have hk9 : (k : Int) ≤ 32 := by omega
  by_cases hlt : k < 32
  ·have V4 := HV4.out
   have hm1 := mixL_len (a := zp) (b := List.replicate 32 0) (k := k) (by rw [HL.out.1, List.length_replicate]) (by rw [List.length_replicate]; omega)
   have hm2 := mixL_len (a := zs) (b := List.replicate 32 0) (k := k) (by rw [HL.out.2.1, List.length_replicate]) (by rw [List.length_replicate]; omega)
   rw [List.length_replicate] at hm1 hm2
   have hc2 := arr_cell (V4.at 1 rfl) k (by rw [hm1]; exact hlt)
   have hfz := arr_unfrozen (V4.at 1 rfl) k
   have hc1 : wr.cell? ⟨g8, k, none⟩ = some (.int .u8 ((dg zp k : Nat) : Int)) := by
    refine cell_byte V4 5 rfl k ?_
    rw [HSG.out, arr_get _ _ _ (by rw [List.length_append, HL.out.1, HL.out.2.1]; omega), List.getElem?_append_left (by rw [HL.out.1]; omega)]
    rfl
   have V5 := V4.setc 1 rfl k (dg zp k)
   rw [mixL_next (by rw [HL.out.1, List.length_replicate]) (by rw [List.length_replicate]; exact hlt)] at V5
   have hc4 := arr_cell (V5.at 0 rfl) k (by rw [hm2]; exact hlt)
   have hfz4 := arr_unfrozen (V5.at 0 rfl) k
   have hc3 : (wr.setCell ⟨g30, k, none⟩ (.int .u8 ((dg zp k : Nat) : Int))).cell? ⟨g8, 32 + k, none⟩ = some (.int .u8 ((dg zs k : Nat) : Int)) := by
    refine cell_byte V5 5 rfl (32 + k) ?_
    rw [HSG.out, arr_get _ _ _ (by rw [List.length_append, HL.out.1, HL.out.2.1]; omega), List.getElem?_append_right (by rw [HL.out.1]; omega), HL.out.1, show 32 + k - 32 = k by omega]
    rfl
   have V6 := V5.setc 0 rfl k (dg zs k)
   rw [mixL_next (by rw [HL.out.2.1, List.length_replicate]) (by rw [List.length_replicate]; exact hlt)] at V6
   have HV6 : Hid (Vars w ((wr.setCell ⟨g30, k, none⟩ (.int .u8 ((dg zp k : Nat) : Int))).setCell ⟨g33, k, none⟩ (.int .u8 ((dg zs k : Nat) : Int))) (⟨g33, 22, arr .u8 (mixL zs (List.replicate 32 0) (k + 1))⟩ :: ⟨g30, 22, arr .u8 (mixL zp (List.replicate 32 0) (k + 1))⟩ :: ⟨g25, 22, bA rn⟩ :: ⟨g17, 22, bA sa⟩ :: ⟨g15, 40, hA h⟩ :: ⟨g8, 40, hA sg⟩ :: ⟨g2, 22, bA sd⟩ :: ml)) := V6
   generalize (mixL zp (List.replicate 32 0) k)[k]?.getD 0 = old at *
   generalize (mixL zs (List.replicate 32 0) k)[k]?.getD 0 = old2 at *
   have hx9 := HL.out.2.2.1.at k
   have hy9 := HL.out.2.2.2.at k
   clear V4 V5 V6 HV4 hm1 hm2
   generalize dg zp k = x at *
   generalize dg zs k = y at *
   have ew : IntKind.i64.wrap ((32 : Int) + (k : Int)) = ((32 + k : Nat) : Int) := by rw [IntKind.wrap_i64]; omega
   have hk32 : (k : Int) < 32 := by omega
   have hk64 : ((32 + k : Nat) : Int) < 64 := by omega
   have hk65 : (k : Int) < 64 := by omega
   have en : ((32 : Int) + (k : Int)).toNat = 32 + k := by omega
   go_wp2
   go_roundw
   case rel => exact ⟨k + 1, by omega, by go_num, HV6⟩
   case measure => simp [intOf]; omega
  ·obtain rfl : k = 32 := by omega
   have VE := HV4.out
   rw [mixL_all HL.out.1 (by rw [List.length_replicate]), mixL_all HL.out.2.1 (by rw [List.length_replicate]), HZ.out.1, HZ.out.2] at VE
   clear HV4
   go_wp2_with (refine zD VE 1 rfl 54 _ rfl rfl rfl rfl ?_)
   refine (HU.out wr (hd.of VE)).mono ?_
   rintro e w35 ⟨rfl, q37⟩
   have V36 := VE.call q37
   clear q37 VE
   go_wp2_with (first
    | (refine wpList_allocV V36 13 28 rfl rfl rfl (pA 0 0) zeroP ?_; intro w38 g39 V40)
    | (refine wpList_storeV V40 0 rfl _ (.tmp 56) rfl rfl rfl (pA rx ry) rfl rfl Tryz.szP (pA_size _ _) (pA_size _ _) (pA_one _ _) ?_; intro w41 V42))
   refine av_open (fun w' => Vars w w' (⟨g39, 28, pA rx ry⟩ :: ⟨g33, 22, bA s⟩ :: ⟨g30, 22, bA pt⟩ :: ⟨g25, 22, bA rn⟩ :: ⟨g17, 22, bA sa⟩ :: ⟨g15, 40, hA h⟩ :: ⟨g8, 40, hA sg⟩ :: ⟨g2, 22, bA sd⟩ :: ml)) (by kernel_rfl) ?_
   have V43 := V42.drew
   refine zR [0, 1, 2, 3, 4, 5] 6 (by kernel_rfl) (fun _ _ _ _ _ h => h) V43 fun K hK => ?_
   refine calm_move _ rfl (by rfl) rfl ?_
   go_simp
   refine zC (.bool false) rfl (by rfl) (fun w' hw' => ?_) ?_
   ·go_simp
   go_simp
   refine calm_move _ rfl (by rfl) rfl ?_
   go_simp
   refine zC (.agg (bA pt)) rfl (by rfl) (fun w' hw' => zB hw' 2 rfl _ rfl rfl) ?_
   go_simp
   refine zC (.agg (pA rx ry)) rfl (by rfl) (fun w' hw' => exec_loadS hw' 0 rfl _ rfl rfl Tryz.underlying28 Tryz.szP (pA_size _ _)) ?_
   go_simp
   refine zC (.slice (some ⟨g25, 0, none⟩) 32 32) rfl (by rfl) (fun w' hw' => exec_sliceB hw' 3 rfl _ rfl rfl) ?_
   go_simp
   refine calm_nil (hK.out _ ?_)
   clear hK K
   refine zO 6 5 (by kernel_rfl) rfl (by rfl) fun K hK => ?_
   go_simp
   refine (HB.out w41.drew (hd.of V43)).mono ?_
   rintro e w44 ⟨rfl, q46⟩
   have V45 := V43.call q46
   refine hK _ _ (V45) ?_
   clear hK K q46
   refine zO 7 4 (by kernel_rfl) rfl (by rfl) fun K hK => ?_
   go_simp
   refine (HO.out w44).mono ?_
   rintro e w47 ⟨rfl, q49⟩
   have V48 := V45.call q49
   refine hK _ _ (V48) ?_
   clear hK K q49
   refine zO 8 3 (by kernel_rfl) rfl (by rfl) fun K hK => ?_
   go_simp
   refine (HS.out w47 g25 (V48.at 3 rfl)).mono ?_
   rintro e w50 ⟨rfl, q52⟩
   have V51 := V48.call q52
   refine hK _ _ (V51) ?_
   clear hK K q52
   refine zO 9 2 (by kernel_rfl) rfl (by rfl) fun K hK => ?_
   go_simp
   refine (HK.out w50).mono ?_
   rintro e w53 ⟨rfl, q55⟩
   have V54 := V51.call q55
   refine hK _ _ (V54) ?_
   clear hK K q55
   refine zR [10, 11] 0 (by kernel_rfl) (fun _ _ _ _ _ h => h) V54 fun K hK => ?_
   go_simp
   refine zC (.bool false) rfl (by rfl) (fun w' hw' => ?_) ?_
   ·go_simp
   go_simp
   refine zC (.bool false) rfl (by rfl) (fun w' hw' => ?_) ?_
   ·go_simp
   go_simp
   refine calm_nil (hK.out _ ?_)
   clear hK K
   refine wpAnyH_done (by kernel_rfl) ?_ _
   go_wp2_with fail
   refine av_open (fun w' => Vars w w' (⟨g39, 28, pA rx ry⟩ :: ⟨g33, 22, bA s⟩ :: ⟨g30, 22, bA pt⟩ :: ⟨g25, 22, bA rn⟩ :: ⟨g17, 22, bA sa⟩ :: ⟨g15, 40, hA h⟩ :: ⟨g8, 40, hA sg⟩ :: ⟨g2, 22, bA sd⟩ :: ml)) (by kernel_rfl) ?_
   have V56 := V54.drew
   apply av_once (Vg := fun g w' => Vars w w' (⟨g, 22, bA kk⟩ :: ⟨g39, 28, pA rx ry⟩ :: ⟨g33, 22, bA s⟩ :: ⟨g30, 22, bA pt⟩ :: ⟨g25, 22, bA rn⟩ :: ⟨g17, 22, bA sa⟩ :: ⟨g15, 40, hA h⟩ :: ⟨g8, 40, hA sg⟩ :: ⟨g2, 22, bA sd⟩ :: ml))
   ·intro HC57
    refine zR [0, 1, 3] 4 (by kernel_rfl) (fun _ _ _ _ _ h => h) V56 fun K hK => ?_
    refine zC (.agg (bA pt)) rfl (by rfl) (fun w' hw' => zB hw' 2 rfl _ rfl rfl) ?_
    go_simp
    refine zC (.agg (bA sd)) rfl (by rfl) (fun w' hw' => zB hw' 7 rfl _ rfl rfl) ?_
    go_simp
    refine calm_move _ rfl (by rfl) rfl ?_
    go_simp
    refine calm_nil (hK.out _ ?_)
    clear hK K
    refine zP 2 5 3 (by kernel_rfl) rfl (by rfl) rfl (by rfl) (fun K hK => ?_) (fun K hK => ?_)
    ·go_simp
     refine (HP.out w53.drew (hd.of V56)).mono ?_
     rintro e w58 ⟨rfl, q60⟩
     have V59 := V56.call q60
     refine hK _ _ (V59) ?_
     clear hK K q60
     refine zP 4 5 2 (by kernel_rfl) rfl (by rfl) rfl (by rfl) (fun K hK => ?_) (fun K hK => ?_)
     ·go_simp
      refine (HKK.out w58 V59.bel).mono ?_
      rintro e w61 ⟨rfl, q63⟩
      have V62 := V59.call q63
      refine hK _ _ (V62) ?_
      clear hK K q63
      refine zO 5 1 (by kernel_rfl) rfl (by rfl) fun K hK => ?_
      refine zN V62 15 rfl rfl (fun w64 g65 V66 => ?_)
      refine hK _ _ (V66.tail) ?_
      clear hK K
      refine zO 6 0 (by kernel_rfl) rfl (by rfl) fun K hK => ?_
      refine zS V66 0 rfl _ _ rfl rfl kk rfl rfl (fun w67 V68 => ?_)
      refine hK _ _ (V68.tail) ?_
      clear hK K
      refine wpAnyH_done (by kernel_rfl) ?_ _
      exact HC57 g65 w67 V68
     ·refine zN V59 15 rfl rfl (fun w69 g70 V71 => ?_)
      refine hK _ _ (V71.tail) ?_
      clear hK K
      refine zO 4 1 (by kernel_rfl) rfl (by rfl) fun K hK => ?_
      go_simp
      refine (HKK.out w69 V71.bel).mono ?_
      rintro e w72 ⟨rfl, q74⟩
      have V73 := V71.call q74
      refine hK _ _ (V73.tail) ?_
      clear hK K q74
      refine zO 6 0 (by kernel_rfl) rfl (by rfl) fun K hK => ?_
      refine zS V73 0 rfl _ _ rfl rfl kk rfl rfl (fun w75 V76 => ?_)
      refine hK _ _ (V76.tail) ?_
      clear hK K
      refine wpAnyH_done (by kernel_rfl) ?_ _
      exact HC57 g70 w75 V76
    ·refine zN V56 15 rfl rfl (fun w77 g78 V79 => ?_)
     refine hK _ _ (V79.tail) ?_
     clear hK K
     refine zO 2 2 (by kernel_rfl) rfl (by rfl) fun K hK => ?_
     go_simp
     refine (HP.out w77 (hd.of V79)).mono ?_
     rintro e w80 ⟨rfl, q82⟩
     have V81 := V79.call q82
     refine hK _ _ (V81.tail) ?_
     clear hK K q82
     refine zO 4 1 (by kernel_rfl) rfl (by rfl) fun K hK => ?_
     go_simp
     refine (HKK.out w80 V81.bel).mono ?_
     rintro e w83 ⟨rfl, q85⟩
     have V84 := V81.call q85
     refine hK _ _ (V84.tail) ?_
     clear hK K q85
     refine zO 6 0 (by kernel_rfl) rfl (by rfl) fun K hK => ?_
     refine zS V84 0 rfl _ _ rfl rfl kk rfl rfl (fun w86 V87 => ?_)
     refine hK _ _ (V87.tail) ?_
     clear hK K
     refine wpAnyH_done (by kernel_rfl) ?_ _
     exact HC57 g78 w86 V87
   intro g78 w86 V87
   clear V56
   go_wp2_with fail
   refine av_open (fun w' => Vars w w' (⟨g78, 22, bA kk⟩ :: ⟨g39, 28, pA rx ry⟩ :: ⟨g33, 22, bA s⟩ :: ⟨g30, 22, bA pt⟩ :: ⟨g25, 22, bA rn⟩ :: ⟨g17, 22, bA sa⟩ :: ⟨g15, 40, hA h⟩ :: ⟨g8, 40, hA sg⟩ :: ⟨g2, 22, bA sd⟩ :: ml)) (by kernel_rfl) ?_
   have V88 := V87.drew
   refine zO 0 9 (by kernel_rfl) rfl (by rfl) fun K hK => ?_
   go_simp
   refine (awake19_any w86.drew (ho.of V88) (hd.of V88)).mono ?_
   rintro e w89 ⟨rfl, q91⟩
   have V90 := V88.call q91
   refine hK _ _ (V90) ?_
   clear hK K q91
   refine zR [1, 2, 3, 4, 5] 4 (by kernel_rfl) (fun _ _ _ _ _ h => h) V90 fun K hK => ?_
   go_simp
   refine calm_move _ rfl (by rfl) rfl ?_
   go_simp
   refine zC (.agg (bA s)) rfl (by rfl) (fun w' hw' => zB hw' 2 rfl _ rfl rfl) ?_
   go_simp
   refine zC (.agg (bA kk)) rfl (by rfl) (fun w' hw' => zB hw' 0 rfl _ rfl rfl) ?_
   go_simp
   refine zC (.agg (bA sa)) rfl (by rfl) (fun w' hw' => zB hw' 5 rfl _ rfl rfl) ?_
   go_simp
   refine zC (.agg (bA rn)) rfl (by rfl) (fun w' hw' => zB hw' 4 rfl _ rfl rfl) ?_
   go_simp
   refine calm_nil (hK.out _ ?_)
   clear hK K
   refine zO 6 3 (by kernel_rfl) rfl (by rfl) fun K hK => ?_
   go_simp
   refine (HM.out w89).mono ?_
   rintro e w92 ⟨rfl, q94⟩
   have V93 := V90.call q94
   refine hK _ _ (V93) ?_
   clear hK K q94
   refine zR [7, 8, 9] 0 (by kernel_rfl) (fun _ _ _ _ _ h => h) V93 fun K hK => ?_
   go_simp
   refine zC (.bool true) rfl (by rfl) (fun w' hw' => exec_eqlB _ _ rfl true _ _ (decide_eq_true rfl) rfl rfl HLS.out HLS.out) ?_
   go_simp
   refine zC (.bool true) rfl (by rfl) (fun w' hw' => ?_) ?_
   ·go_simp
   go_simp
   refine calm_assign _ rfl (by rfl) rfl ?_
   go_simp
   refine calm_nil (hK.out _ ?_)
   clear hK K
   refine wpAnyH_done (by kernel_rfl) ?_ _
   go_wp2_with fail
   go_ret
   exact ⟨rfl, V93.bel⟩
theorem walk_EdSigns (sd : Nat) (hs : sd < 2 ^ 256) (m : List Nat) (dm : Dig m) (pm : Option Addr) (lm km : Nat) (w : World) (ho : OAt w) (hd : DAt w) (hm : Row .u8 w pm lm km (nI m)) : Calls Tryz.prog 4 #[.agg (bA sd), .slice pm lm km] w fun e w' => e = .returned (.bool true) ∧ Below w.heap.size w w' := by
 by_cases h0 : lm ≤ 400
 ·exact esigns_core sd hs m dm pm lm km w ho hd hm h0
 ·exact esigns_long sd pm lm km w (by omega)
end Go.Proofs.YthangiocheodoaaGreatDoor.N
