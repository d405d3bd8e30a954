/-
 The code of layer 19 (ed), as it landed: Sign.
-/
import Derived.Test.YthangiocheodoaaGreatDoorPackFb
import Derived.Test.YthangiocheodoaaGreatDoorEdCode2
namespace Go.Proofs.YthangiocheodoaaGreatDoor.N
open Go.RowKit
set_option linter.unusedVariables false
set_option maxRecDepth 8192

set_option maxHeartbeats 3200000 in
theorem sign_gen (sd sa sb pu r pt k s sg : Nat) (pm : Option Addr) (lm km : Nat) (m : List Nat) (w : World) (ho : OAt w) (hd : DAt w) (hm : Row .u8 w pm lm km (nI m))
  (HS : Hid (∀ w, Rt Tryz.prog 21 #[.agg (bA sd)] (.tuple #[.agg (bA sa), .agg (bA sb)]) w)) (HP : Hid (∀ w, DAt w → Rt Tryz.prog 22 #[.agg (bA sa)] (.agg (bA pu)) w)) (HP2 : Hid (∀ w, DAt w → Rt Tryz.prog 22 #[.agg (bA r)] (.agg (bA pt)) w))
  (HN2 : Hid (∀ (w' : World) (g h : Nat), OAt w' → Below w.heap.size w w' → w'.heap[g]? = some (.cells #[.slice (some ⟨h, 0, none⟩) 32 32, .slice pm lm km] 24 (0, 0)) → w'.heap[h]? = some (.cells (bA sb) 22 (0, 0)) → Rt Tryz.prog 34 #[.slice (some ⟨g, 0, none⟩) 2 2] (.agg (bA r)) w'))
  (HN3 : Hid (∀ (w' : World) (g h i : Nat), OAt w' → Below w.heap.size w w' → w'.heap[g]? = some (.cells #[.slice (some ⟨h, 0, none⟩) 32 32, .slice (some ⟨i, 0, none⟩) 32 32, .slice pm lm km] 24 (0, 0)) → w'.heap[h]? = some (.cells (bA pt) 22 (0, 0)) → w'.heap[i]? = some (.cells (bA pu) 22 (0, 0)) → Rt Tryz.prog 34 #[.slice (some ⟨g, 0, none⟩) 3 3] (.agg (bA k)) w'))
  (HM : Hid (∀ w, OAt w → Rt Tryz.prog 35 #[.agg (bA k), .agg (bA sa), .agg (bA r)] (.agg (bA s)) w))
  (HJ : Hid (∀ (w' : World) (g h i : Nat), w'.heap[g]? = some (.cells #[.slice (some ⟨h, 0, none⟩) 32 32, .slice (some ⟨i, 0, none⟩) 32 32] 24 (0, 0)) → w'.heap[h]? = some (.cells (bA pt) 22 (0, 0)) → w'.heap[i]? = some (.cells (bA s) 22 (0, 0)) → Calls Tryz.prog 36 #[.slice (some ⟨g, 0, none⟩) 2 2] w' (Gives w' (digL sg 64)))) :
  Calls Tryz.prog 14 #[.agg (bA sd), .slice pm lm km] w fun e w' => e = .returned (.agg (hA sg)) ∧ Below w.heap.size w w' := by
 have HV : Hid (arr .u8 (digL (vL (digL sg 64)) 64) = hA sg) := by show _ = _; rw [← digL_of' sg, hA_def]
 have HLen : Hid ((digL sg 64).length = 64 ∧ Dig (digL sg 64)) := ⟨digL_length _ _, digL_dig _ _⟩
 generalize digL sg 64 = zz at *
 clear hm
 have V0 := Vars.start w
 go_enter Tryz.func14, Tryz.ntmps14
 go_wp2_with (first
  | (refine wpList_boxV V0 2 22 _ rfl rfl rfl (bA sd) rfl ?_; intro w1 g2 V3)
  | (refine wpList_allocV V3 4 40 rfl rfl rfl (hA 0) zeroH ?_; intro w4 g5 V6)
  | (refine zD V6 1 rfl 14 _ rfl rfl rfl rfl ?_))
 refine (HS.out w4).mono ?_
 rintro e w7 ⟨rfl, q9⟩
 have V8 := V6.call q9
 clear q9 V6
 go_wp2_with (first
  | (refine zA V8 5 rfl rfl rfl ?_; intro w10 g11 V12)
  | (refine zA V12 6 rfl rfl rfl ?_; intro w13 g14 V15)
  | (refine zL V15 1 rfl _ (.tmp 16) rfl rfl rfl sa rfl rfl ?_; intro w16 V17)
  | (refine zL V17 0 rfl _ (.tmp 17) rfl rfl rfl sb rfl rfl ?_; intro w18 V19)
  | (refine zD V19 1 rfl 18 _ rfl rfl rfl rfl ?_))
 refine (HP.out w18 (hd.of V19)).mono ?_
 rintro e w20 ⟨rfl, q22⟩
 have V21 := V19.call q22
 clear q22 V19
 go_wp2_with (first
  | (refine zA V21 7 rfl rfl rfl ?_; intro w23 g24 V25)
  | (refine zL V25 0 rfl _ (.tmp 19) rfl rfl rfl pu rfl rfl ?_; intro w26 V27)
  | (refine wpList_exec rfl (exec_sliceB V27 1 rfl _ rfl rfl) ?_)
  | (refine wpList_sliceX V27 22 63 2 _ rfl rfl rfl 24 (#[.slice (some ⟨g14, 0, none⟩) 32 32, .slice pm lm km]) (made_p2 _ _ _ _ _ _) ?_; intro w28 g29 V30))
 refine (HN2.out w28 g29 g14 (ho.of V30) V30.bel (V30.at 0 rfl) (V30.at 2 rfl)).mono ?_
 rintro e w31 ⟨rfl, q33⟩
 have V32 := V30.call q33
 clear q33 V30
 go_wp2_with (first
  | (refine zA V32 8 rfl rfl rfl ?_; intro w34 g35 V36)
  | (refine zL V36 0 rfl _ (.tmp 23) rfl rfl rfl r rfl rfl ?_; intro w37 V38)
  | (refine zD V38 0 rfl 24 _ rfl rfl rfl rfl ?_))
 refine (HP2.out w37 (hd.of V38)).mono ?_
 rintro e w39 ⟨rfl, q41⟩
 have V40 := V38.call q41
 clear q41 V38
 go_wp2_with (first
  | (refine zA V40 9 rfl rfl rfl ?_; intro w42 g43 V44)
  | (refine zL V44 0 rfl _ (.tmp 25) rfl rfl rfl pt rfl rfl ?_; intro w45 V46))
 refine av_open (fun w' => Vars w w' [⟨g43, 22, bA pt⟩, ⟨g35, 22, bA r⟩, ⟨g29, 24, #[.slice (some ⟨g14, 0, none⟩) 32 32, .slice pm lm km]⟩, ⟨g24, 22, bA pu⟩, ⟨g14, 22, bA sb⟩, ⟨g11, 22, bA sa⟩, ⟨g5, 40, hA 0⟩, ⟨g2, 22, bA sd⟩]) (by kernel_rfl) ?_
 have V47 := V46.drew
 apply av_once22 (Vg := fun ga gb w' => Vars w w' [⟨ga, 24, #[.slice (some ⟨g43, 0, none⟩) 32 32, .slice (some ⟨g24, 0, none⟩) 32 32, .slice pm lm km]⟩, ⟨gb, 22, bA 0⟩, ⟨g43, 22, bA pt⟩, ⟨g35, 22, bA r⟩, ⟨g29, 24, #[.slice (some ⟨g14, 0, none⟩) 32 32, .slice pm lm km]⟩, ⟨g24, 22, bA pu⟩, ⟨g14, 22, bA sb⟩, ⟨g11, 22, bA sa⟩, ⟨g5, 40, hA 0⟩, ⟨g2, 22, bA sd⟩])
 intro HC48
 apply av_once22 (Vg := fun ga gb w' => Vars w w' [⟨ga, 24, #[.slice (some ⟨g43, 0, none⟩) 32 32, .slice (some ⟨g24, 0, none⟩) 32 32, .slice pm lm km]⟩, ⟨gb, 22, bA 0⟩, ⟨g43, 22, bA pt⟩, ⟨g35, 22, bA r⟩, ⟨g29, 24, #[.slice (some ⟨g14, 0, none⟩) 32 32, .slice pm lm km]⟩, ⟨g24, 22, bA pu⟩, ⟨g14, 22, bA sb⟩, ⟨g11, 22, bA sa⟩, ⟨g5, 40, hA 0⟩, ⟨g2, 22, bA sd⟩])
 intro HC49
 refine zR [0, 1, 2] 4 (by kernel_rfl) (fun _ _ _ _ _ h => h) V47 fun K hK => ?_
 refine zC (.slice (some ⟨g43, 0, none⟩) 32 32) rfl (by rfl) (fun w' hw' => exec_sliceB hw' 0 rfl _ rfl rfl) ?_
 go_simp
 refine zC (.slice (some ⟨g24, 0, none⟩) 32 32) rfl (by rfl) (fun w' hw' => exec_sliceB hw' 3 rfl _ rfl rfl) ?_
 go_simp
 refine calm_move _ rfl (by rfl) rfl ?_
 go_simp
 refine calm_nil (hK.out _ ?_)
 clear hK K
 refine av_listed (L' := (tf 7 7)) (by kernel_rfl) ?_
 refine av_ops [3, 5] (fuel := 3) (by kernel_rfl) (List.cons_ne_nil _ _) ?_
 refine av_cons (tf 7 15) rfl (by rfl) (by kernel_rfl) (fun K hK => ?_) ?_
 refine wp_sliceX V47 29 63 3 _ rfl rfl 24 (#[.slice (some ⟨g43, 0, none⟩) 32 32, .slice (some ⟨g24, 0, none⟩) 32 32, .slice pm lm km]) (made_p3 _ _ _ _ _ _ _ _ _) (fun w50 g51 V52 => ?_)
 try go_simp
 refine hK _ _ (V52.tail) ?_
 clear hK K
 refine av_ops [4, 5] (fuel := 2) (by kernel_rfl) (List.cons_ne_nil _ _) ?_
 refine av_cons (tf 7 31) rfl (by rfl) (by kernel_rfl) (fun K hK => ?_) ?_
 go_simp
 refine (HN3.out w50 g51 g43 g24 (ho.of V52) V52.bel (V52.at 0 rfl) (V52.at 1 rfl) (V52.at 4 rfl)).mono ?_
 rintro e w53 ⟨rfl, q55⟩
 have V54 := V52.call q55
 try go_simp
 refine hK _ _ (V54.tail) ?_
 clear hK K q55
 refine av_ops [5] (fuel := 1) (by kernel_rfl) (List.cons_ne_nil _ _) ?_
 refine av_cons (tf 7 63) rfl (by rfl) (by kernel_rfl) (fun K hK => ?_) av_nil
 refine zN V54 10 rfl rfl (fun w56 g57 V58 => ?_)
 have V58m : Vars w w56 [⟨g51, 24, #[.slice (some ⟨g43, 0, none⟩) 32 32, .slice (some ⟨g24, 0, none⟩) 32 32, .slice pm lm km]⟩, ⟨g57, 22, bA 0⟩, ⟨g43, 22, bA pt⟩, ⟨g35, 22, bA r⟩, ⟨g29, 24, #[.slice (some ⟨g14, 0, none⟩) 32 32, .slice pm lm km]⟩, ⟨g24, 22, bA pu⟩, ⟨g14, 22, bA sb⟩, ⟨g11, 22, bA sa⟩, ⟨g5, 40, hA 0⟩, ⟨g2, 22, bA sd⟩] := V58.mv 1 (Nat.le_of_ble_eq_true rfl)
 try go_simp
 refine hK _ _ (V58m.tail.tail) ?_
 clear hK K
 exact HC48 g51 g57 w56 V58m
 refine av_cons (tf 7 47) rfl (by rfl) (by kernel_rfl) (fun K hK => ?_) av_nil
 refine zN V52 10 rfl rfl (fun w59 g60 V61 => ?_)
 have V61m : Vars w w59 [⟨g51, 24, #[.slice (some ⟨g43, 0, none⟩) 32 32, .slice (some ⟨g24, 0, none⟩) 32 32, .slice pm lm km]⟩, ⟨g60, 22, bA 0⟩, ⟨g43, 22, bA pt⟩, ⟨g35, 22, bA r⟩, ⟨g29, 24, #[.slice (some ⟨g14, 0, none⟩) 32 32, .slice pm lm km]⟩, ⟨g24, 22, bA pu⟩, ⟨g14, 22, bA sb⟩, ⟨g11, 22, bA sa⟩, ⟨g5, 40, hA 0⟩, ⟨g2, 22, bA sd⟩] := V61.mv 1 (Nat.le_of_ble_eq_true rfl)
 try go_simp
 refine hK _ _ (V61m.tail.tail) ?_
 clear hK K
 exact HC49 g51 g60 w59 V61m
 refine av_cons (tf 7 39) rfl (by rfl) (by kernel_rfl) (fun K hK => ?_) av_nil
 refine zN V47 10 rfl rfl (fun w62 g63 V64 => ?_)
 try go_simp
 refine hK _ _ (V64.tail) ?_
 clear hK K
 refine av_ops [3] (fuel := 2) (by kernel_rfl) (List.cons_ne_nil _ _) ?_
 refine av_cons (tf 7 47) rfl (by rfl) (by kernel_rfl) (fun K hK => ?_) av_nil
 refine wp_sliceX V64 29 63 3 _ rfl rfl 24 (#[.slice (some ⟨g43, 0, none⟩) 32 32, .slice (some ⟨g24, 0, none⟩) 32 32, .slice pm lm km]) (made_p3 _ _ _ _ _ _ _ _ _) (fun w65 g66 V67 => ?_)
 try go_simp
 refine hK _ _ (V67.tail.tail) ?_
 clear hK K
 exact HC49 g66 g63 w65 V67
 intro g68 g69 w70 V71
 refine av_ops [4] (fuel := 1) (by kernel_rfl) (List.cons_ne_nil _ _) ?_
 refine av_cons (tf 7 63) rfl (by rfl) (by kernel_rfl) (fun K hK => ?_) av_nil
 go_simp
 refine (HN3.out w70 g68 g43 g24 (ho.of V71) V71.bel (V71.at 0 rfl) (V71.at 2 rfl) (V71.at 5 rfl)).mono ?_
 rintro e w72 ⟨rfl, q74⟩
 have V73 := V71.call q74
 try go_simp
 refine hK _ _ (V73.tail.tail) ?_
 clear hK K q74
 exact HC48 g68 g69 w72 V73
 intro g75 g76 w77 V78
 refine av_ops [6] (fuel := 0) (by kernel_rfl) (List.cons_ne_nil _ _) ?_
 refine av_cons (tf 7 127) rfl (by rfl) (by kernel_rfl) (fun K hK => ?_) av_nil
 refine zS V78 1 rfl _ _ rfl rfl k rfl rfl (fun w79 V80 => ?_)
 refine hK _ _ (V80.tail.tail) ?_
 clear hK K
 refine wpAnyH_done (by kernel_rfl) ?_ _
 go_wp2_with (first
  | (refine zD V80 1 rfl 31 _ rfl rfl rfl rfl ?_)
  | (refine zD V80 7 rfl 32 _ rfl rfl rfl rfl ?_)
  | (refine zD V80 3 rfl 33 _ rfl rfl rfl rfl ?_))
 refine (HM.out w79 (ho.of V80)).mono ?_
 rintro e w81 ⟨rfl, q83⟩
 have V82 := V80.call q83
 clear q83 V80
 go_wp2_with (first
  | (refine zA V82 11 rfl rfl rfl ?_; intro w84 g85 V86)
  | (refine zL V86 0 rfl _ (.tmp 34) rfl rfl rfl s rfl rfl ?_; intro w87 V88)
  | (refine wpList_allocV V88 12 40 rfl rfl rfl (hA 0) zeroH ?_; intro w89 g90 V91))
 refine av_open (fun w' => Vars w w' [⟨g85, 22, bA s⟩, ⟨g75, 24, #[.slice (some ⟨g43, 0, none⟩) 32 32, .slice (some ⟨g24, 0, none⟩) 32 32, .slice pm lm km]⟩, ⟨g76, 22, bA k⟩, ⟨g43, 22, bA pt⟩, ⟨g35, 22, bA r⟩, ⟨g29, 24, #[.slice (some ⟨g14, 0, none⟩) 32 32, .slice pm lm km]⟩, ⟨g24, 22, bA pu⟩, ⟨g14, 22, bA sb⟩, ⟨g11, 22, bA sa⟩, ⟨g5, 40, hA 0⟩, ⟨g2, 22, bA sd⟩]) (by kernel_rfl) ?_
 have VB := V91.drew
 clear V91
 refine zR [0, 1, 2] 3 (by kernel_rfl) (fun _ _ _ _ _ h => h) (VB.del 0) fun K hK => ?_
 refine zC (.slice (some ⟨g90, 0, none⟩) 64 64) rfl (by rfl) (fun w' hw' => exec_sliceHG g90 _ rfl rfl) ?_
 go_simp
 refine zC (.slice (some ⟨g43, 0, none⟩) 32 32) rfl (by rfl) (fun w' hw' => exec_sliceB hw' 3 rfl _ rfl rfl) ?_
 go_simp
 refine zC (.slice (some ⟨g85, 0, none⟩) 32 32) rfl (by rfl) (fun w' hw' => exec_sliceB hw' 0 rfl _ rfl rfl) ?_
 go_simp
 refine calm_nil (hK.out _ ?_)
 clear hK K
 refine zO 3 2 (by kernel_rfl) rfl (by rfl) fun K hK => ?_
 refine wp_sliceX VB 38 63 2 _ rfl rfl 24 (#[.slice (some ⟨g43, 0, none⟩) 32 32, .slice (some ⟨g85, 0, none⟩) 32 32]) (made_p2 _ _ _ _ _ _) (fun wk gk VK => ?_)
 refine hK _ _ (VK.tail.del 0) ?_
 clear hK K VB
 try go_simp
 refine zO 4 1 (by kernel_rfl) rfl (by rfl) fun K hK => ?_
 go_simp
 refine (HJ.out wk gk g43 g85 (VK.at 0 rfl) (VK.at 5 rfl) (VK.at 2 rfl)).mono ?_
 rintro e wj ⟨aj, cj, rfl, rj, qj⟩
 have VJ := VK.tail.call qj
 refine hK _ _ (VJ.del 0) ?_
 clear hK K qj VK
 refine zO 5 0 (by kernel_rfl) rfl (by rfl) fun K hK => ?_
 go_simp
 rw [HLen.out.1] at rj
 have hg0 := VJ.at 0 rfl
 rw [hA_zero] at hg0
 obtain ⟨wC, hrC, hgC, hoC, qC⟩ := copy_out (P := Tryz.prog) (dT := 24) (elem := 5) (ty := 3) (w0 := w) (B := 0) Tryz.underlying24 (by kernel_rfl) hg0 (Nat.le_refl 64) rj HLen.out.2
 rw [HLen.out.1, hrC]
 rw [HV.out] at hgC
 have VC : Vars w wC [⟨g90, 40, hA sg⟩, ⟨g85, 22, bA s⟩, ⟨g75, 24, #[.slice (some ⟨g43, 0, none⟩) 32 32, .slice (some ⟨g24, 0, none⟩) 32 32, .slice pm lm km]⟩, ⟨g76, 22, bA k⟩, ⟨g43, 22, bA pt⟩, ⟨g35, 22, bA r⟩, ⟨g29, 24, #[.slice (some ⟨g14, 0, none⟩) 32 32, .slice pm lm km]⟩, ⟨g24, 22, bA pu⟩, ⟨g14, 22, bA sb⟩, ⟨g11, 22, bA sa⟩, ⟨g5, 40, hA 0⟩, ⟨g2, 22, bA sd⟩] := VJ.turn 0 rfl (qC.mono (VJ.low _ (List.mem_of_getElem? (i := 0) rfl))) hgC hoC
 clear hrC hgC hoC qC VJ hg0 rj
 refine hK _ _ (VC.del 0) ?_
 clear hK K
 refine wpAnyH_done (by kernel_rfl) ?_ _
 go_wp2_with (first
  | (refine wpList_loadV VC 0 rfl 41 _ rfl rfl rfl rfl Tryz.underlying40 Tryz.szH (hA_size _) ?_)
  | (refine wpList_storeV VC 10 rfl _ (.tmp 41) rfl rfl rfl (hA sg) rfl rfl Tryz.szH (hA_size _) (hA_size _) (hA_one _) ?_; intro w92 V93))
 exact bodyPost_ret (resV1 rfl _ V93 10 rfl rfl Tryz.underlying40 Tryz.szH (hA_size _)) rfl ⟨rfl, V93.bel⟩
theorem sign_any (sd : Nat) (hs : sd < 2 ^ 256) (pm : Option Addr) (lm km : Nat) (m : List Nat) (dm : Dig m) (w : World) (ho : OAt w) (hd : DAt w) (hm : Row .u8 w pm lm km (nI m)) (hl : lm ≤ 10000) :
  Calls Tryz.prog 14 #[.agg (bA sd), .slice pm lm km] w fun e w' => e = .returned (.agg (hA (sgN sd m))) ∧ Below w.heap.size w w' := by
 have hml : m.length = lm := by have := hm.hlen; rwa [nI_length] at this
 have l32 := fun x => digL_length x 32
 refine sign_gen sd (secA sd) (secB sd) (pubN sd) (rN sd m) (ptN sd m) (kN (ptN sd m) (pubN sd) m) (sN sd m) (sgN sd m) pm lm km m w ho hd hm (fun w => secret_any sd hs w) (fun w hd => packedBase_any _ (secA_lt sd) w hd) (fun w hd => packedBase_any _ (numN_lt256 _) w hd) ?_ ?_ ?_ ?_
 ·exact fun w' g h ho q hg hh => number_two (digL_dig _ _) dm (by rw [l32]; omega) ho hg (row_bA hh) (hm.below q (Nat.le_refl _))
 ·exact fun w' g h i ho q hg hh hi => number_three (digL_dig _ _) (digL_dig _ _) dm (by rw [l32, l32]; omega) ho hg (row_bA hh) (row_bA hi) (hm.below q (Nat.le_refl _))
 ·exact fun w' ho => mulAdd_any _ _ _ w' ho (numN_lt256 _) (secA_lt _) (numN_lt256 _)
 ·intro w' g h i hg hh hi
  have e : digL (sgN sd m) 64 = digL (ptN sd m) 32 ++ digL (sN sd m) 32 := digL_both (ptN_lt sd m)
  rw [e]
  exact joined_two (digL_dig _ _) (digL_dig _ _) (by rw [l32, l32]; decide) hg (row_bA hh) (row_bA hi)
end Go.Proofs.YthangiocheodoaaGreatDoor.N
