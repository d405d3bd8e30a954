/-
 The code of layer 19 (ed), as it landed: Verify.
-/
import Derived.Test.YthangiocheodoaaGreatDoorPackFb
import Derived.Test.YthangiocheodoaaGreatDoorEdCode3
namespace Go.Proofs.YthangiocheodoaaGreatDoor.N
open Go.RowKit
set_option linter.unusedVariables false
set_option maxRecDepth 8192

set_option maxHeartbeats 800000 in
theorem verify_len (pu : Nat) (pm ps : Option Addr) (lm km ls ks : Nat) (hl : ls ≠ 64) (w : World) : Calls Tryz.prog 18 #[.agg (bA pu), .slice pm lm km, .slice ps ls ks] w fun e w' => e = .returned (.int .i64 1) ∧ Below w.heap.size w w' := by
 have hl9 : ((ls : Int) != 64) = true := by rw [bne_iff_ne]; omega
 clear hl
 have V0 := Vars.start w
 go_enter Tryz.func18, Tryz.ntmps18
 go_wp2_with (refine wpList_boxV V0 3 22 _ rfl rfl rfl (bA pu) rfl ?_; intro w1 g2 V3)
 go_ret
 exact ⟨rfl, V3.bel⟩
set_option maxHeartbeats 1600000 in
theorem verify_pt1 (pu R sg : Nat) (pm ps : Option Addr) (lm km ks : Nat) (kx ky qx qy : Nat) (e2 : Int) (w : World) (hd : DAt w) (HH : Hid (∀ w', Below w.heap.size w w' → Rt Tryz.prog 41 #[.slice ps 64 ks] (.tuple #[.agg (bA R), .agg (bA sg)]) w')) (HU1 : Hid (∀ w, DAt w → Rt Tryz.prog 8 #[.agg (bA pu)] (.tuple #[.agg (pA kx ky), .int .i64 170]) w)) (HU2 : Hid (∀ w, DAt w → Rt Tryz.prog 8 #[.agg (bA R)] (.tuple #[.agg (pA qx qy), .int .i64 e2]) w)) : Calls Tryz.prog 18 #[.agg (bA pu), .slice pm lm km, .slice ps 64 ks] w fun e w' => e = .returned (.int .i64 170) ∧ Below w.heap.size w w' := by
 have V0 := Vars.start w
 go_enter Tryz.func18, Tryz.ntmps18
 go_wp2_with (refine wpList_boxV V0 3 22 _ rfl rfl rfl (bA pu) rfl ?_; intro w1 g2 V3)
 refine (HH.out w1 V3.bel).mono ?_
 rintro e w4 ⟨rfl, q6⟩
 have V5 := V3.call q6
 clear q6 V3
 go_wp2_with (first
  | (refine zA V5 7 rfl rfl rfl ?_; intro w7 g8 V9)
  | (refine zA V9 8 rfl rfl rfl ?_; intro w10 g11 V12)
  | (refine zL V12 1 rfl _ (.tmp 22) rfl rfl rfl R rfl rfl ?_; intro w13 V14)
  | (refine zL V14 0 rfl _ (.tmp 23) rfl rfl rfl sg rfl rfl ?_; intro w15 V16)
  | (refine zD V16 2 rfl 25 _ rfl rfl rfl rfl ?_))
 refine (HU1.out w15 (hd.of V16)).mono ?_
 rintro e w17 ⟨rfl, q19⟩
 have V18 := V16.call q19
 clear q19 V16
 go_wp2_with (first
  | (refine wpList_allocV V18 9 28 rfl rfl rfl (pA 0 0) zeroP ?_; intro w20 g21 V22)
  | (refine wpList_storeV V22 0 rfl _ (.tmp 27) rfl rfl rfl (pA kx ky) rfl rfl Tryz.szP (pA_size _ _) (pA_size _ _) (pA_one _ _) ?_; intro w23 V24)
  | (refine zD V24 2 rfl 30 _ rfl rfl rfl rfl ?_))
 refine (HU2.out w23 (hd.of V24)).mono ?_
 rintro e w25 ⟨rfl, q27⟩
 have V26 := V24.call q27
 clear q27 V24
 go_wp2_with (first
  | (refine wpList_allocV V26 11 28 rfl rfl rfl (pA 0 0) zeroP ?_; intro w28 g29 V30)
  | (refine wpList_storeV V30 0 rfl _ (.tmp 32) rfl rfl rfl (pA qx qy) rfl rfl Tryz.szP (pA_size _ _) (pA_size _ _) (pA_one _ _) ?_; intro w31 V32))
 go_ret
 exact ⟨rfl, V32.bel⟩
set_option maxHeartbeats 1600000 in
theorem verify_pt2 (pu R sg : Nat) (pm ps : Option Addr) (lm km ks : Nat) (kx ky qx qy : Nat) (w : World) (hd : DAt w) (HH : Hid (∀ w', Below w.heap.size w w' → Rt Tryz.prog 41 #[.slice ps 64 ks] (.tuple #[.agg (bA R), .agg (bA sg)]) w')) (HU1 : Hid (∀ w, DAt w → Rt Tryz.prog 8 #[.agg (bA pu)] (.tuple #[.agg (pA kx ky), .int .i64 0]) w)) (HU2 : Hid (∀ w, DAt w → Rt Tryz.prog 8 #[.agg (bA R)] (.tuple #[.agg (pA qx qy), .int .i64 170]) w)) : Calls Tryz.prog 18 #[.agg (bA pu), .slice pm lm km, .slice ps 64 ks] w fun e w' => e = .returned (.int .i64 170) ∧ Below w.heap.size w w' := by
 have V0 := Vars.start w
 go_enter Tryz.func18, Tryz.ntmps18
 go_wp2_with (refine wpList_boxV V0 3 22 _ rfl rfl rfl (bA pu) rfl ?_; intro w1 g2 V3)
 refine (HH.out w1 V3.bel).mono ?_
 rintro e w4 ⟨rfl, q6⟩
 have V5 := V3.call q6
 clear q6 V3
 go_wp2_with (first
  | (refine zA V5 7 rfl rfl rfl ?_; intro w7 g8 V9)
  | (refine zA V9 8 rfl rfl rfl ?_; intro w10 g11 V12)
  | (refine zL V12 1 rfl _ (.tmp 22) rfl rfl rfl R rfl rfl ?_; intro w13 V14)
  | (refine zL V14 0 rfl _ (.tmp 23) rfl rfl rfl sg rfl rfl ?_; intro w15 V16)
  | (refine zD V16 2 rfl 25 _ rfl rfl rfl rfl ?_))
 refine (HU1.out w15 (hd.of V16)).mono ?_
 rintro e w17 ⟨rfl, q19⟩
 have V18 := V16.call q19
 clear q19 V16
 go_wp2_with (first
  | (refine wpList_allocV V18 9 28 rfl rfl rfl (pA 0 0) zeroP ?_; intro w20 g21 V22)
  | (refine wpList_storeV V22 0 rfl _ (.tmp 27) rfl rfl rfl (pA kx ky) rfl rfl Tryz.szP (pA_size _ _) (pA_size _ _) (pA_one _ _) ?_; intro w23 V24)
  | (refine zD V24 2 rfl 30 _ rfl rfl rfl rfl ?_))
 refine (HU2.out w23 (hd.of V24)).mono ?_
 rintro e w25 ⟨rfl, q27⟩
 have V26 := V24.call q27
 clear q27 V24
 go_wp2_with (first
  | (refine wpList_allocV V26 11 28 rfl rfl rfl (pA 0 0) zeroP ?_; intro w28 g29 V30)
  | (refine wpList_storeV V30 0 rfl _ (.tmp 32) rfl rfl rfl (pA qx qy) rfl rfl Tryz.szP (pA_size _ _) (pA_size _ _) (pA_one _ _) ?_; intro w31 V32))
 go_ret
 exact ⟨rfl, V32.bel⟩
set_option maxHeartbeats 1600000 in
theorem verify_is (pu R sg : Nat) (pm ps : Option Addr) (lm km ks : Nat) (kx ky qx qy : Nat) (w : World) (ho : OAt w) (hd : DAt w) (HH : Hid (∀ w', Below w.heap.size w w' → Rt Tryz.prog 41 #[.slice ps 64 ks] (.tuple #[.agg (bA R), .agg (bA sg)]) w')) (HU1 : Hid (∀ w, DAt w → Rt Tryz.prog 8 #[.agg (bA pu)] (.tuple #[.agg (pA kx ky), .int .i64 0]) w)) (HU2 : Hid (∀ w, DAt w → Rt Tryz.prog 8 #[.agg (bA R)] (.tuple #[.agg (pA qx qy), .int .i64 0]) w)) (HS : Hid (∀ w, OAt w → Rt Tryz.prog 19 #[.agg (bA sg)] (.bool false) w)) : Calls Tryz.prog 18 #[.agg (bA pu), .slice pm lm km, .slice ps 64 ks] w fun e w' => e = .returned (.int .i64 191) ∧ Below w.heap.size w w' := by
 have V0 := Vars.start w
 go_enter Tryz.func18, Tryz.ntmps18
 go_wp2_with (refine wpList_boxV V0 3 22 _ rfl rfl rfl (bA pu) rfl ?_; intro w1 g2 V3)
 refine (HH.out w1 V3.bel).mono ?_
 rintro e w4 ⟨rfl, q6⟩
 have V5 := V3.call q6
 clear q6 V3
 go_wp2_with (first
  | (refine zA V5 7 rfl rfl rfl ?_; intro w7 g8 V9)
  | (refine zA V9 8 rfl rfl rfl ?_; intro w10 g11 V12)
  | (refine zL V12 1 rfl _ (.tmp 22) rfl rfl rfl R rfl rfl ?_; intro w13 V14)
  | (refine zL V14 0 rfl _ (.tmp 23) rfl rfl rfl sg rfl rfl ?_; intro w15 V16)
  | (refine zD V16 2 rfl 25 _ rfl rfl rfl rfl ?_))
 refine (HU1.out w15 (hd.of V16)).mono ?_
 rintro e w17 ⟨rfl, q19⟩
 have V18 := V16.call q19
 clear q19 V16
 go_wp2_with (first
  | (refine wpList_allocV V18 9 28 rfl rfl rfl (pA 0 0) zeroP ?_; intro w20 g21 V22)
  | (refine wpList_storeV V22 0 rfl _ (.tmp 27) rfl rfl rfl (pA kx ky) rfl rfl Tryz.szP (pA_size _ _) (pA_size _ _) (pA_one _ _) ?_; intro w23 V24)
  | (refine zD V24 2 rfl 30 _ rfl rfl rfl rfl ?_))
 refine (HU2.out w23 (hd.of V24)).mono ?_
 rintro e w25 ⟨rfl, q27⟩
 have V26 := V24.call q27
 clear q27 V24
 go_wp2_with (first
  | (refine wpList_allocV V26 11 28 rfl rfl rfl (pA 0 0) zeroP ?_; intro w28 g29 V30)
  | (refine wpList_storeV V30 0 rfl _ (.tmp 32) rfl rfl rfl (pA qx qy) rfl rfl Tryz.szP (pA_size _ _) (pA_size _ _) (pA_one _ _) ?_; intro w31 V32)
  | (refine zD V32 2 rfl 40 _ rfl rfl rfl rfl ?_))
 refine (HS.out w31 (ho.of V32)).mono ?_
 rintro e w33 ⟨rfl, q35⟩
 have V34 := V32.call q35
 clear q35 V32
 go_wp2_with fail
 go_ret
 exact ⟨rfl, V34.bel⟩
set_option maxHeartbeats 6400000 in
theorem verify_no (pu R sg : Nat) (pm ps : Option Addr) (lm km ks : Nat) (kx ky qx qy : Nat) (k tx ty sx sy bx by9 lx ly : Nat) (w : World) (ho : OAt w) (hd : DAt w) (HH : Hid (∀ w', Below w.heap.size w w' → Rt Tryz.prog 41 #[.slice ps 64 ks] (.tuple #[.agg (bA R), .agg (bA sg)]) w')) (HU1 : Hid (∀ w, DAt w → Rt Tryz.prog 8 #[.agg (bA pu)] (.tuple #[.agg (pA kx ky), .int .i64 0]) w)) (HU2 : Hid (∀ w, DAt w → Rt Tryz.prog 8 #[.agg (bA R)] (.tuple #[.agg (pA qx qy), .int .i64 0]) w)) (HS : Hid (∀ w, OAt w → Rt Tryz.prog 19 #[.agg (bA sg)] (.bool true) w))
  (HN3 : Hid (∀ (w' : World) (g h i : Nat), OAt w' → Below w.heap.size w w' → w'.heap[g]? = some (.cells #[.slice (some ⟨h, 0, none⟩) 32 32, .slice (some ⟨i, 0, none⟩) 32 32, .slice pm lm km] 24 (0, 0)) → w'.heap[h]? = some (.cells (bA R) 22 (0, 0)) → w'.heap[i]? = some (.cells (bA pu) 22 (0, 0)) → Rt Tryz.prog 34 #[.slice (some ⟨g, 0, none⟩) 3 3] (.agg (bA k)) w'))
  (HT : Hid (∀ w, DAt w → Rt Tryz.prog 43 #[.agg (bA k), .agg (pA kx ky)] (.agg (pA tx ty)) w)) (HA : Hid (∀ w, DAt w → Rt Tryz.prog 42 #[.agg (pA qx qy), .agg (pA tx ty)] (.tuple #[.agg (pA sx sy), .int .i64 0]) w)) (HB : Hid (∀ w, DAt w → Rt Tryz.prog 13 #[] (.agg (pA bx by9)) w)) (HL : Hid (∀ w, DAt w → Rt Tryz.prog 43 #[.agg (bA sg), .agg (pA bx by9)] (.agg (pA lx ly)) w))
  (hs : sx < 2 ^ 256 ∧ sy < 2 ^ 256) (hl : lx < 2 ^ 256 ∧ ly < 2 ^ 256) (hb : (decide (lx = sx) && decide (ly = sy)) = !true) :
  Calls Tryz.prog 18 #[.agg (bA pu), .slice pm lm km, .slice ps 64 ks] w fun e w' => e = .returned (.int .i64 191) ∧ Below w.heap.size w w' := by
 have HLL : Hid ((lx < 2 ^ 256 ∧ ly < 2 ^ 256) ∧ (sx < 2 ^ 256 ∧ sy < 2 ^ 256) ∧ (decide (lx = sx) && decide (ly = sy)) = !true) := ⟨hl, hs, hb⟩
 clear hl hs hb
 have V0 := Vars.start w
 go_enter Tryz.func18, Tryz.ntmps18
 go_wp2_with (refine wpList_boxV V0 3 22 _ rfl rfl rfl (bA pu) rfl ?_; intro w1 g2 V3)
 refine (HH.out w1 V3.bel).mono ?_
 rintro e w4 ⟨rfl, q6⟩
 have V5 := V3.call q6
 clear q6 V3
 go_wp2_with (first
  | (refine zA V5 7 rfl rfl rfl ?_; intro w7 g8 V9)
  | (refine zA V9 8 rfl rfl rfl ?_; intro w10 g11 V12)
  | (refine zL V12 1 rfl _ (.tmp 22) rfl rfl rfl R rfl rfl ?_; intro w13 V14)
  | (refine zL V14 0 rfl _ (.tmp 23) rfl rfl rfl sg rfl rfl ?_; intro w15 V16)
  | (refine zD V16 2 rfl 25 _ rfl rfl rfl rfl ?_))
 refine (HU1.out w15 (hd.of V16)).mono ?_
 rintro e w17 ⟨rfl, q19⟩
 have V18 := V16.call q19
 clear q19 V16
 go_wp2_with (first
  | (refine wpList_allocV V18 9 28 rfl rfl rfl (pA 0 0) zeroP ?_; intro w20 g21 V22)
  | (refine wpList_storeV V22 0 rfl _ (.tmp 27) rfl rfl rfl (pA kx ky) rfl rfl Tryz.szP (pA_size _ _) (pA_size _ _) (pA_one _ _) ?_; intro w23 V24)
  | (refine zD V24 2 rfl 30 _ rfl rfl rfl rfl ?_))
 refine (HU2.out w23 (hd.of V24)).mono ?_
 rintro e w25 ⟨rfl, q27⟩
 have V26 := V24.call q27
 clear q27 V24
 go_wp2_with (first
  | (refine wpList_allocV V26 11 28 rfl rfl rfl (pA 0 0) zeroP ?_; intro w28 g29 V30)
  | (refine wpList_storeV V30 0 rfl _ (.tmp 32) rfl rfl rfl (pA qx qy) rfl rfl Tryz.szP (pA_size _ _) (pA_size _ _) (pA_one _ _) ?_; intro w31 V32)
  | (refine zD V32 2 rfl 40 _ rfl rfl rfl rfl ?_))
 refine (HS.out w31 (ho.of V32)).mono ?_
 rintro e w33 ⟨rfl, q35⟩
 have V34 := V32.call q35
 clear q35 V32
 go_wp2_with fail
 refine av_open (fun w' => Vars w w' [⟨g29, 28, pA qx qy⟩, ⟨g21, 28, pA kx ky⟩, ⟨g11, 22, bA sg⟩, ⟨g8, 22, bA R⟩, ⟨g2, 22, bA pu⟩]) (by kernel_rfl) ?_
 have V36 := V34.drew
 apply av_once22 (Vg := fun ga gb w' => Vars w w' [⟨ga, 24, #[.slice (some ⟨g8, 0, none⟩) 32 32, .slice (some ⟨g2, 0, none⟩) 32 32, .slice pm lm km]⟩, ⟨gb, 22, bA 0⟩, ⟨g29, 28, pA qx qy⟩, ⟨g21, 28, pA kx ky⟩, ⟨g11, 22, bA sg⟩, ⟨g8, 22, bA R⟩, ⟨g2, 22, bA pu⟩])
 intro HC37
 apply av_once22 (Vg := fun ga gb w' => Vars w w' [⟨ga, 24, #[.slice (some ⟨g8, 0, none⟩) 32 32, .slice (some ⟨g2, 0, none⟩) 32 32, .slice pm lm km]⟩, ⟨gb, 22, bA 0⟩, ⟨g29, 28, pA qx qy⟩, ⟨g21, 28, pA kx ky⟩, ⟨g11, 22, bA sg⟩, ⟨g8, 22, bA R⟩, ⟨g2, 22, bA pu⟩])
 intro HC38
 refine zR [0, 1, 2] 4 (by kernel_rfl) (fun _ _ _ _ _ h => h) V36 fun K hK => ?_
 refine zC (.slice (some ⟨g8, 0, none⟩) 32 32) rfl (by rfl) (fun w' hw' => exec_sliceB hw' 3 rfl _ rfl rfl) ?_
 go_simp
 refine zC (.slice (some ⟨g2, 0, none⟩) 32 32) rfl (by rfl) (fun w' hw' => exec_sliceB hw' 4 rfl _ rfl rfl) ?_
 go_simp
 refine calm_move _ rfl (by rfl) rfl ?_
 go_simp
 refine calm_nil (hK.out _ ?_)
 clear hK K
 refine av_listed (L' := (tf 7 7)) (by kernel_rfl) ?_
 refine av_ops [3, 5] (fuel := 3) (by kernel_rfl) (List.cons_ne_nil _ _) ?_
 refine av_cons (tf 7 15) rfl (by rfl) (by kernel_rfl) (fun K hK => ?_) ?_
 refine wp_sliceX V36 46 63 3 _ rfl rfl 24 (#[.slice (some ⟨g8, 0, none⟩) 32 32, .slice (some ⟨g2, 0, none⟩) 32 32, .slice pm lm km]) (made_p3 _ _ _ _ _ _ _ _ _) (fun w39 g40 V41 => ?_)
 try go_simp
 refine hK _ _ (V41.tail) ?_
 clear hK K
 refine av_ops [4, 5] (fuel := 2) (by kernel_rfl) (List.cons_ne_nil _ _) ?_
 refine av_cons (tf 7 31) rfl (by rfl) (by kernel_rfl) (fun K hK => ?_) ?_
 go_simp
 refine (HN3.out w39 g40 g8 g2 (ho.of V41) V41.bel (V41.at 0 rfl) (V41.at 4 rfl) (V41.at 5 rfl)).mono ?_
 rintro e w42 ⟨rfl, q44⟩
 have V43 := V41.call q44
 try go_simp
 refine hK _ _ (V43.tail) ?_
 clear hK K q44
 refine av_ops [5] (fuel := 1) (by kernel_rfl) (List.cons_ne_nil _ _) ?_
 refine av_cons (tf 7 63) rfl (by rfl) (by kernel_rfl) (fun K hK => ?_) av_nil
 refine zN V43 13 rfl rfl (fun w45 g46 V47 => ?_)
 have V47m : Vars w w45 [⟨g40, 24, #[.slice (some ⟨g8, 0, none⟩) 32 32, .slice (some ⟨g2, 0, none⟩) 32 32, .slice pm lm km]⟩, ⟨g46, 22, bA 0⟩, ⟨g29, 28, pA qx qy⟩, ⟨g21, 28, pA kx ky⟩, ⟨g11, 22, bA sg⟩, ⟨g8, 22, bA R⟩, ⟨g2, 22, bA pu⟩] := V47.mv 1 (Nat.le_of_ble_eq_true rfl)
 try go_simp
 refine hK _ _ (V47m.tail.tail) ?_
 clear hK K
 exact HC37 g40 g46 w45 V47m
 refine av_cons (tf 7 47) rfl (by rfl) (by kernel_rfl) (fun K hK => ?_) av_nil
 refine zN V41 13 rfl rfl (fun w48 g49 V50 => ?_)
 have V50m : Vars w w48 [⟨g40, 24, #[.slice (some ⟨g8, 0, none⟩) 32 32, .slice (some ⟨g2, 0, none⟩) 32 32, .slice pm lm km]⟩, ⟨g49, 22, bA 0⟩, ⟨g29, 28, pA qx qy⟩, ⟨g21, 28, pA kx ky⟩, ⟨g11, 22, bA sg⟩, ⟨g8, 22, bA R⟩, ⟨g2, 22, bA pu⟩] := V50.mv 1 (Nat.le_of_ble_eq_true rfl)
 try go_simp
 refine hK _ _ (V50m.tail.tail) ?_
 clear hK K
 exact HC38 g40 g49 w48 V50m
 refine av_cons (tf 7 39) rfl (by rfl) (by kernel_rfl) (fun K hK => ?_) av_nil
 refine zN V36 13 rfl rfl (fun w51 g52 V53 => ?_)
 try go_simp
 refine hK _ _ (V53.tail) ?_
 clear hK K
 refine av_ops [3] (fuel := 2) (by kernel_rfl) (List.cons_ne_nil _ _) ?_
 refine av_cons (tf 7 47) rfl (by rfl) (by kernel_rfl) (fun K hK => ?_) av_nil
 refine wp_sliceX V53 46 63 3 _ rfl rfl 24 (#[.slice (some ⟨g8, 0, none⟩) 32 32, .slice (some ⟨g2, 0, none⟩) 32 32, .slice pm lm km]) (made_p3 _ _ _ _ _ _ _ _ _) (fun w54 g55 V56 => ?_)
 try go_simp
 refine hK _ _ (V56.tail.tail) ?_
 clear hK K
 exact HC38 g55 g52 w54 V56
 intro g57 g58 w59 V60
 refine av_ops [4] (fuel := 1) (by kernel_rfl) (List.cons_ne_nil _ _) ?_
 refine av_cons (tf 7 63) rfl (by rfl) (by kernel_rfl) (fun K hK => ?_) av_nil
 go_simp
 refine (HN3.out w59 g57 g8 g2 (ho.of V60) V60.bel (V60.at 0 rfl) (V60.at 5 rfl) (V60.at 6 rfl)).mono ?_
 rintro e w61 ⟨rfl, q63⟩
 have V62 := V60.call q63
 try go_simp
 refine hK _ _ (V62.tail.tail) ?_
 clear hK K q63
 exact HC37 g57 g58 w61 V62
 intro g64 g65 w66 V67
 refine av_ops [6] (fuel := 0) (by kernel_rfl) (List.cons_ne_nil _ _) ?_
 refine av_cons (tf 7 127) rfl (by rfl) (by kernel_rfl) (fun K hK => ?_) av_nil
 refine zS V67 1 rfl _ _ rfl rfl k rfl rfl (fun w68 V69 => ?_)
 refine hK _ _ (V69.tail.tail) ?_
 clear hK K
 refine wpAnyH_done (by kernel_rfl) ?_ _
 go_wp2_with fail
 refine av_open (fun w' => Vars w w' [⟨g64, 24, #[.slice (some ⟨g8, 0, none⟩) 32 32, .slice (some ⟨g2, 0, none⟩) 32 32, .slice pm lm km]⟩, ⟨g65, 22, bA k⟩, ⟨g29, 28, pA qx qy⟩, ⟨g21, 28, pA kx ky⟩, ⟨g11, 22, bA sg⟩, ⟨g8, 22, bA R⟩, ⟨g2, 22, bA pu⟩]) (by kernel_rfl) ?_
 have V70 := V69.drew
 apply av_once (Vg := fun g w' => Vars w w' [⟨g, 28, pA sx sy⟩, ⟨g64, 24, #[.slice (some ⟨g8, 0, none⟩) 32 32, .slice (some ⟨g2, 0, none⟩) 32 32, .slice pm lm km]⟩, ⟨g65, 22, bA k⟩, ⟨g29, 28, pA qx qy⟩, ⟨g21, 28, pA kx ky⟩, ⟨g11, 22, bA sg⟩, ⟨g8, 22, bA R⟩, ⟨g2, 22, bA pu⟩])
 ·intro HC71
  refine zR [0, 1, 2] 8 (by kernel_rfl) (fun _ _ _ _ _ h => h) V70 fun K hK => ?_
  refine zC (.agg (pA qx qy)) rfl (by rfl) (fun w' hw' => exec_loadS hw' 2 rfl _ rfl rfl Tryz.underlying28 Tryz.szP (pA_size _ _)) ?_
  go_simp
  refine zC (.agg (bA k)) rfl (by rfl) (fun w' hw' => zB hw' 1 rfl _ rfl rfl) ?_
  go_simp
  refine zC (.agg (pA kx ky)) rfl (by rfl) (fun w' hw' => exec_loadS hw' 3 rfl _ rfl rfl Tryz.underlying28 Tryz.szP (pA_size _ _)) ?_
  go_simp
  refine calm_nil (hK.out _ ?_)
  clear hK K
  refine zP 3 8 7 (by kernel_rfl) rfl (by rfl) rfl (by rfl) (fun K hK => ?_) (fun K hK => ?_)
  ·go_simp
   refine (HT.out w68.drew (hd.of V70)).mono ?_
   rintro e w72 ⟨rfl, q74⟩
   have V73 := V70.call q74
   refine hK _ _ (V73) ?_
   clear hK K q74
   refine zP 4 8 6 (by kernel_rfl) rfl (by rfl) rfl (by rfl) (fun K hK => ?_) (fun K hK => ?_)
   ·go_simp
    refine (HA.out w72 (hd.of V73)).mono ?_
    rintro e w75 ⟨rfl, q77⟩
    have V76 := V73.call q77
    refine hK _ _ (V76) ?_
    clear hK K q77
    refine zR [5, 6, 7] 3 (by kernel_rfl) (fun _ _ _ _ _ h => h) V76 fun K hK => ?_
    go_simp
    refine calm_move _ rfl (by rfl) rfl ?_
    go_simp
    refine zC (.agg (pA sx sy)) rfl (by rfl) (fun w' hw' => ?_) ?_
    ·go_simp
    go_simp
    refine zC (.int .i64 0) rfl (by rfl) (fun w' hw' => ?_) ?_
    ·go_simp
    go_simp
    refine calm_nil (hK.out _ ?_)
    clear hK K
    refine zO 8 2 (by kernel_rfl) rfl (by rfl) fun K hK => ?_
    refine wp_allocV V76 14 28 rfl rfl (pA 0 0) zeroP (fun w78 g79 V80 => ?_)
    refine hK _ _ (V80.tail) ?_
    clear hK K
    refine zO 9 1 (by kernel_rfl) rfl (by rfl) fun K hK => ?_
    refine wp_storeV V80 0 rfl _ _ rfl rfl (pA sx sy) rfl rfl Tryz.szP (pA_size _ _) (pA_size _ _) (pA_one _ _) (fun w81 V82 => ?_)
    refine hK _ _ (V82.tail) ?_
    clear hK K
    refine zR [10] 0 (by kernel_rfl) (fun _ _ _ _ _ h => h) (V82.tail) fun K hK => ?_
    go_simp
    refine calm_assign _ rfl (by rfl) rfl ?_
    go_simp
    refine calm_nil (hK.out _ ?_)
    clear hK K
    refine wpAnyH_done (by kernel_rfl) ?_ _
    exact HC71 g79 w81 V82
   ·refine wp_allocV V73 14 28 rfl rfl (pA 0 0) zeroP (fun w83 g84 V85 => ?_)
    refine hK _ _ (V85.tail) ?_
    clear hK K
    refine zO 4 5 (by kernel_rfl) rfl (by rfl) fun K hK => ?_
    go_simp
    refine (HA.out w83 (hd.of V85)).mono ?_
    rintro e w86 ⟨rfl, q88⟩
    have V87 := V85.call q88
    refine hK _ _ (V87.tail) ?_
    clear hK K q88
    refine zR [5, 6, 7] 2 (by kernel_rfl) (fun _ _ _ _ _ h => h) (V87.tail) fun K hK => ?_
    go_simp
    refine calm_move _ rfl (by rfl) rfl ?_
    go_simp
    refine zC (.agg (pA sx sy)) rfl (by rfl) (fun w' hw' => ?_) ?_
    ·go_simp
    go_simp
    refine zC (.int .i64 0) rfl (by rfl) (fun w' hw' => ?_) ?_
    ·go_simp
    go_simp
    refine calm_nil (hK.out _ ?_)
    clear hK K
    refine zO 9 1 (by kernel_rfl) rfl (by rfl) fun K hK => ?_
    refine wp_storeV V87 0 rfl _ _ rfl rfl (pA sx sy) rfl rfl Tryz.szP (pA_size _ _) (pA_size _ _) (pA_one _ _) (fun w89 V90 => ?_)
    refine hK _ _ (V90.tail) ?_
    clear hK K
    refine zR [10] 0 (by kernel_rfl) (fun _ _ _ _ _ h => h) (V90.tail) fun K hK => ?_
    go_simp
    refine calm_assign _ rfl (by rfl) rfl ?_
    go_simp
    refine calm_nil (hK.out _ ?_)
    clear hK K
    refine wpAnyH_done (by kernel_rfl) ?_ _
    exact HC71 g84 w89 V90
  ·refine wp_allocV V70 14 28 rfl rfl (pA 0 0) zeroP (fun w91 g92 V93 => ?_)
   refine hK _ _ (V93.tail) ?_
   clear hK K
   refine zO 3 6 (by kernel_rfl) rfl (by rfl) fun K hK => ?_
   go_simp
   refine (HT.out w91 (hd.of V93)).mono ?_
   rintro e w94 ⟨rfl, q96⟩
   have V95 := V93.call q96
   refine hK _ _ (V95.tail) ?_
   clear hK K q96
   refine zO 4 5 (by kernel_rfl) rfl (by rfl) fun K hK => ?_
   go_simp
   refine (HA.out w94 (hd.of V95)).mono ?_
   rintro e w97 ⟨rfl, q99⟩
   have V98 := V95.call q99
   refine hK _ _ (V98.tail) ?_
   clear hK K q99
   refine zR [5, 6, 7] 2 (by kernel_rfl) (fun _ _ _ _ _ h => h) (V98.tail) fun K hK => ?_
   go_simp
   refine calm_move _ rfl (by rfl) rfl ?_
   go_simp
   refine zC (.agg (pA sx sy)) rfl (by rfl) (fun w' hw' => ?_) ?_
   ·go_simp
   go_simp
   refine zC (.int .i64 0) rfl (by rfl) (fun w' hw' => ?_) ?_
   ·go_simp
   go_simp
   refine calm_nil (hK.out _ ?_)
   clear hK K
   refine zO 9 1 (by kernel_rfl) rfl (by rfl) fun K hK => ?_
   refine wp_storeV V98 0 rfl _ _ rfl rfl (pA sx sy) rfl rfl Tryz.szP (pA_size _ _) (pA_size _ _) (pA_one _ _) (fun w100 V101 => ?_)
   refine hK _ _ (V101.tail) ?_
   clear hK K
   refine zR [10] 0 (by kernel_rfl) (fun _ _ _ _ _ h => h) (V101.tail) fun K hK => ?_
   go_simp
   refine calm_assign _ rfl (by rfl) rfl ?_
   go_simp
   refine calm_nil (hK.out _ ?_)
   clear hK K
   refine wpAnyH_done (by kernel_rfl) ?_ _
   exact HC71 g92 w100 V101
 intro g92 w100 V101
 clear V70
 go_wp2_with fail
 refine av_open (fun w' => Vars w w' [⟨g92, 28, pA sx sy⟩, ⟨g64, 24, #[.slice (some ⟨g8, 0, none⟩) 32 32, .slice (some ⟨g2, 0, none⟩) 32 32, .slice pm lm km]⟩, ⟨g65, 22, bA k⟩, ⟨g29, 28, pA qx qy⟩, ⟨g21, 28, pA kx ky⟩, ⟨g11, 22, bA sg⟩, ⟨g8, 22, bA R⟩, ⟨g2, 22, bA pu⟩]) (by kernel_rfl) ?_
 have V102 := V101.drew
 refine zR [0, 3] 3 (by kernel_rfl) (fun _ _ _ _ _ h => h) V102 fun K hK => ?_
 refine zC (.agg (bA sg)) rfl (by rfl) (fun w' hw' => zB hw' 5 rfl _ rfl rfl) ?_
 go_simp
 refine zC (.agg (pA sx sy)) rfl (by rfl) (fun w' hw' => exec_loadS hw' 0 rfl _ rfl rfl Tryz.underlying28 Tryz.szP (pA_size _ _)) ?_
 go_simp
 refine calm_nil (hK.out _ ?_)
 clear hK K
 refine zO 1 2 (by kernel_rfl) rfl (by rfl) fun K hK => ?_
 go_simp
 refine (HB.out w100.drew (hd.of V102)).mono ?_
 rintro e w103 ⟨rfl, q105⟩
 have V104 := V102.call q105
 refine hK _ _ (V104) ?_
 clear hK K q105
 refine zO 2 1 (by kernel_rfl) rfl (by rfl) fun K hK => ?_
 go_simp
 refine (HL.out w103 (hd.of V104)).mono ?_
 rintro e w106 ⟨rfl, q108⟩
 have V107 := V104.call q108
 refine hK _ _ (V107) ?_
 clear hK K q108
 refine zR [4] 0 (by kernel_rfl) (fun _ _ _ _ _ h => h) V107 fun K hK => ?_
 go_simp
 refine zC (.bool true) rfl (by rfl) (fun w' hw' => exec_neqP _ _ rfl true _ _ _ _ HLL.out.2.2 rfl rfl HLL.out.1 HLL.out.2.1) ?_
 go_simp
 refine calm_nil (hK.out _ ?_)
 clear hK K
 refine wpAnyH_done (by kernel_rfl) ?_ _
 go_wp2_with fail
 go_ret
 exact ⟨rfl, V107.bel⟩
set_option maxHeartbeats 6400000 in
theorem verify_yes (pu R sg : Nat) (pm ps : Option Addr) (lm km ks : Nat) (kx ky qx qy : Nat) (k tx ty sx sy bx by9 lx ly : Nat) (w : World) (ho : OAt w) (hd : DAt w) (HH : Hid (∀ w', Below w.heap.size w w' → Rt Tryz.prog 41 #[.slice ps 64 ks] (.tuple #[.agg (bA R), .agg (bA sg)]) w')) (HU1 : Hid (∀ w, DAt w → Rt Tryz.prog 8 #[.agg (bA pu)] (.tuple #[.agg (pA kx ky), .int .i64 0]) w)) (HU2 : Hid (∀ w, DAt w → Rt Tryz.prog 8 #[.agg (bA R)] (.tuple #[.agg (pA qx qy), .int .i64 0]) w)) (HS : Hid (∀ w, OAt w → Rt Tryz.prog 19 #[.agg (bA sg)] (.bool true) w))
  (HN3 : Hid (∀ (w' : World) (g h i : Nat), OAt w' → Below w.heap.size w w' → w'.heap[g]? = some (.cells #[.slice (some ⟨h, 0, none⟩) 32 32, .slice (some ⟨i, 0, none⟩) 32 32, .slice pm lm km] 24 (0, 0)) → w'.heap[h]? = some (.cells (bA R) 22 (0, 0)) → w'.heap[i]? = some (.cells (bA pu) 22 (0, 0)) → Rt Tryz.prog 34 #[.slice (some ⟨g, 0, none⟩) 3 3] (.agg (bA k)) w'))
  (HT : Hid (∀ w, DAt w → Rt Tryz.prog 43 #[.agg (bA k), .agg (pA kx ky)] (.agg (pA tx ty)) w)) (HA : Hid (∀ w, DAt w → Rt Tryz.prog 42 #[.agg (pA qx qy), .agg (pA tx ty)] (.tuple #[.agg (pA sx sy), .int .i64 0]) w)) (HB : Hid (∀ w, DAt w → Rt Tryz.prog 13 #[] (.agg (pA bx by9)) w)) (HL : Hid (∀ w, DAt w → Rt Tryz.prog 43 #[.agg (bA sg), .agg (pA bx by9)] (.agg (pA lx ly)) w))
  (hs : sx < 2 ^ 256 ∧ sy < 2 ^ 256) (hl : lx < 2 ^ 256 ∧ ly < 2 ^ 256) (hb : (decide (lx = sx) && decide (ly = sy)) = !false) :
  Calls Tryz.prog 18 #[.agg (bA pu), .slice pm lm km, .slice ps 64 ks] w fun e w' => e = .returned (.int .i64 0) ∧ Below w.heap.size w w' := by
 have HLL : Hid ((lx < 2 ^ 256 ∧ ly < 2 ^ 256) ∧ (sx < 2 ^ 256 ∧ sy < 2 ^ 256) ∧ (decide (lx = sx) && decide (ly = sy)) = !false) := ⟨hl, hs, hb⟩
 clear hl hs hb
 have V0 := Vars.start w
 go_enter Tryz.func18, Tryz.ntmps18
 go_wp2_with (refine wpList_boxV V0 3 22 _ rfl rfl rfl (bA pu) rfl ?_; intro w1 g2 V3)
 refine (HH.out w1 V3.bel).mono ?_
 rintro e w4 ⟨rfl, q6⟩
 have V5 := V3.call q6
 clear q6 V3
 go_wp2_with (first
  | (refine zA V5 7 rfl rfl rfl ?_; intro w7 g8 V9)
  | (refine zA V9 8 rfl rfl rfl ?_; intro w10 g11 V12)
  | (refine zL V12 1 rfl _ (.tmp 22) rfl rfl rfl R rfl rfl ?_; intro w13 V14)
  | (refine zL V14 0 rfl _ (.tmp 23) rfl rfl rfl sg rfl rfl ?_; intro w15 V16)
  | (refine zD V16 2 rfl 25 _ rfl rfl rfl rfl ?_))
 refine (HU1.out w15 (hd.of V16)).mono ?_
 rintro e w17 ⟨rfl, q19⟩
 have V18 := V16.call q19
 clear q19 V16
 go_wp2_with (first
  | (refine wpList_allocV V18 9 28 rfl rfl rfl (pA 0 0) zeroP ?_; intro w20 g21 V22)
  | (refine wpList_storeV V22 0 rfl _ (.tmp 27) rfl rfl rfl (pA kx ky) rfl rfl Tryz.szP (pA_size _ _) (pA_size _ _) (pA_one _ _) ?_; intro w23 V24)
  | (refine zD V24 2 rfl 30 _ rfl rfl rfl rfl ?_))
 refine (HU2.out w23 (hd.of V24)).mono ?_
 rintro e w25 ⟨rfl, q27⟩
 have V26 := V24.call q27
 clear q27 V24
 go_wp2_with (first
  | (refine wpList_allocV V26 11 28 rfl rfl rfl (pA 0 0) zeroP ?_; intro w28 g29 V30)
  | (refine wpList_storeV V30 0 rfl _ (.tmp 32) rfl rfl rfl (pA qx qy) rfl rfl Tryz.szP (pA_size _ _) (pA_size _ _) (pA_one _ _) ?_; intro w31 V32)
  | (refine zD V32 2 rfl 40 _ rfl rfl rfl rfl ?_))
 refine (HS.out w31 (ho.of V32)).mono ?_
 rintro e w33 ⟨rfl, q35⟩
 have V34 := V32.call q35
 clear q35 V32
 go_wp2_with fail
 refine av_open (fun w' => Vars w w' [⟨g29, 28, pA qx qy⟩, ⟨g21, 28, pA kx ky⟩, ⟨g11, 22, bA sg⟩, ⟨g8, 22, bA R⟩, ⟨g2, 22, bA pu⟩]) (by kernel_rfl) ?_
 have V36 := V34.drew
 apply av_once22 (Vg := fun ga gb w' => Vars w w' [⟨ga, 24, #[.slice (some ⟨g8, 0, none⟩) 32 32, .slice (some ⟨g2, 0, none⟩) 32 32, .slice pm lm km]⟩, ⟨gb, 22, bA 0⟩, ⟨g29, 28, pA qx qy⟩, ⟨g21, 28, pA kx ky⟩, ⟨g11, 22, bA sg⟩, ⟨g8, 22, bA R⟩, ⟨g2, 22, bA pu⟩])
 intro HC37
 apply av_once22 (Vg := fun ga gb w' => Vars w w' [⟨ga, 24, #[.slice (some ⟨g8, 0, none⟩) 32 32, .slice (some ⟨g2, 0, none⟩) 32 32, .slice pm lm km]⟩, ⟨gb, 22, bA 0⟩, ⟨g29, 28, pA qx qy⟩, ⟨g21, 28, pA kx ky⟩, ⟨g11, 22, bA sg⟩, ⟨g8, 22, bA R⟩, ⟨g2, 22, bA pu⟩])
 intro HC38
 refine zR [0, 1, 2] 4 (by kernel_rfl) (fun _ _ _ _ _ h => h) V36 fun K hK => ?_
 refine zC (.slice (some ⟨g8, 0, none⟩) 32 32) rfl (by rfl) (fun w' hw' => exec_sliceB hw' 3 rfl _ rfl rfl) ?_
 go_simp
 refine zC (.slice (some ⟨g2, 0, none⟩) 32 32) rfl (by rfl) (fun w' hw' => exec_sliceB hw' 4 rfl _ rfl rfl) ?_
 go_simp
 refine calm_move _ rfl (by rfl) rfl ?_
 go_simp
 refine calm_nil (hK.out _ ?_)
 clear hK K
 refine av_listed (L' := (tf 7 7)) (by kernel_rfl) ?_
 refine av_ops [3, 5] (fuel := 3) (by kernel_rfl) (List.cons_ne_nil _ _) ?_
 refine av_cons (tf 7 15) rfl (by rfl) (by kernel_rfl) (fun K hK => ?_) ?_
 refine wp_sliceX V36 46 63 3 _ rfl rfl 24 (#[.slice (some ⟨g8, 0, none⟩) 32 32, .slice (some ⟨g2, 0, none⟩) 32 32, .slice pm lm km]) (made_p3 _ _ _ _ _ _ _ _ _) (fun w39 g40 V41 => ?_)
 try go_simp
 refine hK _ _ (V41.tail) ?_
 clear hK K
 refine av_ops [4, 5] (fuel := 2) (by kernel_rfl) (List.cons_ne_nil _ _) ?_
 refine av_cons (tf 7 31) rfl (by rfl) (by kernel_rfl) (fun K hK => ?_) ?_
 go_simp
 refine (HN3.out w39 g40 g8 g2 (ho.of V41) V41.bel (V41.at 0 rfl) (V41.at 4 rfl) (V41.at 5 rfl)).mono ?_
 rintro e w42 ⟨rfl, q44⟩
 have V43 := V41.call q44
 try go_simp
 refine hK _ _ (V43.tail) ?_
 clear hK K q44
 refine av_ops [5] (fuel := 1) (by kernel_rfl) (List.cons_ne_nil _ _) ?_
 refine av_cons (tf 7 63) rfl (by rfl) (by kernel_rfl) (fun K hK => ?_) av_nil
 refine zN V43 13 rfl rfl (fun w45 g46 V47 => ?_)
 have V47m : Vars w w45 [⟨g40, 24, #[.slice (some ⟨g8, 0, none⟩) 32 32, .slice (some ⟨g2, 0, none⟩) 32 32, .slice pm lm km]⟩, ⟨g46, 22, bA 0⟩, ⟨g29, 28, pA qx qy⟩, ⟨g21, 28, pA kx ky⟩, ⟨g11, 22, bA sg⟩, ⟨g8, 22, bA R⟩, ⟨g2, 22, bA pu⟩] := V47.mv 1 (Nat.le_of_ble_eq_true rfl)
 try go_simp
 refine hK _ _ (V47m.tail.tail) ?_
 clear hK K
 exact HC37 g40 g46 w45 V47m
 refine av_cons (tf 7 47) rfl (by rfl) (by kernel_rfl) (fun K hK => ?_) av_nil
 refine zN V41 13 rfl rfl (fun w48 g49 V50 => ?_)
 have V50m : Vars w w48 [⟨g40, 24, #[.slice (some ⟨g8, 0, none⟩) 32 32, .slice (some ⟨g2, 0, none⟩) 32 32, .slice pm lm km]⟩, ⟨g49, 22, bA 0⟩, ⟨g29, 28, pA qx qy⟩, ⟨g21, 28, pA kx ky⟩, ⟨g11, 22, bA sg⟩, ⟨g8, 22, bA R⟩, ⟨g2, 22, bA pu⟩] := V50.mv 1 (Nat.le_of_ble_eq_true rfl)
 try go_simp
 refine hK _ _ (V50m.tail.tail) ?_
 clear hK K
 exact HC38 g40 g49 w48 V50m
 refine av_cons (tf 7 39) rfl (by rfl) (by kernel_rfl) (fun K hK => ?_) av_nil
 refine zN V36 13 rfl rfl (fun w51 g52 V53 => ?_)
 try go_simp
 refine hK _ _ (V53.tail) ?_
 clear hK K
 refine av_ops [3] (fuel := 2) (by kernel_rfl) (List.cons_ne_nil _ _) ?_
 refine av_cons (tf 7 47) rfl (by rfl) (by kernel_rfl) (fun K hK => ?_) av_nil
 refine wp_sliceX V53 46 63 3 _ rfl rfl 24 (#[.slice (some ⟨g8, 0, none⟩) 32 32, .slice (some ⟨g2, 0, none⟩) 32 32, .slice pm lm km]) (made_p3 _ _ _ _ _ _ _ _ _) (fun w54 g55 V56 => ?_)
 try go_simp
 refine hK _ _ (V56.tail.tail) ?_
 clear hK K
 exact HC38 g55 g52 w54 V56
 intro g57 g58 w59 V60
 refine av_ops [4] (fuel := 1) (by kernel_rfl) (List.cons_ne_nil _ _) ?_
 refine av_cons (tf 7 63) rfl (by rfl) (by kernel_rfl) (fun K hK => ?_) av_nil
 go_simp
 refine (HN3.out w59 g57 g8 g2 (ho.of V60) V60.bel (V60.at 0 rfl) (V60.at 5 rfl) (V60.at 6 rfl)).mono ?_
 rintro e w61 ⟨rfl, q63⟩
 have V62 := V60.call q63
 try go_simp
 refine hK _ _ (V62.tail.tail) ?_
 clear hK K q63
 exact HC37 g57 g58 w61 V62
 intro g64 g65 w66 V67
 refine av_ops [6] (fuel := 0) (by kernel_rfl) (List.cons_ne_nil _ _) ?_
 refine av_cons (tf 7 127) rfl (by rfl) (by kernel_rfl) (fun K hK => ?_) av_nil
 refine zS V67 1 rfl _ _ rfl rfl k rfl rfl (fun w68 V69 => ?_)
 refine hK _ _ (V69.tail.tail) ?_
 clear hK K
 refine wpAnyH_done (by kernel_rfl) ?_ _
 go_wp2_with fail
 refine av_open (fun w' => Vars w w' [⟨g64, 24, #[.slice (some ⟨g8, 0, none⟩) 32 32, .slice (some ⟨g2, 0, none⟩) 32 32, .slice pm lm km]⟩, ⟨g65, 22, bA k⟩, ⟨g29, 28, pA qx qy⟩, ⟨g21, 28, pA kx ky⟩, ⟨g11, 22, bA sg⟩, ⟨g8, 22, bA R⟩, ⟨g2, 22, bA pu⟩]) (by kernel_rfl) ?_
 have V70 := V69.drew
 apply av_once (Vg := fun g w' => Vars w w' [⟨g, 28, pA sx sy⟩, ⟨g64, 24, #[.slice (some ⟨g8, 0, none⟩) 32 32, .slice (some ⟨g2, 0, none⟩) 32 32, .slice pm lm km]⟩, ⟨g65, 22, bA k⟩, ⟨g29, 28, pA qx qy⟩, ⟨g21, 28, pA kx ky⟩, ⟨g11, 22, bA sg⟩, ⟨g8, 22, bA R⟩, ⟨g2, 22, bA pu⟩])
 ·intro HC71
  refine zR [0, 1, 2] 8 (by kernel_rfl) (fun _ _ _ _ _ h => h) V70 fun K hK => ?_
  refine zC (.agg (pA qx qy)) rfl (by rfl) (fun w' hw' => exec_loadS hw' 2 rfl _ rfl rfl Tryz.underlying28 Tryz.szP (pA_size _ _)) ?_
  go_simp
  refine zC (.agg (bA k)) rfl (by rfl) (fun w' hw' => zB hw' 1 rfl _ rfl rfl) ?_
  go_simp
  refine zC (.agg (pA kx ky)) rfl (by rfl) (fun w' hw' => exec_loadS hw' 3 rfl _ rfl rfl Tryz.underlying28 Tryz.szP (pA_size _ _)) ?_
  go_simp
  refine calm_nil (hK.out _ ?_)
  clear hK K
  refine zP 3 8 7 (by kernel_rfl) rfl (by rfl) rfl (by rfl) (fun K hK => ?_) (fun K hK => ?_)
  ·go_simp
   refine (HT.out w68.drew (hd.of V70)).mono ?_
   rintro e w72 ⟨rfl, q74⟩
   have V73 := V70.call q74
   refine hK _ _ (V73) ?_
   clear hK K q74
   refine zP 4 8 6 (by kernel_rfl) rfl (by rfl) rfl (by rfl) (fun K hK => ?_) (fun K hK => ?_)
   ·go_simp
    refine (HA.out w72 (hd.of V73)).mono ?_
    rintro e w75 ⟨rfl, q77⟩
    have V76 := V73.call q77
    refine hK _ _ (V76) ?_
    clear hK K q77
    refine zR [5, 6, 7] 3 (by kernel_rfl) (fun _ _ _ _ _ h => h) V76 fun K hK => ?_
    go_simp
    refine calm_move _ rfl (by rfl) rfl ?_
    go_simp
    refine zC (.agg (pA sx sy)) rfl (by rfl) (fun w' hw' => ?_) ?_
    ·go_simp
    go_simp
    refine zC (.int .i64 0) rfl (by rfl) (fun w' hw' => ?_) ?_
    ·go_simp
    go_simp
    refine calm_nil (hK.out _ ?_)
    clear hK K
    refine zO 8 2 (by kernel_rfl) rfl (by rfl) fun K hK => ?_
    refine wp_allocV V76 14 28 rfl rfl (pA 0 0) zeroP (fun w78 g79 V80 => ?_)
    refine hK _ _ (V80.tail) ?_
    clear hK K
    refine zO 9 1 (by kernel_rfl) rfl (by rfl) fun K hK => ?_
    refine wp_storeV V80 0 rfl _ _ rfl rfl (pA sx sy) rfl rfl Tryz.szP (pA_size _ _) (pA_size _ _) (pA_one _ _) (fun w81 V82 => ?_)
    refine hK _ _ (V82.tail) ?_
    clear hK K
    refine zR [10] 0 (by kernel_rfl) (fun _ _ _ _ _ h => h) (V82.tail) fun K hK => ?_
    go_simp
    refine calm_assign _ rfl (by rfl) rfl ?_
    go_simp
    refine calm_nil (hK.out _ ?_)
    clear hK K
    refine wpAnyH_done (by kernel_rfl) ?_ _
    exact HC71 g79 w81 V82
   ·refine wp_allocV V73 14 28 rfl rfl (pA 0 0) zeroP (fun w83 g84 V85 => ?_)
    refine hK _ _ (V85.tail) ?_
    clear hK K
    refine zO 4 5 (by kernel_rfl) rfl (by rfl) fun K hK => ?_
    go_simp
    refine (HA.out w83 (hd.of V85)).mono ?_
    rintro e w86 ⟨rfl, q88⟩
    have V87 := V85.call q88
    refine hK _ _ (V87.tail) ?_
    clear hK K q88
    refine zR [5, 6, 7] 2 (by kernel_rfl) (fun _ _ _ _ _ h => h) (V87.tail) fun K hK => ?_
    go_simp
    refine calm_move _ rfl (by rfl) rfl ?_
    go_simp
    refine zC (.agg (pA sx sy)) rfl (by rfl) (fun w' hw' => ?_) ?_
    ·go_simp
    go_simp
    refine zC (.int .i64 0) rfl (by rfl) (fun w' hw' => ?_) ?_
    ·go_simp
    go_simp
    refine calm_nil (hK.out _ ?_)
    clear hK K
    refine zO 9 1 (by kernel_rfl) rfl (by rfl) fun K hK => ?_
    refine wp_storeV V87 0 rfl _ _ rfl rfl (pA sx sy) rfl rfl Tryz.szP (pA_size _ _) (pA_size _ _) (pA_one _ _) (fun w89 V90 => ?_)
    refine hK _ _ (V90.tail) ?_
    clear hK K
    refine zR [10] 0 (by kernel_rfl) (fun _ _ _ _ _ h => h) (V90.tail) fun K hK => ?_
    go_simp
    refine calm_assign _ rfl (by rfl) rfl ?_
    go_simp
    refine calm_nil (hK.out _ ?_)
    clear hK K
    refine wpAnyH_done (by kernel_rfl) ?_ _
    exact HC71 g84 w89 V90
  ·refine wp_allocV V70 14 28 rfl rfl (pA 0 0) zeroP (fun w91 g92 V93 => ?_)
   refine hK _ _ (V93.tail) ?_
   clear hK K
   refine zO 3 6 (by kernel_rfl) rfl (by rfl) fun K hK => ?_
   go_simp
   refine (HT.out w91 (hd.of V93)).mono ?_
   rintro e w94 ⟨rfl, q96⟩
   have V95 := V93.call q96
   refine hK _ _ (V95.tail) ?_
   clear hK K q96
   refine zO 4 5 (by kernel_rfl) rfl (by rfl) fun K hK => ?_
   go_simp
   refine (HA.out w94 (hd.of V95)).mono ?_
   rintro e w97 ⟨rfl, q99⟩
   have V98 := V95.call q99
   refine hK _ _ (V98.tail) ?_
   clear hK K q99
   refine zR [5, 6, 7] 2 (by kernel_rfl) (fun _ _ _ _ _ h => h) (V98.tail) fun K hK => ?_
   go_simp
   refine calm_move _ rfl (by rfl) rfl ?_
   go_simp
   refine zC (.agg (pA sx sy)) rfl (by rfl) (fun w' hw' => ?_) ?_
   ·go_simp
   go_simp
   refine zC (.int .i64 0) rfl (by rfl) (fun w' hw' => ?_) ?_
   ·go_simp
   go_simp
   refine calm_nil (hK.out _ ?_)
   clear hK K
   refine zO 9 1 (by kernel_rfl) rfl (by rfl) fun K hK => ?_
   refine wp_storeV V98 0 rfl _ _ rfl rfl (pA sx sy) rfl rfl Tryz.szP (pA_size _ _) (pA_size _ _) (pA_one _ _) (fun w100 V101 => ?_)
   refine hK _ _ (V101.tail) ?_
   clear hK K
   refine zR [10] 0 (by kernel_rfl) (fun _ _ _ _ _ h => h) (V101.tail) fun K hK => ?_
   go_simp
   refine calm_assign _ rfl (by rfl) rfl ?_
   go_simp
   refine calm_nil (hK.out _ ?_)
   clear hK K
   refine wpAnyH_done (by kernel_rfl) ?_ _
   exact HC71 g92 w100 V101
 intro g92 w100 V101
 clear V70
 go_wp2_with fail
 refine av_open (fun w' => Vars w w' [⟨g92, 28, pA sx sy⟩, ⟨g64, 24, #[.slice (some ⟨g8, 0, none⟩) 32 32, .slice (some ⟨g2, 0, none⟩) 32 32, .slice pm lm km]⟩, ⟨g65, 22, bA k⟩, ⟨g29, 28, pA qx qy⟩, ⟨g21, 28, pA kx ky⟩, ⟨g11, 22, bA sg⟩, ⟨g8, 22, bA R⟩, ⟨g2, 22, bA pu⟩]) (by kernel_rfl) ?_
 have V102 := V101.drew
 refine zR [0, 3] 3 (by kernel_rfl) (fun _ _ _ _ _ h => h) V102 fun K hK => ?_
 refine zC (.agg (bA sg)) rfl (by rfl) (fun w' hw' => zB hw' 5 rfl _ rfl rfl) ?_
 go_simp
 refine zC (.agg (pA sx sy)) rfl (by rfl) (fun w' hw' => exec_loadS hw' 0 rfl _ rfl rfl Tryz.underlying28 Tryz.szP (pA_size _ _)) ?_
 go_simp
 refine calm_nil (hK.out _ ?_)
 clear hK K
 refine zO 1 2 (by kernel_rfl) rfl (by rfl) fun K hK => ?_
 go_simp
 refine (HB.out w100.drew (hd.of V102)).mono ?_
 rintro e w103 ⟨rfl, q105⟩
 have V104 := V102.call q105
 refine hK _ _ (V104) ?_
 clear hK K q105
 refine zO 2 1 (by kernel_rfl) rfl (by rfl) fun K hK => ?_
 go_simp
 refine (HL.out w103 (hd.of V104)).mono ?_
 rintro e w106 ⟨rfl, q108⟩
 have V107 := V104.call q108
 refine hK _ _ (V107) ?_
 clear hK K q108
 refine zR [4] 0 (by kernel_rfl) (fun _ _ _ _ _ h => h) V107 fun K hK => ?_
 go_simp
 refine zC (.bool false) rfl (by rfl) (fun w' hw' => exec_neqP _ _ rfl false _ _ _ _ HLL.out.2.2 rfl rfl HLL.out.1 HLL.out.2.1) ?_
 go_simp
 refine calm_nil (hK.out _ ?_)
 clear hK K
 refine wpAnyH_done (by kernel_rfl) ?_ _
 go_wp2_with fail
 go_ret
 exact ⟨rfl, V107.bel⟩
theorem verify_halves {R sg : Nat} (hR : R < 2 ^ 256) (hs : sg < 2 ^ 256) {ps : Option Addr} {ks : Nat} {w : World} (hr : Row .u8 w ps 64 ks (nI (digL (R + 2 ^ 256 * sg) 64))) : ∀ w', Below w.heap.size w w' → Calls Tryz.prog 41 #[.slice ps 64 ks] w' fun e w'' => e = .returned (.tuple #[.agg (bA R), .agg (bA sg)]) ∧ Below w'.heap.size w' w'' := fun w' q => by
 have h := halves_any _ (two_lt hR hs) ps ks w' (hr.below q (Nat.le_refl _))
 rw [two_low hR, two_high hR] at h
 exact h
theorem unp_some {v : Nat} (hv : v < 2 ^ 256) : ∃ (x y : Nat) (r : Int), ∀ w, DAt w → Calls Tryz.prog 8 #[.agg (bA v)] w fun e w' => e = .returned (.tuple #[.agg (pA x y), .int .i64 r]) ∧ Below w.heap.size w w' := by
 by_cases h : ∃ p, OnC p ∧ packN p = v
 ·obtain ⟨p, hp, rfl⟩ := h
  exact ⟨p.x.val, p.y.val, 0, fun w hd => cUnpack_yes hp w hd⟩
 ·exact ⟨0, 0, 170, fun w hd => cUnpack_no hv (fun p hp e => h ⟨p, hp, e⟩) w hd⟩
theorem verify_three {R pu : Nat} {m : List Nat} (dm : Dig m) {pm : Option Addr} {lm km : Nat} {w : World} (hm : Row .u8 w pm lm km (nI m)) (hl : lm ≤ 10000) : ∀ (w' : World) (g h i : Nat), OAt w' → Below w.heap.size w w' → w'.heap[g]? = some (.cells #[.slice (some ⟨h, 0, none⟩) 32 32, .slice (some ⟨i, 0, none⟩) 32 32, .slice pm lm km] 24 (0, 0)) → w'.heap[h]? = some (.cells (bA R) 22 (0, 0)) → w'.heap[i]? = some (.cells (bA pu) 22 (0, 0)) → Calls Tryz.prog 34 #[.slice (some ⟨g, 0, none⟩) 3 3] w' fun e w'' => e = .returned (.agg (bA (kN R pu m))) ∧ Below w'.heap.size w' w'' := fun w' g h i ho q hg hh hi => by
 have hml : m.length = lm := by have := hm.hlen; rwa [nI_length] at this
 have l32 := fun x => digL_length x 32
 exact number_three (digL_dig _ _) (digL_dig _ _) dm (by rw [l32, l32]; omega) ho hg (row_bA hh) (row_bA hi) (hm.below q (Nat.le_refl _))
theorem verify_bad {pu R sg : Nat} (hpu : pu < 2 ^ 256) (hR : R < 2 ^ 256) (hs : sg < 2 ^ 256) (h : (∀ p, OnC p → packN p ≠ pu) ∨ (∀ p, OnC p → packN p ≠ R)) (pm ps : Option Addr) (lm km ks : Nat) (w : World) (hd : DAt w) (hr : Row .u8 w ps 64 ks (nI (digL (R + 2 ^ 256 * sg) 64))) :
  Calls Tryz.prog 18 #[.agg (bA pu), .slice pm lm km, .slice ps 64 ks] w fun e w' => e = .returned (.int .i64 170) ∧ Below w.heap.size w w' := by
 by_cases h1 : ∃ p, OnC p ∧ packN p = pu
 ·obtain ⟨A, hA, rfl⟩ := h1
  have h2 : ∀ p, OnC p → packN p ≠ R := h.resolve_left (fun h => h A hA rfl)
  exact verify_pt2 _ R sg pm ps lm km ks _ _ 0 0 w hd (verify_halves hR hs hr) (fun w hd => cUnpack_yes hA w hd) (fun w hd => cUnpack_no hR h2 w hd)
 ·obtain ⟨x, y, e, hu⟩ := unp_some hR
  exact verify_pt1 pu R sg pm ps lm km ks 0 0 x y e w hd (verify_halves hR hs hr) (fun w hd => cUnpack_no hpu (fun p hp e => h1 ⟨p, hp, e⟩) w hd) hu
theorem verify_big {A Q : Pt} (hA : OnC A) (hQ : OnC Q) {sg : Nat} (hs : sg < 2 ^ 256) (hn : ¬ sg < oL) (pm ps : Option Addr) (lm km ks : Nat) (w : World) (ho : OAt w) (hd : DAt w) (hr : Row .u8 w ps 64 ks (nI (digL (packN Q + 2 ^ 256 * sg) 64))) :
  Calls Tryz.prog 18 #[.agg (bA (packN A)), .slice pm lm km, .slice ps 64 ks] w fun e w' => e = .returned (.int .i64 191) ∧ Below w.heap.size w w' := by
 exact verify_is _ _ sg pm ps lm km ks _ _ _ _ w ho hd (verify_halves (packN_lt _) hs hr) (fun w hd => cUnpack_yes hA w hd) (fun w hd => cUnpack_yes hQ w hd) (fun w ho => by have h := is18_any sg w ho hs; rwa [decide_eq_false hn] at h)
theorem edpt256 (p : Pt) : p.x.val < 2 ^ 256 ∧ p.y.val < 2 ^ 256 := ⟨elt256 p.x.isLt, elt256 p.y.isLt⟩
theorem edpt_ne {p q : Pt} (h : p ≠ q) : (decide (p.x.val = q.x.val) && decide (p.y.val = q.y.val)) = false := by
 rw [Bool.eq_false_iff]
 intro e
 rw [Bool.and_eq_true, decide_eq_true_iff, decide_eq_true_iff] at e
 exact h (Pt.ext (Fin.ext e.1) (Fin.ext e.2))
theorem verify_hold {A Q : Pt} (hA : OnC A) (hQ : OnC Q) {sg : Nat} (hn : sg < oL) (m : List Nat) (dm : Dig m) (he : ptimes sg pbase = psum Q (ptimes (kN (packN Q) (packN A) m) A)) (pm ps : Option Addr) (lm km ks : Nat) (w : World) (ho : OAt w) (hd : DAt w) (hm : Row .u8 w pm lm km (nI m)) (hl : lm ≤ 10000) (hr : Row .u8 w ps 64 ks (nI (digL (packN Q + 2 ^ 256 * sg) 64))) :
  Calls Tryz.prog 18 #[.agg (bA (packN A)), .slice pm lm km, .slice ps 64 ks] w fun e w' => e = .returned (.int .i64 0) ∧ Below w.heap.size w w' := by
 have hs : sg < 2 ^ 256 := Nat.lt_trans hn oL_lt256
 have hk : kN (packN Q) (packN A) m < 2 ^ 256 := numN_lt256 _
 refine verify_yes (packN A) (packN Q) sg pm ps lm km ks A.x.val A.y.val Q.x.val Q.y.val (kN (packN Q) (packN A) m) _ _ _ _ pbase.x.val pbase.y.val _ _ w ho hd (verify_halves (packN_lt _) hs hr) (fun w hd => cUnpack_yes hA w hd) (fun w hd => cUnpack_yes hQ w hd) (fun w ho => ?_) (verify_three dm hm hl) (fun w hd => timesE_any _ hk hA w hd) (fun w hd => cAdd_yes hQ (ptimes_on hA _) w hd) base_any (fun w hd => timesE_any sg hs pbase_on w hd) (edpt256 _) (edpt256 _) ?_
 ·have h := is18_any sg w ho hs
  rwa [decide_eq_true hn] at h
 ·exact by rw [he]; simp
theorem verify_fail {A Q : Pt} (hA : OnC A) (hQ : OnC Q) {sg : Nat} (hn : sg < oL) (m : List Nat) (dm : Dig m) (he : ptimes sg pbase ≠ psum Q (ptimes (kN (packN Q) (packN A) m) A)) (pm ps : Option Addr) (lm km ks : Nat) (w : World) (ho : OAt w) (hd : DAt w) (hm : Row .u8 w pm lm km (nI m)) (hl : lm ≤ 10000) (hr : Row .u8 w ps 64 ks (nI (digL (packN Q + 2 ^ 256 * sg) 64))) :
  Calls Tryz.prog 18 #[.agg (bA (packN A)), .slice pm lm km, .slice ps 64 ks] w fun e w' => e = .returned (.int .i64 191) ∧ Below w.heap.size w w' := by
 have hs : sg < 2 ^ 256 := Nat.lt_trans hn oL_lt256
 have hk : kN (packN Q) (packN A) m < 2 ^ 256 := numN_lt256 _
 refine verify_no (packN A) (packN Q) sg pm ps lm km ks A.x.val A.y.val Q.x.val Q.y.val (kN (packN Q) (packN A) m) _ _ _ _ pbase.x.val pbase.y.val _ _ w ho hd (verify_halves (packN_lt _) hs hr) (fun w hd => cUnpack_yes hA w hd) (fun w hd => cUnpack_yes hQ w hd) (fun w ho => ?_) (verify_three dm hm hl) (fun w hd => timesE_any _ hk hA w hd) (fun w hd => cAdd_yes hQ (ptimes_on hA _) w hd) base_any (fun w hd => timesE_any sg hs pbase_on w hd) (edpt256 _) (edpt256 _) ?_
 ·have h := is18_any sg w ho hs
  rwa [decide_eq_true hn] at h
 ·exact edpt_ne he
end Go.Proofs.YthangiocheodoaaGreatDoor.N
