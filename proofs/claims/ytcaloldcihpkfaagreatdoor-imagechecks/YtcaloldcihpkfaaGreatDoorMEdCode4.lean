/-
 The code of layer 19 (ed), as it landed: Verify.
-/
import Derived.Test.YtcaloldcihpkfaaGreatDoorMPackFb
import Derived.Test.YtcaloldcihpkfaaGreatDoorMEdCode3
namespace Go.Proofs.YtcaloldcihpkfaaGreatDoor.N
open Go.RowKit
set_option linter.unusedVariables false
set_option maxRecDepth 8192

set_option maxHeartbeats 1600000 in
theorem Zt8 (pu R sg:Nat) (pm ps:Option Addr) (lm km ks:Nat) (kx ky qx qy:Nat) (e2:Int) (w:World) (hd:DAt w) (HH:Hid (∀w',Below w.heap.size w w'→Rt Tryz.prog 31 #[.slice ps 64 ks] (.tuple #[.agg (bA R), .agg (bA sg)]) w')) (HU1:Hid (∀w,DAt w→Rt Tryz.prog 32 #[.agg (bA pu)] (.tuple #[.agg (pA kx ky), .int .i64 170]) w)) (HU2:Hid (∀w,DAt w→Rt Tryz.prog 32 #[.agg (bA R)] (.tuple #[.agg (pA qx qy), .int .i64 e2]) w)):Calls Tryz.prog 13 #[.agg (bA pu), .slice pm lm km, .slice ps 64 ks] w fun e w'=>e= .returned (.int .i64 170)∧Below w.heap.size w w':=by
 have V0:=Vars.start w
 go_enter Tryz.func13,Tryz.ntmps13
 go_wp2_with (refine Zaj V0 3 22 _ rfl rfl rfl (bA pu) rfl ?_;intro w1 g2 V3)
 refine (HH.out w1 V3.bel).mono ?_
 rintro e w4 ⟨rfl,q6⟩
 have V5:=V3.call q6
 clear q6 V3
 go_wp2_with (first
  | (refine zA V5 7 rfl rfl rfl ?_;intro w7 g8 V9)
  | (refine zA V9 8 rfl rfl rfl ?_;intro w10 g11 V12)
  | (refine zL V12 1 rfl _ (.tmp 22) rfl rfl rfl R rfl rfl ?_;intro w13 V14)
  | (refine zL V14 0 rfl _ (.tmp 23) rfl rfl rfl sg rfl rfl ?_;intro w15 V16)
  | (refine zD V16 2 rfl 25 _ rfl rfl rfl rfl ?_))
 refine (HU1.out w15 (hd.of V16)).mono ?_
 rintro e w17 ⟨rfl,q19⟩
 have V18:=V16.call q19
 clear q19 V16
 go_wp2_with (first
  | (refine Zai V18 9 76 rfl rfl rfl (pA 0 0) Za7 ?_;intro w20 g21 V22)
  | (refine Zal V22 0 rfl _ (.tmp 27) rfl rfl rfl (pA kx ky) rfl rfl Tryz.szP (Zak _ _) (Zak _ _) (Za6 _ _) ?_;intro w23 V24)
  | (refine zD V24 2 rfl 30 _ rfl rfl rfl rfl ?_))
 refine (HU2.out w23 (hd.of V24)).mono ?_
 rintro e w25 ⟨rfl,q27⟩
 have V26:=V24.call q27
 clear q27 V24
 go_wp2_with (first
  | (refine Zai V26 11 76 rfl rfl rfl (pA 0 0) Za7 ?_;intro w28 g29 V30)
  | (refine Zal V30 0 rfl _ (.tmp 32) rfl rfl rfl (pA qx qy) rfl rfl Tryz.szP (Zak _ _) (Zak _ _) (Za6 _ _) ?_;intro w31 V32))
 go_ret
 exact ⟨rfl,V32.bel⟩
set_option maxHeartbeats 1600000 in
theorem Zt9 (pu R sg:Nat) (pm ps:Option Addr) (lm km ks:Nat) (kx ky qx qy:Nat) (w:World) (hd:DAt w) (HH:Hid (∀w',Below w.heap.size w w'→Rt Tryz.prog 31 #[.slice ps 64 ks] (.tuple #[.agg (bA R), .agg (bA sg)]) w')) (HU1:Hid (∀w,DAt w→Rt Tryz.prog 32 #[.agg (bA pu)] (.tuple #[.agg (pA kx ky), .int .i64 0]) w)) (HU2:Hid (∀w,DAt w→Rt Tryz.prog 32 #[.agg (bA R)] (.tuple #[.agg (pA qx qy), .int .i64 170]) w)):Calls Tryz.prog 13 #[.agg (bA pu), .slice pm lm km, .slice ps 64 ks] w fun e w'=>e= .returned (.int .i64 170)∧Below w.heap.size w w':=by
 have V0:=Vars.start w
 go_enter Tryz.func13,Tryz.ntmps13
 go_wp2_with (refine Zaj V0 3 22 _ rfl rfl rfl (bA pu) rfl ?_;intro w1 g2 V3)
 refine (HH.out w1 V3.bel).mono ?_
 rintro e w4 ⟨rfl,q6⟩
 have V5:=V3.call q6
 clear q6 V3
 go_wp2_with (first
  | (refine zA V5 7 rfl rfl rfl ?_;intro w7 g8 V9)
  | (refine zA V9 8 rfl rfl rfl ?_;intro w10 g11 V12)
  | (refine zL V12 1 rfl _ (.tmp 22) rfl rfl rfl R rfl rfl ?_;intro w13 V14)
  | (refine zL V14 0 rfl _ (.tmp 23) rfl rfl rfl sg rfl rfl ?_;intro w15 V16)
  | (refine zD V16 2 rfl 25 _ rfl rfl rfl rfl ?_))
 refine (HU1.out w15 (hd.of V16)).mono ?_
 rintro e w17 ⟨rfl,q19⟩
 have V18:=V16.call q19
 clear q19 V16
 go_wp2_with (first
  | (refine Zai V18 9 76 rfl rfl rfl (pA 0 0) Za7 ?_;intro w20 g21 V22)
  | (refine Zal V22 0 rfl _ (.tmp 27) rfl rfl rfl (pA kx ky) rfl rfl Tryz.szP (Zak _ _) (Zak _ _) (Za6 _ _) ?_;intro w23 V24)
  | (refine zD V24 2 rfl 30 _ rfl rfl rfl rfl ?_))
 refine (HU2.out w23 (hd.of V24)).mono ?_
 rintro e w25 ⟨rfl,q27⟩
 have V26:=V24.call q27
 clear q27 V24
 go_wp2_with (first
  | (refine Zai V26 11 76 rfl rfl rfl (pA 0 0) Za7 ?_;intro w28 g29 V30)
  | (refine Zal V30 0 rfl _ (.tmp 32) rfl rfl rfl (pA qx qy) rfl rfl Tryz.szP (Zak _ _) (Zak _ _) (Za6 _ _) ?_;intro w31 V32))
 go_ret
 exact ⟨rfl,V32.bel⟩
set_option maxHeartbeats 1600000 in
theorem Zua (pu R sg:Nat) (pm ps:Option Addr) (lm km ks:Nat) (kx ky qx qy:Nat) (w:World) (ho:OAt w) (hd:DAt w) (HH:Hid (∀w',Below w.heap.size w w'→Rt Tryz.prog 31 #[.slice ps 64 ks] (.tuple #[.agg (bA R), .agg (bA sg)]) w')) (HU1:Hid (∀w,DAt w→Rt Tryz.prog 32 #[.agg (bA pu)] (.tuple #[.agg (pA kx ky), .int .i64 0]) w)) (HU2:Hid (∀w,DAt w→Rt Tryz.prog 32 #[.agg (bA R)] (.tuple #[.agg (pA qx qy), .int .i64 0]) w)) (HS:Hid (∀w,OAt w→Rt Tryz.prog 33 #[.agg (bA sg)] (.bool false) w)):Calls Tryz.prog 13 #[.agg (bA pu), .slice pm lm km, .slice ps 64 ks] w fun e w'=>e= .returned (.int .i64 191)∧Below w.heap.size w w':=by
 have V0:=Vars.start w
 go_enter Tryz.func13,Tryz.ntmps13
 go_wp2_with (refine Zaj V0 3 22 _ rfl rfl rfl (bA pu) rfl ?_;intro w1 g2 V3)
 refine (HH.out w1 V3.bel).mono ?_
 rintro e w4 ⟨rfl,q6⟩
 have V5:=V3.call q6
 clear q6 V3
 go_wp2_with (first
  | (refine zA V5 7 rfl rfl rfl ?_;intro w7 g8 V9)
  | (refine zA V9 8 rfl rfl rfl ?_;intro w10 g11 V12)
  | (refine zL V12 1 rfl _ (.tmp 22) rfl rfl rfl R rfl rfl ?_;intro w13 V14)
  | (refine zL V14 0 rfl _ (.tmp 23) rfl rfl rfl sg rfl rfl ?_;intro w15 V16)
  | (refine zD V16 2 rfl 25 _ rfl rfl rfl rfl ?_))
 refine (HU1.out w15 (hd.of V16)).mono ?_
 rintro e w17 ⟨rfl,q19⟩
 have V18:=V16.call q19
 clear q19 V16
 go_wp2_with (first
  | (refine Zai V18 9 76 rfl rfl rfl (pA 0 0) Za7 ?_;intro w20 g21 V22)
  | (refine Zal V22 0 rfl _ (.tmp 27) rfl rfl rfl (pA kx ky) rfl rfl Tryz.szP (Zak _ _) (Zak _ _) (Za6 _ _) ?_;intro w23 V24)
  | (refine zD V24 2 rfl 30 _ rfl rfl rfl rfl ?_))
 refine (HU2.out w23 (hd.of V24)).mono ?_
 rintro e w25 ⟨rfl,q27⟩
 have V26:=V24.call q27
 clear q27 V24
 go_wp2_with (first
  | (refine Zai V26 11 76 rfl rfl rfl (pA 0 0) Za7 ?_;intro w28 g29 V30)
  | (refine Zal V30 0 rfl _ (.tmp 32) rfl rfl rfl (pA qx qy) rfl rfl Tryz.szP (Zak _ _) (Zak _ _) (Za6 _ _) ?_;intro w31 V32)
  | (refine zD V32 2 rfl 40 _ rfl rfl rfl rfl ?_))
 refine (HS.out w31 (ho.of V32)).mono ?_
 rintro e w33 ⟨rfl,q35⟩
 have V34:=V32.call q35
 clear q35 V32
 go_wp2_with fail
 go_ret
 exact ⟨rfl,V34.bel⟩
set_option maxHeartbeats 6400000 in
theorem Zub (pu R sg:Nat) (pm ps:Option Addr) (lm km ks:Nat) (kx ky qx qy:Nat) (k tx ty sx sy bx by9 lx ly:Nat) (w:World) (ho:OAt w) (hd:DAt w) (HH:Hid (∀w',Below w.heap.size w w'→Rt Tryz.prog 31 #[.slice ps 64 ks] (.tuple #[.agg (bA R), .agg (bA sg)]) w')) (HU1:Hid (∀w,DAt w→Rt Tryz.prog 32 #[.agg (bA pu)] (.tuple #[.agg (pA kx ky), .int .i64 0]) w)) (HU2:Hid (∀w,DAt w→Rt Tryz.prog 32 #[.agg (bA R)] (.tuple #[.agg (pA qx qy), .int .i64 0]) w)) (HS:Hid (∀w,OAt w→Rt Tryz.prog 33 #[.agg (bA sg)] (.bool true) w))
  (HN3:Hid (∀(w':World) (g h i:Nat),OAt w'→Below w.heap.size w w'→w'.heap[g]? =some (.cells #[.slice (some ⟨h,0,none⟩) 32 32, .slice (some ⟨i,0,none⟩) 32 32, .slice pm lm km] 28 (0,0))→w'.heap[h]? =some (.cells (bA R) 22 (0,0))→w'.heap[i]? =some (.cells (bA pu) 22 (0,0))→Rt Tryz.prog 34 #[.slice (some ⟨g,0,none⟩) 3 3] (.agg (bA k)) w'))
  (HT:Hid (∀w,DAt w→Rt Tryz.prog 36 #[.agg (bA k), .agg (pA kx ky)] (.agg (pA tx ty)) w)) (HA:Hid (∀w,DAt w→Rt Tryz.prog 35 #[.agg (pA qx qy), .agg (pA tx ty)] (.tuple #[.agg (pA sx sy), .int .i64 0]) w)) (HB:Hid (∀w,DAt w→Rt Tryz.prog 37 #[] (.agg (pA bx by9)) w)) (HL:Hid (∀w,DAt w→Rt Tryz.prog 36 #[.agg (bA sg), .agg (pA bx by9)] (.agg (pA lx ly)) w))
  (hs:sx<2^256∧sy<2^256) (hl:lx<2^256∧ly<2^256) (hb:(decide (lx=sx)&&decide (ly=sy))= !true):
  Calls Tryz.prog 13 #[.agg (bA pu), .slice pm lm km, .slice ps 64 ks] w fun e w'=>e= .returned (.int .i64 191)∧Below w.heap.size w w':=by
 have HLL:Hid ((lx<2^256∧ly<2^256)∧(sx<2^256∧sy<2^256)∧(decide (lx=sx)&&decide (ly=sy))= !true):=⟨hl,hs,hb⟩
 clear hl hs hb
 have V0:=Vars.start w
 go_enter Tryz.func13,Tryz.ntmps13
 go_wp2_with (refine Zaj V0 3 22 _ rfl rfl rfl (bA pu) rfl ?_;intro w1 g2 V3)
 refine (HH.out w1 V3.bel).mono ?_
 rintro e w4 ⟨rfl,q6⟩
 have V5:=V3.call q6
 clear q6 V3
 go_wp2_with (first
  | (refine zA V5 7 rfl rfl rfl ?_;intro w7 g8 V9)
  | (refine zA V9 8 rfl rfl rfl ?_;intro w10 g11 V12)
  | (refine zL V12 1 rfl _ (.tmp 22) rfl rfl rfl R rfl rfl ?_;intro w13 V14)
  | (refine zL V14 0 rfl _ (.tmp 23) rfl rfl rfl sg rfl rfl ?_;intro w15 V16)
  | (refine zD V16 2 rfl 25 _ rfl rfl rfl rfl ?_))
 refine (HU1.out w15 (hd.of V16)).mono ?_
 rintro e w17 ⟨rfl,q19⟩
 have V18:=V16.call q19
 clear q19 V16
 go_wp2_with (first
  | (refine Zai V18 9 76 rfl rfl rfl (pA 0 0) Za7 ?_;intro w20 g21 V22)
  | (refine Zal V22 0 rfl _ (.tmp 27) rfl rfl rfl (pA kx ky) rfl rfl Tryz.szP (Zak _ _) (Zak _ _) (Za6 _ _) ?_;intro w23 V24)
  | (refine zD V24 2 rfl 30 _ rfl rfl rfl rfl ?_))
 refine (HU2.out w23 (hd.of V24)).mono ?_
 rintro e w25 ⟨rfl,q27⟩
 have V26:=V24.call q27
 clear q27 V24
 go_wp2_with (first
  | (refine Zai V26 11 76 rfl rfl rfl (pA 0 0) Za7 ?_;intro w28 g29 V30)
  | (refine Zal V30 0 rfl _ (.tmp 32) rfl rfl rfl (pA qx qy) rfl rfl Tryz.szP (Zak _ _) (Zak _ _) (Za6 _ _) ?_;intro w31 V32)
  | (refine zD V32 2 rfl 40 _ rfl rfl rfl rfl ?_))
 refine (HS.out w31 (ho.of V32)).mono ?_
 rintro e w33 ⟨rfl,q35⟩
 have V34:=V32.call q35
 clear q35 V32
 go_wp2_with fail
 refine Zar (fun _=>True) (by kernel_rfl) ?_
 have V36:=V34.drew
 refine Zcw (fuel:=6) (m:=1) (stop:=Za9 [0,1,2,3,4,5] (Array.replicate 7 false)) (fun _ _=>trivial) V36 ?_
 refine Za5 (fuel:=5) (i:=5) 13 22 (bA 0) (by kernel_rfl) (by kernel_rfl) (fun c d v a w h=>by cases d<;>exact h) Zbu (by kernel_rfl) ?_
 refine Za4 (rs:=[0,1,2]) (fuel:=2) (by kernel_rfl) (fun c d v a w h=>by cases d<;>exact h) (by kernel_rfl) (fun K hK=> ?_)
 refine zC (.slice (some ⟨g8,0,none⟩) 32 32) rfl (by rfl) (fun w' hw'=>ZbL (V36.call hw') 3 rfl _ rfl rfl) ?_
 go_simp
 refine zC (.slice (some ⟨g2,0,none⟩) 32 32) rfl (by rfl) (fun w' hw'=>ZbL (V36.call hw') 4 rfl _ rfl rfl) ?_
 go_simp
 refine Zah _ rfl (by rfl) rfl ?_
 go_simp
 refine Zac (hK.out _ ?_)
 clear hK K
 refine ZaE (i:=3) (fuel:=1) (by kernel_rfl) (by kernel_rfl) rfl (by rfl) (fun w37 q38 V39 K hK=> ?_)
 refine Zdi (Vars.start w37) 46 26 3 _ rfl rfl 28 (#[.slice (some ⟨g8,0,none⟩) 32 32, .slice (some ⟨g2,0,none⟩) 32 32, .slice pm lm km]) (ZiT _ _ _ _ _ _ _ _ _) (fun w40 g43 q41=> ?_)
 have V42:=V39.fresh q41.bel ⟨q41.low,q41.holds,q41.apart⟩
 refine hK [⟨g43,28, #[.slice (some ⟨g8,0,none⟩) 32 32, .slice (some ⟨g2,0,none⟩) 32 32, .slice pm lm km]⟩] _ _ q41.bel ⟨q41.low,q41.holds,q41.apart⟩ ?_
 clear hK K q41
 try go_simp
 refine ZaE (i:=4) (fuel:=0) (by kernel_rfl) (by kernel_rfl) rfl (by rfl) (fun w44 q45 V46 K hK=> ?_)
 go_simp
 refine (HN3.out w44 g43 g8 g2 (ho.of V46) V46.bel (V46.at 0 rfl) (V46.at 4 rfl) (V46.at 5 rfl)).mono ?_
 rintro e w47 ⟨rfl,q48⟩
 have V49:=V46.call q48
 refine hK [] _ _ q48 (Fresh.nil _ _) ?_
 clear hK K q48
 refine ZdX (by kernel_rfl) (fun w51 g50 q52 V53=> ?_)
 clear q52
 replace V53:Vars w w51 [⟨g50,22,bA 0⟩,⟨g43,28, #[.slice (some ⟨g8,0,none⟩) 32 32, .slice (some ⟨g2,0,none⟩) 32 32, .slice pm lm km]⟩,⟨g29,76,pA qx qy⟩,⟨g21,76,pA kx ky⟩,⟨g11,22,bA sg⟩,⟨g8,22,bA R⟩,⟨g2,22,bA pu⟩]:=V53
 refine zO 6 0 (by kernel_rfl) rfl (by rfl) fun K hK=> ?_
 refine zS V53 0 rfl _ _ rfl rfl k rfl rfl (fun w54 V55=> ?_)
 refine hK _ _ (trivial) ?_
 clear hK K
 refine wpAnyH_done (by kernel_rfl) ?_ _
 go_wp2_with fail
 refine Zar (fun _=>True) (by kernel_rfl) ?_
 have V56:=V55.drew
 refine ZdW 7 rfl (by kernel_rfl) (by kernel_rfl) (fun c d v a w h=>by cases d<;>exact h) (fun c d v a w h=>by cases d<;>exact h) (fun _ _=>trivial) (fuel:=8) (m:=2) (stop:=Za9 [0,1,2,3,4,5,6,8] (Array.replicate 11 false)) (Zdt (by kernel_rfl)) (by kernel_rfl) V56 ?_
 refine Za5 (fuel:=7) (i:=8) 14 76 (pA 0 0) (by kernel_rfl) (by kernel_rfl) (fun c d v a w h=>by cases d<;>exact h) Za7 (by kernel_rfl) ?_
 refine Za4 (rs:=[0,1,2]) (fuel:=4) (by kernel_rfl) (fun c d v a w h=>by cases d<;>exact h) (by kernel_rfl) (fun K hK=> ?_)
 refine zC (.agg (pA qx qy)) rfl (by rfl) (fun w' hw'=>Zbn (V56.call hw') 2 rfl _ rfl rfl Tryz.underlying76 Tryz.szP (Zak _ _)) ?_
 go_simp
 refine zC (.agg (bA k)) rfl (by rfl) (fun w' hw'=>ZaH (V56.call hw') 0 rfl _ rfl rfl Tryz.underlying22 Tryz.szB (Zaf _)) ?_
 go_simp
 refine zC (.agg (pA kx ky)) rfl (by rfl) (fun w' hw'=>Zbn (V56.call hw') 3 rfl _ rfl rfl Tryz.underlying76 Tryz.szP (Zak _ _)) ?_
 go_simp
 refine Zac (hK.out _ ?_)
 clear hK K
 refine ZaE (i:=3) (fuel:=3) (by kernel_rfl) (by kernel_rfl) rfl (by rfl) (fun w58 q59 V60 K hK=> ?_)
 go_simp
 refine (HT.out w58 (hd.of V60)).mono ?_
 rintro e w61 ⟨rfl,q62⟩
 have V63:=V60.call q62
 refine hK [] _ _ q62 (Fresh.nil _ _) ?_
 clear hK K q62
 refine ZaE (i:=4) (fuel:=2) (by kernel_rfl) (by kernel_rfl) rfl (by rfl) (fun w64 q65 V66 K hK=> ?_)
 go_simp
 refine (HA.out w64 (hd.of V66)).mono ?_
 rintro e w67 ⟨rfl,q68⟩
 have V69:=V66.call q68
 refine hK [] _ _ q68 (Fresh.nil _ _) ?_
 clear hK K q68
 refine Za4 (rs:=[5,6]) (fuel:=0) (by kernel_rfl) (fun c d v a w h=>by cases d<;>exact h) (by kernel_rfl) (fun K hK=> ?_)
 go_simp
 refine Zah _ rfl (by rfl) rfl ?_
 go_simp
 refine zC (.agg (pA sx sy)) rfl (by rfl) (fun w' hw'=> ?_) ?_
 ·go_simp
 go_simp
 refine Zac (hK.out _ ?_)
 clear hK K
 refine ZdY (.int .i64 0) rfl (.inl ⟨rfl,fun w=> ?_⟩) (by kernel_rfl) (by kernel_rfl) (by kernel_rfl) (fun w71 g70 q72 V73=> ?_)
 ·go_simp
 clear q72
 replace V73:Vars w w71 [⟨g70,76,pA 0 0⟩,⟨g50,22,bA k⟩,⟨g43,28, #[.slice (some ⟨g8,0,none⟩) 32 32, .slice (some ⟨g2,0,none⟩) 32 32, .slice pm lm km]⟩,⟨g29,76,pA qx qy⟩,⟨g21,76,pA kx ky⟩,⟨g11,22,bA sg⟩,⟨g8,22,bA R⟩,⟨g2,22,bA pu⟩]:=V73
 refine zO 9 1 (by kernel_rfl) rfl (by rfl) fun K hK=> ?_
 refine ZbD V73 0 rfl _ _ rfl rfl (pA sx sy) rfl rfl Tryz.szP (Zak _ _) (Zak _ _) (Za6 _ _) (fun w74 V75=> ?_)
 refine hK _ _ (trivial) ?_
 clear hK K
 refine zR [10] 0 (by kernel_rfl) (fun _ _ _ _ _ h=>h) trivial fun K hK=> ?_
 go_simp
 refine ZaB _ rfl (by rfl) rfl ?_
 go_simp
 refine Zac (hK.out _ ?_)
 clear hK K
 refine wpAnyH_done (by kernel_rfl) ?_ _
 go_wp2_with fail
 refine Zar (fun w'=>Vars w w' [⟨g70,76,pA sx sy⟩,⟨g50,22,bA k⟩,⟨g43,28, #[.slice (some ⟨g8,0,none⟩) 32 32, .slice (some ⟨g2,0,none⟩) 32 32, .slice pm lm km]⟩,⟨g29,76,pA qx qy⟩,⟨g21,76,pA kx ky⟩,⟨g11,22,bA sg⟩,⟨g8,22,bA R⟩,⟨g2,22,bA pu⟩]) (by kernel_rfl) ?_
 have V76:=V75.drew
 refine zR [0,3] 3 (by kernel_rfl) (fun _ _ _ _ _ h=>h) V76 fun K hK=> ?_
 refine zC (.agg (bA sg)) rfl (by rfl) (fun w' hw'=>zB hw' 5 rfl _ rfl rfl) ?_
 go_simp
 refine zC (.agg (pA sx sy)) rfl (by rfl) (fun w' hw'=>Zbn hw' 0 rfl _ rfl rfl Tryz.underlying76 Tryz.szP (Zak _ _)) ?_
 go_simp
 refine Zac (hK.out _ ?_)
 clear hK K
 refine zO 1 2 (by kernel_rfl) rfl (by rfl) fun K hK=> ?_
 go_simp
 refine (HB.out w74.drew (hd.of V76)).mono ?_
 rintro e w77 ⟨rfl,q79⟩
 have V78:=V76.call q79
 refine hK _ _ (V78) ?_
 clear hK K q79
 refine zO 2 1 (by kernel_rfl) rfl (by rfl) fun K hK=> ?_
 go_simp
 refine (HL.out w77 (hd.of V78)).mono ?_
 rintro e w80 ⟨rfl,q82⟩
 have V81:=V78.call q82
 refine hK _ _ (V81) ?_
 clear hK K q82
 refine zR [4] 0 (by kernel_rfl) (fun _ _ _ _ _ h=>h) V81 fun K hK=> ?_
 go_simp
 refine zC (.bool true) rfl (by rfl) (fun w' hw'=>ZlM _ _ rfl true _ _ _ _ HLL.out.2.2 rfl rfl HLL.out.1 HLL.out.2.1) ?_
 go_simp
 refine Zac (hK.out _ ?_)
 clear hK K
 refine wpAnyH_done (by kernel_rfl) ?_ _
 go_wp2_with fail
 go_ret
 exact ⟨rfl,V81.bel⟩
set_option maxHeartbeats 6400000 in
theorem Zuc (pu R sg:Nat) (pm ps:Option Addr) (lm km ks:Nat) (kx ky qx qy:Nat) (k tx ty sx sy bx by9 lx ly:Nat) (w:World) (ho:OAt w) (hd:DAt w) (HH:Hid (∀w',Below w.heap.size w w'→Rt Tryz.prog 31 #[.slice ps 64 ks] (.tuple #[.agg (bA R), .agg (bA sg)]) w')) (HU1:Hid (∀w,DAt w→Rt Tryz.prog 32 #[.agg (bA pu)] (.tuple #[.agg (pA kx ky), .int .i64 0]) w)) (HU2:Hid (∀w,DAt w→Rt Tryz.prog 32 #[.agg (bA R)] (.tuple #[.agg (pA qx qy), .int .i64 0]) w)) (HS:Hid (∀w,OAt w→Rt Tryz.prog 33 #[.agg (bA sg)] (.bool true) w))
  (HN3:Hid (∀(w':World) (g h i:Nat),OAt w'→Below w.heap.size w w'→w'.heap[g]? =some (.cells #[.slice (some ⟨h,0,none⟩) 32 32, .slice (some ⟨i,0,none⟩) 32 32, .slice pm lm km] 28 (0,0))→w'.heap[h]? =some (.cells (bA R) 22 (0,0))→w'.heap[i]? =some (.cells (bA pu) 22 (0,0))→Rt Tryz.prog 34 #[.slice (some ⟨g,0,none⟩) 3 3] (.agg (bA k)) w'))
  (HT:Hid (∀w,DAt w→Rt Tryz.prog 36 #[.agg (bA k), .agg (pA kx ky)] (.agg (pA tx ty)) w)) (HA:Hid (∀w,DAt w→Rt Tryz.prog 35 #[.agg (pA qx qy), .agg (pA tx ty)] (.tuple #[.agg (pA sx sy), .int .i64 0]) w)) (HB:Hid (∀w,DAt w→Rt Tryz.prog 37 #[] (.agg (pA bx by9)) w)) (HL:Hid (∀w,DAt w→Rt Tryz.prog 36 #[.agg (bA sg), .agg (pA bx by9)] (.agg (pA lx ly)) w))
  (hs:sx<2^256∧sy<2^256) (hl:lx<2^256∧ly<2^256) (hb:(decide (lx=sx)&&decide (ly=sy))= !false):
  Calls Tryz.prog 13 #[.agg (bA pu), .slice pm lm km, .slice ps 64 ks] w fun e w'=>e= .returned (.int .i64 0)∧Below w.heap.size w w':=by
 have HLL:Hid ((lx<2^256∧ly<2^256)∧(sx<2^256∧sy<2^256)∧(decide (lx=sx)&&decide (ly=sy))= !false):=⟨hl,hs,hb⟩
 clear hl hs hb
 have V0:=Vars.start w
 go_enter Tryz.func13,Tryz.ntmps13
 go_wp2_with (refine Zaj V0 3 22 _ rfl rfl rfl (bA pu) rfl ?_;intro w1 g2 V3)
 refine (HH.out w1 V3.bel).mono ?_
 rintro e w4 ⟨rfl,q6⟩
 have V5:=V3.call q6
 clear q6 V3
 go_wp2_with (first
  | (refine zA V5 7 rfl rfl rfl ?_;intro w7 g8 V9)
  | (refine zA V9 8 rfl rfl rfl ?_;intro w10 g11 V12)
  | (refine zL V12 1 rfl _ (.tmp 22) rfl rfl rfl R rfl rfl ?_;intro w13 V14)
  | (refine zL V14 0 rfl _ (.tmp 23) rfl rfl rfl sg rfl rfl ?_;intro w15 V16)
  | (refine zD V16 2 rfl 25 _ rfl rfl rfl rfl ?_))
 refine (HU1.out w15 (hd.of V16)).mono ?_
 rintro e w17 ⟨rfl,q19⟩
 have V18:=V16.call q19
 clear q19 V16
 go_wp2_with (first
  | (refine Zai V18 9 76 rfl rfl rfl (pA 0 0) Za7 ?_;intro w20 g21 V22)
  | (refine Zal V22 0 rfl _ (.tmp 27) rfl rfl rfl (pA kx ky) rfl rfl Tryz.szP (Zak _ _) (Zak _ _) (Za6 _ _) ?_;intro w23 V24)
  | (refine zD V24 2 rfl 30 _ rfl rfl rfl rfl ?_))
 refine (HU2.out w23 (hd.of V24)).mono ?_
 rintro e w25 ⟨rfl,q27⟩
 have V26:=V24.call q27
 clear q27 V24
 go_wp2_with (first
  | (refine Zai V26 11 76 rfl rfl rfl (pA 0 0) Za7 ?_;intro w28 g29 V30)
  | (refine Zal V30 0 rfl _ (.tmp 32) rfl rfl rfl (pA qx qy) rfl rfl Tryz.szP (Zak _ _) (Zak _ _) (Za6 _ _) ?_;intro w31 V32)
  | (refine zD V32 2 rfl 40 _ rfl rfl rfl rfl ?_))
 refine (HS.out w31 (ho.of V32)).mono ?_
 rintro e w33 ⟨rfl,q35⟩
 have V34:=V32.call q35
 clear q35 V32
 go_wp2_with fail
 refine Zar (fun _=>True) (by kernel_rfl) ?_
 have V36:=V34.drew
 refine Zcw (fuel:=6) (m:=1) (stop:=Za9 [0,1,2,3,4,5] (Array.replicate 7 false)) (fun _ _=>trivial) V36 ?_
 refine Za5 (fuel:=5) (i:=5) 13 22 (bA 0) (by kernel_rfl) (by kernel_rfl) (fun c d v a w h=>by cases d<;>exact h) Zbu (by kernel_rfl) ?_
 refine Za4 (rs:=[0,1,2]) (fuel:=2) (by kernel_rfl) (fun c d v a w h=>by cases d<;>exact h) (by kernel_rfl) (fun K hK=> ?_)
 refine zC (.slice (some ⟨g8,0,none⟩) 32 32) rfl (by rfl) (fun w' hw'=>ZbL (V36.call hw') 3 rfl _ rfl rfl) ?_
 go_simp
 refine zC (.slice (some ⟨g2,0,none⟩) 32 32) rfl (by rfl) (fun w' hw'=>ZbL (V36.call hw') 4 rfl _ rfl rfl) ?_
 go_simp
 refine Zah _ rfl (by rfl) rfl ?_
 go_simp
 refine Zac (hK.out _ ?_)
 clear hK K
 refine ZaE (i:=3) (fuel:=1) (by kernel_rfl) (by kernel_rfl) rfl (by rfl) (fun w37 q38 V39 K hK=> ?_)
 refine Zdi (Vars.start w37) 46 26 3 _ rfl rfl 28 (#[.slice (some ⟨g8,0,none⟩) 32 32, .slice (some ⟨g2,0,none⟩) 32 32, .slice pm lm km]) (ZiT _ _ _ _ _ _ _ _ _) (fun w40 g43 q41=> ?_)
 have V42:=V39.fresh q41.bel ⟨q41.low,q41.holds,q41.apart⟩
 refine hK [⟨g43,28, #[.slice (some ⟨g8,0,none⟩) 32 32, .slice (some ⟨g2,0,none⟩) 32 32, .slice pm lm km]⟩] _ _ q41.bel ⟨q41.low,q41.holds,q41.apart⟩ ?_
 clear hK K q41
 try go_simp
 refine ZaE (i:=4) (fuel:=0) (by kernel_rfl) (by kernel_rfl) rfl (by rfl) (fun w44 q45 V46 K hK=> ?_)
 go_simp
 refine (HN3.out w44 g43 g8 g2 (ho.of V46) V46.bel (V46.at 0 rfl) (V46.at 4 rfl) (V46.at 5 rfl)).mono ?_
 rintro e w47 ⟨rfl,q48⟩
 have V49:=V46.call q48
 refine hK [] _ _ q48 (Fresh.nil _ _) ?_
 clear hK K q48
 refine ZdX (by kernel_rfl) (fun w51 g50 q52 V53=> ?_)
 clear q52
 replace V53:Vars w w51 [⟨g50,22,bA 0⟩,⟨g43,28, #[.slice (some ⟨g8,0,none⟩) 32 32, .slice (some ⟨g2,0,none⟩) 32 32, .slice pm lm km]⟩,⟨g29,76,pA qx qy⟩,⟨g21,76,pA kx ky⟩,⟨g11,22,bA sg⟩,⟨g8,22,bA R⟩,⟨g2,22,bA pu⟩]:=V53
 refine zO 6 0 (by kernel_rfl) rfl (by rfl) fun K hK=> ?_
 refine zS V53 0 rfl _ _ rfl rfl k rfl rfl (fun w54 V55=> ?_)
 refine hK _ _ (trivial) ?_
 clear hK K
 refine wpAnyH_done (by kernel_rfl) ?_ _
 go_wp2_with fail
 refine Zar (fun _=>True) (by kernel_rfl) ?_
 have V56:=V55.drew
 refine ZdW 7 rfl (by kernel_rfl) (by kernel_rfl) (fun c d v a w h=>by cases d<;>exact h) (fun c d v a w h=>by cases d<;>exact h) (fun _ _=>trivial) (fuel:=8) (m:=2) (stop:=Za9 [0,1,2,3,4,5,6,8] (Array.replicate 11 false)) (Zdt (by kernel_rfl)) (by kernel_rfl) V56 ?_
 refine Za5 (fuel:=7) (i:=8) 14 76 (pA 0 0) (by kernel_rfl) (by kernel_rfl) (fun c d v a w h=>by cases d<;>exact h) Za7 (by kernel_rfl) ?_
 refine Za4 (rs:=[0,1,2]) (fuel:=4) (by kernel_rfl) (fun c d v a w h=>by cases d<;>exact h) (by kernel_rfl) (fun K hK=> ?_)
 refine zC (.agg (pA qx qy)) rfl (by rfl) (fun w' hw'=>Zbn (V56.call hw') 2 rfl _ rfl rfl Tryz.underlying76 Tryz.szP (Zak _ _)) ?_
 go_simp
 refine zC (.agg (bA k)) rfl (by rfl) (fun w' hw'=>ZaH (V56.call hw') 0 rfl _ rfl rfl Tryz.underlying22 Tryz.szB (Zaf _)) ?_
 go_simp
 refine zC (.agg (pA kx ky)) rfl (by rfl) (fun w' hw'=>Zbn (V56.call hw') 3 rfl _ rfl rfl Tryz.underlying76 Tryz.szP (Zak _ _)) ?_
 go_simp
 refine Zac (hK.out _ ?_)
 clear hK K
 refine ZaE (i:=3) (fuel:=3) (by kernel_rfl) (by kernel_rfl) rfl (by rfl) (fun w58 q59 V60 K hK=> ?_)
 go_simp
 refine (HT.out w58 (hd.of V60)).mono ?_
 rintro e w61 ⟨rfl,q62⟩
 have V63:=V60.call q62
 refine hK [] _ _ q62 (Fresh.nil _ _) ?_
 clear hK K q62
 refine ZaE (i:=4) (fuel:=2) (by kernel_rfl) (by kernel_rfl) rfl (by rfl) (fun w64 q65 V66 K hK=> ?_)
 go_simp
 refine (HA.out w64 (hd.of V66)).mono ?_
 rintro e w67 ⟨rfl,q68⟩
 have V69:=V66.call q68
 refine hK [] _ _ q68 (Fresh.nil _ _) ?_
 clear hK K q68
 refine Za4 (rs:=[5,6]) (fuel:=0) (by kernel_rfl) (fun c d v a w h=>by cases d<;>exact h) (by kernel_rfl) (fun K hK=> ?_)
 go_simp
 refine Zah _ rfl (by rfl) rfl ?_
 go_simp
 refine zC (.agg (pA sx sy)) rfl (by rfl) (fun w' hw'=> ?_) ?_
 ·go_simp
 go_simp
 refine Zac (hK.out _ ?_)
 clear hK K
 refine ZdY (.int .i64 0) rfl (.inl ⟨rfl,fun w=> ?_⟩) (by kernel_rfl) (by kernel_rfl) (by kernel_rfl) (fun w71 g70 q72 V73=> ?_)
 ·go_simp
 clear q72
 replace V73:Vars w w71 [⟨g70,76,pA 0 0⟩,⟨g50,22,bA k⟩,⟨g43,28, #[.slice (some ⟨g8,0,none⟩) 32 32, .slice (some ⟨g2,0,none⟩) 32 32, .slice pm lm km]⟩,⟨g29,76,pA qx qy⟩,⟨g21,76,pA kx ky⟩,⟨g11,22,bA sg⟩,⟨g8,22,bA R⟩,⟨g2,22,bA pu⟩]:=V73
 refine zO 9 1 (by kernel_rfl) rfl (by rfl) fun K hK=> ?_
 refine ZbD V73 0 rfl _ _ rfl rfl (pA sx sy) rfl rfl Tryz.szP (Zak _ _) (Zak _ _) (Za6 _ _) (fun w74 V75=> ?_)
 refine hK _ _ (trivial) ?_
 clear hK K
 refine zR [10] 0 (by kernel_rfl) (fun _ _ _ _ _ h=>h) trivial fun K hK=> ?_
 go_simp
 refine ZaB _ rfl (by rfl) rfl ?_
 go_simp
 refine Zac (hK.out _ ?_)
 clear hK K
 refine wpAnyH_done (by kernel_rfl) ?_ _
 go_wp2_with fail
 refine Zar (fun w'=>Vars w w' [⟨g70,76,pA sx sy⟩,⟨g50,22,bA k⟩,⟨g43,28, #[.slice (some ⟨g8,0,none⟩) 32 32, .slice (some ⟨g2,0,none⟩) 32 32, .slice pm lm km]⟩,⟨g29,76,pA qx qy⟩,⟨g21,76,pA kx ky⟩,⟨g11,22,bA sg⟩,⟨g8,22,bA R⟩,⟨g2,22,bA pu⟩]) (by kernel_rfl) ?_
 have V76:=V75.drew
 refine zR [0,3] 3 (by kernel_rfl) (fun _ _ _ _ _ h=>h) V76 fun K hK=> ?_
 refine zC (.agg (bA sg)) rfl (by rfl) (fun w' hw'=>zB hw' 5 rfl _ rfl rfl) ?_
 go_simp
 refine zC (.agg (pA sx sy)) rfl (by rfl) (fun w' hw'=>Zbn hw' 0 rfl _ rfl rfl Tryz.underlying76 Tryz.szP (Zak _ _)) ?_
 go_simp
 refine Zac (hK.out _ ?_)
 clear hK K
 refine zO 1 2 (by kernel_rfl) rfl (by rfl) fun K hK=> ?_
 go_simp
 refine (HB.out w74.drew (hd.of V76)).mono ?_
 rintro e w77 ⟨rfl,q79⟩
 have V78:=V76.call q79
 refine hK _ _ (V78) ?_
 clear hK K q79
 refine zO 2 1 (by kernel_rfl) rfl (by rfl) fun K hK=> ?_
 go_simp
 refine (HL.out w77 (hd.of V78)).mono ?_
 rintro e w80 ⟨rfl,q82⟩
 have V81:=V78.call q82
 refine hK _ _ (V81) ?_
 clear hK K q82
 refine zR [4] 0 (by kernel_rfl) (fun _ _ _ _ _ h=>h) V81 fun K hK=> ?_
 go_simp
 refine zC (.bool false) rfl (by rfl) (fun w' hw'=>ZlM _ _ rfl false _ _ _ _ HLL.out.2.2 rfl rfl HLL.out.1 HLL.out.2.1) ?_
 go_simp
 refine Zac (hK.out _ ?_)
 clear hK K
 refine wpAnyH_done (by kernel_rfl) ?_ _
 go_wp2_with fail
 go_ret
 exact ⟨rfl,V81.bel⟩
theorem ZfF {R sg:Nat} (hR:R<2^256) (hs:sg<2^256) {ps:Option Addr} {ks:Nat} {w:World} (hr:Row .u8 w ps 64 ks (nI (digL (R+2^256*sg) 64))):∀w',Below w.heap.size w w'→Calls Tryz.prog 31 #[.slice ps 64 ks] w' fun e w''=>e= .returned (.tuple #[.agg (bA R), .agg (bA sg)])∧Below w'.heap.size w' w'':=fun w' q=>by
 have h:=Zmb _ (ZlX hR hs) ps ks w' (hr.below q (Nat.le_refl _))
 rw [ZlV hR,ZlW hR] at h
 exact h
theorem Zud {v:Nat} (hv:v<2^256):∃(x y:Nat) (r:Int),∀w,DAt w→Calls Tryz.prog 32 #[.agg (bA v)] w fun e w'=>e= .returned (.tuple #[.agg (pA x y), .int .i64 r])∧Below w.heap.size w w':=by
 by_cases h:∃p,OnC p∧Zaw p=v
 ·obtain ⟨p,hp,rfl⟩:=h
  exact ⟨p.x.val,p.y.val,0,fun w hd=>ZdG hp w hd⟩
 ·exact ⟨0,0,170,fun w hd=>ZiV hv (fun p hp e=>h ⟨p,hp,e⟩) w hd⟩
theorem Zml {R pu:Nat} {m:List Nat} (dm:Dig m) {pm:Option Addr} {lm km:Nat} {w:World} (hm:Row .u8 w pm lm km (nI m)) (hl:lm≤10000):∀(w':World) (g h i:Nat),OAt w'→Below w.heap.size w w'→w'.heap[g]? =some (.cells #[.slice (some ⟨h,0,none⟩) 32 32, .slice (some ⟨i,0,none⟩) 32 32, .slice pm lm km] 28 (0,0))→w'.heap[h]? =some (.cells (bA R) 22 (0,0))→w'.heap[i]? =some (.cells (bA pu) 22 (0,0))→Calls Tryz.prog 34 #[.slice (some ⟨g,0,none⟩) 3 3] w' fun e w''=>e= .returned (.agg (bA (kN R pu m)))∧Below w'.heap.size w' w'':=fun w' g h i ho q hg hh hi=>by
 have hml:m.length=lm:=by have:=hm.hlen;rwa [Zaa] at this
 have l32:=fun x=>Zap x 32
 exact Zmk (ZaD _ _) (ZaD _ _) dm (by rw [l32,l32];omega) ho hg (Zb0 hh) (Zb0 hi) (hm.below q (Nat.le_refl _))
theorem Zue {pu R sg:Nat} (hpu:pu<2^256) (hR:R<2^256) (hs:sg<2^256) (h:(∀p,OnC p→Zaw p≠pu)∨(∀p,OnC p→Zaw p≠R)) (pm ps:Option Addr) (lm km ks:Nat) (w:World) (hd:DAt w) (hr:Row .u8 w ps 64 ks (nI (digL (R+2^256*sg) 64))):
  Calls Tryz.prog 13 #[.agg (bA pu), .slice pm lm km, .slice ps 64 ks] w fun e w'=>e= .returned (.int .i64 170)∧Below w.heap.size w w':=by
 by_cases h1:∃p,OnC p∧Zaw p=pu
 ·obtain ⟨A,hA,rfl⟩:=h1
  have h2:∀p,OnC p→Zaw p≠R:=h.resolve_left (fun h=>h A hA rfl)
  exact Zt9 _ R sg pm ps lm km ks _ _ 0 0 w hd (ZfF hR hs hr) (fun w hd=>ZdG hA w hd) (fun w hd=>ZiV hR h2 w hd)
 ·obtain ⟨x,y,e,hu⟩:=Zud hR
  exact Zt8 pu R sg pm ps lm km ks 0 0 x y e w hd (ZfF hR hs hr) (fun w hd=>ZiV hpu (fun p hp e=>h1 ⟨p,hp,e⟩) w hd) hu
theorem Zuf {A Q:Pt} (hA:OnC A) (hQ:OnC Q) {sg:Nat} (hs:sg<2^256) (hn:¬sg<oL) (pm ps:Option Addr) (lm km ks:Nat) (w:World) (ho:OAt w) (hd:DAt w) (hr:Row .u8 w ps 64 ks (nI (digL (Zaw Q+2^256*sg) 64))):
  Calls Tryz.prog 13 #[.agg (bA (Zaw A)), .slice pm lm km, .slice ps 64 ks] w fun e w'=>e= .returned (.int .i64 191)∧Below w.heap.size w w':=by
 exact Zua _ _ sg pm ps lm km ks _ _ _ _ w ho hd (ZfF (ZeG _) hs hr) (fun w hd=>ZdG hA w hd) (fun w hd=>ZdG hQ w hd) (fun w ho=>by have h:=ZiQ sg w ho hs;rwa [decide_eq_false hn] at h)
theorem ZgG (p:Pt):p.x.val<2^256∧p.y.val<2^256:=⟨Za1 p.x.isLt,Za1 p.y.isLt⟩
theorem Zug {p q:Pt} (h:p≠q):(decide (p.x.val=q.x.val)&&decide (p.y.val=q.y.val))=false:=by
 rw [Bool.eq_false_iff]
 intro e
 rw [Bool.and_eq_true,decide_eq_true_iff,decide_eq_true_iff] at e
 exact h (Pt.ext (Fin.ext e.1) (Fin.ext e.2))
theorem Zmm {A Q:Pt} (hA:OnC A) (hQ:OnC Q) {sg:Nat} (hn:sg<oL) (m:List Nat) (dm:Dig m) (he:Zau sg ZaA=psum Q (Zau (kN (Zaw Q) (Zaw A) m) A)) (pm ps:Option Addr) (lm km ks:Nat) (w:World) (ho:OAt w) (hd:DAt w) (hm:Row .u8 w pm lm km (nI m)) (hl:lm≤10000) (hr:Row .u8 w ps 64 ks (nI (digL (Zaw Q+2^256*sg) 64))):
  Calls Tryz.prog 13 #[.agg (bA (Zaw A)), .slice pm lm km, .slice ps 64 ks] w fun e w'=>e= .returned (.int .i64 0)∧Below w.heap.size w w':=by
 have hs:sg<2^256:=Nat.lt_trans hn Zd4
 have hk:kN (Zaw Q) (Zaw A) m<2^256:=Zfy _
 refine Zuc (Zaw A) (Zaw Q) sg pm ps lm km ks A.x.val A.y.val Q.x.val Q.y.val (kN (Zaw Q) (Zaw A) m) _ _ _ _ ZaA.x.val ZaA.y.val _ _ w ho hd (ZfF (ZeG _) hs hr) (fun w hd=>ZdG hA w hd) (fun w hd=>ZdG hQ w hd) (fun w ho=> ?_) (Zml dm hm hl) (fun w hd=>ZfE _ hk hA w hd) (fun w hd=>Zmg hQ (Zb2 hA _) w hd) ZiU (fun w hd=>ZfE sg hs ZbV w hd) (ZgG _) (ZgG _) ?_
 ·have h:=ZiQ sg w ho hs
  rwa [decide_eq_true hn] at h
 ·exact by rw [he];simp
theorem Zuh {A Q:Pt} (hA:OnC A) (hQ:OnC Q) {sg:Nat} (hn:sg<oL) (m:List Nat) (dm:Dig m) (he:Zau sg ZaA≠psum Q (Zau (kN (Zaw Q) (Zaw A) m) A)) (pm ps:Option Addr) (lm km ks:Nat) (w:World) (ho:OAt w) (hd:DAt w) (hm:Row .u8 w pm lm km (nI m)) (hl:lm≤10000) (hr:Row .u8 w ps 64 ks (nI (digL (Zaw Q+2^256*sg) 64))):
  Calls Tryz.prog 13 #[.agg (bA (Zaw A)), .slice pm lm km, .slice ps 64 ks] w fun e w'=>e= .returned (.int .i64 191)∧Below w.heap.size w w':=by
 have hs:sg<2^256:=Nat.lt_trans hn Zd4
 have hk:kN (Zaw Q) (Zaw A) m<2^256:=Zfy _
 refine Zub (Zaw A) (Zaw Q) sg pm ps lm km ks A.x.val A.y.val Q.x.val Q.y.val (kN (Zaw Q) (Zaw A) m) _ _ _ _ ZaA.x.val ZaA.y.val _ _ w ho hd (ZfF (ZeG _) hs hr) (fun w hd=>ZdG hA w hd) (fun w hd=>ZdG hQ w hd) (fun w ho=> ?_) (Zml dm hm hl) (fun w hd=>ZfE _ hk hA w hd) (fun w hd=>Zmg hQ (Zb2 hA _) w hd) ZiU (fun w hd=>ZfE sg hs ZbV w hd) (ZgG _) (ZgG _) ?_
 ·have h:=ZiQ sg w ho hs
  rwa [decide_eq_true hn] at h
 ·exact Zug he
end Go.Proofs.YtcaloldcihpkfaaGreatDoor.N
