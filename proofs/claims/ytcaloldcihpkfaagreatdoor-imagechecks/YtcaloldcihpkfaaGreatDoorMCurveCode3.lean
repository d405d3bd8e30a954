/-
 The code of layer 17 (curve): doubled.
-/
import Derived.Test.YtcaloldcihpkfaaGreatDoorMPackFb
import Derived.Test.YtcaloldcihpkfaaGreatDoorMPackCb
namespace Go.Proofs.YtcaloldcihpkfaaGreatDoor.N
open Go.RowKit
set_option linter.unusedVariables false
set_option maxRecDepth 8192

set_option maxHeartbeats 6400000 in
theorem Zme (p:T3) (w:World):Calls Tryz.prog 170 #[.agg (tA p.x.val p.y.val p.z.val)] w fun e w'=>e= .returned (.agg (tA (dbl3 p).x.val (dbl3 p).y.val (dbl3 p).z.val))∧Below w.heap.size w w':=by
 have H1:Hid (∀w,Rt Tryz.prog 114 #[.agg (bA p.x.val), .agg (bA p.x.val)] (.agg (bA ((p.x*p.x).val))) w):=fun w=>ZaY (p.x) (p.x) w
 have H2:Hid (∀w,Rt Tryz.prog 114 #[.agg (bA p.y.val), .agg (bA p.y.val)] (.agg (bA ((p.y*p.y).val))) w):=fun w=>ZaY (p.y) (p.y) w
 have H3:Hid (∀w,Rt Tryz.prog 114 #[.agg (bA p.z.val), .agg (bA p.z.val)] (.agg (bA ((p.z*p.z).val))) w):=fun w=>ZaY (p.z) (p.z) w
 have H4:Hid (∀w,Rt Tryz.prog 75 #[.agg (bA ((p.y*p.y).val)), .agg (bA ((p.x*p.x).val))] (.agg (bA ((p.y*p.y - p.x*p.x).val))) w):=fun w=>ZeL (p.y*p.y) (p.x*p.x) w
 have H5:Hid (∀w,Rt Tryz.prog 116 #[.agg (bA ((p.z*p.z).val)), .agg (bA ((p.z*p.z).val))] (.agg (bA ((p.z*p.z+p.z*p.z).val))) w):=fun w=>ZdE (p.z*p.z) (p.z*p.z) w
 have H6:Hid (∀w,Rt Tryz.prog 75 #[.agg (bA ((p.z*p.z+p.z*p.z).val)), .agg (bA ((p.y*p.y - p.x*p.x).val))] (.agg (bA ((p.z*p.z+p.z*p.z - (p.y*p.y - p.x*p.x)).val))) w):=fun w=>ZeL (p.z*p.z+p.z*p.z) (p.y*p.y - p.x*p.x) w
 have H7:Hid (∀w,Rt Tryz.prog 114 #[.agg (bA p.x.val), .agg (bA p.y.val)] (.agg (bA ((p.x*p.y).val))) w):=fun w=>ZaY (p.x) (p.y) w
 have H8:Hid (∀w,Rt Tryz.prog 116 #[.agg (bA ((p.x*p.y).val)), .agg (bA ((p.x*p.y).val))] (.agg (bA ((p.x*p.y+p.x*p.y).val))) w):=fun w=>ZdE (p.x*p.y) (p.x*p.y) w
 have H9:Hid (∀w,Rt Tryz.prog 114 #[.agg (bA ((p.x*p.y+p.x*p.y).val)), .agg (bA ((p.z*p.z+p.z*p.z - (p.y*p.y - p.x*p.x)).val))] (.agg (bA ((dbl3 p).x.val))) w):=fun w=>ZaY (p.x*p.y+p.x*p.y) (p.z*p.z+p.z*p.z - (p.y*p.y - p.x*p.x)) w
 have H10:Hid (∀w,Rt Tryz.prog 116 #[.agg (bA ((p.y*p.y).val)), .agg (bA ((p.x*p.x).val))] (.agg (bA ((p.y*p.y+p.x*p.x).val))) w):=fun w=>ZdE (p.y*p.y) (p.x*p.x) w
 have H11:Hid (∀w,Rt Tryz.prog 114 #[.agg (bA ((p.y*p.y+p.x*p.x).val)), .agg (bA ((p.y*p.y - p.x*p.x).val))] (.agg (bA ((dbl3 p).y.val))) w):=fun w=>ZaY (p.y*p.y+p.x*p.x) (p.y*p.y - p.x*p.x) w
 have H12:Hid (∀w,Rt Tryz.prog 114 #[.agg (bA ((p.y*p.y - p.x*p.x).val)), .agg (bA ((p.z*p.z+p.z*p.z - (p.y*p.y - p.x*p.x)).val))] (.agg (bA ((dbl3 p).z.val))) w):=fun w=>ZaY (p.y*p.y - p.x*p.x) (p.z*p.z+p.z*p.z - (p.y*p.y - p.x*p.x)) w
 generalize (dbl3 p).x.val=rx at*
 generalize (dbl3 p).y.val=ry at*
 generalize (dbl3 p).z.val=rz at*
 generalize (p.z*p.z+p.z*p.z - (p.y*p.y - p.x*p.x)).val=fy at*
 generalize (p.y*p.y - p.x*p.x).val=fx at*
 generalize (p.z*p.z+p.z*p.z).val=z2 at*
 generalize (p.x*p.y+p.x*p.y).val=h2 at*
 generalize (p.y*p.y+p.x*p.x).val=su at*
 generalize (p.x*p.y).val=hf at*
 generalize (p.z*p.z).val=zz at*
 generalize (p.y*p.y).val=yy at*
 generalize (p.x*p.x).val=xx at*
 generalize p.x.val=px at*
 generalize p.y.val=py at*
 generalize p.z.val=pz at*
 have V0:=Vars.start w
 go_enter Tryz.func170,Tryz.ntmps170
 go_wp2_with (first
  | (refine Zaj V0 1 117 _ rfl rfl rfl (tA px py pz) rfl ?_;intro w1 g2 V3)
  | (refine Zai V3 2 117 rfl rfl rfl (tA 0 0 0) Zdh ?_;intro w4 g5 V6))
 refine Zar (fun _=>True) (by kernel_rfl) ?_
 have V7:=V6.drew
 refine Zcw (fuel:=18) (m:=3) (stop:=Za9 [0,1,2,3,4,5,6,7,8,9,10,11,12,13,14,15,16,17] (Array.replicate 21 false)) (fun _ _=>trivial) V7 ?_
 refine Za5 (fuel:=17) (i:=15) 3 22 (bA 0) (by kernel_rfl) (by kernel_rfl) (fun c d v a w h=>by cases d<;>exact h) Zbu (by kernel_rfl) ?_
 refine Za5 (fuel:=16) (i:=16) 4 22 (bA 0) (by kernel_rfl) (by kernel_rfl) (fun c d v a w h=>by cases d<;>exact h) Zbu (by kernel_rfl) ?_
 refine Za5 (fuel:=15) (i:=17) 5 22 (bA 0) (by kernel_rfl) (by kernel_rfl) (fun c d v a w h=>by cases d<;>exact h) Zbu (by kernel_rfl) ?_
 refine Za4 (rs:=[0,1,2,3,5,6,7,8,10,11,12,13]) (fuel:=3) (by kernel_rfl) (fun c d v a w h=>by cases d<;>exact h) (by kernel_rfl) (fun K hK=> ?_)
 refine zC (.pointer (some ⟨g2,0,none⟩)) rfl (by rfl) (fun w' hw'=> ?_) ?_
 ·go_simp
 go_simp
 refine zC (.agg (bA px)) rfl (by rfl) (fun w' hw'=>ZaT (V7.call hw') 1 rfl 0 (ZdC _ _ _) _ rfl rfl Tryz.underlying22 Tryz.szB (Zaf _)) ?_
 go_simp
 refine zC (.pointer (some ⟨g2,0,none⟩)) rfl (by rfl) (fun w' hw'=> ?_) ?_
 ·go_simp
 go_simp
 refine zC (.agg (bA px)) rfl (by rfl) (fun w' hw'=>ZaT (V7.call hw') 1 rfl 0 (ZdC _ _ _) _ rfl rfl Tryz.underlying22 Tryz.szB (Zaf _)) ?_
 go_simp
 refine zC (.pointer (some ⟨g2,32,none⟩)) rfl (by rfl) (fun w' hw'=> ?_) ?_
 ·go_simp
 go_simp
 refine zC (.agg (bA py)) rfl (by rfl) (fun w' hw'=>ZaT (V7.call hw') 1 rfl 32 (ZdD _ _ _) _ rfl rfl Tryz.underlying22 Tryz.szB (Zaf _)) ?_
 go_simp
 refine zC (.pointer (some ⟨g2,32,none⟩)) rfl (by rfl) (fun w' hw'=> ?_) ?_
 ·go_simp
 go_simp
 refine zC (.agg (bA py)) rfl (by rfl) (fun w' hw'=>ZaT (V7.call hw') 1 rfl 32 (ZdD _ _ _) _ rfl rfl Tryz.underlying22 Tryz.szB (Zaf _)) ?_
 go_simp
 refine zC (.pointer (some ⟨g2,64,none⟩)) rfl (by rfl) (fun w' hw'=> ?_) ?_
 ·go_simp
 go_simp
 refine zC (.agg (bA pz)) rfl (by rfl) (fun w' hw'=>ZaT (V7.call hw') 1 rfl 64 (Zfv _ _ _) _ rfl rfl Tryz.underlying22 Tryz.szB (Zaf _)) ?_
 go_simp
 refine zC (.pointer (some ⟨g2,64,none⟩)) rfl (by rfl) (fun w' hw'=> ?_) ?_
 ·go_simp
 go_simp
 refine zC (.agg (bA pz)) rfl (by rfl) (fun w' hw'=>ZaT (V7.call hw') 1 rfl 64 (Zfv _ _ _) _ rfl rfl Tryz.underlying22 Tryz.szB (Zaf _)) ?_
 go_simp
 refine Zac (hK.out _ ?_)
 clear hK K
 refine ZaE (i:=4) (fuel:=2) (by kernel_rfl) (by kernel_rfl) rfl (by rfl) (fun w8 q9 V10 K hK=> ?_)
 go_simp
 refine (H1.out w8).mono ?_
 rintro e w11 ⟨rfl,q12⟩
 have V13:=V10.call q12
 refine hK [] _ _ q12 (Fresh.nil _ _) ?_
 clear hK K q12
 refine ZaE (i:=9) (fuel:=1) (by kernel_rfl) (by kernel_rfl) rfl (by rfl) (fun w14 q15 V16 K hK=> ?_)
 go_simp
 refine (H2.out w14).mono ?_
 rintro e w17 ⟨rfl,q18⟩
 have V19:=V16.call q18
 refine hK [] _ _ q18 (Fresh.nil _ _) ?_
 clear hK K q18
 refine ZaE (i:=14) (fuel:=0) (by kernel_rfl) (by kernel_rfl) rfl (by rfl) (fun w20 q21 V22 K hK=> ?_)
 go_simp
 refine (H3.out w20).mono ?_
 rintro e w23 ⟨rfl,q24⟩
 have V25:=V22.call q24
 refine hK [] _ _ q24 (Fresh.nil _ _) ?_
 clear hK K q24
 refine Zks (by kernel_rfl) (fun w29 g26 g27 g28 q30 V31=> ?_)
 clear q30
 replace V31:Vars w w29 [⟨g26,22,bA 0⟩,⟨g27,22,bA 0⟩,⟨g28,22,bA 0⟩,⟨g5,117,tA 0 0 0⟩,⟨g2,117,tA px py pz⟩]:=V31
 refine zO 18 2 (by kernel_rfl) rfl (by rfl) fun K hK=> ?_
 refine zS V31 0 rfl _ _ rfl rfl xx rfl rfl (fun w32 V33=> ?_)
 refine hK _ _ (trivial) ?_
 clear hK K
 refine zO 19 1 (by kernel_rfl) rfl (by rfl) fun K hK=> ?_
 refine zS V33 1 rfl _ _ rfl rfl yy rfl rfl (fun w34 V35=> ?_)
 refine hK _ _ (trivial) ?_
 clear hK K
 refine zO 20 0 (by kernel_rfl) rfl (by rfl) fun K hK=> ?_
 refine zS V35 2 rfl _ _ rfl rfl zz rfl rfl (fun w36 V37=> ?_)
 refine hK _ _ (trivial) ?_
 clear hK K
 refine wpAnyH_done (by kernel_rfl) ?_ _
 go_wp2_with (first
  | (refine zD V37 1 rfl 24 _ rfl rfl rfl rfl ?_)
  | (refine zD V37 0 rfl 25 _ rfl rfl rfl rfl ?_))
 refine (H4.out w36).mono ?_
 rintro e w38 ⟨rfl,q40⟩
 have V39:=V37.call q40
 clear q40 V37
 go_wp2_with (first
  | (refine zA V39 6 rfl rfl rfl ?_;intro w41 g42 V43)
  | (refine zL V43 0 rfl _ (.tmp 26) rfl rfl rfl fx rfl rfl ?_;intro w44 V45))
 refine Zar (fun _=>True) (by kernel_rfl) ?_
 have V46:=V45.drew
 refine Zcw (fuel:=6) (m:=1) (stop:=Za9 [0,1,2,3,4,5] (Array.replicate 7 false)) (fun _ _=>trivial) V46 ?_
 refine Za5 (fuel:=5) (i:=5) 7 22 (bA 0) (by kernel_rfl) (by kernel_rfl) (fun c d v a w h=>by cases d<;>exact h) Zbu (by kernel_rfl) ?_
 refine Za4 (rs:=[0,1,3]) (fuel:=2) (by kernel_rfl) (fun c d v a w h=>by cases d<;>exact h) (by kernel_rfl) (fun K hK=> ?_)
 refine zC (.agg (bA zz)) rfl (by rfl) (fun w' hw'=>ZaH (V46.call hw') 3 rfl _ rfl rfl Tryz.underlying22 Tryz.szB (Zaf _)) ?_
 go_simp
 refine zC (.agg (bA zz)) rfl (by rfl) (fun w' hw'=>ZaH (V46.call hw') 3 rfl _ rfl rfl Tryz.underlying22 Tryz.szB (Zaf _)) ?_
 go_simp
 refine zC (.agg (bA fx)) rfl (by rfl) (fun w' hw'=>ZaH (V46.call hw') 0 rfl _ rfl rfl Tryz.underlying22 Tryz.szB (Zaf _)) ?_
 go_simp
 refine Zac (hK.out _ ?_)
 clear hK K
 refine ZaE (i:=2) (fuel:=1) (by kernel_rfl) (by kernel_rfl) rfl (by rfl) (fun w48 q49 V50 K hK=> ?_)
 go_simp
 refine (H5.out w48).mono ?_
 rintro e w51 ⟨rfl,q52⟩
 have V53:=V50.call q52
 refine hK [] _ _ q52 (Fresh.nil _ _) ?_
 clear hK K q52
 refine ZaE (i:=4) (fuel:=0) (by kernel_rfl) (by kernel_rfl) rfl (by rfl) (fun w54 q55 V56 K hK=> ?_)
 go_simp
 refine (H6.out w54).mono ?_
 rintro e w57 ⟨rfl,q58⟩
 have V59:=V56.call q58
 refine hK [] _ _ q58 (Fresh.nil _ _) ?_
 clear hK K q58
 refine ZdX (by kernel_rfl) (fun w61 g60 q62 V63=> ?_)
 clear q62
 replace V63:Vars w w61 [⟨g60,22,bA 0⟩,⟨g42,22,bA fx⟩,⟨g26,22,bA xx⟩,⟨g27,22,bA yy⟩,⟨g28,22,bA zz⟩,⟨g5,117,tA 0 0 0⟩,⟨g2,117,tA px py pz⟩]:=V63
 refine zO 6 0 (by kernel_rfl) rfl (by rfl) fun K hK=> ?_
 refine zS V63 0 rfl _ _ rfl rfl fy rfl rfl (fun w64 V65=> ?_)
 refine hK _ _ (trivial) ?_
 clear hK K
 refine wpAnyH_done (by kernel_rfl) ?_ _
 go_wp2_with (first
  | (refine Zax rfl (ZaT V65 6 rfl 0 (ZdC _ _ _) _ rfl rfl Tryz.underlying22 Tryz.szB (Zaf _)) ?_)
  | (refine Zax rfl (ZaT V65 6 rfl 32 (ZdD _ _ _) _ rfl rfl Tryz.underlying22 Tryz.szB (Zaf _)) ?_))
 refine (H7.out w64).mono ?_
 rintro e w66 ⟨rfl,q68⟩
 have V67:=V65.call q68
 clear q68 V65
 go_wp2_with (first
  | (refine zA V67 8 rfl rfl rfl ?_;intro w69 g70 V71)
  | (refine zL V71 0 rfl _ (.tmp 36) rfl rfl rfl hf rfl rfl ?_;intro w72 V73))
 refine Zar (fun w'=>Vars w w' [⟨g70,22,bA hf⟩,⟨g60,22,bA fy⟩,⟨g42,22,bA fx⟩,⟨g26,22,bA xx⟩,⟨g27,22,bA yy⟩,⟨g28,22,bA zz⟩,⟨g2,117,tA px py pz⟩]) (by kernel_rfl) ?_
 have V74:=V73.drew
 refine zR [0,1,3,5,6,8,10,11] 7 (by kernel_rfl) (fun _ _ _ _ _ h=>h) ((V74.del 6)) fun K hK=> ?_
 refine zC (.agg (bA hf)) rfl (by rfl) (fun w' hw'=>zB hw' 0 rfl _ rfl rfl) ?_
 go_simp
 refine zC (.agg (bA hf)) rfl (by rfl) (fun w' hw'=>zB hw' 0 rfl _ rfl rfl) ?_
 go_simp
 refine zC (.agg (bA fy)) rfl (by rfl) (fun w' hw'=>zB hw' 1 rfl _ rfl rfl) ?_
 go_simp
 refine zC (.agg (bA yy)) rfl (by rfl) (fun w' hw'=>zB hw' 4 rfl _ rfl rfl) ?_
 go_simp
 refine zC (.agg (bA xx)) rfl (by rfl) (fun w' hw'=>zB hw' 3 rfl _ rfl rfl) ?_
 go_simp
 refine zC (.agg (bA fx)) rfl (by rfl) (fun w' hw'=>zB hw' 2 rfl _ rfl rfl) ?_
 go_simp
 refine zC (.agg (bA fx)) rfl (by rfl) (fun w' hw'=>zB hw' 2 rfl _ rfl rfl) ?_
 go_simp
 refine zC (.agg (bA fy)) rfl (by rfl) (fun w' hw'=>zB hw' 1 rfl _ rfl rfl) ?_
 go_simp
 refine Zac (hK.out _ ?_)
 clear hK K
 refine zO 2 6 (by kernel_rfl) rfl (by rfl) fun K hK=> ?_
 go_simp
 refine (H8.out w72.drew).mono ?_
 rintro e w75 ⟨rfl,q77⟩
 have V76:=V74.call q77
 refine hK _ _ ((V76.del 6)) ?_
 clear hK K q77
 refine zO 4 5 (by kernel_rfl) rfl (by rfl) fun K hK=> ?_
 go_simp
 refine (H9.out w75).mono ?_
 rintro e w78 ⟨rfl,q80⟩
 have V79:=V76.call q80
 refine hK _ _ ((V79.del 6)) ?_
 clear hK K q80
 refine zO 7 4 (by kernel_rfl) rfl (by rfl) fun K hK=> ?_
 go_simp
 refine (H10.out w78).mono ?_
 rintro e w81 ⟨rfl,q83⟩
 have V82:=V79.call q83
 refine hK _ _ ((V82.del 6)) ?_
 clear hK K q83
 refine zO 9 3 (by kernel_rfl) rfl (by rfl) fun K hK=> ?_
 go_simp
 refine (H11.out w81).mono ?_
 rintro e w84 ⟨rfl,q86⟩
 have V85:=V82.call q86
 refine hK _ _ ((V85.del 6)) ?_
 clear hK K q86
 refine zO 12 2 (by kernel_rfl) rfl (by rfl) fun K hK=> ?_
 go_simp
 refine (H12.out w84).mono ?_
 rintro e w87 ⟨rfl,q89⟩
 have V88:=V85.call q89
 refine hK _ _ ((V88.del 6)) ?_
 clear hK K q89
 refine zR [13] 1 (by kernel_rfl) (fun _ _ _ _ _ h=>h) ((V88.del 6)) fun K hK=> ?_
 go_simp
 refine zC (.agg (tA rx ry rz)) rfl (by rfl) (fun w' hw'=> ?_) ?_
 ·refine ZcT 117 _ rfl (tA rx ry rz) ?_
  exact (ZiL _ _ _)
 go_simp
 refine Zac (hK.out _ ?_)
 clear hK K
 refine zO 14 0 (by kernel_rfl) rfl (by rfl) fun K hK=> ?_
 refine ZbD V88 6 rfl _ _ rfl rfl (tA rx ry rz) rfl rfl Tryz.szT (ZaI _ _ _) (ZaI _ _ _) (ZcJ _ _ _) (fun w90 V91=> ?_)
 refine hK _ _ ((V91.del 6)) ?_
 clear hK K
 refine wpAnyH_done (by kernel_rfl) ?_ _
 go_wp2_with fail
 exact bodyPost_ret (ZcK rfl _ V91 6 rfl rfl Tryz.underlying117 Tryz.szT (ZaI _ _ _)) rfl ⟨rfl,V91.bel⟩
end Go.Proofs.YtcaloldcihpkfaaGreatDoor.N
