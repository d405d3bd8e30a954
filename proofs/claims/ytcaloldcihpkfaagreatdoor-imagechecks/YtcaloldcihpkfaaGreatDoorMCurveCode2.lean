/-
 The code of layer 17 (curve): plus.
-/
import Derived.Test.YtcaloldcihpkfaaGreatDoorMPackFb
import Derived.Test.YtcaloldcihpkfaaGreatDoorMPackCb
namespace Go.Proofs.YtcaloldcihpkfaaGreatDoor.N
open Go.RowKit
set_option linter.unusedVariables false
set_option maxRecDepth 8192

set_option maxHeartbeats 6400000 in
theorem Zmd (p q:T3) (w:World) (hd:DAt w):Calls Tryz.prog 82 #[.agg (tA p.x.val p.y.val p.z.val), .agg (tA q.x.val q.y.val q.z.val)] w fun e w'=>e= .returned (.agg (tA (Zcf p q).x.val (Zcf p q).y.val (Zcf p q).z.val))∧Below w.heap.size w w':=by
 have H1:Hid (∀w,Rt Tryz.prog 114 #[.agg (bA p.x.val), .agg (bA q.x.val)] (.agg (bA ((p.x*q.x).val))) w):=fun w=>ZaY (p.x) (q.x) w
 have H2:Hid (∀w,Rt Tryz.prog 114 #[.agg (bA p.y.val), .agg (bA q.y.val)] (.agg (bA ((p.y*q.y).val))) w):=fun w=>ZaY (p.y) (q.y) w
 have H3:Hid (∀w,Rt Tryz.prog 114 #[.agg (bA p.z.val), .agg (bA q.z.val)] (.agg (bA ((p.z*q.z).val))) w):=fun w=>ZaY (p.z) (q.z) w
 have H4:Hid (∀w,Rt Tryz.prog 114 #[.agg (bA ((p.z*q.z).val)), .agg (bA ((p.z*q.z).val))] (.agg (bA ((p.z*q.z*(p.z*q.z)).val))) w):=fun w=>ZaY (p.z*q.z) (p.z*q.z) w
 have H5:Hid (∀w,Rt Tryz.prog 114 #[.agg (bA ((p.x*q.x).val)), .agg (bA ((p.y*q.y).val))] (.agg (bA ((p.x*q.x*(p.y*q.y)).val))) w):=fun w=>ZaY (p.x*q.x) (p.y*q.y) w
 have H6:Hid (∀w,Rt Tryz.prog 114 #[.agg (bA dN), .agg (bA ((p.x*q.x*(p.y*q.y)).val))] (.agg (bA ((cD*(p.x*q.x*(p.y*q.y))).val))) w):=fun w=>ZaY (cD) (p.x*q.x*(p.y*q.y)) w
 have H7:Hid (∀w,Rt Tryz.prog 116 #[.agg (bA ((p.z*q.z*(p.z*q.z)).val)), .agg (bA ((cD*(p.x*q.x*(p.y*q.y))).val))] (.agg (bA ((p.z*q.z*(p.z*q.z)+cD*(p.x*q.x*(p.y*q.y))).val))) w):=fun w=>ZdE (p.z*q.z*(p.z*q.z)) (cD*(p.x*q.x*(p.y*q.y))) w
 have H8:Hid (∀w,Rt Tryz.prog 75 #[.agg (bA ((p.z*q.z*(p.z*q.z)).val)), .agg (bA ((cD*(p.x*q.x*(p.y*q.y))).val))] (.agg (bA ((p.z*q.z*(p.z*q.z) - cD*(p.x*q.x*(p.y*q.y))).val))) w):=fun w=>ZeL (p.z*q.z*(p.z*q.z)) (cD*(p.x*q.x*(p.y*q.y))) w
 have H9:Hid (∀w,Rt Tryz.prog 114 #[.agg (bA p.x.val), .agg (bA q.y.val)] (.agg (bA ((p.x*q.y).val))) w):=fun w=>ZaY (p.x) (q.y) w
 have H10:Hid (∀w,Rt Tryz.prog 114 #[.agg (bA p.y.val), .agg (bA q.x.val)] (.agg (bA ((p.y*q.x).val))) w):=fun w=>ZaY (p.y) (q.x) w
 have H11:Hid (∀w,Rt Tryz.prog 116 #[.agg (bA ((p.x*q.y).val)), .agg (bA ((p.y*q.x).val))] (.agg (bA ((p.x*q.y+p.y*q.x).val))) w):=fun w=>ZdE (p.x*q.y) (p.y*q.x) w
 have H12:Hid (∀w,Rt Tryz.prog 114 #[.agg (bA ((p.z*q.z).val)), .agg (bA ((p.x*q.y+p.y*q.x).val))] (.agg (bA ((p.z*q.z*(p.x*q.y+p.y*q.x)).val))) w):=fun w=>ZaY (p.z*q.z) (p.x*q.y+p.y*q.x) w
 have H13:Hid (∀w,Rt Tryz.prog 114 #[.agg (bA ((p.z*q.z*(p.x*q.y+p.y*q.x)).val)), .agg (bA ((p.z*q.z*(p.z*q.z) - cD*(p.x*q.x*(p.y*q.y))).val))] (.agg (bA ((Zcf p q).x.val))) w):=fun w=>ZaY (p.z*q.z*(p.x*q.y+p.y*q.x)) (p.z*q.z*(p.z*q.z) - cD*(p.x*q.x*(p.y*q.y))) w
 have H14:Hid (∀w,Rt Tryz.prog 116 #[.agg (bA ((p.y*q.y).val)), .agg (bA ((p.x*q.x).val))] (.agg (bA ((p.y*q.y+p.x*q.x).val))) w):=fun w=>ZdE (p.y*q.y) (p.x*q.x) w
 have H15:Hid (∀w,Rt Tryz.prog 114 #[.agg (bA ((p.z*q.z).val)), .agg (bA ((p.y*q.y+p.x*q.x).val))] (.agg (bA ((p.z*q.z*(p.y*q.y+p.x*q.x)).val))) w):=fun w=>ZaY (p.z*q.z) (p.y*q.y+p.x*q.x) w
 have H16:Hid (∀w,Rt Tryz.prog 114 #[.agg (bA ((p.z*q.z*(p.y*q.y+p.x*q.x)).val)), .agg (bA ((p.z*q.z*(p.z*q.z)+cD*(p.x*q.x*(p.y*q.y))).val))] (.agg (bA ((Zcf p q).y.val))) w):=fun w=>ZaY (p.z*q.z*(p.y*q.y+p.x*q.x)) (p.z*q.z*(p.z*q.z)+cD*(p.x*q.x*(p.y*q.y))) w
 have H17:Hid (∀w,Rt Tryz.prog 114 #[.agg (bA ((p.z*q.z*(p.z*q.z)+cD*(p.x*q.x*(p.y*q.y))).val)), .agg (bA ((p.z*q.z*(p.z*q.z) - cD*(p.x*q.x*(p.y*q.y))).val))] (.agg (bA ((Zcf p q).z.val))) w):=fun w=>ZaY (p.z*q.z*(p.z*q.z)+cD*(p.x*q.x*(p.y*q.y))) (p.z*q.z*(p.z*q.z) - cD*(p.x*q.x*(p.y*q.y))) w
 generalize (Zcf p q).x.val=rx at*
 generalize (Zcf p q).y.val=ry at*
 generalize (Zcf p q).z.val=rz at*
 generalize (p.z*q.z*(p.z*q.z)+cD*(p.x*q.x*(p.y*q.y))).val=fx at*
 generalize (p.z*q.z*(p.z*q.z) - cD*(p.x*q.x*(p.y*q.y))).val=fy at*
 generalize (p.z*q.z*(p.x*q.y+p.y*q.x)).val=zc at*
 generalize (p.z*q.z*(p.y*q.y+p.x*q.x)).val=zs at*
 generalize (p.y*q.y+p.x*q.x).val=su at*
 generalize (p.x*q.y+p.y*q.x).val=cr at*
 generalize (p.x*q.y).val=c1 at*
 generalize (p.y*q.x).val=c2 at*
 generalize (cD*(p.x*q.x*(p.y*q.y))).val=tu at*
 generalize (p.x*q.x*(p.y*q.y)).val=xy at*
 generalize (p.z*q.z*(p.z*q.z)).val=on at*
 generalize (p.z*q.z).val=zz at*
 generalize (p.y*q.y).val=yy at*
 generalize (p.x*q.x).val=xx at*
 generalize p.x.val=px at*
 generalize p.y.val=py at*
 generalize p.z.val=pz at*
 generalize q.x.val=qx at*
 generalize q.y.val=qy at*
 generalize q.z.val=qz at*
 have V0:=Vars.start w
 go_enter Tryz.func82,Tryz.ntmps82
 go_wp2_with (first
  | (refine Zaj V0 2 117 _ rfl rfl rfl (tA px py pz) rfl ?_;intro w1 g2 V3)
  | (refine Zaj V3 3 117 _ rfl rfl rfl (tA qx qy qz) rfl ?_;intro w4 g5 V6)
  | (refine Zai V6 4 117 rfl rfl rfl (tA 0 0 0) Zdh ?_;intro w7 g8 V9))
 refine Zar (fun _=>True) (by kernel_rfl) ?_
 have V10:=V9.drew
 refine Zcw (fuel:=18) (m:=3) (stop:=Za9 [0,1,2,3,4,5,6,7,8,9,10,11,12,13,14,15,16,17] (Array.replicate 21 false)) (fun _ _=>trivial) V10 ?_
 refine Za5 (fuel:=17) (i:=15) 5 22 (bA 0) (by kernel_rfl) (by kernel_rfl) (fun c d v a w h=>by cases d<;>exact h) Zbu (by kernel_rfl) ?_
 refine Za5 (fuel:=16) (i:=16) 6 22 (bA 0) (by kernel_rfl) (by kernel_rfl) (fun c d v a w h=>by cases d<;>exact h) Zbu (by kernel_rfl) ?_
 refine Za5 (fuel:=15) (i:=17) 7 22 (bA 0) (by kernel_rfl) (by kernel_rfl) (fun c d v a w h=>by cases d<;>exact h) Zbu (by kernel_rfl) ?_
 refine Za4 (rs:=[0,1,2,3,5,6,7,8,10,11,12,13]) (fuel:=3) (by kernel_rfl) (fun c d v a w h=>by cases d<;>exact h) (by kernel_rfl) (fun K hK=> ?_)
 refine zC (.pointer (some ⟨g2,0,none⟩)) rfl (by rfl) (fun w' hw'=> ?_) ?_
 ·go_simp
 go_simp
 refine zC (.agg (bA px)) rfl (by rfl) (fun w' hw'=>ZaT (V10.call hw') 2 rfl 0 (ZdC _ _ _) _ rfl rfl Tryz.underlying22 Tryz.szB (Zaf _)) ?_
 go_simp
 refine zC (.pointer (some ⟨g5,0,none⟩)) rfl (by rfl) (fun w' hw'=> ?_) ?_
 ·go_simp
 go_simp
 refine zC (.agg (bA qx)) rfl (by rfl) (fun w' hw'=>ZaT (V10.call hw') 1 rfl 0 (ZdC _ _ _) _ rfl rfl Tryz.underlying22 Tryz.szB (Zaf _)) ?_
 go_simp
 refine zC (.pointer (some ⟨g2,32,none⟩)) rfl (by rfl) (fun w' hw'=> ?_) ?_
 ·go_simp
 go_simp
 refine zC (.agg (bA py)) rfl (by rfl) (fun w' hw'=>ZaT (V10.call hw') 2 rfl 32 (ZdD _ _ _) _ rfl rfl Tryz.underlying22 Tryz.szB (Zaf _)) ?_
 go_simp
 refine zC (.pointer (some ⟨g5,32,none⟩)) rfl (by rfl) (fun w' hw'=> ?_) ?_
 ·go_simp
 go_simp
 refine zC (.agg (bA qy)) rfl (by rfl) (fun w' hw'=>ZaT (V10.call hw') 1 rfl 32 (ZdD _ _ _) _ rfl rfl Tryz.underlying22 Tryz.szB (Zaf _)) ?_
 go_simp
 refine zC (.pointer (some ⟨g2,64,none⟩)) rfl (by rfl) (fun w' hw'=> ?_) ?_
 ·go_simp
 go_simp
 refine zC (.agg (bA pz)) rfl (by rfl) (fun w' hw'=>ZaT (V10.call hw') 2 rfl 64 (Zfv _ _ _) _ rfl rfl Tryz.underlying22 Tryz.szB (Zaf _)) ?_
 go_simp
 refine zC (.pointer (some ⟨g5,64,none⟩)) rfl (by rfl) (fun w' hw'=> ?_) ?_
 ·go_simp
 go_simp
 refine zC (.agg (bA qz)) rfl (by rfl) (fun w' hw'=>ZaT (V10.call hw') 1 rfl 64 (Zfv _ _ _) _ rfl rfl Tryz.underlying22 Tryz.szB (Zaf _)) ?_
 go_simp
 refine Zac (hK.out _ ?_)
 clear hK K
 refine ZaE (i:=4) (fuel:=2) (by kernel_rfl) (by kernel_rfl) rfl (by rfl) (fun w11 q12 V13 K hK=> ?_)
 go_simp
 refine (H1.out w11).mono ?_
 rintro e w14 ⟨rfl,q15⟩
 have V16:=V13.call q15
 refine hK [] _ _ q15 (Fresh.nil _ _) ?_
 clear hK K q15
 refine ZaE (i:=9) (fuel:=1) (by kernel_rfl) (by kernel_rfl) rfl (by rfl) (fun w17 q18 V19 K hK=> ?_)
 go_simp
 refine (H2.out w17).mono ?_
 rintro e w20 ⟨rfl,q21⟩
 have V22:=V19.call q21
 refine hK [] _ _ q21 (Fresh.nil _ _) ?_
 clear hK K q21
 refine ZaE (i:=14) (fuel:=0) (by kernel_rfl) (by kernel_rfl) rfl (by rfl) (fun w23 q24 V25 K hK=> ?_)
 go_simp
 refine (H3.out w23).mono ?_
 rintro e w26 ⟨rfl,q27⟩
 have V28:=V25.call q27
 refine hK [] _ _ q27 (Fresh.nil _ _) ?_
 clear hK K q27
 refine Zks (by kernel_rfl) (fun w32 g29 g30 g31 q33 V34=> ?_)
 clear q33
 replace V34:Vars w w32 [⟨g29,22,bA 0⟩,⟨g30,22,bA 0⟩,⟨g31,22,bA 0⟩,⟨g8,117,tA 0 0 0⟩,⟨g5,117,tA qx qy qz⟩,⟨g2,117,tA px py pz⟩]:=V34
 refine zO 18 2 (by kernel_rfl) rfl (by rfl) fun K hK=> ?_
 refine zS V34 0 rfl _ _ rfl rfl xx rfl rfl (fun w35 V36=> ?_)
 refine hK _ _ (trivial) ?_
 clear hK K
 refine zO 19 1 (by kernel_rfl) rfl (by rfl) fun K hK=> ?_
 refine zS V36 1 rfl _ _ rfl rfl yy rfl rfl (fun w37 V38=> ?_)
 refine hK _ _ (trivial) ?_
 clear hK K
 refine zO 20 0 (by kernel_rfl) rfl (by rfl) fun K hK=> ?_
 refine zS V38 2 rfl _ _ rfl rfl zz rfl rfl (fun w39 V40=> ?_)
 refine hK _ _ (trivial) ?_
 clear hK K
 refine wpAnyH_done (by kernel_rfl) ?_ _
 go_wp2_with fail
 refine Zar (fun _=>True) (by kernel_rfl) ?_
 have V41:=V40.drew
 refine Zcw (fuel:=10) (m:=2) (stop:=Za9 [0,1,2,3,4,5,6,7,8,9] (Array.replicate 12 false)) (fun _ _=>trivial) V41 ?_
 refine Za5 (fuel:=9) (i:=8) 8 22 (bA 0) (by kernel_rfl) (by kernel_rfl) (fun c d v a w h=>by cases d<;>exact h) Zbu (by kernel_rfl) ?_
 refine Za5 (fuel:=8) (i:=9) 9 22 (bA 0) (by kernel_rfl) (by kernel_rfl) (fun c d v a w h=>by cases d<;>exact h) Zbu (by kernel_rfl) ?_
 refine Za4 (rs:=[0,1,3,4,5]) (fuel:=3) (by kernel_rfl) (fun c d v a w h=>by cases d<;>exact h) (by kernel_rfl) (fun K hK=> ?_)
 refine zC (.agg (bA zz)) rfl (by rfl) (fun w' hw'=>ZaH (V41.call hw') 2 rfl _ rfl rfl Tryz.underlying22 Tryz.szB (Zaf _)) ?_
 go_simp
 refine zC (.agg (bA zz)) rfl (by rfl) (fun w' hw'=>ZaH (V41.call hw') 2 rfl _ rfl rfl Tryz.underlying22 Tryz.szB (Zaf _)) ?_
 go_simp
 refine zC (.agg (bA dN)) rfl (by rfl) (fun w' hw'=>ZiK (hd.of (V41.call hw')) _ rfl rfl) ?_
 go_simp
 refine zC (.agg (bA xx)) rfl (by rfl) (fun w' hw'=>ZaH (V41.call hw') 0 rfl _ rfl rfl Tryz.underlying22 Tryz.szB (Zaf _)) ?_
 go_simp
 refine zC (.agg (bA yy)) rfl (by rfl) (fun w' hw'=>ZaH (V41.call hw') 1 rfl _ rfl rfl Tryz.underlying22 Tryz.szB (Zaf _)) ?_
 go_simp
 refine Zac (hK.out _ ?_)
 clear hK K
 refine ZaE (i:=2) (fuel:=2) (by kernel_rfl) (by kernel_rfl) rfl (by rfl) (fun w42 q43 V44 K hK=> ?_)
 go_simp
 refine (H4.out w42).mono ?_
 rintro e w45 ⟨rfl,q46⟩
 have V47:=V44.call q46
 refine hK [] _ _ q46 (Fresh.nil _ _) ?_
 clear hK K q46
 refine ZaE (i:=6) (fuel:=1) (by kernel_rfl) (by kernel_rfl) rfl (by rfl) (fun w48 q49 V50 K hK=> ?_)
 go_simp
 refine (H5.out w48).mono ?_
 rintro e w51 ⟨rfl,q52⟩
 have V53:=V50.call q52
 refine hK [] _ _ q52 (Fresh.nil _ _) ?_
 clear hK K q52
 refine ZaE (i:=7) (fuel:=0) (by kernel_rfl) (by kernel_rfl) rfl (by rfl) (fun w54 q55 V56 K hK=> ?_)
 go_simp
 refine (H6.out w54).mono ?_
 rintro e w57 ⟨rfl,q58⟩
 have V59:=V56.call q58
 refine hK [] _ _ q58 (Fresh.nil _ _) ?_
 clear hK K q58
 refine ZhS (by kernel_rfl) (fun w62 g60 g61 q63 V64=> ?_)
 clear q63
 replace V64:Vars w w62 [⟨g60,22,bA 0⟩,⟨g61,22,bA 0⟩,⟨g29,22,bA xx⟩,⟨g30,22,bA yy⟩,⟨g31,22,bA zz⟩,⟨g8,117,tA 0 0 0⟩,⟨g5,117,tA qx qy qz⟩,⟨g2,117,tA px py pz⟩]:=V64
 refine zO 10 1 (by kernel_rfl) rfl (by rfl) fun K hK=> ?_
 refine zS V64 0 rfl _ _ rfl rfl on rfl rfl (fun w65 V66=> ?_)
 refine hK _ _ (trivial) ?_
 clear hK K
 refine zO 11 0 (by kernel_rfl) rfl (by rfl) fun K hK=> ?_
 refine zS V66 1 rfl _ _ rfl rfl tu rfl rfl (fun w67 V68=> ?_)
 refine hK _ _ (trivial) ?_
 clear hK K
 refine wpAnyH_done (by kernel_rfl) ?_ _
 go_wp2_with fail
 refine Zar (fun _=>True) (by kernel_rfl) ?_
 have V69:=V68.drew
 refine Zcw (fuel:=8) (m:=2) (stop:=Za9 [0,1,2,3,4,5,6,7] (Array.replicate 10 false)) (fun _ _=>trivial) V69 ?_
 refine Za5 (fuel:=7) (i:=6) 10 22 (bA 0) (by kernel_rfl) (by kernel_rfl) (fun c d v a w h=>by cases d<;>exact h) Zbu (by kernel_rfl) ?_
 refine Za5 (fuel:=6) (i:=7) 11 22 (bA 0) (by kernel_rfl) (by kernel_rfl) (fun c d v a w h=>by cases d<;>exact h) Zbu (by kernel_rfl) ?_
 refine Za4 (rs:=[0,1,3,4]) (fuel:=2) (by kernel_rfl) (fun c d v a w h=>by cases d<;>exact h) (by kernel_rfl) (fun K hK=> ?_)
 refine zC (.agg (bA on)) rfl (by rfl) (fun w' hw'=>ZaH (V69.call hw') 0 rfl _ rfl rfl Tryz.underlying22 Tryz.szB (Zaf _)) ?_
 go_simp
 refine zC (.agg (bA tu)) rfl (by rfl) (fun w' hw'=>ZaH (V69.call hw') 1 rfl _ rfl rfl Tryz.underlying22 Tryz.szB (Zaf _)) ?_
 go_simp
 refine zC (.agg (bA on)) rfl (by rfl) (fun w' hw'=>ZaH (V69.call hw') 0 rfl _ rfl rfl Tryz.underlying22 Tryz.szB (Zaf _)) ?_
 go_simp
 refine zC (.agg (bA tu)) rfl (by rfl) (fun w' hw'=>ZaH (V69.call hw') 1 rfl _ rfl rfl Tryz.underlying22 Tryz.szB (Zaf _)) ?_
 go_simp
 refine Zac (hK.out _ ?_)
 clear hK K
 refine ZaE (i:=2) (fuel:=1) (by kernel_rfl) (by kernel_rfl) rfl (by rfl) (fun w70 q71 V72 K hK=> ?_)
 go_simp
 refine (H7.out w70).mono ?_
 rintro e w73 ⟨rfl,q74⟩
 have V75:=V72.call q74
 refine hK [] _ _ q74 (Fresh.nil _ _) ?_
 clear hK K q74
 refine ZaE (i:=5) (fuel:=0) (by kernel_rfl) (by kernel_rfl) rfl (by rfl) (fun w76 q77 V78 K hK=> ?_)
 go_simp
 refine (H8.out w76).mono ?_
 rintro e w79 ⟨rfl,q80⟩
 have V81:=V78.call q80
 refine hK [] _ _ q80 (Fresh.nil _ _) ?_
 clear hK K q80
 refine ZhS (by kernel_rfl) (fun w84 g82 g83 q85 V86=> ?_)
 clear q85
 replace V86:Vars w w84 [⟨g82,22,bA 0⟩,⟨g83,22,bA 0⟩,⟨g60,22,bA on⟩,⟨g61,22,bA tu⟩,⟨g29,22,bA xx⟩,⟨g30,22,bA yy⟩,⟨g31,22,bA zz⟩,⟨g8,117,tA 0 0 0⟩,⟨g5,117,tA qx qy qz⟩,⟨g2,117,tA px py pz⟩]:=V86
 refine zO 8 1 (by kernel_rfl) rfl (by rfl) fun K hK=> ?_
 refine zS V86 0 rfl _ _ rfl rfl fx rfl rfl (fun w87 V88=> ?_)
 refine hK _ _ (trivial) ?_
 clear hK K
 refine zO 9 0 (by kernel_rfl) rfl (by rfl) fun K hK=> ?_
 refine zS V88 1 rfl _ _ rfl rfl fy rfl rfl (fun w89 V90=> ?_)
 refine hK _ _ (trivial) ?_
 clear hK K
 refine wpAnyH_done (by kernel_rfl) ?_ _
 go_wp2_with fail
 refine Zar (fun _=>True) (by kernel_rfl) ?_
 have V91:=V90.drew
 refine Zcw (fuel:=12) (m:=1) (stop:=Za9 [0,1,2,3,4,5,6,7,8,9,10,11] (Array.replicate 13 false)) (fun _ _=>trivial) V91 ?_
 refine Za5 (fuel:=11) (i:=11) 12 22 (bA 0) (by kernel_rfl) (by kernel_rfl) (fun c d v a w h=>by cases d<;>exact h) Zbu (by kernel_rfl) ?_
 refine Za4 (rs:=[0,1,2,3,5,6,7,8]) (fuel:=3) (by kernel_rfl) (fun c d v a w h=>by cases d<;>exact h) (by kernel_rfl) (fun K hK=> ?_)
 refine zC (.pointer (some ⟨g2,0,none⟩)) rfl (by rfl) (fun w' hw'=> ?_) ?_
 ·go_simp
 go_simp
 refine zC (.agg (bA px)) rfl (by rfl) (fun w' hw'=>ZaT (V91.call hw') 9 rfl 0 (ZdC _ _ _) _ rfl rfl Tryz.underlying22 Tryz.szB (Zaf _)) ?_
 go_simp
 refine zC (.pointer (some ⟨g5,32,none⟩)) rfl (by rfl) (fun w' hw'=> ?_) ?_
 ·go_simp
 go_simp
 refine zC (.agg (bA qy)) rfl (by rfl) (fun w' hw'=>ZaT (V91.call hw') 8 rfl 32 (ZdD _ _ _) _ rfl rfl Tryz.underlying22 Tryz.szB (Zaf _)) ?_
 go_simp
 refine zC (.pointer (some ⟨g2,32,none⟩)) rfl (by rfl) (fun w' hw'=> ?_) ?_
 ·go_simp
 go_simp
 refine zC (.agg (bA py)) rfl (by rfl) (fun w' hw'=>ZaT (V91.call hw') 9 rfl 32 (ZdD _ _ _) _ rfl rfl Tryz.underlying22 Tryz.szB (Zaf _)) ?_
 go_simp
 refine zC (.pointer (some ⟨g5,0,none⟩)) rfl (by rfl) (fun w' hw'=> ?_) ?_
 ·go_simp
 go_simp
 refine zC (.agg (bA qx)) rfl (by rfl) (fun w' hw'=>ZaT (V91.call hw') 8 rfl 0 (ZdC _ _ _) _ rfl rfl Tryz.underlying22 Tryz.szB (Zaf _)) ?_
 go_simp
 refine Zac (hK.out _ ?_)
 clear hK K
 refine ZaE (i:=4) (fuel:=2) (by kernel_rfl) (by kernel_rfl) rfl (by rfl) (fun w93 q94 V95 K hK=> ?_)
 go_simp
 refine (H9.out w93).mono ?_
 rintro e w96 ⟨rfl,q97⟩
 have V98:=V95.call q97
 refine hK [] _ _ q97 (Fresh.nil _ _) ?_
 clear hK K q97
 refine ZaE (i:=9) (fuel:=1) (by kernel_rfl) (by kernel_rfl) rfl (by rfl) (fun w99 q100 V101 K hK=> ?_)
 go_simp
 refine (H10.out w99).mono ?_
 rintro e w102 ⟨rfl,q103⟩
 have V104:=V101.call q103
 refine hK [] _ _ q103 (Fresh.nil _ _) ?_
 clear hK K q103
 refine ZaE (i:=10) (fuel:=0) (by kernel_rfl) (by kernel_rfl) rfl (by rfl) (fun w105 q106 V107 K hK=> ?_)
 go_simp
 refine (H11.out w105).mono ?_
 rintro e w108 ⟨rfl,q109⟩
 have V110:=V107.call q109
 refine hK [] _ _ q109 (Fresh.nil _ _) ?_
 clear hK K q109
 refine ZdX (by kernel_rfl) (fun w112 g111 q113 V114=> ?_)
 clear q113
 replace V114:Vars w w112 [⟨g111,22,bA 0⟩,⟨g82,22,bA fx⟩,⟨g83,22,bA fy⟩,⟨g60,22,bA on⟩,⟨g61,22,bA tu⟩,⟨g29,22,bA xx⟩,⟨g30,22,bA yy⟩,⟨g31,22,bA zz⟩,⟨g8,117,tA 0 0 0⟩,⟨g5,117,tA qx qy qz⟩,⟨g2,117,tA px py pz⟩]:=V114
 refine zO 12 0 (by kernel_rfl) rfl (by rfl) fun K hK=> ?_
 refine zS V114 0 rfl _ _ rfl rfl cr rfl rfl (fun w115 V116=> ?_)
 refine hK _ _ (trivial) ?_
 clear hK K
 refine wpAnyH_done (by kernel_rfl) ?_ _
 go_wp2_with fail
 refine Zar (fun w'=>Vars w w' [⟨g111,22,bA cr⟩,⟨g82,22,bA fx⟩,⟨g83,22,bA fy⟩,⟨g60,22,bA on⟩,⟨g61,22,bA tu⟩,⟨g29,22,bA xx⟩,⟨g30,22,bA yy⟩,⟨g31,22,bA zz⟩,⟨g5,117,tA qx qy qz⟩,⟨g2,117,tA px py pz⟩]) (by kernel_rfl) ?_
 have V117:=V116.drew
 refine zR [0,1,3,5,6,7,10,12,13] 8 (by kernel_rfl) (fun _ _ _ _ _ h=>h) ((V117.del 8)) fun K hK=> ?_
 refine zC (.agg (bA zz)) rfl (by rfl) (fun w' hw'=>zB hw' 7 rfl _ rfl rfl) ?_
 go_simp
 refine zC (.agg (bA cr)) rfl (by rfl) (fun w' hw'=>zB hw' 0 rfl _ rfl rfl) ?_
 go_simp
 refine zC (.agg (bA fy)) rfl (by rfl) (fun w' hw'=>zB hw' 2 rfl _ rfl rfl) ?_
 go_simp
 refine zC (.agg (bA zz)) rfl (by rfl) (fun w' hw'=>zB hw' 7 rfl _ rfl rfl) ?_
 go_simp
 refine zC (.agg (bA yy)) rfl (by rfl) (fun w' hw'=>zB hw' 6 rfl _ rfl rfl) ?_
 go_simp
 refine zC (.agg (bA xx)) rfl (by rfl) (fun w' hw'=>zB hw' 5 rfl _ rfl rfl) ?_
 go_simp
 refine zC (.agg (bA fx)) rfl (by rfl) (fun w' hw'=>zB hw' 1 rfl _ rfl rfl) ?_
 go_simp
 refine zC (.agg (bA fx)) rfl (by rfl) (fun w' hw'=>zB hw' 1 rfl _ rfl rfl) ?_
 go_simp
 refine zC (.agg (bA fy)) rfl (by rfl) (fun w' hw'=>zB hw' 2 rfl _ rfl rfl) ?_
 go_simp
 refine Zac (hK.out _ ?_)
 clear hK K
 refine zO 2 7 (by kernel_rfl) rfl (by rfl) fun K hK=> ?_
 go_simp
 refine (H12.out w115.drew).mono ?_
 rintro e w118 ⟨rfl,q120⟩
 have V119:=V117.call q120
 refine hK _ _ ((V119.del 8)) ?_
 clear hK K q120
 refine zO 4 6 (by kernel_rfl) rfl (by rfl) fun K hK=> ?_
 go_simp
 refine (H13.out w118).mono ?_
 rintro e w121 ⟨rfl,q123⟩
 have V122:=V119.call q123
 refine hK _ _ ((V122.del 8)) ?_
 clear hK K q123
 refine zO 8 5 (by kernel_rfl) rfl (by rfl) fun K hK=> ?_
 go_simp
 refine (H14.out w121).mono ?_
 rintro e w124 ⟨rfl,q126⟩
 have V125:=V122.call q126
 refine hK _ _ ((V125.del 8)) ?_
 clear hK K q126
 refine zO 9 4 (by kernel_rfl) rfl (by rfl) fun K hK=> ?_
 go_simp
 refine (H15.out w124).mono ?_
 rintro e w127 ⟨rfl,q129⟩
 have V128:=V125.call q129
 refine hK _ _ ((V128.del 8)) ?_
 clear hK K q129
 refine zO 11 3 (by kernel_rfl) rfl (by rfl) fun K hK=> ?_
 go_simp
 refine (H16.out w127).mono ?_
 rintro e w130 ⟨rfl,q132⟩
 have V131:=V128.call q132
 refine hK _ _ ((V131.del 8)) ?_
 clear hK K q132
 refine zO 14 2 (by kernel_rfl) rfl (by rfl) fun K hK=> ?_
 go_simp
 refine (H17.out w130).mono ?_
 rintro e w133 ⟨rfl,q135⟩
 have V134:=V131.call q135
 refine hK _ _ ((V134.del 8)) ?_
 clear hK K q135
 refine zR [15] 1 (by kernel_rfl) (fun _ _ _ _ _ h=>h) ((V134.del 8)) fun K hK=> ?_
 go_simp
 refine zC (.agg (tA rx ry rz)) rfl (by rfl) (fun w' hw'=> ?_) ?_
 ·refine ZcT 117 _ rfl (tA rx ry rz) ?_
  exact (ZiL _ _ _)
 go_simp
 refine Zac (hK.out _ ?_)
 clear hK K
 refine zO 16 0 (by kernel_rfl) rfl (by rfl) fun K hK=> ?_
 refine ZbD V134 8 rfl _ _ rfl rfl (tA rx ry rz) rfl rfl Tryz.szT (ZaI _ _ _) (ZaI _ _ _) (ZcJ _ _ _) (fun w136 V137=> ?_)
 refine hK _ _ ((V137.del 8)) ?_
 clear hK K
 refine wpAnyH_done (by kernel_rfl) ?_ _
 go_wp2_with fail
 exact bodyPost_ret (ZcK rfl _ V137 8 rfl rfl Tryz.underlying117 Tryz.szT (ZaI _ _ _)) rfl ⟨rfl,V137.bel⟩
end Go.Proofs.YtcaloldcihpkfaaGreatDoor.N
