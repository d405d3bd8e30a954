/-
 The code of layer 17 (curve): Add, Neg, Scale.
-/
import Derived.Test.YtcaloldcihpkfaaGreatDoorMPackFb
import Derived.Test.YtcaloldcihpkfaaGreatDoorMCurveCode4
import Derived.Test.YtcaloldcihpkfaaGreatDoorMCurveCode5
namespace Go.Proofs.YtcaloldcihpkfaaGreatDoor.N
open Go.RowKit
set_option linter.unusedVariables false
set_option maxRecDepth 8192

set_option maxHeartbeats 1600000 in
theorem Zmg {p q:Pt} (hp:OnC p) (hq:OnC q) (w:World) (hd:DAt w):Calls Tryz.prog 35 #[.agg (pA p.x.val p.y.val), .agg (pA q.x.val q.y.val)] w fun e w'=>e= .returned (.tuple #[.agg (pA (psum p q).x.val (psum p q).y.val), .int .i64 0])∧Below w.heap.size w w':=by
 have HX:Hid (∀w,DAt w→Rt Tryz.prog 80 #[.agg (pA p.x.val p.y.val)] (.bool true) w):=fun w hd=>ZfD hp w hd
 have HY:Hid (∀w,DAt w→Rt Tryz.prog 80 #[.agg (pA q.x.val q.y.val)] (.bool true) w):=fun w hd=>ZfD hq w hd
 obtain ⟨t,ht⟩:∃t,t=Zcf ⟨p.x,p.y,1⟩ ⟨q.x,q.y,1⟩:=⟨_,rfl⟩
 have HP:Hid (∀w,DAt w→Rt Tryz.prog 82 #[.agg (tA p.x.val p.y.val 1), .agg (tA q.x.val q.y.val 1)] (.agg (tA t.x.val t.y.val t.z.val)) w):=fun w hd=>by rw [ht];exact Zmd ⟨p.x,p.y,1⟩ ⟨q.x,q.y,1⟩ w hd
 have HD:Hid (∀w,Rt Tryz.prog 83 #[.agg (tA t.x.val t.y.val t.z.val)] (.agg (pA (psum p q).x.val (psum p q).y.val)) w):=fun w=>ZlO t (psum p q) (by rw [ht];exact (Stands.one p).plus (Stands.one q) hp hq) w
 clear ht hp hq
 generalize (psum p q).x.val=rx at*
 generalize (psum p q).y.val=ry at*
 generalize t.x.val=tx at*
 generalize t.y.val=ty at*
 generalize t.z.val=tz at*
 generalize p.x.val=x at*
 generalize p.y.val=y at*
 generalize q.x.val=u at*
 generalize q.y.val=v at*
 have V0:=Vars.start w
 go_enter Tryz.func35,Tryz.ntmps35
 go_wp2_with (first
  | (refine Zaj V0 2 76 _ rfl rfl rfl (pA x y) rfl ?_;intro w1 g2 V3)
  | (refine Zaj V3 3 76 _ rfl rfl rfl (pA u v) rfl ?_;intro w4 g5 V6)
  | (refine Zai V6 4 76 rfl rfl rfl (pA 0 0) Za7 ?_;intro w7 g8 V9)
  | (refine Zax rfl (Zbn V9 2 rfl _ rfl rfl Tryz.underlying76 Tryz.szP (Zak _ _)) ?_))
 refine (HX.out w7 (hd.of V9)).mono ?_
 rintro e w10 ⟨rfl,q12⟩
 have V11:=V9.call q12
 clear q12 V9
 go_wp2_with (refine Zax rfl (Zbn V11 1 rfl _ rfl rfl Tryz.underlying76 Tryz.szP (Zak _ _)) ?_)
 refine (HY.out w10 (hd.of V11)).mono ?_
 rintro e w13 ⟨rfl,q15⟩
 have V14:=V11.call q15
 clear q15 V11
 go_wp2_with fail
 refine Zar (fun w'=>Vars w w' [⟨g5,76,pA u v⟩,⟨g2,76,pA x y⟩]) (by kernel_rfl) ?_
 have V16:=V14.drew
 refine zR [0,2] 6 (by kernel_rfl) (fun _ _ _ _ _ h=>h) (V16.tail) fun K hK=> ?_
 refine zC (.agg (pA x y)) rfl (by rfl) (fun w' hw'=>Zbn hw' 1 rfl _ rfl rfl Tryz.underlying76 Tryz.szP (Zak _ _)) ?_
 go_simp
 refine zC (.agg (pA u v)) rfl (by rfl) (fun w' hw'=>Zbn hw' 0 rfl _ rfl rfl Tryz.underlying76 Tryz.szP (Zak _ _)) ?_
 go_simp
 refine Zac (hK.out _ ?_)
 clear hK K
 refine zO 1 5 (by kernel_rfl) rfl (by rfl) fun K hK=> ?_
 go_simp
 refine (ZgC x y w13.drew).mono ?_
 rintro e w17 ⟨rfl,q19⟩
 have V18:=V16.call q19
 refine hK _ _ (V18.tail) ?_
 clear hK K q19
 refine zO 3 4 (by kernel_rfl) rfl (by rfl) fun K hK=> ?_
 go_simp
 refine (ZgC u v w17).mono ?_
 rintro e w20 ⟨rfl,q22⟩
 have V21:=V18.call q22
 refine hK _ _ (V21.tail) ?_
 clear hK K q22
 refine zO 4 3 (by kernel_rfl) rfl (by rfl) fun K hK=> ?_
 go_simp
 refine (HP.out w20 (hd.of V21)).mono ?_
 rintro e w23 ⟨rfl,q25⟩
 have V24:=V21.call q25
 refine hK _ _ (V24.tail) ?_
 clear hK K q25
 refine zO 5 2 (by kernel_rfl) rfl (by rfl) fun K hK=> ?_
 go_simp
 refine (HD.out w23).mono ?_
 rintro e w26 ⟨rfl,q28⟩
 have V27:=V24.call q28
 refine hK _ _ (V27.tail) ?_
 clear hK K q28
 refine zO 6 1 (by kernel_rfl) rfl (by rfl) fun K hK=> ?_
 refine ZbD V27 0 rfl _ _ rfl rfl (pA rx ry) rfl rfl Tryz.szP (Zak _ _) (Zak _ _) (Za6 _ _) (fun w29 V30=> ?_)
 refine hK _ _ (V30.tail) ?_
 clear hK K
 refine zR [7] 0 (by kernel_rfl) (fun _ _ _ _ _ h=>h) (V30.tail) fun K hK=> ?_
 go_simp
 refine ZaB _ rfl (by rfl) rfl ?_
 go_simp
 refine Zac (hK.out _ ?_)
 clear hK K
 refine wpAnyH_done (by kernel_rfl) ?_ _
 go_wp2_with fail
 exact bodyPost_ret (Zdg rfl _ V30 0 rfl rfl Tryz.underlying76 Tryz.szP (Zak _ _)) rfl ⟨rfl,V30.bel⟩
theorem ZtK {z:List Nat} (dz:Dig z) {len:Nat} (h:z.length=len):vL z<2^(8*len):=by
 have:=dz.vL_lt
 rw [h] at this
 rwa [Nat.pow_mul]
set_option maxHeartbeats 1600000 in
theorem ZtL (z:List Nat) (dz:Dig z) (ad:Option Addr) (len cap:Nat) {p:Pt} (hp:OnC p) (w:World) (hd:DAt w) (hr:Row .u8 w ad len cap (nI z)) (hl:len≤1000):
  Calls Tryz.prog 84 #[.slice ad len cap, .agg (pA p.x.val p.y.val)] w fun e w'=>e= .returned (.tuple #[.agg (pA (Zau (vL z) p).x.val (Zau (vL z) p).y.val), .int .i64 0])∧Below w.heap.size w w':=by
 have HX:Hid (∀w,DAt w→Rt Tryz.prog 80 #[.agg (pA p.x.val p.y.val)] (.bool true) w):=fun w hd=>ZfD hp w hd
 obtain ⟨t,ht⟩:∃t,t=run3 ⟨p.x,p.y,1⟩ (vL z) (8*len) (8*len):=⟨_,rfl⟩
 have hlz:z.length=len:=by have:=hr.hlen;rwa [Zaa] at this
 have HP:Hid (∀w,DAt w→Row .u8 w ad len cap (nI z)→Rt Tryz.prog 126 #[.slice ad len cap, .agg (tA p.x.val p.y.val 1)] (.agg (tA t.x.val t.y.val t.z.val)) w):=fun w hd hr=>by rw [ht];exact ZtH z dz ad len cap ⟨p.x,p.y,1⟩ w hd hr hl
 have HD:Hid (∀w,Rt Tryz.prog 83 #[.agg (tA t.x.val t.y.val t.z.val)] (.agg (pA (Zau (vL z) p).x.val (Zau (vL z) p).y.val)) w):=fun w=>ZlO t (Zau (vL z) p) (by rw [ht];exact (Stands.one p).all hp (vL z) (8*len) (ZtK dz hlz)) w
 have HR:Hid (Row .u8 w ad len cap (nI z)):=hr
 clear ht hp hlz hr dz hl
 generalize (Zau (vL z) p).x.val=rx at*
 generalize (Zau (vL z) p).y.val=ry at*
 generalize t.x.val=tx at*
 generalize t.y.val=ty at*
 generalize t.z.val=tz at*
 generalize p.x.val=x at*
 generalize p.y.val=y at*
 have V0:=Vars.start w
 go_enter Tryz.func84,Tryz.ntmps84
 go_wp2_with (first
  | (refine Zaj V0 3 76 _ rfl rfl rfl (pA x y) rfl ?_;intro w1 g2 V3)
  | (refine Zai V3 4 76 rfl rfl rfl (pA 0 0) Za7 ?_;intro w4 g5 V6)
  | (refine Zax rfl (Zbn V6 1 rfl _ rfl rfl Tryz.underlying76 Tryz.szP (Zak _ _)) ?_))
 refine (HX.out w4 (hd.of V6)).mono ?_
 rintro e w7 ⟨rfl,q9⟩
 have V8:=V6.call q9
 clear q9 V6
 go_wp2_with (refine Zax rfl (Zbn V8 1 rfl _ rfl rfl Tryz.underlying76 Tryz.szP (Zak _ _)) ?_)
 refine (ZgC x y w7).mono ?_
 rintro e w10 ⟨rfl,q12⟩
 have V11:=V8.call q12
 clear q12 V8
 go_wp2_with fail
 refine (HP.out w10 (hd.of V11) (HR.out.below V11.bel (Nat.le_refl _))).mono ?_
 rintro e w13 ⟨rfl,q15⟩
 have V14:=V11.call q15
 clear q15 V11
 go_wp2_with fail
 refine (HD.out w13).mono ?_
 rintro e w16 ⟨rfl,q18⟩
 have V17:=V14.call q18
 clear q18 V14
 go_wp2_with (refine Zal V17 0 rfl _ (.tmp 14) rfl rfl rfl (pA rx ry) rfl rfl Tryz.szP (Zak _ _) (Zak _ _) (Za6 _ _) ?_;intro w19 V20)
 exact bodyPost_ret (Zdg rfl _ V20 0 rfl rfl Tryz.underlying76 Tryz.szP (Zak _ _)) rfl ⟨rfl,V20.bel⟩
end Go.Proofs.YtcaloldcihpkfaaGreatDoor.N
