/-
 Layer 23's laws: Sound.
-/
import Derived.Test.YtcaloldcihpkfaaGreatDoorSImageLaws
import Derived.Test.YtcaloldcihpkfaaGreatDoorSPackIs
import Derived.Test.YtcaloldcihpkfaaGreatDoorSPackMs
namespace Go.Proofs.YtcaloldcihpkfaaGreatDoor.N
open Go.RowKit
set_option linter.unusedVariables false
set_option maxRecDepth 8192

theorem Zwg {l:List Ky} {fuse:Int} {D:List Int} (h:Za8 l fuse D=0):mayK l=true∧64≤D.length∧isMf (ovI D)=true∧fndC l (Zab (ovI D) 12)=0∧verB (fndD l (Zab (ovI D) 12)) (ovI D) (snI D)=0∧fuse≤Zab (ovI D) 8:=by
 unfold Za8 at h
 cases h1:mayK l
 ·rw [h1] at h;cases h
 by_cases h2:64≤D.length
 case neg=>rw [h1,decide_eq_false h2] at h;cases h
 cases h3:isMf (ovI D)
 ·rw [h1,decide_eq_true h2,h3] at h;cases h
 by_cases h4:fndC l (Zab (ovI D) 12)=0
 case neg=>rw [h1,decide_eq_true h2,h3,decide_eq_false h4] at h;exact absurd h h4
 by_cases h5:verB (fndD l (Zab (ovI D) 12)) (ovI D) (snI D)=0
 case neg=>rw [h1,decide_eq_true h2,h3,decide_eq_true h4,decide_eq_false h5] at h;cases h
 by_cases h6:fuse≤Zab (ovI D) 8
 case neg=>rw [h1,decide_eq_true h2,h3,decide_eq_true h4,decide_eq_true h5,decide_eq_false h6] at h;cases h
 exact ⟨rfl,h2,rfl,h4,h5,h6⟩
theorem Zwh {l:List Ky} {fuse:Int} {D:List Int} {n:Nat} {R:Nat→B.PartV} (h:ZbN l fuse D n R=0):Za8 l fuse D=0∧n=cnt (ovI D)∧areS (sgsI D) R n=true:=by
 unfold ZbN at h
 by_cases h1:Za8 l fuse D=0
 case neg=>rw [decide_eq_false h1] at h;exact absurd h h1
 by_cases h2:n=cnt (ovI D)
 case neg=>rw [decide_eq_true h1,decide_eq_false h2] at h;cases h
 cases h3:areS (sgsI D) R n
 ·rw [decide_eq_true h1,decide_eq_true h2,h3] at h;cases h
 exact ⟨h1,h2,rfl⟩
set_option maxHeartbeats 3200000 in
theorem Zwi (ra:Option Addr) (rn rc:Nat) (l:List Ky) (fuse:Int) (sa:Option Addr) (sn sc:Nat) (D:List Int) (pa:Option Addr) (m pc:Nat) (R:Nat→B.PartV) (w:World) (hr:KRow w ra rn rc l) (ok:∀s∈l,s.Ok) (hs:Row .u8 w sa sn sc D) (hD:IsB D) (hp:B.PartsAt w pa m pc R) (ho:OAt w) (hd:DAt w):
  Calls Tryz.prog 6 #[.slice ra rn rc, .int .i64 fuse, .slice sa sn sc, .slice pa m pc] w fun e' w'=>e'= .returned (.bool true)∧Below w.heap.size w w':=by
 have hsm:=Zu5 (v:=0) (s:=0) (k:=0) (e:=0) (a:=none) (n:=0) (c:=0) (w:=w) (by unfold maxLen;omega) hp
 have hrm:=hr.hmax
 have hrc:=hr.hcap
 have hsm2:=hs.hmax
 have hsc:=hs.hcap
 unfold maxLen at hrm hsm2
 go_enter Tryz.func6,Tryz.ntmps6
 go_wp2_with (refine ZaR 16 25 [] (by rfl) rfl rfl mf00 Zmx ?_)
 refine hsm.mono ?_
 rintro e1 w1 ⟨rfl,q1⟩
 clear hsm
 cases hsb:Zcz 0 m R
 ·go_wp2
  go_ret
  exact ⟨rfl,q1⟩
 by_cases hrn:rn≤20
 case neg=>
  have hrn':(20:Int)<(rn:Int):=by omega
  go_wp2
  go_ret
  exact ⟨rfl,q1⟩
 have hrn':¬(20:Int)<(rn:Int):=by omega
 by_cases hsn:sn≤600
 case neg=>
  have hsn':(600:Int)<(sn:Int):=by omega
  go_wp2
  go_ret
  exact ⟨rfl,q1⟩
 have hsn':¬(600:Int)<(sn:Int):=by omega
 have hlen:∀i,i<m→(R i).len≤100000:=fun i hi=>Nat.le_trans ((ZmN hsb).2.2 i hi) (by decide)
 have hm20:=(ZmN hsb).2.1
 clear hsb
 have V0:Vars w w1 []:=(Vars.start w).call q1
 obtain ⟨r,hr0⟩:∃r,ZbN l fuse D m R=r:=⟨_,rfl⟩
 have hck:=Zv5 (fuse:=fuse) (hr.below q1 (Nat.le_refl _)) ok (hs.below q1 (Nat.le_refl _)) hD (by omega) (ho.of V0) (hd.of V0) (hp.below q1 (Nat.le_refl _)) hlen hr0
 have HR0:Hid (ZbN l fuse D m R=r):=hr0
 clear hr0 q1
 go_wp2_with fail
 refine hck.mono ?_
 rintro e2 w2 ⟨q2,X,rfl,hX5,hX1,hXn,hXy⟩
 have V2:=V0.call q2
 have HX:Hid ((r≠0→X=ld00)∧(r=0→isMf (ovI D)=true∧m=cnt (ovI D)∧∃la lc,X= #[.int .i64 0, .int .i64 (Zab (ovI D) 16), .int .i64 (Zab (ovI D) 8), .slice la m lc, .int .i64 0]∧LdRow w2 la m lc (sgsI D) R)):=by
  refine ⟨hXn,fun h=> ?_⟩
  obtain ⟨h1,h2,la,lc,h3,Z,_,h4⟩:=hXy h
  obtain ⟨la',lc',e',h5⟩:=h4.row
  cases e'
  exact ⟨h1,h2,la,lc,h3,h5⟩
 have U2:=Vars.start w2
 clear hXn hXy V0 hck q2
 go_upto_region 4 with (first
  | (refine Zai U2 9 44 rfl rfl rfl ld00 ZfG ?_;intro w3 g9 U3)
  | (refine Zal U3 0 rfl _ (.tmp 36) rfl rfl rfl X rfl rfl Tryz.szLd rfl hX5 hX1 ?_;intro w4 U4))
 have V4:=V2.made U4.bel (U4.low _ (List.mem_singleton.2 rfl)) (U4.at 0 rfl)
 have Q24:=U4.bel
 clear U2 U3 U4
 by_cases hr1:r=0
 case neg=>
  have hXe:=HX.out.1 hr1
  subst hXe
  have hr9:(r != 0)=true:=by simpa using hr1
  go_wp2_with fail
  refine (ZmQ w4 (ho.of V4) (hd.of V4)).mono ?_
  rintro e5 w5 ⟨rfl,q5⟩
  have V5:=V4.call q5
  go_wp2_with (refine Zax rfl (Zb3 V5 0 rfl _ rfl rfl Tryz.underlying44 rfl Tryz.szLd rfl) ?_)
  refine (Zv4 w5).mono ?_
  rintro e6 w6 ⟨rfl,q6⟩
  have V6:=V5.call q6
  go_wp2
  go_ret
  exact ⟨rfl,V6.bel⟩
 subst hr1
 obtain ⟨hmf,hcn,la,lc,hXe,hld⟩:=HX.out.2 rfl
 obtain ⟨hh0,z1,har⟩:=Zwh HR0.out
 obtain ⟨hK,h64,z2,hf,hv,hfu⟩:=Zwg hh0
 have HCN:Hid (m=cnt (ovI D)):=hcn
 clear z1 z2 hcn
 have hld4:=hld.below Q24
 have hDl:D.length=sn:=hs.hlen
 subst hXe
 clear HX HR0 hh0 hld Q24 V2 hX5 hX1
 obtain ⟨q,rfl⟩:∃q,sn=q+64:=⟨sn - 64,by omega⟩
 have eo:ovI D=D.take q:=by unfold ovI;rw [hDl,Nat.add_sub_cancel]
 have es:snI D=D.drop q:=by unfold snI;rw [hDl,Nat.add_sub_cancel]
 have hs4:=hs.below V4.bel (Nat.le_refl _)
 obtain ⟨b,off,rfl,z1,z2⟩:=hs.hcell (by omega)
 clear z1 z2
 have rt4:=Zdr hs4 q (by omega)
 have rd4:=Zep hs4 q (by omega)
 rw [←eo] at rt4
 rw [←es,Nat.add_sub_cancel_left] at rd4
 have hoB:IsB (ovI D):=Zcr hD _
 have hsB:IsB (snI D):=Zck hD _
 have hsL:(snI D).length=64:=by rw [es,List.length_drop,hDl];omega
 have hpr:=Zwf rt4 hoB (by omega)
 have hfd:=fun (w':World) (h:KRow w' ra rn rc l)=>Zux (x:=Zab (ovI D) 12) h ok hK
 have hfo:=Zh9 ok (Zab (ovI D) 12)
 have hsg:ZaN (ovI D) (cnt (ovI D))=sgsI D:=rfl
 have hsgO:∀s∈sgsI D,s.Ok:=Zel hoB (by have:=Zf5 (Zf6 hmf).2.1;omega)
 rw [hf] at hfd
 clear hs hs4 hD hDl eo es hf
 generalize sgsI D=sgs at*
 generalize snI D=sg at*
 generalize ovI D=o at*
 generalize fndD l (Zab o 12)=pub at*
 have hw:IntKind.i64.wrap (((q+64:Nat):Int) - 64)=(q:Int):=by rw [IntKind.wrap_i64];omega
 have h64':¬((q+64:Nat):Int)<64:=by omega
 have hqc:(q:Int)≤(sc:Int):=by omega
 go_wp2_with fail
 refine hpr.mono ?_
 rintro e5 w5 ⟨q5,⟨_,sa',sc',rfl,hrow⟩|⟨h,_⟩⟩
 case inr=>rw [hmf] at h;cases h
 rw [hsg, ←HCN.out] at hrow
 rw [←HCN.out]
 have V5:=V4.call q5
 have hld5:=hld4.below q5
 have rt5:=rt4.below q5 (Nat.le_refl _)
 have rd5:=rd4.below q5 (Nat.le_refl _)
 have U5:=Vars.start w5
 clear hpr V4 hld4 rt4 rd4 q5
 go_wp2_with (first
  | (refine Zai U5 12 25 rfl rfl rfl mf00 ZdH ?_;intro w6 g12 U6)
  | (refine Zal U6 0 rfl _ (.tmp 56) rfl rfl rfl #[.int .i64 (Zab o 4), .int .i64 (Zab o 8), .int .i64 (Zab o 12), .int .i64 (Zab o 16), .slice sa' m sc'] rfl rfl Tryz.szMf rfl rfl (Zce _ _ _ _ _ _ _) ?_;intro w7 U7;have k2:w7.cell? ⟨g12,2,none⟩=some (.int .i64 (Zab o 12)):=Zag (U7.at 0 rfl) 2))
 have V7:=V5.made U7.bel (U7.low _ (List.mem_singleton.2 rfl)) (U7.at 0 rfl)
 have hld7:=hld5.below U7.bel
 have rt7:=rt5.below U7.bel (Nat.le_refl _)
 have rd7:=rd5.below U7.bel (Nat.le_refl _)
 have hrow7:=hrow.below U7.bel (Nat.le_refl _)
 clear U5 U6 U7 V5 hld5 rt5 rd5 hrow k2
 refine (hfd w7 (hr.below V7.bel (Nat.le_refl _))).mono ?_
 rintro e8 w8 ⟨rfl,q8⟩
 have V8:=V7.call q8
 have U8:=Vars.start w8
 have hld8:=hld7.below q8
 have rt8:=rt7.below q8 (Nat.le_refl _)
 have rd8:=rd7.below q8 (Nat.le_refl _)
 have hrow8:=hrow7.below q8 (Nat.le_refl _)
 clear V7 hld7 rt7 rd7 hrow7 q8
 go_upto_region 11 with (first
  | (refine Zai U8 14 22 rfl rfl rfl (dA ZbT) Zk2 ?_;intro w9 g14 U9)
  | (refine Zal U9 0 rfl _ (.tmp 63) rfl rfl rfl (dA pub) rfl rfl Tryz.szDg (Zcm Zb1.len) (Zcm hfo.1) (Zgr _) ?_;intro w10 U10))
 have V10:=(V8.made U10.bel (U10.low _ (List.mem_singleton.2 rfl)) (U10.at 0 rfl)).drew
 have Q10:=U10.bel.drew
 have hld10:=hld8.below Q10
 have rt10:=rt8.below Q10 (Nat.le_refl _)
 have rd10:=rd8.below Q10 (Nat.le_refl _)
 have hrow10:=hrow8.below Q10 (Nat.le_refl _)
 have HAW:=ZmQ w10.drew (ho.of V10) (hd.of V10)
 clear U8 U9 U10 V8 hld8 rt8 rd8 hrow8 Q10 hfd
 obtain ⟨we,hwe⟩:∃we,we=w10.drew:=⟨_,rfl⟩
 refine Zar (fun w'=>Zao w10.drew w') (by kernel_rfl) ?_
 rw [←hwe] at V10 hld10 rt10 rd10 hrow10 HAW ⊢
 clear hwe
 refine Zc1 (i:=0) (fuel:=36) (by kernel_rfl) rfl (by rfl) (fun K hK=> ?_)
 go_simp
 refine HAW.mono ?_
 rintro e11 w11 ⟨rfl,q11⟩
 have V11:=V10.call q11
 have hld11:=hld10.below q11
 have rt11:=rt10.below q11 (Nat.le_refl _)
 have rd11:=rd10.below q11 (Nat.le_refl _)
 have hrow11:=hrow10.below q11 (Nat.le_refl _)
 refine hK _ _ q11 ?_
 clear hK K HAW V10 hld10 rt10 rd10 hrow10 q11
 have hcbN:¬sc=q:=by omega
 refine Zaz (rs:=[1,2,3,4,5,6,7,8,9,10,11,12,13,14,15]) (fuel:=21) (by kernel_rfl) (fun c d v a w h=>by cases d<;>exact h) (by kernel_rfl) (Zao.refl _) (fun K hK=> ?_)
 go_simp
 refine Zah _ rfl (by rfl) rfl ?_
 go_simp
 refine Zah _ rfl (by rfl) rfl ?_
 go_simp
 refine Zad (.bool true) rfl (by rfl) (fun w' hw'=>by go_simp) ?_
 go_simp
 refine Zah _ rfl (by rfl) rfl ?_
 go_simp
 refine Zah _ rfl (by rfl) rfl ?_
 go_simp
 refine Zad (.bool true) rfl (by rfl) (fun w' hw'=>by go_simp) ?_
 go_simp
 refine Zad (.bool true) rfl (by rfl) (fun w' hw'=>by go_simp) ?_
 go_simp
 refine Zah _ rfl (by rfl) rfl ?_
 go_simp
 refine Zad (.agg (dA pub)) rfl (by rfl) (fun w' hw'=>ZaH (V11.call hw') 0 rfl _ rfl rfl Tryz.underlying22 Tryz.szDg (Zcm hfo.1)) ?_
 go_simp
 refine Zah _ rfl (by rfl) rfl ?_
 go_simp
 refine Zah _ rfl (by rfl) rfl ?_
 go_simp
 refine Zad (.slice (some ⟨b,off,none⟩) q sc) rfl (by rfl) (fun w' hw'=>by go_simp) ?_
 go_simp
 refine Zah _ rfl (by rfl) rfl ?_
 go_simp
 refine Zah _ rfl (by rfl) rfl ?_
 go_simp
 refine Zad (.slice (some ⟨b,off+q,none⟩) 64 (sc - q)) rfl (by rfl) (fun w' hw'=>by
  have h64:q+64 - q=64:=by omega
  have h65:(q:Int)≤((q+64:Nat):Int):=by omega
  go_simp
  exact fun h=>absurd h (by omega)) ?_
 go_simp
 refine Zac (hK.out _ ?_)
 clear hK K
 refine Zc1 (i:=16) (fuel:=20) (by kernel_rfl) rfl (by rfl) (fun K hK=> ?_)
 go_simp
 refine (Zmp hfo.2 hfo.1 hoB hsB hsL (ho.of V11) (hd.of V11) rt11 (by omega) rd11).mono ?_
 rintro e12 w12 ⟨rfl,q12⟩
 rw [hv]
 have V12:=V11.call q12
 have hld12:=hld11.below q12
 have hrow12:=hrow11.below q12 (Nat.le_refl _)
 refine hK _ _ q12 ?_
 clear hK K V11 hld11 hrow11 q12 rt11 rd11
 have k12:w12.cell? ⟨g12,1,none⟩=some (.int .i64 (Zab o 8)):=Zag (V12.at 1 rfl) 1
 have hfu':fuse≤Zab o 8:=hfu
 refine Zaz (rs:=[17,18,19,20,21,22,23,24,25,26,27]) (fuel:=9) (by kernel_rfl) (fun c d v a w h=>by cases d<;>exact h) (by kernel_rfl) (Zao.refl _) (fun K hK=> ?_)
 go_simp
 refine Zad (.bool true) rfl (by rfl) (fun w' hw'=>by go_simp) ?_
 go_simp
 refine Zad (.bool true) rfl (by rfl) (fun w' hw'=>by go_simp) ?_
 go_simp
 refine Zah _ rfl (by rfl) rfl ?_
 go_simp
 refine Zad (.pointer (some ⟨g12,1,none⟩)) rfl (by rfl) (fun w' hw'=>by go_simp) ?_
 go_simp
 refine Zad (.int .i64 (Zab o 8)) rfl (by rfl) (fun w' hw'=>by
  have k1:=(Below.cell hw' (p:=⟨g12,1,none⟩) (Za0 k12)).trans k12
  go_simp) ?_
 go_simp
 refine Zah _ rfl (by rfl) rfl ?_
 go_simp
 refine Zad (.bool true) rfl (by rfl) (fun w' hw'=>by
  go_simp
  try simp [hfu']) ?_
 go_simp
 refine Zad (.bool true) rfl (by rfl) (fun w' hw'=>by go_simp) ?_
 go_simp
 refine Zah _ rfl (by rfl) rfl ?_
 go_simp
 refine Zad (.agg #[.int .i64 (Zab o 4), .int .i64 (Zab o 8), .int .i64 (Zab o 12), .int .i64 (Zab o 16), .slice sa' m sc']) rfl (by rfl) (fun w' hw'=>Zb3 (V12.call hw') 1 rfl _ rfl rfl Tryz.underlying25 rfl Tryz.szMf rfl) ?_
 go_simp
 refine Zah _ rfl (by rfl) rfl ?_
 go_simp
 refine Zac (hK.out _ ?_)
 clear hK K k12
 refine Zc1 (i:=28) (fuel:=8) (by kernel_rfl) rfl (by rfl) (fun K hK=> ?_)
 go_simp
 refine (Zv9 (v:=Zab o 4) (s:=Zab o 8) (k:=Zab o 12) (e:=Zab o 16) hrow12 hsgO (hp.below V12.bel (Nat.le_refl _)) hlen).mono ?_
 rintro e13 w13 ⟨rfl,q13⟩
 rw [har,decide_eq_true rfl]
 have V13:=V12.call q13
 have hld13:=hld12.below q13
 have hrow13:=hrow12.below q13 (Nat.le_refl _)
 refine hK _ _ q13 ?_
 clear hK K V12 hld12 hrow12 q13
 refine Zaz (rs:=[29,30,31,32,33]) (fuel:=3) (by kernel_rfl) (fun c d v a w h=>by cases d<;>exact h) (by kernel_rfl) (Zao.refl _) (fun K hK=> ?_)
 go_simp
 refine Zad (.bool true) rfl (by rfl) (fun w' hw'=>by go_simp) ?_
 go_simp
 refine Zah _ rfl (by rfl) rfl ?_
 go_simp
 refine Zad (.agg #[.int .i64 0, .int .i64 (Zab o 16), .int .i64 (Zab o 8), .slice la m lc, .int .i64 0]) rfl (by rfl) (fun w' hw'=>Zb3 (V13.call hw') 2 rfl _ rfl rfl Tryz.underlying44 rfl Tryz.szLd rfl) ?_
 go_simp
 refine Zad (.agg #[.int .i64 (Zab o 4), .int .i64 (Zab o 8), .int .i64 (Zab o 12), .int .i64 (Zab o 16), .slice sa' m sc']) rfl (by rfl) (fun w' hw'=>Zb3 (V13.call hw') 1 rfl _ rfl rfl Tryz.underlying25 rfl Tryz.szMf rfl) ?_
 go_simp
 refine Zah _ rfl (by rfl) rfl ?_
 go_simp
 refine Zac (hK.out _ ?_)
 clear hK K
 refine Zc1 (i:=34) (fuel:=2) (by kernel_rfl) rfl (by rfl) (fun K hK=> ?_)
 go_simp
 refine (Zwa (v:=Zab o 4) (s:=Zab o 8) (k:=Zab o 12) (e:=Zab o 16) hld13 hrow13 (hp.below V13.bel (Nat.le_refl _))).mono ?_
 rintro e14 w14 ⟨rfl,q14⟩
 have V14:=V13.call q14
 refine hK _ _ q14 ?_
 clear hK K V13 hld13 hrow13 q14
 refine Zaz (rs:=[35,36]) (fuel:=0) (by kernel_rfl) (fun c d v a w h=>by cases d<;>exact h) (by kernel_rfl) (Zao.refl _) (fun K hK=> ?_)
 go_simp
 refine Zad (.bool true) rfl (by rfl) (fun w' hw'=>by go_simp) ?_
 go_simp
 refine ZaB _ rfl (by rfl) rfl ?_
 go_simp
 refine Zac (hK.out _ ?_)
 clear hK K
 refine wpAnyH_done (by kernel_rfl) ?_ _
 go_wp2_with fail
 go_ret
 exact ⟨rfl,V14.bel⟩
end Go.Proofs.YtcaloldcihpkfaaGreatDoor.N
