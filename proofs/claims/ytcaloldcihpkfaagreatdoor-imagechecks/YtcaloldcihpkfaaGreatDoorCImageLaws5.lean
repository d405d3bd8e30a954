/-
 Layer 23's laws: Checks.
-/
import Derived.Test.YtcaloldcihpkfaaGreatDoorCImageLaws
import Derived.Test.YtcaloldcihpkfaaGreatDoorCPackIs
import Derived.Test.YtcaloldcihpkfaaGreatDoorCImageRef4
import Derived.Test.YtcaloldcihpkfaaGreatDoorCPackMr
namespace Go.Proofs.YtcaloldcihpkfaaGreatDoor.N
open Go.RowKit
set_option linter.unusedVariables false
set_option maxRecDepth 8192

theorem ZwF {l:List Ky} {fuse:Int} {D:List Int} (h:refC l D≠0):Za8 l fuse D=refC l D:=by
 unfold refC at h ⊢
 unfold Za8
 cases h1:mayK l
 ·rfl
 by_cases h2:64≤D.length
 case neg=>rw [decide_eq_false h2];rfl
 cases h3:isMf (ovI D)
 ·rw [decide_eq_true h2];rfl
 rw [h1,decide_eq_true h2,h3] at h
 have h4:¬fndC l (Zab (ovI D) 12)=0:=h
 rw [decide_eq_true h2,decide_eq_false h4]
 rfl
theorem Zwr {l:List Ky} {D:List Int} (h:refC l D=0):mayK l=true∧64≤D.length∧isMf (ovI D)=true∧fndC l (Zab (ovI D) 12)=0:=by
 unfold refC at h
 cases h1:mayK l
 ·rw [h1] at h;cases h
 by_cases h2:64≤D.length
 case neg=>rw [h1,decide_eq_false h2] at h;cases h
 cases h3:isMf (ovI D)
 ·rw [h1,decide_eq_true h2,h3] at h;cases h
 rw [h1,decide_eq_true h2,h3] at h
 exact ⟨rfl,h2,rfl,h⟩
theorem ZwG {l:List Ky} {fuse:Int} {D:List Int} (h:refC l D=0):Za8 l fuse D=bif decide (verB (fndD l (Zab (ovI D) 12)) (ovI D) (snI D)=0) then bif decide (fuse≤Zab (ovI D) 8) then 0 else 230 else 191:=by
 obtain ⟨h1,h2,h3,h4⟩:=Zwr h
 rw [Za8,h1,decide_eq_true h2,h3,decide_eq_true h4]
 rfl
theorem Zws {l:List Ky} {fuse:Int} {D:List Int} {n:Nat} {R:Nat→B.PartV} (h:Za8 l fuse D≠0):ZbN l fuse D n R=Za8 l fuse D:=by
 rw [ZbN,decide_eq_false h];rfl
theorem ZwH {l:List Ky} {fuse:Int} {D:List Int} {n:Nat} {R:Nat→B.PartV} (h:Za8 l fuse D=0):ZbN l fuse D n R=bif (decide (n=cnt (ovI D))&&areS (sgsI D) R (cnt (ovI D))) then 0 else 231:=by
 rw [ZbN,decide_eq_true h]
 by_cases e:n=cnt (ovI D)
 ·rw [e,decide_eq_true rfl]
  cases areS (sgsI D) R (cnt (ovI D))<;>rfl
 ·rw [decide_eq_false e];rfl
theorem ZwI {w:World} {ra:Option Addr} {rn rc:Nat} {fuse:Int} {a:Option Addr} {n c:Nat} {l:List Ky} {D:List Int} (hr:KRow w ra rn rc l) (ok:∀s∈l,s.Ok) (hs:Row .u8 w a n c D) (hD:IsB D) (hn:n≤10064) (ho:OAt w) (hd:DAt w) {r:Int} (hc:Za8 l fuse D=r):
  Calls Tryz.prog 15 #[.slice ra rn rc, .int .i64 fuse, .slice a n c] w fun e w'=>Below w.heap.size w w'∧∃X:Array Value,e= .returned (.tuple #[.agg X, .int .i64 r])∧X.size=5∧X.all (·.oneCell')=true∧(r≠0→X=mf00)∧(r=0→MfAt w' X (ovI D)):=by
 refine (ZuI (fuse:=fuse) hr ok hs hD hn ho hd).mono ?_
 rw [hc]
 rintro e w' ⟨q,⟨h0,_,M,he,hma⟩|⟨h0,he⟩⟩
 ·refine ⟨q,M,by rw [he,h0], ?_, ?_,fun h=>absurd h0 h,fun _=>hma⟩
  ·obtain ⟨sa,sc,rfl,_⟩:=hma;rfl
  ·obtain ⟨sa,sc,rfl,_⟩:=hma;exact Zce _ _ _ _ _ _ _
 ·exact ⟨q,_,he,rfl,Zce 0 0 0 0 none 0 0,fun _=>rfl,fun h=>absurd h h0⟩
theorem Vars.more {w0 w w':World} {l k:List AV} (h:Vars w0 w l) (u:Vars w w' k):Vars w0 w' (k++l):=by
 have h1:=h.call u.bel
 refine ⟨h1.bel,fun v hv=> ?_,fun v hv=> ?_,List.pairwise_append.2 ⟨u.apart,h1.apart,fun a ha b hb=> ?_⟩⟩
 ·rcases List.mem_append.1 hv with h2|h2
  ·exact Nat.le_trans h.size (u.low v h2)
  ·exact h1.low v h2
 ·rcases List.mem_append.1 hv with h2|h2
  ·exact u.holds v h2
  ·exact h1.holds v h2
 ·have:=u.low a ha
  have:=Zat (h.holds b hb)
  omega
set_option maxHeartbeats 6400000 in
theorem ZwJ (ra:Option Addr) (rn rc:Nat) (l:List Ky) (fuse:Int) (sa:Option Addr) (sn sc:Nat) (D:List Int) (pa:Option Addr) (m pc:Nat) (R:Nat→B.PartV) (w:World) (hr:KRow w ra rn rc l) (ok:∀s∈l,s.Ok) (hs:Row .u8 w sa sn sc D) (hD:IsB D) (hp:B.PartsAt w pa m pc R) (ho:OAt w) (hd:DAt w):
  Calls Tryz.prog 4 #[.slice ra rn rc, .int .i64 fuse, .slice sa sn sc, .slice pa m pc] w fun e' w'=>e'= .returned (.bool true)∧Below w.heap.size w w':=by
 obtain ⟨i0,hi0,hz0,hz1,hz2⟩:=info_parts Tryz.info5
 have hsm:=Zu5 (v:=0) (s:=0) (k:=0) (e:=0) (a:=none) (n:=0) (c:=0) (w:=w) (by unfold maxLen;omega) hp
 have hrm:=hr.hmax
 have hrc:=hr.hcap
 have hsm2:=hs.hmax
 have hsc:=hs.hcap
 unfold maxLen at hrm hsm2
 go_enter Tryz.func4,Tryz.ntmps4
 go_wp2_with (refine ZaR 17 25 [] (by rfl) rfl rfl mf00 Zmx ?_)
 refine hsm.mono ?_
 rintro e1 w1 ⟨rfl,q1⟩
 clear hsm
 cases hsb:Zcz 0 m R
 ·go_wp2
  go_ret
  exact ⟨rfl,q1⟩
 by_cases hrn:rn≤20
 case neg=>
  have hrn':(20:Int)<(rn:Int):=by omega
  go_wp2
  go_ret
  exact ⟨rfl,q1⟩
 have hrn':¬(20:Int)<(rn:Int):=by omega
 by_cases hsn:sn≤600
 case neg=>
  have hsn':(600:Int)<(sn:Int):=by omega
  go_wp2
  go_ret
  exact ⟨rfl,q1⟩
 have hsn':¬(600:Int)<(sn:Int):=by omega
 have hlen:∀i,i<m→(R i).len≤100000:=fun i hi=>Nat.le_trans ((ZmN hsb).2.2 i hi) (by decide)
 have hm20:=(ZmN hsb).2.1
 clear hsb
 have V0:Vars w w1 []:=(Vars.start w).call q1
 have qa:=ZaS w1 (.cells #[] 5)
 have ownA:=Zqt w1
 have ra1:=(hs.below q1 (Nat.le_refl _)).below qa (Nat.le_refl _)
 go_upto_region 4 with (at_builtin;refine Zdn _ rfl _ _ 28 rfl w1.heap.size 5 i0 (.int .u8 0) 1 Tryz.underlying28 hi0 hz0 hz1 hz2 rfl _ 0 [] rfl ownA .u8 sa sn sc _ rfl ra1 (by unfold maxLen;omega) (by omega) (by simp) ?_;intro v2 w2 own2 hg2)
 have q2:Below w1.heap.size w1 w2:=qa.grown hg2 (by simp) (fun h hh=>(ownA.lt h hh).1)
 rw [List.nil_append,Nat.zero_add] at own2
 obtain ⟨a2,c2,rfl,r2⟩:=ZaF own2
 have V2:=V0.call q2
 clear own2 hg2 ownA qa ra1 V0 q1 q2
 obtain ⟨r,hr0⟩:∃r,Za8 l fuse D=r:=⟨_,rfl⟩
 have HR0:Hid (Za8 l fuse D=r):=hr0
 have hh:=ZwI (fuse:=fuse) (hr.below V2.bel (Nat.le_refl _)) ok r2 hD (by omega) (ho.of V2) (hd.of V2) hr0
 clear hr0
 go_wp2_with fail
 refine hh.mono ?_
 rintro e3 w3 ⟨q3,X,rfl,hX5,hX1,hXn,hXy⟩
 have HX:Hid ((r≠0→X=mf00)∧(r=0→MfAt w3 X (ovI D))):=⟨hXn,hXy⟩
 have V3:=V2.call q3
 have r3:=r2.below q3 (Nat.le_refl _)
 have U3:=Vars.start w3
 clear hh hXn hXy V2 r2 q3
 go_upto_region 5 with (first
  | (refine Zai U3 10 25 rfl rfl rfl mf00 ZdH ?_;intro w4 g10 U4)
  | (refine Zal U4 0 rfl _ (.tmp 39) rfl rfl rfl X rfl rfl Tryz.szMf rfl hX5 hX1 ?_;intro w5 U5))
 have V5:=V3.made U5.bel (U5.low _ (List.mem_singleton.2 rfl)) (U5.at 0 rfl)
 have r5:=r3.below U5.bel (Nat.le_refl _)
 have HX5:Hid ((r≠0→X=mf00)∧(r=0→MfAt w5 X (ovI D))):=⟨HX.out.1,fun h=>(HX.out.2 h).below U5.bel⟩
 clear U3 U4 U5 V3 r3 HX hX1
 obtain ⟨s,hs0⟩:∃s,ZbN l fuse D m R=s:=⟨_,rfl⟩
 have HS0:Hid (ZbN l fuse D m R=s):=hs0
 have hck:=Zv5 (fuse:=fuse) (hr.below V5.bel (Nat.le_refl _)) ok r5 hD (by omega) (ho.of V5) (hd.of V5) (hp.below V5.bel (Nat.le_refl _)) hlen hs0
 clear hs0
 go_wp2_with fail
 refine hck.mono ?_
 rintro e6 w6 ⟨q6,Y,rfl,hY5,hY1,hYn,hYy⟩
 have HY:Hid ((s≠0→Y=ld00)∧(s=0→∃la lc,Y= #[.int .i64 0, .int .i64 (Zab (ovI D) 16), .int .i64 (Zab (ovI D) 8), .slice la m lc, .int .i64 0]∧LdRow w6 la m lc (sgsI D) R)):=by
  refine ⟨hYn,fun h=> ?_⟩
  obtain ⟨_,_,la,lc,h3,Z,_,h4⟩:=hYy h
  obtain ⟨la',lc',e',h5⟩:=h4.row
  cases e'
  exact ⟨la,lc,h3,h5⟩
 have V6:=V5.call q6
 have r6:=r5.below q6 (Nat.le_refl _)
 have U6:=Vars.start w6
 have HX6:Hid ((r≠0→X=mf00)∧(r=0→MfAt w6 X (ovI D))):=⟨HX5.out.1,fun h=>(HX5.out.2 h).below q6⟩
 clear hck hYn hYy V5 r5 q6 HX5
 go_upto_region 6 with (first
  | (refine Zai U6 12 44 rfl rfl rfl ld00 ZfG ?_;intro w7 g12 U7)
  | (refine Zal U7 0 rfl _ (.tmp 47) rfl rfl rfl Y rfl rfl Tryz.szLd rfl hY5 hY1 ?_;intro w8 U8))
 have V8:=V6.made U8.bel (U8.low _ (List.mem_singleton.2 rfl)) (U8.at 0 rfl)
 have r8:=r6.below U8.bel (Nat.le_refl _)
 have s8:=hs.below V8.bel (Nat.le_refl _)
 have HX8:Hid ((r≠0→X=mf00)∧(r=0→MfAt w8 X (ovI D))):=⟨HX6.out.1,fun h=>(HX6.out.2 h).below U8.bel⟩
 have HY8:Hid ((s≠0→Y=ld00)∧(s=0→∃la lc,Y= #[.int .i64 0, .int .i64 (Zab (ovI D) 16), .int .i64 (Zab (ovI D) 8), .slice la m lc, .int .i64 0]∧LdRow w8 la m lc (sgsI D) R)):=⟨HY.out.1,fun h=>by
  obtain ⟨la,lc,h1,h2⟩:=HY.out.2 h
  exact ⟨la,lc,h1,h2.below U8.bel⟩⟩
 have kc1:=ZfS (P:=Tryz.prog) Tryz.underlying28 Tryz.underlying5 Tryz.underlying9 r8
 have kc2:=ZfS (P:=Tryz.prog) Tryz.underlying28 Tryz.underlying5 Tryz.underlying9 s8
 clear U6 U7 U8 V6 r6 HX6 HY hY1
 go_wp2_with fail
 refine (ZwE (hr.below V8.bel (Nat.le_refl _)) ok s8 hD (by omega)).mono ?_
 rintro e9 w9 ⟨q9,hR⟩
 obtain ⟨M,pk,c0,rfl,hM5,hM1,hpk,hMy,hMn⟩:∃M pk,∃c0:Int,e9= .returned (.tuple #[.agg M, .agg (dA pk), .int .i64 c0])∧M.size=5∧M.all (·.oneCell')=true∧pk.length=32∧(c0=0→refC l D=0∧isMf (ovI D)=true∧pk=fndD l (Zab (ovI D) 12)∧MfAt w9 M (ovI D))∧(c0≠0→c0=refC l D∧M=mf00):=by
  rcases hR with ⟨h0,h1,M,he,hma⟩|⟨h0,he⟩
  ·refine ⟨M,_,0,he, ?_, ?_,(Zh9 ok _).1,fun _=>⟨h0,h1,rfl,hma⟩,fun h=>absurd rfl h⟩
   ·obtain ⟨sa,sc,rfl,_⟩:=hma;rfl
   ·obtain ⟨sa,sc,rfl,_⟩:=hma;exact Zce _ _ _ _ _ _ _
  ·exact ⟨mf00,ZbT,refC l D,he,rfl,Zce 0 0 0 0 none 0 0,Zb1.len,fun h=>absurd h h0,fun _=>⟨rfl,rfl⟩⟩
 have HM9:Hid ((c0=0→refC l D=0∧isMf (ovI D)=true∧pk=fndD l (Zab (ovI D) 12)∧MfAt w9 M (ovI D))∧(c0≠0→c0=refC l D∧M=mf00)):=⟨hMy,hMn⟩
 have V9:=V8.call q9
 have s9:=s8.below q9 (Nat.le_refl _)
 have HX9:Hid ((r≠0→X=mf00)∧(r=0→MfAt w9 X (ovI D))):=⟨HX8.out.1,fun h=>(HX8.out.2 h).below q9⟩
 have HY9:Hid ((s≠0→Y=ld00)∧(s=0→∃la lc,Y= #[.int .i64 0, .int .i64 (Zab (ovI D) 16), .int .i64 (Zab (ovI D) 8), .slice la m lc, .int .i64 0]∧LdRow w9 la m lc (sgsI D) R)):=⟨HY8.out.1,fun h=>by
  obtain ⟨la,lc,h1,h2⟩:=HY8.out.2 h
  exact ⟨la,lc,h1,h2.below q9⟩⟩
 have U9:=Vars.start w9
 clear hR hMy hMn V8 s8 HX8 HY8 q9 kc1 kc2 r8
 go_upto_region 8 with (first
  | (refine Zai U9 14 25 rfl rfl rfl mf00 ZdH ?_;intro w10 g14 U10)
  | (refine Zai U10 15 22 rfl rfl rfl (dA ZbT) Zk2 ?_;intro w11 g15 U11)
  | (refine Zal U11 1 rfl _ (.tmp 58) rfl rfl rfl M rfl rfl Tryz.szMf rfl hM5 hM1 ?_;intro w12 U12)
  | (refine Zal U12 0 rfl _ (.tmp 59) rfl rfl rfl (dA pk) rfl rfl Tryz.szDg (Zcm Zb1.len) (Zcm hpk) (Zgr _) ?_;intro w13 U13))
 have V13:Vars w w13 [⟨g15,22,dA pk⟩,⟨g14,25,M⟩,⟨g12,44,Y⟩,⟨g10,25,X⟩]:=V9.more U13
 have s13:=(s9.below U13.bel (Nat.le_refl _)).below (Zao.drew w13) (Nat.le_refl _)
 have HX13:Hid ((r≠0→X=mf00)∧(r=0→∃xa xc,X= #[.int .i64 (Zab (ovI D) 4), .int .i64 (Zab (ovI D) 8), .int .i64 (Zab (ovI D) 12), .int .i64 (Zab (ovI D) 16), .slice xa ((cnt (ovI D))) xc]∧SegRow w13.drew xa (cnt (ovI D)) xc (sgsI D))):=⟨HX9.out.1,fun h=>(((HX9.out.2 h).below U13.bel).below (Zao.drew w13))⟩
 have HY13:Hid ((s≠0→Y=ld00)∧(s=0→∃la lc,Y= #[.int .i64 0, .int .i64 (Zab (ovI D) 16), .int .i64 (Zab (ovI D) 8), .slice la m lc, .int .i64 0]∧LdRow w13.drew la m lc (sgsI D) R)):=⟨HY9.out.1,fun h=>by
  obtain ⟨la,lc,h1,h2⟩:=HY9.out.2 h
  exact ⟨la,lc,h1,(h2.below U13.bel).below (Zao.drew w13)⟩⟩
 have HM13:Hid ((c0=0→refC l D=0∧isMf (ovI D)=true∧pk=fndD l (Zab (ovI D) 12)∧∃xa xc,M= #[.int .i64 (Zab (ovI D) 4), .int .i64 (Zab (ovI D) 8), .int .i64 (Zab (ovI D) 12), .int .i64 (Zab (ovI D) 16), .slice xa ((cnt (ovI D))) xc]∧SegRow w13.drew xa (cnt (ovI D)) xc (sgsI D))∧(c0≠0→c0=refC l D∧M=mf00)):=⟨fun h=>⟨(HM9.out.1 h).1,(HM9.out.1 h).2.1,(HM9.out.1 h).2.2.1,(((HM9.out.1 h).2.2.2.below U13.bel).below (Zao.drew w13))⟩,HM9.out.2⟩
 have E13:=V13.drew
 clear U9 U10 U11 U12 U13 V9 s9 HX9 HY9 HM9 hX5 hY5 hM5 hM1 V13
 by_cases hc:c0=0
 case neg=>
  obtain ⟨hce,hMe⟩:=HM13.out.2 hc
  have hce':refC l D≠0:=by rw [←hce];exact hc
  have hhr:Za8 l fuse D=refC l D:=ZwF hce'
  have er:c0=r:=by rw [←HR0.out,hhr];exact hce
  have es:c0=s:=by rw [←HS0.out,Zws (by rw [hhr];exact hce'),hhr];exact hce
  have hXe:=HX13.out.1 (by rw [←er];exact hc)
  have hYe:=HY13.out.1 (by rw [←es];exact hc)
  clear HX13 HY13 HM13 HR0 HS0 hce hhr hce'
  subst er es hXe hYe hMe
  have h9:(c0==0)=false:=by simpa using hc
  have h9':(c0 != 0)=true:=by simpa using hc
  go_upto_region 9 with fail
  refine Zar (fun w'=>Zao w13.drew w') (by kernel_rfl) ?_
  refine Zaz (rs:=[0,1,2,3,4,5,6,7,8,9,10,11,12,13,14,15,16]) (fuel:=0) (by kernel_rfl) (fun c d v a w h=>by cases d<;>exact h) (by kernel_rfl) (Zao.refl _) (fun K hK=> ?_)
  refine Zah _ rfl (by rfl) rfl ?_
  go_simp
  refine Zad (.bool false) rfl (by rfl) (fun w' hw'=>by go_simp;try simp [hc]) ?_
  go_simp
  refine Zah _ rfl (by rfl) rfl ?_
  go_simp
  refine Zjs rfl (by rfl) ?_
  go_simp
  refine Zjs rfl (by rfl) ?_
  go_simp
  refine Zjs rfl (by rfl) ?_
  go_simp
  refine Zjs rfl (by rfl) ?_
  go_simp
  refine Zjs rfl (by rfl) ?_
  go_simp
  refine Zjs rfl (by rfl) ?_
  go_simp
  refine Zjs rfl (by rfl) ?_
  go_simp
  refine Zjs rfl (by rfl) ?_
  go_simp
  refine Zjs rfl (by rfl) ?_
  go_simp
  refine Zjs rfl (by rfl) ?_
  go_simp
  refine Zjs rfl (by rfl) ?_
  go_simp
  refine Zjs rfl (by rfl) ?_
  go_simp
  refine Zjs rfl (by rfl) ?_
  go_simp
  refine Zad (.bool false) rfl (by rfl) (fun w' hw'=>by go_simp) ?_
  go_simp
  refine Zac (hK.out _ ?_)
  clear hK K
  refine wpAnyH_done (by kernel_rfl) ?_ _
  go_wp2_with fail
  refine (ZmQ w13.drew (ho.of E13) (hd.of E13)).mono ?_
  rintro e21 w21 ⟨rfl,q21⟩
  have V21:=E13.call q21
  go_wp2_with (first
   | (refine Zax rfl (Zb3 V21 3 rfl _ rfl rfl Tryz.underlying25 rfl Tryz.szMf rfl) ?_)
   | (refine ZaR 101 25 [] (by rfl) rfl rfl mf00 Zmx ?_))
  refine (Zwn (v:=0) (s:=0) (k:=0) (e:=0) (ZoA w21) (ZoA w21) (fun s hs=>by cases hs)).mono ?_
  rintro e22 w22 ⟨rfl,q22⟩
  have V22:=V21.call q22
  go_wp2_with (refine Zax rfl (Zb3 V22 2 rfl _ rfl rfl Tryz.underlying44 rfl Tryz.szLd rfl) ?_)
  refine (Zv4 w22).mono ?_
  rintro e23 w23 ⟨rfl,q23⟩
  have V23:=V22.call q23
  go_wp2
  go_ret
  exact ⟨rfl,V23.bel⟩
 subst hc
 obtain ⟨hrc,hmf,hpk2,msa,msc,hMe,hrow⟩:=HM13.out.1 rfl
 obtain ⟨z1,h64,z2,z3⟩:=Zwr hrc
 clear z1 z2 z3 HM13
 subst hMe
 have hfo:pk.length=32∧IsB pk:=by rw [hpk2];exact Zh9 ok _
 have hr2:=HR0.out.symm.trans (ZwG hrc)
 rw [←hpk2] at hr2
 have HS2:Hid ((r≠0→s=r)∧(r=0→s=bif (decide (m=cnt (ovI D))&&areS (sgsI D) R (cnt (ovI D))) then 0 else 231)):=⟨fun h=>by rw [←HS0.out,Zws (by rw [HR0.out];exact h),HR0.out],fun h=>by rw [←HS0.out,ZwH (by rw [HR0.out];exact h)]⟩
 have hDl:D.length=sn:=hs.hlen
 clear HR0 HS0 hrc hpk2
 obtain ⟨q,rfl⟩:∃q,sn=q+64:=⟨sn - 64,by omega⟩
 have eo:ovI D=D.take q:=by unfold ovI;rw [hDl,Nat.add_sub_cancel]
 have es:snI D=D.drop q:=by unfold snI;rw [hDl,Nat.add_sub_cancel]
 obtain ⟨b,off,rfl,z1,z2⟩:=hs.hcell (by omega)
 clear z1 z2
 have rt:=Zdr s13 q (by omega)
 have rd:=Zep s13 q (by omega)
 rw [←eo] at rt
 rw [←es,Nat.add_sub_cancel_left] at rd
 have hoB:IsB (ovI D):=Zcr hD _
 have hsB:IsB (snI D):=Zck hD _
 have hsL:(snI D).length=64:=by rw [es,List.length_drop,hDl];omega
 have hsgO:∀s∈sgsI D,s.Ok:=Zel hoB (by have:=Zf5 (Zf6 hmf).2.1;omega)
 clear hs s13 hD hDl eo es hmf h64
 generalize sgsI D=sgs at*
 generalize snI D=sg at*
 generalize ovI D=o at*
 generalize cnt o=mc at*
 obtain ⟨vb,hvb⟩:∃vb,verB pk o sg=vb:=⟨_,rfl⟩
 have HV:=Zmp hfo.2 hfo.1 hoB hsB hsL (ho.of E13) (hd.of E13) rt (by omega) rd
 rw [hvb] at hr2 HV
 have HR2:Hid (r=bif decide (vb=0) then bif decide (fuse≤Zab o 8) then 0 else 230 else 191):=hr2
 have hw:IntKind.i64.wrap (q:Int)=(q:Int):=by rw [IntKind.wrap_i64];omega
 have hqc:(q:Int)≤(sc:Int):=by omega
 have hcbN:¬sc=q:=by omega
 clear hr2 hvb hoB hsB hsL
 go_upto_region 9 with fail
 obtain ⟨we,hwe⟩:∃we,we=w13.drew:=⟨_,rfl⟩
 refine Zar (fun w'=>Zao w13.drew w') (by kernel_rfl) ?_
 rw [←hwe] at E13 rt rd hrow HX13 HY13 HV ⊢
 clear hwe
 refine Zaz (rs:=[0,1,2,3,4,5,6,7,8,9,10,11,12,13]) (fuel:=3) (by kernel_rfl) (fun c d v a w h=>by cases d<;>exact h) (by kernel_rfl) (Zao.refl _) (fun K hK=> ?_)
 refine Zah _ rfl (by rfl) rfl ?_
 go_simp
 refine Zad (.bool true) rfl (by rfl) (fun w' hw'=>by go_simp;try simp) ?_
 go_simp
 refine Zah _ rfl (by rfl) rfl ?_
 go_simp
 refine Zad (.agg (dA pk)) rfl (by rfl) (fun w' hw'=>ZaH (E13.call hw') 0 rfl _ rfl rfl Tryz.underlying22 Tryz.szDg (Zcm hfo.1)) ?_
 go_simp
 refine Zah _ rfl (by rfl) rfl ?_
 go_simp
 refine Zah _ rfl (by rfl) rfl ?_
 go_simp
 refine Zad (.int .i64 ((q+64:Nat):Int)) rfl (by rfl) (fun w' hw'=>by go_simp) ?_
 go_simp
 refine Zad (.int .i64 (q:Int)) rfl (by rfl) (fun w' hw'=>by go_simp) ?_
 go_simp
 refine Zad (.slice (some ⟨b,off,none⟩) q sc) rfl (by rfl) (fun w' hw'=>by go_simp) ?_
 go_simp
 refine Zah _ rfl (by rfl) rfl ?_
 go_simp
 refine Zah _ rfl (by rfl) rfl ?_
 go_simp
 refine Zad (.int .i64 ((q+64:Nat):Int)) rfl (by rfl) (fun w' hw'=>by go_simp) ?_
 go_simp
 refine Zad (.int .i64 (q:Int)) rfl (by rfl) (fun w' hw'=>by go_simp) ?_
 go_simp
 refine Zad (.slice (some ⟨b,off+q,none⟩) 64 (sc - q)) rfl (by rfl) (fun w' hw'=>by
  have h64:q+64 - q=64:=by omega
  have h65:(q:Int)≤((q+64:Nat):Int):=by omega
  go_simp
  exact fun h=>absurd h (by omega)) ?_
 go_simp
 refine Zac (hK.out _ ?_)
 clear hK K
 refine Zc1 (i:=14) (fuel:=2) (by kernel_rfl) rfl (by rfl) (fun K hK=> ?_)
 go_simp
 refine HV.mono ?_
 rintro e14 w14 ⟨rfl,q14⟩
 have V14:=E13.call q14
 have hrow14:=hrow.below q14 (Nat.le_refl _)
 have HX14:Hid ((r≠0→X=mf00)∧(r=0→∃xa xc,X= #[.int .i64 (Zab o 4), .int .i64 (Zab o 8), .int .i64 (Zab o 12), .int .i64 (Zab o 16), .slice xa mc xc]∧SegRow w14 xa mc xc sgs)):=⟨HX13.out.1,fun h=>by
  obtain ⟨xa,xc,h1,h2⟩:=HX13.out.2 h
  exact ⟨xa,xc,h1,h2.below q14 (Nat.le_refl _)⟩⟩
 have HY14:Hid ((s≠0→Y=ld00)∧(s=0→∃la lc,Y= #[.int .i64 0, .int .i64 (Zab o 16), .int .i64 (Zab o 8), .slice la m lc, .int .i64 0]∧LdRow w14 la m lc sgs R)):=⟨HY13.out.1,fun h=>by
  obtain ⟨la,lc,h1,h2⟩:=HY13.out.2 h
  exact ⟨la,lc,h1,h2.below q14⟩⟩
 refine hK _ _ q14 ?_
 clear hK K E13 rt rd hrow HX13 HY13 HV q14
 obtain ⟨bv,HBV⟩:∃bv,Hid (bv= !decide (vb=0)):=⟨_,rfl⟩
 refine Zaz (rs:=[15,16]) (fuel:=0) (by kernel_rfl) (fun c d v a w h=>by cases d<;>exact h) (by kernel_rfl) (Zao.refl _) (fun K hK=> ?_)
 go_simp
 refine Zad (.bool bv) rfl (by rfl) (fun w' hw'=>by rw [HBV.out];go_simp;rfl) ?_
 go_simp
 refine Zad (.bool bv) rfl (by rfl) (fun w' hw'=>by go_simp) ?_
 go_simp
 refine Zac (hK.out _ ?_)
 clear hK K
 refine wpAnyH_done (by kernel_rfl) ?_ _
 by_cases hv0:vb=0
 case neg=>
  have hbt:bv=true:=by rw [HBV.out,decide_eq_false hv0];rfl
  have er:191=r:=by rw [HR2.out,decide_eq_false hv0];rfl
  clear HBV HR2
  subst hbt
  subst er
  have es:191=s:=(HS2.out.1 (by decide)).symm
  have hXe:=HX14.out.1 (by decide)
  have hYe:=HY14.out.1 (by rw [←es];decide)
  clear HX14 HY14 HS2
  subst es hXe hYe
  go_wp2_with fail
  refine (ZmQ w14 (ho.of V14) (hd.of V14)).mono ?_
  rintro e21 w21 ⟨rfl,q21⟩
  have V21:=V14.call q21
  go_wp2_with (first
   | (refine Zax rfl (Zb3 V21 3 rfl _ rfl rfl Tryz.underlying25 rfl Tryz.szMf rfl) ?_)
   | (refine ZaR 101 25 [] (by rfl) rfl rfl mf00 Zmx ?_))
  refine (Zwn (v:=0) (s:=0) (k:=0) (e:=0) (ZoA w21) (ZoA w21) (fun s hs=>by cases hs)).mono ?_
  rintro e22 w22 ⟨rfl,q22⟩
  have V22:=V21.call q22
  go_wp2_with (refine Zax rfl (Zb3 V22 2 rfl _ rfl rfl Tryz.underlying44 rfl Tryz.szLd rfl) ?_)
  refine (Zv4 w22).mono ?_
  rintro e23 w23 ⟨rfl,q23⟩
  have V23:=V22.call q23
  go_wp2
  go_ret
  exact ⟨rfl,V23.bel⟩
 have hbt:bv=false:=by rw [HBV.out,hv0];rfl
 rw [hv0] at HR2
 clear HBV hv0
 subst hbt
 have k14:w14.cell? ⟨g14,1,none⟩=some (.int .i64 (Zab o 8)):=Zag (V14.at 1 rfl) 1
 by_cases hfu:fuse≤Zab o 8
 case neg=>
  have er:230=r:=by rw [HR2.out,decide_eq_false hfu];rfl
  have hfu':Zab o 8<fuse:=by omega
  clear HR2
  subst er
  have es:230=s:=(HS2.out.1 (by decide)).symm
  have hXe:=HX14.out.1 (by decide)
  have hYe:=HY14.out.1 (by rw [←es];decide)
  clear HX14 HY14 HS2
  subst es hXe hYe
  go_wp2_with fail
  refine (ZmQ w14 (ho.of V14) (hd.of V14)).mono ?_
  rintro e21 w21 ⟨rfl,q21⟩
  have V21:=V14.call q21
  go_wp2_with (first
   | (refine Zax rfl (Zb3 V21 3 rfl _ rfl rfl Tryz.underlying25 rfl Tryz.szMf rfl) ?_)
   | (refine ZaR 101 25 [] (by rfl) rfl rfl mf00 Zmx ?_))
  refine (Zwn (v:=0) (s:=0) (k:=0) (e:=0) (ZoA w21) (ZoA w21) (fun s hs=>by cases hs)).mono ?_
  rintro e22 w22 ⟨rfl,q22⟩
  have V22:=V21.call q22
  go_wp2_with (refine Zax rfl (Zb3 V22 2 rfl _ rfl rfl Tryz.underlying44 rfl Tryz.szLd rfl) ?_)
  refine (Zv4 w22).mono ?_
  rintro e23 w23 ⟨rfl,q23⟩
  have V23:=V22.call q23
  go_wp2
  go_ret
  exact ⟨rfl,V23.bel⟩
 have hfu':¬Zab o 8<fuse:=by omega
 have er:0=r:=by rw [HR2.out,decide_eq_true hfu];rfl
 clear HR2 hfu
 subst er
 obtain ⟨xa,xc,hXe,hx14⟩:=HX14.out.2 rfl
 subst hXe
 clear HX14
 have HS3:Hid (s=bif (decide (m=mc)&&areS sgs R mc) then 0 else 231):=HS2.out.2 rfl
 clear HS2
 go_wp2_with (first
  | (refine Zax rfl (Zb3 V14 3 rfl _ rfl rfl Tryz.underlying25 rfl Tryz.szMf rfl) ?_)
  | (refine Zax rfl (Zb3 V14 1 rfl _ rfl rfl Tryz.underlying25 rfl Tryz.szMf rfl) ?_))
 refine (Zwn hx14 hrow14 hsgO).mono ?_
 rintro e15 w15 ⟨rfl,q15⟩
 have V15:=V14.call q15
 have hrow15:=hrow14.below q15 (Nat.le_refl _)
 have HY15:Hid ((s≠0→Y=ld00)∧(s=0→∃la lc,Y= #[.int .i64 0, .int .i64 (Zab o 16), .int .i64 (Zab o 8), .slice la m lc, .int .i64 0]∧LdRow w15 la m lc sgs R)):=⟨HY14.out.1,fun h=>by
  obtain ⟨la,lc,h1,h2⟩:=HY14.out.2 h
  exact ⟨la,lc,h1,h2.below q15⟩⟩
 clear HY14 hx14 hrow14 V14 q15 k14
 go_wp2_with (refine Zax rfl (Zb3 V15 1 rfl _ rfl rfl Tryz.underlying25 rfl Tryz.szMf rfl) ?_)
 refine (Zv9 (v:=Zab o 4) (s:=Zab o 8) (k:=Zab o 12) (e:=Zab o 16) hrow15 hsgO (hp.below V15.bel (Nat.le_refl _)) hlen).mono ?_
 rintro e16 w16 ⟨rfl,q16⟩
 have V16:=V15.call q16
 have hrow16:=hrow15.below q16 (Nat.le_refl _)
 have HY16:Hid ((s≠0→Y=ld00)∧(s=0→∃la lc,Y= #[.int .i64 0, .int .i64 (Zab o 16), .int .i64 (Zab o 8), .slice la m lc, .int .i64 0]∧LdRow w16 la m lc sgs R)):=⟨HY15.out.1,fun h=>by
  obtain ⟨la,lc,h1,h2⟩:=HY15.out.2 h
  exact ⟨la,lc,h1,h2.below q16⟩⟩
 clear HY15 hrow15 V15 q16
 cases hdg:(decide (m=mc)&&areS sgs R mc)
 ·have es:231=s:=by rw [HS3.out,hdg];rfl
  have hYe:=HY16.out.1 (by rw [←es];decide)
  clear HS3 HY16 hdg hrow16
  subst es hYe
  go_wp2_with fail
  refine (ZmQ w16 (ho.of V16) (hd.of V16)).mono ?_
  rintro e21 w21 ⟨rfl,q21⟩
  have V21:=V16.call q21
  go_wp2_with (refine Zax rfl (Zb3 V21 2 rfl _ rfl rfl Tryz.underlying44 rfl Tryz.szLd rfl) ?_)
  refine (Zv4 w21).mono ?_
  rintro e23 w23 ⟨rfl,q23⟩
  have V23:=V21.call q23
  go_wp2
  go_ret
  exact ⟨rfl,V23.bel⟩
 have es:0=s:=by rw [HS3.out,hdg];rfl
 obtain ⟨la,lc,hYe,hld⟩:=HY16.out.2 es.symm
 rw [Bool.and_eq_true,decide_eq_true_eq] at hdg
 obtain ⟨hmc,z1⟩:=hdg
 clear HS3 HY16 z1
 subst es hYe hmc
 go_wp2_with fail
 refine (ZmQ w16 (ho.of V16) (hd.of V16)).mono ?_
 rintro e21 w21 ⟨rfl,q21⟩
 have V21:=V16.call q21
 have hrow21:=hrow16.below q21 (Nat.le_refl _)
 have hld21:=hld.below q21
 clear V16 hrow16 hld q21
 go_wp2_with (first
  | (refine Zax rfl (Zb3 V21 2 rfl _ rfl rfl Tryz.underlying44 rfl Tryz.szLd rfl) ?_)
  | (refine Zax rfl (Zb3 V21 1 rfl _ rfl rfl Tryz.underlying25 rfl Tryz.szMf rfl) ?_))
 refine (Zwa (v:=Zab o 4) (s:=Zab o 8) (k:=Zab o 12) (e:=Zab o 16) hld21 hrow21 (hp.below V21.bel (Nat.le_refl _))).mono ?_
 rintro e23 w23 ⟨rfl,q23⟩
 have V23:=V21.call q23
 go_wp2
 go_ret
 exact ⟨rfl,V23.bel⟩
end Go.Proofs.YtcaloldcihpkfaaGreatDoor.N
