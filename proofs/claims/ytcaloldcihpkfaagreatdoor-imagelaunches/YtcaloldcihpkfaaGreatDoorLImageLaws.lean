/-
 Layer 23's laws: Launches.
-/
import Derived.Test.YtcaloldcihpkfaaGreatDoorLPackIc
import Derived.Test.YtcaloldcihpkfaaGreatDoorLPackKb
namespace Go.Proofs.YtcaloldcihpkfaaGreatDoor.N
open Go.RowKit
set_option linter.unusedVariables false
set_option maxRecDepth 8192

theorem Zmg {w:World} {ra:Option Addr} {rn rc:Nat} {fuse:Int} {a pa:Option Addr} {m c n pc:Nat} {l:List Ky} {D:List Int} {R:Nat→B.PartV} (hr:KRow w ra rn rc l) (ok:∀s∈l,s.Ok) (hs:Row .u8 w a m c D) (hD:IsB D) (hm:m≤10064) (ho:OAt w) (hd:DAt w) (hp:B.PartsAt w pa n pc R) (hb:∀i,i<n→(R i).len≤100000) {r:Int} (hc:Zbs l fuse D n R=r):
  Calls Tryz.prog 16 #[.slice ra rn rc, .int .i64 fuse, .slice a m c, .slice pa n pc] w fun e w'=>Below w.heap.size w w'∧∃X:Array Value,e= .returned (.tuple #[.agg X, .int .i64 r])∧X.size=5∧X.all (·.oneCell')=true∧(r≠0→X=ld00)∧
   (r=0→isMf (ovI D)=true∧n=cnt (ovI D)∧∃la lc,X= #[.int .i64 0, .int .i64 (Zab (ovI D) 16), .int .i64 (Zab (ovI D) 8), .slice la n lc, .int .i64 0]∧∃Z,w.heap.size≤Z∧LdI 70 w' Z (sgsI D) R n (.slice la n lc)):=by
 refine (ZiM (fuse:=fuse) hr ok hs hD hm ho hd hp hb).mono ?_
 rw [hc]
 rintro e w' ⟨q,⟨h0,h1,h2,la,lc,he,h3⟩|⟨h0,he⟩⟩
 ·exact ⟨q,_,by rw [he,h0],rfl,Zdt _ _ _ _ _ _ _,fun h=>absurd h0 h,fun _=>⟨h1,h2,la,lc,rfl,h3⟩⟩
 ·exact ⟨q,_,he,rfl,Zdt 0 0 0 0 none 0 0,fun _=>rfl,fun h=>absurd h h0⟩
set_option maxHeartbeats 3200000 in
theorem ZuQ (sd:Nat) (hsd:sd<2^256) (v s k e:Int) (a pa:Option Addr) (n c m pc:Nat) (l:List Sg) (R:Nat→B.PartV) (fuse:Int) (w:World) (hr:SegRow w a n c l) (ok:∀s∈l,s.Ok) (hp:B.PartsAt w pa m pc R) (ho:OAt w) (hd:DAt w):
  Calls Tryz.prog 5 #[.agg (bA sd), .agg #[.int .i64 v, .int .i64 s, .int .i64 k, .int .i64 e, .slice a n c], .slice pa m pc, .int .i64 fuse] w fun e' w'=>e'= .returned (.bool true)∧Below w.heap.size w w':=by
 have hcm:=Nat.le_trans hr.hcap hr.hmax
 have V0:=Vars.start w
 go_enter Tryz.func5,Tryz.ntmps5
 go_wp2_with (first
  | (refine Zag V0 4 22 _ rfl rfl rfl (bA sd) rfl ?_;intro w1 g1 V1)
  | (refine Zag V1 5 25 _ rfl rfl rfl #[.int .i64 v, .int .i64 s, .int .i64 k, .int .i64 e, .slice a n c] rfl ?_;intro w2 g2 V2)
  | (refine Zax rfl (Zds V2 0 rfl _ rfl rfl Tryz.underlying25 rfl Tryz.szMf rfl) ?_))
 refine (ZuE hcm (hp.below V2.bel (Nat.le_refl _))).mono ?_
 rintro e3 w3 ⟨rfl,q3⟩
 have V3:=V2.call q3
 clear V0 V1 V2 q3
 cases hsm:Zcl n m R
 ·go_wp2
  go_ret
  exact ⟨rfl,V3.bel⟩
 obtain ⟨hn20,hm20,hl200⟩:=Zmd hsm
 have hlen:∀i,i<m→(R i).len≤100000:=fun i hi=>Nat.le_trans (hl200 i hi) (by decide)
 clear hsm hl200
 go_wp2_with (first
  | (refine ZaF V3 1 rfl 23 _ rfl rfl rfl rfl Tryz.underlying22 Tryz.szB (Zae _) ?_)
  | (refine Zax rfl (Zds V3 0 rfl _ rfl rfl Tryz.underlying25 rfl Tryz.szMf rfl) ?_))
 refine (Zl2 (v:=v) (s:=s) (k:=k) (e:=e) sd hsd (hr.below V3.bel (Nat.le_refl _)) ok (hp.below V3.bel (Nat.le_refl _)) (by omega) hlen (ho.of V3) (hd.of V3)).mono ?_
 rintro e4 w4 ⟨q4,⟨_,rfl⟩|⟨rfl,hM,ab,cb,rfl,rb⟩⟩
 ·have V4:=V3.call q4
  go_wp2_with fail
  refine (ZiQ w4 (ho.of V4) (hd.of V4)).mono ?_
  rintro e5 w5 ⟨rfl,q5⟩
  have V5:=V4.call q5
  go_wp2
  go_ret
  exact ⟨rfl,V5.bel⟩
 have V4:=V3.call q4
 have hok:=Zgh v s k e l R m
 have M:=ZdZ hM
 have hD:=Zl6 sd hok
 have HN:Hid (Zab (ovI (Za5 sd (mfOf v s k e l R m))) 16=e∧Zab (ovI (Za5 sd (mfOf v s k e l R m))) 8=s):=by
  rw [Zfd]
  exact ⟨Zl8 hok hM,ZiN hok hM⟩
 have C1:Zbs [kyO k sd false] fuse (Za5 sd (mfOf v s k e l R m)) m R=bif decide (fuse≤s) then 0 else 230:=by
  have h:=Zmc sd hok hM fuse m R
  have e1:areS (mfOf v s k e l R m).segs R m=true:=Zka _ _ _
  have e2:(mfOf v s k e l R m).segs.length=m:=Zcq _ _ _
  rw [e1,e2,decide_eq_true rfl] at h
  exact h
 have C2:Zbs [kyO k sd true] fuse (Za5 sd (mfOf v s k e l R m)) m R=190:=Zmb sd hok hM fuse m R
 have hK:=ZiP sd false M.k
 have hpl:=hp.below V4.bel (Nat.le_refl _)
 clear hok M hM V3 q4 hr ok
 generalize Za5 sd (mfOf v s k e l R m)=D at*
 have V5:=V4.drew
 have rb5:=rb.below (Zap.drew w4) (Nat.le_refl _)
 go_upto_region 6 with fail
 refine Zao (fun w'=>Vars w w' [⟨g2,25, #[.int .i64 v, .int .i64 s, .int .i64 k, .int .i64 e, .slice a m c]⟩,⟨g1,22,bA sd⟩]) (by kernel_rfl) ?_
 refine ZaH (rs:=[0,1,2]) (fuel:=4) (by kernel_rfl) (fun c d v a w h=>by cases d<;>exact h) (by kernel_rfl) V5 (fun K hK=> ?_)
 refine Zai (.pointer (some ⟨g2,2,none⟩)) rfl (by rfl) (fun w' hw'=>by go_simp) ?_
 go_simp
 refine Zai (.int .i64 k) rfl (by rfl) (fun w' hw'=>by have c2:w'.cell? ⟨g2,2,none⟩=some (.int .i64 k):=Zaf (hw'.at 0 rfl) 2;go_simp) ?_
 go_simp
 refine Zai (.agg (bA sd)) rfl (by rfl) (fun w' hw'=>ZaD hw' 1 rfl _ rfl rfl Tryz.underlying22 Tryz.szB (Zae _)) ?_
 go_simp
 refine Zad (hK.out _ ?_)
 clear hK K
 refine ZaZ (i:=3) (fuel:=3) (by kernel_rfl) rfl (by rfl) (fun K hK=> ?_)
 go_simp
 refine (ZlX sd hsd _ (hd.of V5)).mono ?_
 rintro e6 w6 ⟨rfl,q6⟩
 have V6:=V5.call q6
 have rb6:=rb5.below q6 (Nat.le_refl _)
 refine hK _ _ V6 ?_
 clear hK K q6 rb5
 refine ZaH (rs:=[4]) (fuel:=2) (by kernel_rfl) (fun c d v a w h=>by cases d<;>exact h) (by kernel_rfl) V6 (fun K hK=> ?_)
 go_simp
 refine Zai (.agg (kA (kyO k sd false))) rfl (by rfl) (fun w' hw'=>Zcp 54 [(0, .tmp 38),(1, .tmp 40)] rfl _ (Zmf k sd)) ?_
 go_simp
 refine Zad (hK.out _ ?_)
 clear hK K
 refine ZaZ (i:=5) (fuel:=1) (by kernel_rfl) rfl (by rfl) (fun K hK=> ?_)
 refine ZcI (Vars.start w6) 42 39 1 [(0, .tmp 41)] rfl rfl 54 (kA (kyO k sd false)) (Zkz (Zfe k sd false)) (fun w7 g7 U7=> ?_)
 have V7:=V6.made U7.bel (U7.low _ (List.mem_singleton.2 rfl)) (U7.at 0 rfl)
 have rb7:=rb6.below U7.bel (Nat.le_refl _)
 refine hK _ _ V7.tail ?_
 clear hK K U7 rb6 V6
 try go_simp
 refine ZaH (rs:=[6]) (fuel:=0) (by kernel_rfl) (fun c d v a w h=>by cases d<;>exact h) (by kernel_rfl) V7.tail (fun K hK=> ?_)
 refine ZaA _ rfl (by rfl) rfl ?_
 go_simp
 refine Zad (hK.out _ ?_)
 clear hK K
 refine wpAnyH_done (by kernel_rfl) ?_ _
 go_wp2_with fail
 refine (Zmg (fuse:=fuse) (Zgj (V7.at 0 rfl)) (Zep k sd false) rb7 hD (by omega) (ho.of V7) (hd.of V7) (hp.below V7.bel (Nat.le_refl _)) hlen C1).mono ?_
 rintro e8 w8 ⟨q8,X,rfl,hX5,hX1,hXn,hXy⟩
 have V8:=V7.call q8
 have rb8:=rb7.below q8 (Nat.le_refl _)
 have HX:Hid ((s<fuse→X=ld00)∧(fuse≤s→∃la lc,X= #[.int .i64 0, .int .i64 e, .int .i64 s, .slice la m lc, .int .i64 0])):=by
  refine ⟨fun h=>hXn (by rw [decide_eq_false (by omega:¬fuse≤s)];decide),fun h=> ?_⟩
  obtain ⟨_,_,la,lc,h1,_⟩:=hXy (by rw [decide_eq_true h];rfl)
  rw [HN.out.1,HN.out.2] at h1
  exact ⟨la,lc,h1⟩
 obtain ⟨r,hr⟩:∃r:Int,r=bif decide (fuse≤s) then 0 else 230:=⟨_,rfl⟩
 rw [←hr]
 have HR:Hid (r=bif decide (fuse≤s) then 0 else 230):=hr
 clear hXn hXy hr V7 rb7 q8 V4 V5 rb C1
 have U8:=Vars.start w8
 go_wp2_with (first
  | (refine Zah U8 12 44 rfl rfl rfl ld00 ZdP ?_;intro w9 g9 U9)
  | (refine Zak U9 0 rfl _ (.tmp 49) rfl rfl rfl X rfl rfl Tryz.szLd rfl hX5 hX1 ?_;intro w10 U10;have V10:=V8.made U10.bel (U10.low _ (List.mem_singleton.2 rfl)) (U10.at 0 rfl);have rb10:=rb8.below U10.bel (Nat.le_refl _);have k2:w10.cell? ⟨g2,2,none⟩=some (.int .i64 k):=Zaf (V10.at 2 rfl) 2))
 refine (Zuy (x:=k) (Zgj (V10.at 1 rfl)) (Zep k sd false) hK).mono ?_
 rintro e11 w11 ⟨q11,⟨i,vv,hi,rfl,own⟩|⟨hi,_⟩⟩
 case inr=>rw [Zgi] at hi;cases hi
 obtain rfl:i=0:=by rw [Zgi] at hi;exact (Option.some.inj hi).symm
 obtain ⟨a11,c11,rfl,r11⟩:=Zp9 (n:=1) (by rw [Zp2];rfl) (Zp3 (Zep k sd false) 0) own
 have r11:KRow w11 a11 1 c11 [kyO k sd true]:=r11
 have V11:=V10.call q11
 have rb11:=rb10.below q11 (Nat.le_refl _)
 clear U8 U9 U10 V8 V10 rb8 rb10 q11 own hi hK k2
 go_wp2_with fail
 refine (Zmg (fuse:=fuse) r11 (Zep k sd true) rb11 hD (by omega) (ho.of V11) (hd.of V11) (hp.below V11.bel (Nat.le_refl _)) hlen C2).mono ?_
 rintro e12 w12 ⟨q12,X2,rfl,hX25,hX21,hX2n,_⟩
 obtain rfl:=hX2n (by decide)
 have V12:=V11.call q12
 clear hX2n V11 rb11 r11 q12 C2 hD
 go_upto_region 10 with (first
  | (refine Zah V12 16 44 rfl rfl rfl ld00 ZdP ?_;intro w13 g13 V13)
  | (refine Zak V13 0 rfl _ (.tmp 64) rfl rfl rfl ld00 rfl rfl Tryz.szLd rfl hX25 hX21 ?_;intro w14 V14))
 have k1:w14.cell? ⟨g2,1,none⟩=some (.int .i64 s):=Zaf (V14.at 3 rfl) 1
 by_cases hf:fuse≤s
 ·have hf':¬s<fuse:=by omega
  have hr0:r=0:=by rw [HR.out,decide_eq_true hf];rfl
  obtain ⟨la,lc,hXe⟩:=HX.out.2 hf
  subst hr0 hXe
  clear HX HR
  go_wp2_with fail
  refine (ZiQ w14 (ho.of V14) (hd.of V14)).mono ?_
  rintro e15 w15 ⟨rfl,q15⟩
  have V15:=V14.call q15
  have j1:w15.cell? ⟨g9,1,none⟩=some (.int .i64 e):=Zaf (V15.at 1 rfl) 1
  have j2:w15.cell? ⟨g9,2,none⟩=some (.int .i64 s):=Zaf (V15.at 1 rfl) 2
  have j3:w15.cell? ⟨g9,3,none⟩=some (.slice la m lc):=Zaf (V15.at 1 rfl) 3
  have j4:w15.cell? ⟨g2,1,none⟩=some (.int .i64 s):=Zaf (V15.at 3 rfl) 1
  have j5:w15.cell? ⟨g2,3,none⟩=some (.int .i64 e):=Zaf (V15.at 3 rfl) 3
  have HQ:Hid (Below w.heap.size w w15):=V15.bel
  clear V14 V12 V13 V15 q15 k1
  go_wp2_with fail
  go_ret
  exact ⟨by simp,HQ.out⟩
 ·have hf':s<fuse:=by omega
  have hr0:r=230:=by rw [HR.out,decide_eq_false hf];rfl
  have hXe:=HX.out.1 hf'
  subst hr0 hXe
  clear HX HR
  go_wp2_with fail
  refine (ZiQ w14 (ho.of V14) (hd.of V14)).mono ?_
  rintro e15 w15 ⟨rfl,q15⟩
  have V15:=V14.call q15
  clear V14 V12 V13 q15 k1
  go_wp2_with (refine Zax rfl (Zds V15 1 rfl _ rfl rfl Tryz.underlying44 rfl Tryz.szLd rfl) ?_)
  refine (ZuF w15).mono ?_
  rintro e16 w16 ⟨rfl,q16⟩
  have V16:=V15.call q16
  go_wp2
  go_ret
  exact ⟨rfl,V16.bel⟩
end Go.Proofs.YtcaloldcihpkfaaGreatDoor.N
