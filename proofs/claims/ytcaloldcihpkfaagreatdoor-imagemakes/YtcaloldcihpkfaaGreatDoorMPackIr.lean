/-
 The document's answer of layer 23 (casemateref23): Filled.
-/
import Derived.Test.YtcaloldcihpkfaaGreatDoorMPackIb
import Derived.Test.YtcaloldcihpkfaaGreatDoorMPackMr
import Derived.Test.YtcaloldcihpkfaaGreatDoorMPackMs
import Derived.Test.YtcaloldcihpkfaaGreatDoorMPackSh
import Derived.Test.YtcaloldcihpkfaaGreatDoorMPackIa
namespace Go.Proofs.YtcaloldcihpkfaaGreatDoor.N
open Go.RowKit
set_option linter.unusedVariables false
set_option maxRecDepth 8192

def mixE (d o:List Int) (j:Nat):List Int:=d.take j++o.drop j
theorem Zvx {d o:List Int} (h:d.length=32) (h':o.length=32):mixE d o 32=d:=by unfold mixE;rw [List.take_of_length_le (by omega),List.drop_eq_nil_of_le (by omega),List.append_nil]
theorem Zvy {d o:List Int} (h:d.length=32) (h':o.length=32) {j:Nat} (hj:j≤32):(mixE d o j).length=32:=by unfold mixE;rw [List.length_append,List.length_take,List.length_drop];omega
theorem Zvz {d o:List Int} (h:d.length=32) (h':o.length=32) (j:Nat) (hj:j<32):(mixE d o j).set j (d[j]?.getD 0)=mixE d o (j+1):=by
 unfold mixE
 have hl:(d.take j).length=j:=by rw [List.length_take];omega
 rw [List.set_append_right _ _ (by omega),hl,Nat.sub_self,List.drop_eq_getElem_cons (by omega),List.set_cons_zero,List.take_succ_eq_append_getElem (by omega),List.getElem?_eq_getElem (by omega),List.append_assoc]
 rfl
theorem ZvA (x y z:Int) (d:List Int):(sA ⟨x,y,d⟩).setIfInBounds 1 (.int .i64 z)=sA ⟨x,z,d⟩:=by
 unfold sA sC
 rw [List.setIfInBounds_toArray]
 rfl
theorem ZvB (w:World) (z:List Nat) (a:Option Addr) (len cap:Nat) (hr:Row .u8 w a len cap (nI z)) (hz:∀x∈z,x<256) (hl:len≤100000):
  Calls Tryz.prog 28 #[.slice a len cap] w fun e w'=>∃v,e= .returned v∧w'.ownsRow w.heap.size 5 1 v 32 ((dgI z).map (Value.int .u8))∧Below w.heap.size w w':=Zvw z a len cap w hr hz hl
set_option maxHeartbeats 3200000 in
theorem ZmT {w:World} {v s k e:Int} {a pa:Option Addr} {n c m pc:Nat} {l:List Sg} {R:Nat→B.PartV} (hr:SegRow w a n c l) (ok:∀s∈l,s.Ok) (hp:B.PartsAt w pa m pc R) (hm20:m≤1000) (hb:∀i,i<m→(R i).len≤100000):
  Calls Tryz.prog 10 #[.agg #[.int .i64 v, .int .i64 s, .int .i64 k, .int .i64 e, .slice a n c], .slice pa m pc] w fun e' w'=>Below w.heap.size w w'∧
   ((m≠n∧e'= .returned (.tuple #[.agg mf00, .bool false]))∨(m=n∧∃a' c',e'= .returned (.tuple #[.agg #[.int .i64 v, .int .i64 s, .int .i64 k, .int .i64 e, .slice a' n c'], .bool (mayM (mfOf v s k e l R n))])∧SegRow w' a' n c' (ZaX l R n))):=by
 have hm:=hr.hmax
 have hc:=hr.hcap
 have hpm:=hp.hmax
 have hpl:=hp.hlen
 unfold maxLen at hm hpm
 have HB:Hid (∀i,i<m→(R i).len≤100000):=hb
 obtain ⟨i1,hi1,hz1,hs1,hb1⟩:=Zgm
 clear hb
 have V0:=Vars.start w
 go_enter Tryz.func10,Tryz.ntmps10
 by_cases hmn:m=n
 case neg=>
  have hmn':((m:Int) != (n:Int))=true:=by rw [bne_iff_ne];omega
  have hb0:=Zmx
  go_wp2_with (first
   | (refine Zaj V0 2 25 _ rfl rfl rfl #[.int .i64 v, .int .i64 s, .int .i64 k, .int .i64 e, .slice a n c] rfl ?_;intro w1 g2 V1)
   | (refine Zai V1 4 25 rfl rfl rfl mf00 ZdH ?_;intro w2 g4 V2;have c4:w2.cell? ⟨g2,4,none⟩=some (.slice a n c):=Zag (V2.at 1 rfl) 4)
   | (refine Zal V2 0 rfl _ (.tmp 17) rfl rfl rfl mf00 rfl rfl Tryz.szMf rfl rfl (Zce 0 0 0 0 none 0 0) ?_;intro w3 V3))
  refine bodyPost_ret (ZeM rfl _ V3 0 rfl rfl Tryz.underlying25 Tryz.szMf rfl) rfl ?_
  exact ⟨V3.bel, .inl ⟨hmn,rfl⟩⟩
 subst hmn
 have hmn':((m:Int) != (m:Int))=false:=by simp
 go_wp2_with (first
  | (refine Zaj V0 2 25 _ rfl rfl rfl #[.int .i64 v, .int .i64 s, .int .i64 k, .int .i64 e, .slice a m c] rfl ?_;intro w1 g2 V1)
  | (refine Zai V1 4 25 rfl rfl rfl mf00 ZdH ?_;intro w2 g4 V2;have c4:w2.cell? ⟨g2,4,none⟩=some (.slice a m c):=Zag (V2.at 1 rfl) 4)
  | (refine Zax rfl (Zb3 V2 1 rfl _ rfl rfl Tryz.underlying25 rfl Tryz.szMf rfl) ?_)
  | (refine Zai V2 6 25 rfl rfl rfl mf00 ZdH ?_;intro w3 g6 V3)
  | (refine Zal V3 0 rfl _ (.tmp 18) rfl rfl rfl #[.int .i64 v, .int .i64 s, .int .i64 k, .int .i64 e, .slice a m c] rfl rfl Tryz.szMf rfl rfl (Zce _ _ _ _ _ _ _) ?_;intro w4 V4;have c5:w4.cell? ⟨g6,4,none⟩=some (.slice a m c):=Zag (V4.at 0 rfl) 4;have f5:=ZaJ (V4.at 0 rfl) 4;have V5:=V4.put 0 rfl 4 (.slice none 0 0)))
 have HV:Hid (Vars w (w4.setCell ⟨g6,4,none⟩ (.slice none 0 0)) [⟨g6,25, #[.int .i64 v, .int .i64 s, .int .i64 k, .int .i64 e, .slice none 0 0]⟩,⟨g4,25,mf00⟩,⟨g2,25, #[.int .i64 v, .int .i64 s, .int .i64 k, .int .i64 e, .slice a m c]⟩]):=V5
 obtain ⟨Z,hZ⟩:∃Z,Z=(w4.setCell ⟨g6,4,none⟩ (.slice none 0 0)).heap.size:=⟨_,rfl⟩
 have own0:=World.ownsRow_nil (w4.setCell ⟨g6,4,none⟩ (.slice none 0 0)) Z 66 34
 have l6:g6<Z:=by rw [hZ];exact Zat (HV.out.at 0 rfl)
 have l4:g4<Z:=by rw [hZ];exact Zat (HV.out.at 1 rfl)
 have l2:g2<Z:=by rw [hZ];exact Zat (HV.out.at 2 rfl)
 have lw:w.heap.size≤Z:=by rw [hZ];exact HV.out.bel.size
 have lZ:=Nat.le_of_eq hZ
 clear V0 V1 V2 V3 V4 V5 c4 c5 f5 hZ
 generalize w4.setCell ⟨g6,4,none⟩ (.slice none 0 0)=w5 at*
 clear w4 w3 w2 w1
 go_loopw [7,9,10,8] (fun y _ _ _ wr=>∃(i:Nat) (sa:Option Addr) (sn sc:Nat),i≤m∧y= .int .i64 (i:Int)∧sn=i∧Z≤wr.heap.size∧Hid (Vars w wr [⟨g6,25, #[.int .i64 v, .int .i64 s, .int .i64 k, .int .i64 e, .slice sa sn sc]⟩,⟨g4,25,mf00⟩,⟨g2,25, #[.int .i64 v, .int .i64 s, .int .i64 k, .int .i64 e, .slice a m c]⟩])∧Hid (wr.ownsRow Z 66 34 (.slice sa sn sc) i (sCs (ZaX l R i)))) (fun y _ _ _ _=>m - (RowKit.intOf y).toNat)
 case atStart=>exact ⟨0,none,0,0,Nat.zero_le _,rfl,rfl,lZ,HV,own0⟩
 case round=>
  clear HV own0 lZ
  obtain ⟨i,sa,sn,sc,hi,rfl,rfl,hZ,HV,HO⟩:=hrel
  by_cases hlt:sn<m
  ·have V:=HV.out
   obtain ⟨b,off,rfl,hbs,hcell⟩:=(hr.below V.bel (Nat.le_refl _)).hcell (by omega)
   have hx:=hcell sn hlt
   have hs:=ZcP ok sn
   obtain ⟨b2,off2,rfl,hbw,hpe⟩:=hp.each (by omega)
   obtain ⟨x0,hri,hzi⟩:=hpe sn hlt
   have hlb:=HB.out sn hlt
   have c4:wr.cell? ⟨g2,4,none⟩=some (.slice (some ⟨b,off,none⟩) m c):=Zag (V.at 2 rfl) 4
   have HN:Hid (sCs (ZaX l R (sn+1))=sCs (ZaX l R sn)++sC ⟨(sgI l sn).load,((R sn).len:Int),dgI (R sn).num⟩):=by
    show _=_
    rw [ZkD]
    simp [sCs]
   generalize sgI l sn=s9 at*
   generalize R sn=p at*
   obtain ⟨sL,sS,sD⟩:=s9
   have hsD:sD.length=32:=hs.len
   have x1:wr.cell? ⟨b2,off2+sn,none⟩=some (.slice p.at_ p.len p.cap):=(V.bel.cell (p:=⟨b2,off2+sn,none⟩) hbw).trans x0
   have hlt':(sn:Int)<(m:Int):=by omega
   have HZ:Hid (∀x∈p.num,x<256):=hzi
   have hbr:b2<wr.heap.size:=Nat.lt_of_lt_of_le hbw V.bel.size
   have U0:=Vars.start wr
   clear hcell hpe hzi
   go_upto_region 10 with (first
    | (refine wpList_load_mid rfl 66 _ rfl b (off+sn*34) rfl (sC ⟨sL,sS,sD⟩) _ hx Tryz.underlying66 rfl (by rw [ZbK hs];exact Tryz.szSg) ?_)
    | (refine Zai U0 8 66 rfl rfl rfl (sA sg0) ZcD ?_;intro u1 g8 U1)
    | (refine Zal U1 0 rfl _ (.tmp 30) rfl rfl rfl (sA ⟨sL,sS,sD⟩) rfl rfl Tryz.szSg (Zba Zb7) (Zba hs) (ZcQ _) ?_;intro u2 U2;have x2:=(U2.bel.cell (p:=⟨b2,off2+sn,none⟩) hbr).trans x1;have k1:u2.cell? ⟨g8,1,none⟩=some (.int .i64 sS):=Zag (U2.at 0 rfl) 1;have f1:=ZaJ (U2.at 0 rfl) 1;have U3:=U2.put 0 rfl 1 (.int .i64 (p.len:Int))))
   rw [ZvA] at U3
   have U4:Vars wr (u2.setCell ⟨g8,1,none⟩ (.int .i64 (p.len:Int))) [⟨g8,66,sA ⟨sL,(p.len:Int),sD⟩⟩]:=U3
   have x4:=(U4.bel.cell (p:=⟨b2,off2+sn,none⟩) hbr).trans x1
   have r4:=(hri.below V.bel (Nat.le_refl _)).below U4.bel (Nat.le_refl _)
   clear U0 U1 U2 U3 k1 f1 x2 x1 x0 hri hx c4
   generalize u2.setCell ⟨g8,1,none⟩ (.int .i64 (p.len:Int))=u4 at*
   go_wp2_with fail
   refine (ZvB u4 p.num p.at_ p.len p.cap r4 HZ.out hlb).mono ?_
   rintro e5 u5 ⟨v5,rfl,own5,q5⟩
   have k5:=own5.lt
   obtain ⟨a5,c5,rfl,r5⟩:=ZaF own5
   have n5:∀q,a5=some q→q.block≠g8:=fun q hq=>by have:=(k5 q.block (by rw [hq];rfl)).1;have:=Zat (U4.at 0 rfl);omega
   have HU:Hid (Vars wr u5 [⟨g8,66,sA ⟨sL,(p.len:Int),mixE (dgI p.num) sD 0⟩⟩]):=U4.call q5
   have HR5:Hid (Row .u8 u5 a5 32 c5 (dgI p.num)):=r5
   have hdl:=Zfj p.num
   have HOKD:Hid (IsB (dgI p.num)):=ZhY p.num
   clear own5 k5 r5 U4 r4 x4 q5
   generalize dgI p.num=d at*
   have HDL:Hid (d.length=32):=hdl
   clear hdl
   obtain ⟨wo,hwo⟩:∃q,q=wr:=⟨_,rfl⟩
   subst hwo
   go_wp2_with fail
   go_loopw [10] (fun y ws=>∃j:Nat,j≤32∧y= .int .i64 (j:Int)∧Hid (Vars wo ws [⟨g8,66,sA ⟨sL,(p.len:Int),mixE d sD j⟩⟩])∧Hid (Row .u8 ws a5 32 c5 d)) (fun y _=>32 - (RowKit.intOf y).toNat)
   case atStart=>exact ⟨0,Nat.zero_le _,rfl,HU,HR5⟩
   case round=>
    clear HU HR5
    obtain ⟨j,hj,rfl,HU,HR5⟩:=hrel
    by_cases hj32:j<32
    ·have hjI:(j:Int)<32:=by omega
     obtain ⟨b5,o5,rfl,_,hcx⟩:=HR5.out.hcell (by decide)
     have cx:=hcx j hj32
     have hl:=Zvy HDL.out hsD hj
     have cs:(wr.cell? ⟨g8,2+j,none⟩).isSome=true:=by
      rw [Zag (HU.out.at 0 rfl) (2+j)]
      simp [sA,sC,hl]
      omega
     obtain ⟨vc,hvc⟩:=Option.isSome_iff_exists.1 cs
     have fs:=ZaJ (HU.out.at 0 rfl) (2+j)
     have HV2:=HU.out.put 0 rfl (2+j) (.int .u8 (d[j]?.getD 0))
     rw [Zvj,Zvz HDL.out hsD j hj32] at HV2
     have HU3:Hid (Vars wo (wr.setCell ⟨g8,2+j,none⟩ (.int .u8 (d[j]?.getD 0))) [⟨g8,66,sA ⟨sL,(p.len:Int),mixE d sD (j+1)⟩⟩]):=HV2
     have HR6:Hid (Row .u8 (wr.setCell ⟨g8,2+j,none⟩ (.int .u8 (d[j]?.getD 0))) (some ⟨b5,o5,none⟩) 32 c5 d):=ZcF HR5.out n5 _
     clear hcx cs HV2 HU HR5 hl
     generalize d[j]?.getD 0=xb at*
     go_wp2_with fail
     go_roundw
     case rel=>exact ⟨j+1,by omega,by go_num,HU3,HR6⟩
     case measure=>simp [RowKit.intOf];omega
    ·have e32:j=32:=by omega
     have U4:=HU.out
     rw [e32,Zvx HDL.out hsD] at U4
     have hj33:¬(j:Int)<32:=by omega
     have V4:=V.call U4.bel
     have own4:=Zcs HO.out U4.bel
     have sw:=U4.bel.size
     clear hj hj32 e32 HU HR5 HO V HV
     have HOK:Hid ((⟨sL,(p.len:Int),d⟩:Sg).Ok):=⟨HDL.out,HOKD.out⟩
     generalize hsv:(⟨sL,(p.len:Int),d⟩:Sg)=sg at*
     have c6:wr.cell? ⟨g6,4,none⟩=some (.slice sa sn sc):=Zag (V4.at 0 rfl) 4
     have hms:=fun w=>ZkO HOK.out w
     have k7:=own4.lt
     go_upto_region 15 with fail
     iterate 7 go_step
     refine Zax rfl (Zb3 U4 0 rfl _ rfl rfl Tryz.underlying66 rfl Tryz.szSg (Zba HOK.out)) ?_
     refine Zfz (Vars.start wr) 56 23 1 [(0, .tmp 55)] rfl rfl rfl 66 (sA sg) hms ?_
     intro u7 g9 U7
     have own7:=Zcs own4 U7.bel
     have hb7:=U7.at 0 rfl
     have s7:=U7.bel.size
     refine wpList_append_own _ rfl _ _ 23 rfl Z 66 i1 (.agg (sA sg0)) 34 48 Tryz.underlying23 hi1 hz1 hs1 hb1 (Zba Zb7) (by decide) _ sn _ rfl own7 ⟨g9,0,none⟩ 1 1 (sC sg) rfl (by rw [ZbK HOK.out]) (fun j u hu=>by rw [Zbc];exact Zh2 hb7 j u hu) (Zf7 sg) (by unfold maxLen;omega) (by omega) (by omega) ?_
     intro sv u8 own8 hg8 _
     rw [←HN.out] at own8
     obtain ⟨sa',sc',rfl⟩:∃sa sc,sv= .slice sa (sn+1) sc:=by
      rcases own8.2 with ⟨_,h0⟩|⟨g',cap',cur',rfl,_⟩
      ·omega
      ·exact ⟨_,_,rfl⟩
     have V8:=(V4.call U7.bel).grown hg8 (fun h hh=>by
      have h9:=(k7 h hh).1
      refine ⟨by omega,fun u hu=> ?_⟩
      simp only [List.mem_cons,List.not_mem_nil,or_false] at hu
      rcases hu with rfl|rfl|rfl<;>simp only<;>omega)
     have c8:u8.cell? ⟨g6,4,none⟩=some (.slice sa sn sc):=Zag (V8.at 0 rfl) 4
     have f8:=ZaJ (V8.at 0 rfl) 4
     have HV9:Hid (Vars w (u8.setCell ⟨g6,4,none⟩ (.slice sa' (sn+1) sc')) [⟨g6,25, #[.int .i64 v, .int .i64 s, .int .i64 k, .int .i64 e, .slice sa' ((sn+1)) sc']⟩,⟨g4,25,mf00⟩,⟨g2,25, #[.int .i64 v, .int .i64 s, .int .i64 k, .int .i64 e, .slice (some ⟨b,off,none⟩) m c]⟩]):=V8.put 0 rfl 4 (.slice sa' (sn+1) sc')
     have HO9:Hid ((u8.setCell ⟨g6,4,none⟩ (.slice sa' (sn+1) sc')).ownsRow Z 66 34 (.slice sa' (sn+1) sc') (sn+1) (sCs (ZaX l R (sn+1)))):=ownsRow_setCell_below own8 (show g6<Z from l6) _
     have s8:=hg8.size
     have s9:(u8.setCell ⟨g6,4,none⟩ (.slice sa' (sn+1) sc')).heap.size=u8.heap.size:=by simp
     clear V8 V4 own8 own7 own4 hg8 U7 U4 hb7 k7 hms hsv HN HOK HDL HOKD c6
     go_wp2_with fail
     go_roundw
     case rel=>exact ⟨sn+1,sa',sn+1,sc',by omega,by go_num,rfl,by omega,HV9,HO9⟩
     case measure=>simp [RowKit.intOf];omega
  ·obtain rfl:sn=m:=by omega
   have hk0:¬(sn:Int)<(sn:Int):=by omega
   have V:=HV.out
   obtain ⟨sa2,sc2,e9,hrow⟩:=ZhC (ZcE l R sn) (Zev l R sn) HO.out
   cases e9
   have V5:=V.drew
   have hrow5:=hrow.below (Zao.drew wr) (Nat.le_refl _)
   have HF:=Zev l R sn
   clear HV HO hrow V hr ok hp HB
   go_upto_region 16 with fail
   refine Zar (fun w'=>Vars w w' [⟨g6,25, #[.int .i64 v, .int .i64 s, .int .i64 k, .int .i64 e, .slice sa sn sc]⟩,⟨g2,25, #[.int .i64 v, .int .i64 s, .int .i64 k, .int .i64 e, .slice a sn c]⟩]) (by kernel_rfl) ?_
   refine Zaz (rs:=[0,1]) (fuel:=3) (by kernel_rfl) (fun c d v a w h=>by cases d<;>exact h) (by kernel_rfl) (V5.del 1) (fun K hK=> ?_)
   refine Zad (.agg #[.int .i64 v, .int .i64 s, .int .i64 k, .int .i64 e, .slice sa sn sc]) rfl (by rfl) (fun w' hw'=>Zb3 hw' 0 rfl _ rfl rfl Tryz.underlying25 rfl Tryz.szMf rfl) ?_
   go_simp
   refine Zad (.agg #[.int .i64 v, .int .i64 s, .int .i64 k, .int .i64 e, .slice sa sn sc]) rfl (by rfl) (fun w' hw'=>Zb3 hw' 0 rfl _ rfl rfl Tryz.underlying25 rfl Tryz.szMf rfl) ?_
   go_simp
   refine Zac (hK.out _ ?_)
   clear hK K
   refine Za3 (i:=2) (fuel:=2) (by kernel_rfl) rfl (by rfl) (fun K hK=> ?_)
   go_simp
   refine (Zvh (v:=v) (s:=s) (k:=k) (e:=e) hrow5 HF).mono ?_
   rintro e6 w6 ⟨rfl,q6⟩
   have V6:=V5.call q6
   have hrow6:=hrow5.below q6 (Nat.le_refl _)
   refine hK _ _ (V6.del 1) ?_
   clear hK K
   refine Za3 (i:=3) (fuel:=1) (by kernel_rfl) rfl (by rfl) (fun K hK=> ?_)
   refine wp_store_row 25 _ _ rfl g4 #[.int .i64 v, .int .i64 s, .int .i64 k, .int .i64 e, .slice sa sn sc] rfl rfl 25 mf00 (V6.at 1 rfl) (by rw [Tryz.szMf];rfl) rfl (Zce _ _ _ _ _ _ _) ?_
   have V7:=V6.store 1 rfl #[.int .i64 v, .int .i64 s, .int .i64 k, .int .i64 e, .slice sa sn sc]
   have hrow7:=hrow6.off HF (V6.at 1 rfl) (by show (5:Nat)<34;decide) (w':=w6.setRow g4 #[.int .i64 v, .int .i64 s, .int .i64 k, .int .i64 e, .slice sa sn sc]) (by simp [World.setRow]) (fun j hj=>setRow_other _ _ _ _ hj)
   refine hK _ _ (V7.del 1) ?_
   clear hK K
   try go_simp
   refine Zaz (rs:=[4]) (fuel:=0) (by kernel_rfl) (fun c d v a w h=>by cases d<;>exact h) (by kernel_rfl) (V7.del 1) (fun K hK=> ?_)
   refine ZaB _ rfl (by rfl) rfl ?_
   go_simp
   refine Zac (hK.out _ ?_)
   clear hK K
   refine wpAnyH_done (by kernel_rfl) ?_ _
   go_wp2_with fail
   refine bodyPost_ret (ZeM rfl _ V7 1 rfl rfl Tryz.underlying25 Tryz.szMf rfl) rfl ?_
   first|exact ⟨V7.bel, .inr ⟨rfl,sa,sc,rfl,hrow7⟩⟩|exact ⟨V7.bel,sa,sc,rfl,hrow7⟩|exact ⟨V7.bel,sa,rfl,sc,rfl,hrow7⟩|exact ⟨V7.bel,sa,sc,⟨rfl,rfl⟩,hrow7⟩|trace_state
end Go.Proofs.YtcaloldcihpkfaaGreatDoor.N

/-
 The document's answer of layer 23 (casemateref23): Digests, Fits.
-/
namespace Go.Proofs.YtcaloldcihpkfaaGreatDoor.N
open Go.RowKit
set_option linter.unusedVariables false
set_option maxRecDepth 8192

end Go.Proofs.YtcaloldcihpkfaaGreatDoor.N
