/-
 The document's answer of layer 20 (casemateref20): in, May.
-/
import Derived.Test.YtcaloldcihpkfaaGreatDoorCPackMa
import Derived.Test.YtcaloldcihpkfaaGreatDoorCPackMb
namespace Go.Proofs.YtcaloldcihpkfaaGreatDoor.N
open Go.RowKit
set_option linter.unusedVariables false
set_option maxRecDepth 8192

theorem ZfH (n:Int) (w:World):Calls Tryz.prog 72 #[.int .i64 n] w fun e w'=>e= .returned (.bool (in31 n))∧w=w':=by
 by_cases h:0≤n
 ·go_enter Tryz.func72,Tryz.ntmps72
  go_wp2
  go_ret
  exact ⟨ZaC (by unfold in31 Zbf;simp [h]),rfl⟩
 ·go_enter Tryz.func72,Tryz.ntmps72
  go_wp2
  go_ret
  exact ⟨ZaC (by unfold in31 Zbf;symm;rw [decide_eq_false_iff_not];omega),rfl⟩
set_option maxHeartbeats 3200000 in
theorem Zvh {v s k e:Int} {a:Option Addr} {n cap:Nat} {l:List Sg} {w:World} (hr:SegRow w a n cap l) (ho:∀s∈l,s.Ok):Calls Tryz.prog 29 #[.agg #[.int .i64 v, .int .i64 s, .int .i64 k, .int .i64 e, .slice a n cap]] w fun e' w'=>e'= .returned (.bool (mayM ⟨v,s,k,e,l⟩))∧Below w.heap.size w w':=by
 have hm:=hr.hmax
 have hc:=hr.hcap
 unfold maxLen at hm
 have HM:Hid (mayM ⟨v,s,k,e,l⟩=((in31 v&&(in31 s&&(in31 k&&in31 e)))&&(decide (n≤8)&&okTo l n))):=by
  show _=_
  rw [←hr.hlen]
  rfl
 have V1:=(Vars.start w).new 25 #[.int .i64 v, .int .i64 s, .int .i64 k, .int .i64 e, .slice a n cap]
 have q0:=V1.bel
 have hg:=V1.at 0 rfl
 clear V1
 go_enter Tryz.func29,Tryz.ntmps29
 go_wp2_with fail
 have hsz:(w.alloc (.cells #[.int .i64 v, .int .i64 s, .int .i64 k, .int .i64 e, .slice a n cap] 25)).heap.size=w.heap.size+1:=by simp
 generalize w.alloc (.cells #[.int .i64 v, .int .i64 s, .int .i64 k, .int .i64 e, .slice a n cap] 25)=w1 at*
 have c1:w1.cell? ⟨w.heap.size,1,none⟩=some (.int .i64 s):=Zag hg 1
 have c2:w1.cell? ⟨w.heap.size,2,none⟩=some (.int .i64 k):=Zag hg 2
 have c3:w1.cell? ⟨w.heap.size,3,none⟩=some (.int .i64 e):=Zag hg 3
 have c4:w1.cell? ⟨w.heap.size,4,none⟩=some (.slice a n cap):=Zag hg 4
 have hi0:=ZfH v w1
 cases h0:in31 v
 ·rw [h0] at hi0 HM
  have HF:Hid (mayM ⟨v,s,k,e,l⟩=false):=by show _=_;rw [HM.out];simp
  clear HM
  refine hi0.mono ?_
  rintro e' w' ⟨rfl,rfl⟩
  go_wp2_with fail
  go_ret
  exact ⟨ZaC HF.out.symm,q0⟩
 rw [h0] at hi0 HM
 rw [Bool.true_and] at HM
 refine hi0.mono ?_
 rintro e' w' ⟨rfl,rfl⟩
 clear hi0 h0
 go_wp2_with fail
 have hi1:=ZfH s w1
 cases h1:in31 s
 ·rw [h1] at hi1 HM
  have HF:Hid (mayM ⟨v,s,k,e,l⟩=false):=by show _=_;rw [HM.out];simp
  clear HM
  refine hi1.mono ?_
  rintro e' w' ⟨rfl,rfl⟩
  go_wp2_with fail
  go_ret
  exact ⟨ZaC HF.out.symm,q0⟩
 rw [h1] at hi1 HM
 rw [Bool.true_and] at HM
 refine hi1.mono ?_
 rintro e' w' ⟨rfl,rfl⟩
 clear hi1 h1
 go_wp2_with fail
 have hi2:=ZfH k w1
 cases h2:in31 k
 ·rw [h2] at hi2 HM
  have HF:Hid (mayM ⟨v,s,k,e,l⟩=false):=by show _=_;rw [HM.out];simp
  clear HM
  refine hi2.mono ?_
  rintro e' w' ⟨rfl,rfl⟩
  go_wp2_with fail
  go_ret
  exact ⟨ZaC HF.out.symm,q0⟩
 rw [h2] at hi2 HM
 rw [Bool.true_and] at HM
 refine hi2.mono ?_
 rintro e' w' ⟨rfl,rfl⟩
 clear hi2 h2
 go_wp2_with fail
 have hi3:=ZfH e w1
 cases h3:in31 e
 ·rw [h3] at hi3 HM
  have HF:Hid (mayM ⟨v,s,k,e,l⟩=false):=by show _=_;rw [HM.out];simp
  clear HM
  refine hi3.mono ?_
  rintro e' w' ⟨rfl,rfl⟩
  go_wp2_with fail
  go_ret
  exact ⟨ZaC HF.out.symm,q0⟩
 rw [h3] at hi3 HM
 rw [Bool.true_and] at HM
 refine hi3.mono ?_
 rintro e' w' ⟨rfl,rfl⟩
 clear hi3 h3
 by_cases h8:n≤8
 case neg=>
  have HF:Hid (mayM ⟨v,s,k,e,l⟩=false):=by show _=_;rw [HM.out,decide_eq_false h8,Bool.false_and]
  have h8':(8:Int)<(n:Int):=by omega
  clear HM
  go_wp2_with fail
  go_ret
  exact ⟨ZaC HF.out.symm,q0⟩
 have HM2:Hid (mayM ⟨v,s,k,e,l⟩=okTo l n):=by show _=_;rw [HM.out,decide_eq_true h8,Bool.true_and]
 have h8':¬(8:Int)<(n:Int):=by omega
 clear HM
 go_wp2_with fail
 clear c1 c2 c3 c4
 go_loopw [3,4] (fun en i wr=>∃j:Nat,j≤n∧i= .int .i64 (j:Int)∧en= .int .i64 (Zb8 l j)∧Hid (okTo l j=true)∧Below w1.heap.size w1 wr) (fun _ i _=>n - (RowKit.intOf i).toNat)
 case atStart=>exact ⟨0,Nat.zero_le _,rfl,rfl,ZjT l,Below.refl _ _⟩
 case round=>
  obtain ⟨j,hj,rfl,rfl,HO,q⟩:=hrel
  have hg':wr.heap[w.heap.size]? =some (.cells #[.int .i64 v, .int .i64 s, .int .i64 k, .int .i64 e, .slice a n cap] 25 (0,0)):=by rw [q.block _ (Zat hg)];exact hg
  have c4:wr.cell? ⟨w.heap.size,4,none⟩=some (.slice a n cap):=Zag hg' 4
  have hr':=(hr.below q0 (Nat.le_refl _)).below q (Nat.le_refl _)
  have he:=Zf3 HO.out
  have qw:Below w.heap.size w wr:=Zbp q0 q
  by_cases hlt:j<n
  ·obtain ⟨b,off,rfl,hbs,hcell⟩:=hr'.hcell (by omega)
   have hx:=hcell j hlt
   have hs:=ZcP ho j
   have HS:Hid (okTo l (j+1)=(Zbf (sgI l j).size 0 1048576&&Zbf (sgI l j).load (Zb8 l j) (2147483647 - (sgI l j).size))):=by
    show _=_
    rw [Ze9,HO.out,Bool.true_and]
    rfl
   have HF:Hid (okTo l (j+1)=false→mayM ⟨v,s,k,e,l⟩=false):=fun h=>by
    rw [Ze9,HO.out,Bool.true_and] at h
    rw [HM2.out]
    exact ZjU h hlt
   have HE:Hid (Zb8 l (j+1)=(sgI l j).load+(sgI l j).size):=rfl
   clear hcell hr' hg'
   generalize sgI l j=x at*
   generalize Zb8 l j=en at*
   have hlt':(j:Int)<(n:Int):=by omega
   have V0:=Vars.start wr
   go_wp2_with (first
    | (refine wpList_load_mid rfl 66 _ rfl b (off+j*34) rfl (sC x) _ hx Tryz.underlying66 rfl (by rw [ZbK hs];exact Tryz.szSg) ?_)
    | (refine Zai V0 5 66 rfl rfl rfl (sA sg0) ZcD ?_;intro w3 g3 V3)
    | (refine Zal V3 0 rfl _ (.tmp 45) rfl rfl rfl (sA x) rfl rfl Tryz.szSg (Zba Zb7) (Zba hs) (ZcQ x) ?_;intro w4 V4;have d0:=Zfa (V4.at 0 rfl);have d1:=Zfb (V4.at 0 rfl)))
   have q2:=Zbp q V4.bel
   have qw2:=Zbp qw V4.bel
   clear V0 V3 V4 q qw c4 hx
   have hNO:¬(0≤x.size∧x.size≤1048576∧en≤x.load∧x.load≤2147483647 - x.size)→mayM ⟨v,s,k,e,l⟩=false:=fun h=>HF.out (by
    rw [HS.out]
    cases h1:Zbf x.size 0 1048576
    ·rfl
    ·cases h2:Zbf x.load en (2147483647 - x.size)
     ·rfl
     ·exfalso
      have k1:=Zcq h1
      have k2:=Zcq h2
      omega)
   have HNO:Hid _:=hNO
   clear hNO HF
   have hin:=ZfH x.load w4
   cases h1:in31 x.load
   ·rw [h1] at hin
    have HN:Hid (mayM ⟨v,s,k,e,l⟩=false):=HNO.out (by have:=ZjS h1;omega)
    clear HNO h1 HS HE
    refine hin.mono ?_
    rintro e' w' ⟨rfl,rfl⟩
    go_wp2_with fail
    go_ret
    exact ⟨ZaC HN.out.symm,qw2⟩
   rw [h1] at hin
   have hb1:=Zcq h1
   clear h1
   refine hin.mono ?_
   rintro e' w' ⟨rfl,rfl⟩
   clear hin
   by_cases b0:x.size<0
   ·have HN:Hid (mayM ⟨v,s,k,e,l⟩=false):=HNO.out (by omega)
    clear HNO HS HE
    go_wp2_with fail
    go_ret
    exact ⟨ZaC HN.out.symm,qw2⟩
   by_cases b1:1048576<x.size
   ·have HN:Hid (mayM ⟨v,s,k,e,l⟩=false):=HNO.out (by omega)
    clear HNO HS HE
    go_wp2_with fail
    go_ret
    exact ⟨ZaC HN.out.symm,qw2⟩
   by_cases b2:2147483647<x.load+x.size
   ·have HN:Hid (mayM ⟨v,s,k,e,l⟩=false):=HNO.out (by omega)
    clear HNO HS HE
    go_wp2_with fail
    go_ret
    exact ⟨ZaC HN.out.symm,qw2⟩
   by_cases b3:x.load<en
   ·have HN:Hid (mayM ⟨v,s,k,e,l⟩=false):=HNO.out (by omega)
    clear HNO HS HE
    go_wp2_with fail
    go_ret
    exact ⟨ZaC HN.out.symm,qw2⟩
   have HN:Hid (okTo l (j+1)=true):=by
    show _=_
    rw [HS.out]
    unfold Zbf
    rw [decide_eq_true (show 0≤x.size∧x.size≤1048576 by omega),decide_eq_true (show en≤x.load∧x.load≤2147483647 - x.size by omega)]
    rfl
   clear HNO HS
   go_wp2_with fail
   go_roundw
   case rel=>exact ⟨j+1,by omega,by go_num,by rw [HE.out],HN,q2⟩
   case measure=>simp [RowKit.intOf];omega
  ·obtain rfl:j=n:=by omega
   clear hr' hg'
   go_wp2_with fail
   go_ret
   exact ⟨ZaC (by rw [HM2.out,HO.out]),qw⟩
end Go.Proofs.YtcaloldcihpkfaaGreatDoor.N

/-
 The document's answer of layer 20 (casemateref20): Bytes.
-/
namespace Go.Proofs.YtcaloldcihpkfaaGreatDoor.N
open Go.RowKit
set_option linter.unusedVariables false
set_option maxRecDepth 8192

theorem Gr.below {B:Nat} {e:TypeId} {w w':World} {v:Value} {t m:Nat} {D:List Int} (h:Gr B e w v t m D) (q:Below w.heap.size w w'):Gr B e w' v t m D:=by
 rcases h with h|⟨h0,hm,a,rfl,r⟩
 ·exact .inl (Zcs h q)
 ·exact .inr ⟨h0,hm,a,rfl,r.below q (Nat.le_refl _)⟩
set_option maxHeartbeats 3200000 in
theorem Zvi {v s k e:Int} {a:Option Addr} {n cap:Nat} {l:List Sg} {w:World} (hr:SegRow w a n cap l) (ho:∀s∈l,s.Ok) (hm:mayM ⟨v,s,k,e,l⟩=true):
  Calls Tryz.prog 12 #[.agg #[.int .i64 v, .int .i64 s, .int .i64 k, .int .i64 e, .slice a n cap]] w fun e' w'=>∃u,e'= .returned u∧w'.ownsRow w.heap.size 5 1 u (24+40*n) ((Zay ⟨v,s,k,e,l⟩).map (Value.int .u8))∧Below w.heap.size w w':=by
 obtain ⟨i0,hi0,hz0,hz1,hz2⟩:=info_parts Tryz.info5
 have HL:Hid (l.length=n):=hr.hlen
 have M:=Zek hm
 have hn8:n≤8:=by rw [←HL.out];exact M.n
 have mc:=hr.hcap
 have mm:=hr.hmax
 unfold maxLen at mm
 have HA:Hid (Zc5 ⟨v,s,k,e,l⟩=mani++nums [v,s,k,e,(n:Int)]):=by show _=_;rw [←HL.out];rfl
 have HB:Hid (Zay ⟨v,s,k,e,l⟩=Zc5 ⟨v,s,k,e,l⟩++l.flatMap ZaL):=rfl
 have HM:Hid (MayM ⟨v,s,k,e,l⟩):=M
 have h0:∀i,i<5→0≤ [v,s,k,e,(n:Int)][i]?.getD 0∧[v,s,k,e,(n:Int)][i]?.getD 0≤2147483647:=fun i hi=>by
  rcases (show i=0∨i=1∨i=2∨i=3∨i=4 by omega) with rfl|rfl|rfl|rfl|rfl
  ·exact M.v
  ·exact M.s
  ·exact M.k
  ·exact M.e
  ·show 0≤(n:Int)∧(n:Int)≤2147483647
   omega
 have H0:Hid _:=h0
 clear h0 M hm
 have V1:=(Vars.start w).new 25 #[.int .i64 v, .int .i64 s, .int .i64 k, .int .i64 e, .slice a n cap]
 go_enter Tryz.func12,Tryz.ntmps12
 have es1:(w.alloc (.cells #[.int .i64 v, .int .i64 s, .int .i64 k, .int .i64 e, .slice a n cap] 25)).heap.size=w.heap.size+1:=by simp
 have kc:=Lib.run_convert_bytes_const (P:=Tryz.prog) (w.alloc (.cells #[.int .i64 v, .int .i64 s, .int .i64 k, .int .i64 e, .slice a n cap] 25)) 28 5 #[.int .u8 109, .int .u8 97, .int .u8 110, .int .u8 105] 4 4 Tryz.underlying28 Tryz.underlying5
 have ro:=Zf9 .u8 (w.alloc (.cells #[.int .i64 v, .int .i64 s, .int .i64 k, .int .i64 e, .slice a n cap] 25)) 5 (4,5) mani 4 rfl (by unfold maxLen;omega) #[.int .u8 109, .int .u8 97, .int .u8 110, .int .u8 105] rfl
 have V2:=V1.call (ZaS (w.alloc (.cells #[.int .i64 v, .int .i64 s, .int .i64 k, .int .i64 e, .slice a n cap] 25)) (.cells #[.int .u8 109, .int .u8 97, .int .u8 110, .int .u8 105] 5 (4,5)))
 rw [es1] at kc ro
 have hg:=V2.at 0 rfl
 have c0:World.cell? _ ⟨w.heap.size,0,none⟩=some (.int .i64 v):=Zag hg 0
 have c1:World.cell? _ ⟨w.heap.size,1,none⟩=some (.int .i64 s):=Zag hg 1
 have c2:World.cell? _ ⟨w.heap.size,2,none⟩=some (.int .i64 k):=Zag hg 2
 have c3:World.cell? _ ⟨w.heap.size,3,none⟩=some (.int .i64 e):=Zag hg 3
 have c4:World.cell? _ ⟨w.heap.size,4,none⟩=some (.slice a n cap):=Zag hg 4
 clear hg V1
 go_wp2_with fail
 clear kc c0 c1 c2 c3 c4
 have V3:=V2.new 3 #[.int .i64 v, .int .i64 s, .int .i64 k, .int .i64 e, .int .i64 (n:Int)]
 have ro3:=ro.below (ZaS _ (.cells #[.int .i64 v, .int .i64 s, .int .i64 k, .int .i64 e, .int .i64 (n:Int)] 3)) (Nat.le_of_eq (by simp))
 simp only [World.size_alloc] at V3
 clear V2 ro es1
 generalize ((w.alloc (.cells #[.int .i64 v, .int .i64 s, .int .i64 k, .int .i64 e, .slice a n cap] 25)).alloc (.cells #[.int .u8 109, .int .u8 97, .int .u8 110, .int .u8 105] 5 (4,5))).alloc (.cells #[.int .i64 v, .int .i64 s, .int .i64 k, .int .i64 e, .int .i64 (n:Int)] 3)=w3 at*
 have HBOX:Hid (w3.heap[w.heap.size]? =some (.cells #[.int .i64 v, .int .i64 s, .int .i64 k, .int .i64 e, .slice a n cap] 25 (0,0))):=V3.at 1 rfl
 have hzz:w3.heap[w.heap.size+1+1]? =some (.cells ([v,s,k,e,(n:Int)].map (Value.int .i64)).toArray 3 (0,0)):=V3.at 0 rfl
 have q3:=V3.bel
 clear V3
 generalize hzs: [v,s,k,e,(n:Int)]=zs at*
 have HZL:Hid (zs.length=5):=by rw [←hzs];rfl
 clear hzs
 go_loopw [3,5] (fun out i wr=>∃j:Nat,j≤5∧i= .int .i64 (j:Int)∧Gr w.heap.size 5 wr out j (4+4*j) (mani++nums (zs.take j))∧Below w.heap.size w wr∧ZaQ 5 w3 wr) (fun _ i _=>5 - (RowKit.intOf i).toNat)
 case atStart=>exact ⟨0,by decide,rfl, .inr ⟨rfl,by decide,_,rfl,by simpa [nums] using ro3⟩,q3,ZaQ.refl _ _⟩
 case round=>
  clear ro3 q3
  obtain ⟨j,hj,rfl,gr,q,kp⟩:=hrel
  by_cases hlt:j<5
  ·have hx:=H0.out j hlt
   have hjl:j<zs.length:=by rw [HZL.out];exact hlt
   have ck:=Zag (kp _ _ _ (by decide) hzz) j
   have ez:(zs.map (Value.int .i64)).toArray[j]? =some (.int .i64 (zs[j]?.getD 0)):=by simp [List.getElem?_eq_getElem hjl]
   rw [ez] at ck
   have HX:Hid (mani++nums (zs.take (j+1))=(mani++nums (zs.take j))++four (zs[j]?.getD 0)):=by show _=_;rw [ZkI zs j hjl,List.append_assoc]
   clear ez
   generalize zs[j]?.getD 0=x at*
   generalize mani++nums (zs.take j)=E at*
   have hlt':(j:Int)<5:=by omega
   go_wp2_with fail
   refine (Zhx x wr hx.1 (by omega)).mono ?_
   rintro e' w4 ⟨v4,rfl,own4,q4⟩
   obtain ⟨a4,c4,rfl,r4⟩:=ZaF own4
   have gr4:=gr.below q4
   have kp4:=kp.trans (ZaQ.below q4)
   have qq4:=Zbp q q4
   clear gr own4 ck kp q q4
   go_wp2_with (at_builtin;refine ZdT _ rfl _ _ 28 rfl w.heap.size 5 i0 (.int .u8 0) Tryz.underlying28 hi0 hz0 hz1 hz2 rfl rfl gr4 a4 4 c4 _ rfl r4 (by decide) (by omega) qq4.size ?_)
   intro v5 w5 own5 q5 kp5
   have own5':w5.ownsRow w.heap.size 5 1 v5 (4+4*j+4) ((E++four x).map (Value.int .u8)):=by rw [List.map_append];simpa using own5
   rw [←HX.out,show 4+4*j+4=4+4*(j+1) by omega] at own5'
   have kp6:=kp4.trans kp5
   have qq6:=qq4.trans q5
   clear own5 gr4 r4 kp4 qq4 kp5 q5
   go_wp2_with fail
   go_roundw
   case rel=>exact ⟨j+1,by omega,by go_num, .inl own5',qq6,kp6⟩
   case measure=>simp [RowKit.intOf];omega
  ·have own:=gr.own (by omega)
   rw [show 4+4*j=24 by omega,List.take_of_length_le (by rw [HZL.out];omega), ←HA.out] at own
   have hlt5:¬(j:Int)<5:=by omega
   clear gr hj hlt
   generalize Zc5 ⟨v,s,k,e,l⟩=A at*
   go_wp2_with fail
   go_loopw [3,6] (fun out i ws=>∃j:Nat,j≤n∧i= .int .i64 (j:Int)∧ws.ownsRow w.heap.size 5 1 out (24+40*j) ((A++(l.take j).flatMap ZaL).map (Value.int .u8))∧Below w.heap.size w ws∧ZaQ 5 w3 ws) (fun _ i _=>n - (RowKit.intOf i).toNat)
   case atStart=>exact ⟨0,Nat.zero_le _,rfl,by simpa using own,q,kp⟩
   case round=>
    clear own q kp
    obtain ⟨j,hj,rfl,own,q,kp⟩:=hrel
    have c4:wr.cell? ⟨w.heap.size,4,none⟩=some (.slice a n cap):=Zag (kp _ _ _ (by decide) HBOX.out) 4
    by_cases hlt:j<n
    ·obtain ⟨b,off,rfl,hbs,hcell⟩:=(hr.below q (Nat.le_refl _)).hcell (by omega)
     have hx:=hcell j hlt
     have hs:=ZcP ho j
     have hjl:j<l.length:=by rw [HL.out];exact hlt
     have hb:0≤(sgI l j).load∧(sgI l j).load≤2147483647∧0≤(sgI l j).size∧(sgI l j).size≤1048576:=HM.out.seg hjl
     have HT:Hid (A++(l.take (j+1)).flatMap ZaL=(A++(l.take j).flatMap ZaL)++ZaL (sgI l j)):=by show _=_;rw [ZkL l j hjl,List.append_assoc]
     clear hcell hjl
     generalize sgI l j=x at*
     generalize A++(l.take j).flatMap ZaL=D at*
     have hlt':(j:Int)<(n:Int):=by omega
     have V0:=Vars.start wr
     go_wp2_with (first
      | (refine wpList_load_mid rfl 66 _ rfl b (off+j*34) rfl (sC x) _ hx Tryz.underlying66 rfl (by rw [ZbK hs];exact Tryz.szSg) ?_)
      | (refine Zai V0 7 66 rfl rfl rfl (sA sg0) ZcD ?_;intro w5 g5 V5)
      | (refine Zal V5 0 rfl _ (.tmp 46) rfl rfl rfl (sA x) rfl rfl Tryz.szSg (Zba Zb7) (Zba hs) (ZcQ x) ?_;intro w6 V6;have d0:=Zfa (V6.at 0 rfl)))
     have own6:=Zcs own V6.bel
     have q6:=Zbp q V6.bel
     have kp6:=kp.trans (ZaQ.below V6.bel)
     have hg6:=V6.at 0 rfl
     clear own q kp hx V5 V0 V6 c4
     refine (Zhx x.load w6 hb.1 (by omega)).mono ?_
     rintro e' w7 ⟨v7,rfl,own7,q7⟩
     obtain ⟨a7,c7,rfl,r7⟩:=ZaF own7
     replace own6:=Zcs own6 q7
     replace q6:=Zbp q6 q7
     replace kp6:=kp6.trans (ZaQ.below q7)
     have hg7:w7.heap[g5]? =some (.cells (sA x) 66 (0,0)):=by rw [q7.block _ (Zat hg6)];exact hg6
     clear d0 own7 q7 hg6
     go_wp2_with (at_builtin;refine ZdT _ rfl _ _ 28 rfl w.heap.size 5 i0 (.int .u8 0) Tryz.underlying28 hi0 hz0 hz1 hz2 rfl rfl (tt:=0) (.inl own6) a7 4 c7 _ rfl r7 (by decide) (by omega) q6.size ?_)
     intro v8 w8 own8 q8 kp8
     replace q6:=q6.trans q8
     replace kp6:=kp6.trans kp8
     have hg8:=kp8 _ _ _ (by decide) hg7
     have d1:=Zfb hg8
     clear own6 r7 q8 kp8 hg7
     replace own8:w8.ownsRow w.heap.size 5 1 v8 (24+40*j+4) ((D++four x.load).map (Value.int .u8)):=by rw [List.map_append];simpa using own8
     have HE:Hid (A++(l.take (j+1)).flatMap ZaL=((D++four x.load)++four x.size)++x.dig):=by show _=_;rw [HT.out];unfold ZaL;simp only [List.append_assoc]
     clear HT
     generalize D++four x.load=D1 at*
     go_wp2_with fail
     refine (Zhx x.size w8 hb.2.2.1 (by omega)).mono ?_
     rintro e' w9 ⟨v9,rfl,own9,q9⟩
     obtain ⟨a9,c9,rfl,r9⟩:=ZaF own9
     replace own8:=Zcs own8 q9
     replace q6:=Zbp q6 q9
     replace kp6:=kp6.trans (ZaQ.below q9)
     have hg9:w9.heap[g5]? =some (.cells (sA x) 66 (0,0)):=by rw [q9.block _ (Zat hg8)];exact hg8
     clear d1 own9 q9 hg8
     go_wp2_with (at_builtin;refine ZdT _ rfl _ _ 28 rfl w.heap.size 5 i0 (.int .u8 0) Tryz.underlying28 hi0 hz0 hz1 hz2 rfl rfl (tt:=0) (.inl own8) a9 4 c9 _ rfl r9 (by decide) (by omega) q6.size ?_)
     intro v10 w10 own10 q10 kp10
     replace own10:w10.ownsRow w.heap.size 5 1 v10 (24+40*j+4+4) ((D1++four x.size).map (Value.int .u8)):=by rw [List.map_append];simpa using own10
     replace q6:=q6.trans q10
     replace kp6:=kp6.trans kp10
     have hg10:=kp10 _ _ _ (by decide) hg9
     have rd:=Zj2 hs hg10
     clear own8 r9 q10 kp10 hg9
     generalize D1++four x.size=D2 at*
     go_wp2_with (first
      | (refine Zax rfl (Zfk g5 2 _ rfl rfl) ?_)
      | (at_builtin;refine ZdT _ rfl _ _ 28 rfl w.heap.size 5 i0 (.int .u8 0) Tryz.underlying28 hi0 hz0 hz1 hz2 rfl rfl (tt:=0) (.inl own10) (some ⟨g5,2,none⟩) 32 32 x.dig rfl rd (by decide) (by omega) q6.size ?_))
     intro v11 w11 own11 q11 kp11
     replace own11:w11.ownsRow w.heap.size 5 1 v11 (24+40*j+4+4+32) ((D2++x.dig).map (Value.int .u8)):=by rw [List.map_append];simpa using own11
     rw [←HE.out,show 24+40*j+4+4+32=24+40*(j+1) by omega] at own11
     replace q6:=q6.trans q11
     replace kp6:=kp6.trans kp11
     clear own10 q11 kp11 rd hg10
     go_wp2_with fail
     go_roundw
     case rel=>exact ⟨j+1,by omega,by go_num,own11,q6,kp6⟩
     case measure=>simp [RowKit.intOf];omega
    ·obtain rfl:j=n:=by omega
     rw [List.take_of_length_le (by rw [HL.out];exact Nat.le_refl _), ←HB.out] at own
     go_wp2_with fail
     go_ret
     exact ⟨_,rfl,own,q⟩
end Go.Proofs.YtcaloldcihpkfaaGreatDoor.N

/-
 The document's answer of layer 20 (casemateref20): Same, of two manifests that are one.
-/
namespace Go.Proofs.YtcaloldcihpkfaaGreatDoor.N
open Go.RowKit
set_option linter.unusedVariables false
set_option maxRecDepth 8192

theorem Zwt {d:List Int} (h:IsB d):(d.map (Value.int .u8)).toArray=arr .u8 (d.map Int.toNat):=by
 unfold arr nI
 rw [List.map_map,List.map_map]
 congr 1
 apply List.map_congr_left
 intro x hx
 have:=h x hx
 simp only [Function.comp_apply]
 congr 1
 omega
theorem Zwu {P:Program} {D:Nat} {X:Array Value} {x y z:Value} {f g k:Field} {w:World} (hf:f.name≠ "_") (hg:g.name≠ "_") (hk:k.name≠ "_") (p0:(part f.type X f.offset).run P w= .ok x w) (p1:(part g.type X g.offset).run P w= .ok y w) (p2:(part k.type X k.offset).run P w= .ok z w)
  (e0:(Op.equalIn D f.type x x).run P w= .ok true w) (e1:(Op.equalIn D g.type y y).run P w= .ok true w) (e2:(Op.equalIn D k.type z z).run P w= .ok true w):
  (Op.eqFields D X X [f,g,k]).run P w= .ok true w:=by
 simp [Op.eqFields,hf,hg,hk,p0,p1,p2,e0,e1,e2]
theorem Tryz.szU8s:(Tryz.prog.info? 5).map (·.size)=some 1:=by kernel_rfl
theorem Tryz.szD:(Tryz.prog.info? 22).map (·.size)=some 32:=by kernel_rfl
theorem Zwv {s:Sg} (h:s.Ok) (w:World):(part 22 (sA s) 2).run Tryz.prog w= .ok (.agg (arr .u8 (s.dig.map Int.toNat))) w:=by
 rw [←Zwt h.byt]
 obtain ⟨inf,hq,hs⟩:=Option.map_eq_some_iff.1 Tryz.szD
 have e:(sA s).extract 2 (2+32)=(s.dig.map (Value.int .u8)).toArray:=by
  apply Array.ext_getElem?
  intro j
  rw [Array.getElem?_extract]
  have e34:=Zba h
  by_cases hj:j<32
  ·rw [if_pos (by omega),Zoz h j hj]
   have hd:j<s.dig.length:=by rw [h.len];exact hj
   simp [List.getElem?_eq_getElem hd]
  ·rw [if_neg (by omega),Array.getElem?_eq_none (by simp [h.len];omega)]
 simp [part,isAgg,run_underlying Tryz.underlying22,sizeOf,typeInfo,hq,hs,e]
theorem Zwo (D:Nat) (hD:1≤D) (x:Int) (w:World):(Op.equalIn D 3 (.int .i64 x) (.int .i64 x)).run Tryz.prog w= .ok true w:=by
 obtain ⟨d,rfl⟩:∃d,D=d+1:=⟨D - 1,by omega⟩
 rw [run_equalIn_int (d:=d) w 3 .i64 .i64 _ _ Tryz.underlying3]
 simp
theorem Zww (D:Nat) (hD:2≤D) {s:Sg} (h:s.Ok) (w:World):(Op.equalIn D 22 (.agg (arr .u8 (s.dig.map Int.toNat))) (.agg (arr .u8 (s.dig.map Int.toNat)))).run Tryz.prog w= .ok true w:=by
 obtain ⟨d,rfl⟩:∃d,D=d+2:=⟨D - 2,by omega⟩
 rw [ZhN Tryz.underlying22 Tryz.underlying5 Tryz.szU8s _ _ (by rw [List.length_map,h.len]) (by rw [List.length_map,h.len]),decide_eq_true rfl]
theorem Zwx {s:Sg} (h:s.Ok) (w:World):(Op.equalIn 10000 66 (.agg (sA s)) (.agg (sA s))).run Tryz.prog w= .ok true w:=by
 obtain ⟨fs,hfs⟩:∃fs,Tryz.prog.underlying 66=some (.struct fs):=⟨_,Tryz.underlying66⟩
 have hf:Tryz.prog.fieldsOf 66=fs:=by unfold Program.fieldsOf;rw [hfs]
 rw [run_equalIn_agg (d:=9999) w _ _ _ (by rw [hf];exact hfs) (by kernel_rfl),hf]
 rw [Tryz.underlying66] at hfs
 cases hfs
 have p0:(part 3 (sA s) 0).run Tryz.prog w= .ok (.int .i64 s.load) w:=by simp [part,isAgg,run_underlying Tryz.underlying3,sA_0]
 have p1:(part 3 (sA s) 1).run Tryz.prog w= .ok (.int .i64 s.size) w:=by simp [part,isAgg,run_underlying Tryz.underlying3,sA_1]
 have p2:=Zwv h w
 exact Zwu (by decide) (by decide) (by decide) p0 p1 p2 (Zwo 9999 (by decide) _ w) (Zwo 9999 (by decide) _ w) (Zww 9999 (by decide) h w)
theorem Zwy {a:Act} {o:Oper} {w:World} {T':TypeId} {s:Sg} (h:s.Ok) (u v:Operand) (ho:o.op= .binOp .neq 66 u v T') (hu:a.eval u= .agg (sA s)) (hv:a.eval v= .agg (sA s)):(execOp a.eval o).run Tryz.prog w= .ok (.value (.bool false)) w:=by
 unfold execOp
 simp only [ho,hu,hv,Sem.run_bind,Sem.run_pure,run_eqGuard_agg w .neq _ u v _ _ (show Tryz.prog.eqGuardType Tryz.prog.depth 66=false by kernel_rfl),Result.andThen_ok,run_neq_struct,Zwx h w,Bool.not_true]
theorem Zwp {a:Act} {o:Oper} {w:World} {s:Sg} (hs:s.Ok) (x:Operand) (ho:o.op= .load 66 x) (b off:Nat) (hx:a.eval x= .pointer (some ⟨b,off,none⟩)) (hc:w.rangeAt b off (sC s)):(execOp a.eval o).run Tryz.prog w= .ok (.value (.agg (sA s))) w:=by
 unfold execOp
 simp only [ho,hx,Instr.loadAt,Instr.sureAddr,Sem.run_bind,Sem.run_pure,Result.andThen_ok,run_loadVar_mid w b off 66 (sC s) _ hc Tryz.underlying66 rfl (by rw [ZbK hs];exact Tryz.szSg)]
 rfl
set_option maxHeartbeats 1600000 in
theorem Zwn {v s k e:Int} {a a':Option Addr} {n cap cap':Nat} {l:List Sg} {w:World} (hr:SegRow w a n cap l) (hr':SegRow w a' n cap' l) (ho:∀s∈l,s.Ok):
  Calls Tryz.prog 18 #[.agg #[.int .i64 v, .int .i64 s, .int .i64 k, .int .i64 e, .slice a n cap], .agg #[.int .i64 v, .int .i64 s, .int .i64 k, .int .i64 e, .slice a' n cap']] w fun e' w'=>e'= .returned (.bool true)∧Below w.heap.size w w':=by
 have hm:=hr.hmax
 have hc:=hr.hcap
 unfold maxLen at hm
 have V2:=((Vars.start w).new 25 #[.int .i64 v, .int .i64 s, .int .i64 k, .int .i64 e, .slice a n cap]).new 25 #[.int .i64 v, .int .i64 s, .int .i64 k, .int .i64 e, .slice a' n cap']
 simp only [World.size_alloc] at V2
 go_enter Tryz.func18,Tryz.ntmps18
 go_wp2_with fail
 generalize (w.alloc (.cells #[.int .i64 v, .int .i64 s, .int .i64 k, .int .i64 e, .slice a n cap] 25)).alloc (.cells #[.int .i64 v, .int .i64 s, .int .i64 k, .int .i64 e, .slice a' n cap'] 25)=w2 at*
 go_loopw [5] (fun y wr=>∃j:Nat,j≤n∧y= .int .i64 (j:Int)∧Below w2.heap.size w2 wr) (fun y _=>n - (intOf y).toNat)
 case atStart=>exact ⟨0,Nat.zero_le _,rfl,Below.refl _ _⟩
 case round=>
  obtain ⟨j,hj,rfl,q⟩:=hrel
  have V3:=Vars.call V2 q
  have hg:=V3.at 1 rfl
  have hg':=V3.at 0 rfl
  have c4:wr.cell? ⟨w.heap.size,4,none⟩=some (.slice a n cap):=Zag hg 4
  by_cases hlt:j<n
  ·obtain ⟨b,off,rfl,hbs,hcell⟩:=(hr.below V3.bel (Nat.le_refl _)).hcell (by omega)
   obtain ⟨b',off',rfl,hbs',hcell'⟩:=(hr'.below V3.bel (Nat.le_refl _)).hcell (by omega)
   have hx:=hcell j hlt
   have hx':=hcell' j hlt
   have hs:=ZcP ho j
   clear hcell hcell'
   generalize sgI l j=x at*
   have hlt':(j:Int)<(n:Int):=by omega
   go_wp2_with fail
   refine Zar (fun w'=>Below wr.heap.size wr w') (by kernel_rfl) ?_
   refine Zaz (rs:=[0,1,2,3,4,5,6,7,8,9,10]) (fuel:=0) (by kernel_rfl) (fun c d v a w h=>by cases d<;>exact h) (by kernel_rfl) ((Below.refl _ _).drew) (fun K hK=> ?_)
   refine Zad (.pointer (some ⟨w.heap.size,4,none⟩)) rfl (by rfl) (fun w' hw'=> ?_) ?_
   ·go_simp
   go_simp
   refine Zad (.slice (some ⟨b,off,none⟩) n cap) rfl (by rfl) (fun w' hw'=> ?_) ?_
   ·have d4:w'.cell? ⟨w.heap.size,4,none⟩=some (.slice (some ⟨b,off,none⟩) n cap):=Zag ((hw'.block _ (Zat hg)).trans hg) 4
    go_simp
   go_simp
   refine Zah _ rfl (by rfl) rfl ?_
   go_simp
   refine Zad (.pointer (some ⟨b,off+j*34,none⟩)) rfl (by rfl) (fun w' hw'=> ?_) ?_
   ·go_simp
   go_simp
   refine Zad (.agg (sA x)) rfl (by rfl) (fun w' hw'=>Zwp hs _ rfl b (off+j*34) rfl (Zfc hx (hw'.block b hbs))) ?_
   go_simp
   refine Zad (.pointer (some ⟨w.heap.size+1,4,none⟩)) rfl (by rfl) (fun w' hw'=> ?_) ?_
   ·go_simp
   go_simp
   refine Zad (.slice (some ⟨b',off',none⟩) n cap') rfl (by rfl) (fun w' hw'=> ?_) ?_
   ·have d4:w'.cell? ⟨w.heap.size+1,4,none⟩=some (.slice (some ⟨b',off',none⟩) n cap'):=Zag ((hw'.block _ (Zat hg')).trans hg') 4
    go_simp
   go_simp
   refine Zah _ rfl (by rfl) rfl ?_
   go_simp
   refine Zad (.pointer (some ⟨b',off'+j*34,none⟩)) rfl (by rfl) (fun w' hw'=> ?_) ?_
   ·go_simp
   go_simp
   refine Zad (.agg (sA x)) rfl (by rfl) (fun w' hw'=>Zwp hs _ rfl b' (off'+j*34) rfl (Zfc hx' (hw'.block b' hbs'))) ?_
   go_simp
   refine Zad (.bool false) rfl (by rfl) (fun w' hw'=>Zwy hs _ _ rfl rfl rfl) ?_
   go_simp
   refine Zac (hK.out _ ?_)
   clear hK K
   refine wpAnyH_done (by kernel_rfl) ?_ _
   have q2:=q.drew
   clear hx hx' hg hg' c4 V3
   go_wp2_with fail
   go_roundw
   case rel=>exact ⟨j+1,by omega,by go_num,q2⟩
   case measure=>simp [RowKit.intOf];omega
  ·obtain rfl:j=n:=by omega
   go_wp2_with fail
   go_ret
   exact ⟨rfl,V3.bel⟩
end Go.Proofs.YtcaloldcihpkfaaGreatDoor.N
