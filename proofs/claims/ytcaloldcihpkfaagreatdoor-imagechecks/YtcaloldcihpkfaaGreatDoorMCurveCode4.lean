/-
 The code of layer 17 (curve): after, scaled.
-/
import Derived.Test.YtcaloldcihpkfaaGreatDoorMPackFb
import Derived.Test.YtcaloldcihpkfaaGreatDoorMCurveCode2
import Derived.Test.YtcaloldcihpkfaaGreatDoorMCurveCode3
import Derived.Test.YtcaloldcihpkfaaGreatDoorMPackNa
namespace Go.Proofs.YtcaloldcihpkfaaGreatDoor.N
open Go.RowKit
set_option linter.unusedVariables false
set_option maxRecDepth 8192

theorem ZtC (v i b:Nat) (hb:b<8):v/256^i%256/2^b%2=v/2^(8*i+b)%2:=by
 have e0:2^(8*i+b)=256^i*2^b:=by rw [show 256=2^8 from by decide, ←Nat.pow_mul, ←Nat.pow_add]
 rw [e0, ←Nat.div_div_eq_div_mul]
 generalize v/256^i=c
 have e:256=2^b*(2*2^(7 - b)):=by
  rw [show 2*2^(7 - b)=2^(8 - b) from by rw [show 8 - b=(7 - b)+1 from by omega,Nat.pow_succ,Nat.mul_comm], ←Nat.pow_add,show b+(8 - b)=8 from by omega]
 rw [e,Nat.mod_mul_right_div_self,Nat.mod_mul_right_mod]
theorem ZtD (p:T3) (v T L:Nat) (h:L+1≤T):run3 p v T (T - L)=Zbh (run3 p v T (T - (L+1))) (decide (v/2^L%2=1)) p:=by
 obtain ⟨j,hj⟩:∃j,T - (L+1)=j:=⟨_,rfl⟩
 have e:T - L=j+1:=by omega
 have e2:T - (j+1)=L:=by omega
 rw [hj,e]
 show Zbh (run3 p v T j) (decide (v/2^(T - (j+1))%2=1)) p=_
 rw [e2]
set_option maxHeartbeats 1600000 in
theorem ZtE (o p:T3) (w:World) (hd:DAt w):Calls Tryz.prog 169 #[.func (.func 170) #[.agg (tA o.x.val o.y.val o.z.val)] #[], .bool false, .agg (tA p.x.val p.y.val p.z.val)] w fun e w'=>e= .returned (.agg (tA (Zbh o false p).x.val (Zbh o false p).y.val (Zbh o false p).z.val))∧Below w.heap.size w w':=by
 have HD:Hid (∀w,Rt Tryz.prog 170 #[.agg (tA o.x.val o.y.val o.z.val)] (.agg (tA (dbl3 o).x.val (dbl3 o).y.val (dbl3 o).z.val)) w):=fun w=>Zme o w
 show Calls Tryz.prog _ _ w fun e w'=>e= .returned (.agg (tA (dbl3 o).x.val (dbl3 o).y.val (dbl3 o).z.val))∧Below w.heap.size w w'
 generalize (dbl3 o).x.val=ex at*
 generalize (dbl3 o).y.val=ey at*
 generalize (dbl3 o).z.val=ez at*
 generalize o.x.val=ox at*
 generalize o.y.val=oy at*
 generalize o.z.val=oz at*
 generalize p.x.val=px at*
 generalize p.y.val=py at*
 generalize p.z.val=pz at*
 have V0:=Vars.start w
 go_enter Tryz.func169,Tryz.ntmps169
 go_wp2_with (first
  | (refine Zaj V0 5 117 _ rfl rfl rfl (tA px py pz) rfl ?_;intro w1 g2 V3)
  | (refine Zai V3 6 117 rfl rfl rfl (tA 0 0 0) Zdh ?_;intro w4 g5 V6))
 refine (HD.out w4).mono ?_
 rintro e w7 ⟨rfl,q9⟩
 have V8:=V6.call q9
 clear q9 V6
 go_wp2_with (first
  | (refine Zai V8 7 117 rfl rfl rfl (tA 0 0 0) Zdh ?_;intro w10 g11 V12)
  | (refine Zal V12 0 rfl _ (.tmp 9) rfl rfl rfl (tA ex ey ez) rfl rfl Tryz.szT (ZaI _ _ _) (ZaI _ _ _) (ZcJ _ _ _) ?_;intro w13 V14)
  | (refine Zax rfl (Zbn V14 0 rfl _ rfl rfl Tryz.underlying117 Tryz.szT (ZaI _ _ _)) ?_)
  | (refine Zal V14 1 rfl _ (.tmp 14) rfl rfl rfl (tA ex ey ez) rfl rfl Tryz.szT (ZaI _ _ _) (ZaI _ _ _) (ZcJ _ _ _) ?_;intro w15 V16))
 exact bodyPost_ret (ZcK rfl _ V16 1 rfl rfl Tryz.underlying117 Tryz.szT (ZaI _ _ _)) rfl ⟨rfl,V16.bel⟩
set_option maxHeartbeats 1600000 in
theorem ZtF (o p:T3) (w:World) (hd:DAt w):Calls Tryz.prog 169 #[.func (.func 170) #[.agg (tA o.x.val o.y.val o.z.val)] #[], .bool true, .agg (tA p.x.val p.y.val p.z.val)] w fun e w'=>e= .returned (.agg (tA (Zbh o true p).x.val (Zbh o true p).y.val (Zbh o true p).z.val))∧Below w.heap.size w w':=by
 have HD:Hid (∀w,Rt Tryz.prog 170 #[.agg (tA o.x.val o.y.val o.z.val)] (.agg (tA (dbl3 o).x.val (dbl3 o).y.val (dbl3 o).z.val)) w):=fun w=>Zme o w
 have HP:Hid (∀w,DAt w→Rt Tryz.prog 82 #[.agg (tA (dbl3 o).x.val (dbl3 o).y.val (dbl3 o).z.val), .agg (tA p.x.val p.y.val p.z.val)] (.agg (tA (Zbh o true p).x.val (Zbh o true p).y.val (Zbh o true p).z.val)) w):=fun w h=>Zmd (dbl3 o) p w h
 generalize (Zbh o true p).x.val=rx at*
 generalize (Zbh o true p).y.val=ry at*
 generalize (Zbh o true p).z.val=rz at*
 generalize (dbl3 o).x.val=ex at*
 generalize (dbl3 o).y.val=ey at*
 generalize (dbl3 o).z.val=ez at*
 generalize o.x.val=ox at*
 generalize o.y.val=oy at*
 generalize o.z.val=oz at*
 generalize p.x.val=px at*
 generalize p.y.val=py at*
 generalize p.z.val=pz at*
 have V0:=Vars.start w
 go_enter Tryz.func169,Tryz.ntmps169
 go_wp2_with (first
  | (refine Zaj V0 5 117 _ rfl rfl rfl (tA px py pz) rfl ?_;intro w1 g2 V3)
  | (refine Zai V3 6 117 rfl rfl rfl (tA 0 0 0) Zdh ?_;intro w4 g5 V6))
 refine (HD.out w4).mono ?_
 rintro e w7 ⟨rfl,q9⟩
 have V8:=V6.call q9
 clear q9 V6
 go_wp2_with (first
  | (refine Zai V8 7 117 rfl rfl rfl (tA 0 0 0) Zdh ?_;intro w10 g11 V12)
  | (refine Zal V12 0 rfl _ (.tmp 9) rfl rfl rfl (tA ex ey ez) rfl rfl Tryz.szT (ZaI _ _ _) (ZaI _ _ _) (ZcJ _ _ _) ?_;intro w13 V14)
  | (refine Zax rfl (Zbn V14 0 rfl _ rfl rfl Tryz.underlying117 Tryz.szT (ZaI _ _ _)) ?_)
  | (refine Zax rfl (Zbn V14 2 rfl _ rfl rfl Tryz.underlying117 Tryz.szT (ZaI _ _ _)) ?_))
 refine (HP.out w13 (hd.of V14)).mono ?_
 rintro e w15 ⟨rfl,q17⟩
 have V16:=V14.call q17
 clear q17 V14
 go_wp2_with (first
  | (refine Zal V16 0 rfl _ (.tmp 13) rfl rfl rfl (tA rx ry rz) rfl rfl Tryz.szT (ZaI _ _ _) (ZaI _ _ _) (ZcJ _ _ _) ?_;intro w18 V19)
  | (refine Zax rfl (Zbn V19 0 rfl _ rfl rfl Tryz.underlying117 Tryz.szT (ZaI _ _ _)) ?_)
  | (refine Zal V19 1 rfl _ (.tmp 14) rfl rfl rfl (tA rx ry rz) rfl rfl Tryz.szT (ZaI _ _ _) (ZaI _ _ _) (ZcJ _ _ _) ?_;intro w20 V21))
 exact bodyPost_ret (ZcK rfl _ V21 1 rfl rfl Tryz.underlying117 Tryz.szT (ZaI _ _ _)) rfl ⟨rfl,V21.bel⟩
theorem ZtG (o p:T3) (b:Bool) (w:World) (hd:DAt w):Calls Tryz.prog 169 #[.func (.func 170) #[.agg (tA o.x.val o.y.val o.z.val)] #[], .bool b, .agg (tA p.x.val p.y.val p.z.val)] w fun e w'=>e= .returned (.agg (tA (Zbh o b p).x.val (Zbh o b p).y.val (Zbh o b p).z.val))∧Below w.heap.size w w':=by
 cases b
 ·exact ZtE o p w hd
 ·exact ZtF o p w hd
set_option maxHeartbeats 6400000 in
theorem ZtH (z:List Nat) (dz:Dig z) (ad:Option Addr) (len cap:Nat) (p:T3) (w:World) (hd:DAt w) (hr:Row .u8 w ad len cap (nI z)) (hl:len≤1000):
  Calls Tryz.prog 126 #[.slice ad len cap, .agg (tA p.x.val p.y.val p.z.val)] w fun e w'=>e= .returned (.agg (tA (run3 p (vL z) (8*len) (8*len)).x.val (run3 p (vL z) (8*len) (8*len)).y.val (run3 p (vL z) (8*len) (8*len)).z.val))∧Below w.heap.size w w':=by
 have HR:Hid (Row .u8 w ad len cap (nI z)):=hr
 have HDZ:Hid (Dig z):=dz
 have HLZ:Hid (z.length=len):=by have:=hr.hlen;rwa [Zaa] at this
 have HA:Hid (∀(o:T3) (b:Bool) (w:World),DAt w→Rt Tryz.prog 169 #[.func (.func 170) #[.agg (tA o.x.val o.y.val o.z.val)] #[], .bool b, .agg (tA p.x.val p.y.val p.z.val)] (.agg (tA (Zbh o b p).x.val (Zbh o b p).y.val (Zbh o b p).z.val)) w):=fun o b w h=>ZtG o p b w h
 obtain ⟨st,hst⟩:∃st:Nat→T3,st=fun L=>run3 p (vL z) (8*len) (8*len - L):=⟨_,rfl⟩
 have HST:Hid (∀L,L+1≤8*len→st L=Zbh (st (L+1)) (decide (vL z/2^L%2=1)) p):=fun L h=>by rw [hst];exact ZtD p (vL z) (8*len) L h
 have HT:Hid (st (8*len)=Zis):=by show _=_;rw [hst];show run3 p (vL z) (8*len) (8*len - 8*len)=_;rw [Nat.sub_self];rfl
 have HE:Hid (run3 p (vL z) (8*len) (8*len)=st 0):=by show _=_;rw [hst];rfl
 rw [HE.out]
 clear dz hst hr HE
 generalize p.x.val=px at*
 generalize p.y.val=py at*
 generalize p.z.val=pz at*
 have V0:=Vars.start w
 go_enter Tryz.func126,Tryz.ntmps126
 go_wp2_with (first
  | (refine Zaj V0 3 117 _ rfl rfl rfl (tA px py pz) rfl ?_;intro w1 g2 V3)
  | (refine Zai V3 4 117 rfl rfl rfl (tA 0 0 0) Zdh ?_;intro w4 g5 V6))
 refine (Zs0 w4).mono ?_
 rintro e w7 ⟨rfl,q9⟩
 have V8:=V6.call q9
 clear q9 V6
 go_wp2_with fail
 refine (ZgC 0 1 w7).mono ?_
 rintro e w10 ⟨rfl,q12⟩
 have V11:=V8.call q12
 clear q12 V8
 go_wp2_with (first
  | (refine Zai V11 5 117 rfl rfl rfl (tA 0 0 0) Zdh ?_;intro w13 g14 V15)
  | (refine Zal V15 0 rfl _ (.tmp 9) rfl rfl rfl (tA 0 1 1) rfl rfl Tryz.szT (ZaI _ _ _) (ZaI _ _ _) (ZcJ _ _ _) ?_;intro w16 V17))
 go_loopw [6,7] (fun i bt wr=>∃(k:Nat),k≤len∧i= .int .i64 ((k:Int) - 1)∧Hid (Vars w wr [⟨g14,117,tA (st (8*k)).x.val (st (8*k)).y.val (st (8*k)).z.val⟩,⟨g5,117,tA 0 0 0⟩,⟨g2,117,tA px py pz⟩])) (fun i _ _=>(intOf i+1).toNat)
 case atStart=>exact ⟨len,Nat.le_refl _,by go_num,by show Vars w _ _;rw [HT.out];exact V17⟩
 case round=>
  clear V17
  obtain ⟨k,hk,rfl,HV⟩:=hrel
  by_cases h0:k=0
  ·subst h0
   have V5:=HV.out
   go_wp2_with (first
     | (refine Zax rfl (Zbn V5 0 rfl _ rfl rfl Tryz.underlying117 Tryz.szT (ZaI _ _ _)) ?_)
     | (refine Zal V5 1 rfl _ _ rfl rfl rfl _ rfl rfl Tryz.szT (ZaI _ _ _) (ZaI _ _ _) (ZcJ _ _ _) ?_;intro w8 V8))
   exact bodyPost_ret (ZcK rfl _ V8 1 rfl rfl Tryz.underlying117 Tryz.szT (ZaI _ _ _)) rfl ⟨rfl,V8.bel⟩
  ·obtain ⟨i,rfl⟩:∃i,k=i+1:=⟨k - 1,by omega⟩
   have ei:(((i+1:Nat):Int) - 1)=(i:Int):=by omega
   rw [ei]
   go_wp2_with fail
   go_loopw [7] (fun bt wr2=>∃(b:Nat),b≤8∧bt= .int .i64 ((b:Int) - 1)∧Hid (Vars w wr2 [⟨g14,117,tA (st (8*i+b)).x.val (st (8*i+b)).y.val (st (8*i+b)).z.val⟩,⟨g5,117,tA 0 0 0⟩,⟨g2,117,tA px py pz⟩])) (fun bt _=>(intOf bt+1).toNat)
   case atStart=>exact ⟨8,Nat.le_refl _,rfl,HV.out⟩
   case round=>
    clear HV
    obtain ⟨b,hb,rfl,HV⟩:=hrel
    by_cases h1:b=0
    ·subst h1
     go_wp2
     go_roundw
     case rel=>exact ⟨i,by omega,by go_num,HV.out⟩
     case measure=>simp [intOf]<;>omega
    ·obtain ⟨c,rfl⟩:∃c,b=c+1:=⟨b - 1,by omega⟩
     have ec:(((c+1:Nat):Int) - 1)=(c:Int):=by omega
     rw [ec]
     obtain ⟨bb,off,rfl,hbs,_⟩:=HR.out.hcell (by omega)
     have HC:Hid (∀w',Below w.heap.size w w'→w'.cell? ⟨bb,off+i,none⟩=some (.int .u8 ((dg z i:Nat):Int))):=fun w' q=>by
      obtain ⟨b2,o2,e2,_,hc⟩:=(HR.out.below q (Nat.le_refl _)).hcell (by omega)
      cases e2
      rw [hc i (by omega),ZbB]
     have hx9:=HDZ.out.at i
     have HB:Hid (dg z i/2^c%2=vL z/2^(8*i+c)%2):=by show _=_;rw [Zb9 HDZ.out];exact ZtC _ _ _ (by omega)
     have HS:=HST.out (8*i+c) (by omega)
     rw [←HB.out] at HS
     have HS2:Hid (st (8*i+c)=Zbh (st (8*i+(c+1))) (decide (dg z i/2^c%2=1)) p):=HS
     clear HS HB
     generalize dg z i=x at*
     have es:(x:Int)/2^c=((x/2^c:Nat):Int):=by simp
     have hy9:x/2^c≤x:=Nat.div_le_self _ _
     generalize x/2^c=sh at*
     have ea:bits .and .u8 (sh:Int) 1=((sh%2:Nat):Int):=by
      have h:=u8_and_nat sh 1 (by omega) (by decide)
      rw [show sh&&& 1=sh%2 from Nat.and_two_pow_sub_one_eq_mod _ 1] at h
      exact h
     obtain ⟨bv,hbv⟩:∃bv:Bool,decide (sh%2=1)=bv:=⟨_,rfl⟩
     have eb:(((sh%2:Nat):Int)==1)=bv:=by rw [←hbv,Bool.eq_iff_iff];simp;omega
     rw [hbv] at HS2
     generalize sh%2=lb at*
     have hil:¬len≤i:=by omega
     have wc:IntKind.i64.wrap (c:Int)=(c:Int):=by rw [IntKind.wrap_i64];omega
     have hmf:∀(fn:Fn) (first cap:Array Value) (w:World),(Instr.makeFunc fn first cap).run Tryz.prog w= .ok (.func fn first cap) w:=fun _ _ _ _=>rfl
     have VV:=HV.out
     have HAA:=HA.out (st (8*i+(c+1))) bv
     rw [←HS2.out] at HAA
     have HA3:Hid (∀(w:World),DAt w→Rt Tryz.prog 169 #[.func (.func 170) #[.agg (tA (st (8*i+(c+1))).x.val (st (8*i+(c+1))).y.val (st (8*i+(c+1))).z.val)] #[], .bool bv, .agg (tA px py pz)] (.agg (tA (st (8*i+c)).x.val (st (8*i+c)).y.val (st (8*i+c)).z.val)) w):=HAA
     clear hbv HV HAA HS2
     generalize (st (8*i+(c+1))).x.val=ox at*
     generalize (st (8*i+(c+1))).y.val=oy at*
     generalize (st (8*i+(c+1))).z.val=oz at*
     obtain ⟨rx,hrx⟩:∃r,(st (8*i+c)).x.val=r:=⟨_,rfl⟩
     obtain ⟨ry,hry⟩:∃r,(st (8*i+c)).y.val=r:=⟨_,rfl⟩
     obtain ⟨rz,hrz⟩:∃r,(st (8*i+c)).z.val=r:=⟨_,rfl⟩
     rw [hrx,hry,hrz] at HA3
     have HRX:Hid ((st (8*i+c)).x.val=rx∧(st (8*i+c)).y.val=ry∧(st (8*i+c)).z.val=rz):=⟨hrx,hry,hrz⟩
     clear hrx hry hrz
     go_wp2_with fail
     refine Zar (fun w'=>Vars w w' [⟨g5,117,tA 0 0 0⟩,⟨g2,117,tA px py pz⟩]) (by kernel_rfl) ?_
     have V101:=VV.drew
     refine zR [2,3,4,5,6,7,8,9,10] 4 (by kernel_rfl) (fun _ _ _ _ _ h=>h) (V101.tail) fun K hK=> ?_
     refine Zah _ rfl (by rfl) rfl ?_
     go_simp
     refine Zah _ rfl (by rfl) rfl ?_
     go_simp
     refine zC (.pointer (some ⟨bb,off+i,none⟩)) rfl (by rfl) (fun w' hw'=> ?_) ?_
     ·go_simp
     go_simp
     refine zC (.int .u8 (x:Int)) rfl (by rfl) (fun w' hw'=> ?_) ?_
     ·have hcc:=HC.out w' hw'.bel
      go_simp
     go_simp
     refine Zah _ rfl (by rfl) rfl ?_
     go_simp
     refine zC (.int .u8 (sh:Int)) rfl (by rfl) (fun w' hw'=> ?_) ?_
     ·go_simp
     go_simp
     refine zC (.int .u8 (lb:Int)) rfl (by rfl) (fun w' hw'=> ?_) ?_
     ·go_simp
     go_simp
     refine zC (.bool bv) rfl (by rfl) (fun w' hw'=> ?_) ?_
     ·go_simp
     go_simp
     refine zC (.agg (tA px py pz)) rfl (by rfl) (fun w' hw'=>Zbn hw' 1 rfl _ rfl rfl Tryz.underlying117 Tryz.szT (ZaI _ _ _)) ?_
     go_simp
     refine Zac (hK.out _ ?_)
     clear hK K
     refine zO 0 3 (by kernel_rfl) rfl (by rfl) fun K hK=> ?_
     refine Zkg (Zbn V101 0 rfl _ rfl rfl Tryz.underlying117 Tryz.szT (ZaI _ _ _)) ?_
     refine hK _ _ (V101.tail) ?_
     clear hK K
     go_simp
     refine zR [1] 2 (by kernel_rfl) (fun _ _ _ _ _ h=>h) (V101.tail) fun K hK=> ?_
     go_simp
     refine zC (.func (.func 170) #[.agg (tA ox oy oz)] #[]) rfl (by rfl) (fun w' hw'=> ?_) ?_
     ·go_simp
     go_simp
     refine Zac (hK.out _ ?_)
     clear hK K
     refine zO 11 1 (by kernel_rfl) rfl (by rfl) fun K hK=> ?_
     go_simp
     refine (HA3.out wr.drew (hd.of V101)).mono ?_
     rintro e w102 ⟨rfl,q104⟩
     have V103:=V101.call q104
     refine hK _ _ (V103.tail) ?_
     clear hK K q104
     refine zO 12 0 (by kernel_rfl) rfl (by rfl) fun K hK=> ?_
     refine ZbD V103 0 rfl _ _ rfl rfl (tA rx ry rz) rfl rfl Tryz.szT (ZaI _ _ _) (ZaI _ _ _) (ZcJ _ _ _) (fun w105 V106=> ?_)
     refine hK _ _ (V106.tail) ?_
     clear hK K
     refine wpAnyH_done (by kernel_rfl) ?_ _
     go_wp2
     go_roundw
     case rel=>exact ⟨c,by omega,by go_num,by show Vars w _ _;rw [HRX.out.1,HRX.out.2.1,HRX.out.2.2];exact V106⟩
     case measure=>simp [intOf]<;>omega
end Go.Proofs.YtcaloldcihpkfaaGreatDoor.N
