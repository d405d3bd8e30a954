/-
 The code of layer 14 (sha512): mix.
-/
import Derived.Test.YtcaloldcihpkfaaGreatDoorMPackSd
import Derived.Test.YtcaloldcihpkfaaGreatDoorMPackSb
namespace Go.Proofs.YtcaloldcihpkfaaGreatDoor.B
open Go.RowKit
set_option linter.unusedVariables false
set_option maxRecDepth 8192

def Zbm (s q:S8) (k:Nat):List Nat:=(s.plus q).list.take k++s.list.drop k
theorem Zhf (s:S8):s.list.length=8:=rfl
theorem Zob (e:Nat) (h:e<18446744073709551616):18446744073709551615^^^e=18446744073709551615 - e:=by
 have h1:(~~~(BitVec.ofNat 64 e)).toNat=18446744073709551615 - e:=by
  rw [BitVec.toNat_not,BitVec.toNat_ofNat]
  omega
 rw [←h1, ←BitVec.allOnes_xor,BitVec.toNat_xor,BitVec.toNat_allOnes,BitVec.toNat_ofNat,Nat.mod_eq_of_lt (show e<2^64 from h)]
theorem Tryz.one144:(Tryz.prog.info? 144).map (·.size)=some 1:=by kernel_rfl
set_option maxHeartbeats 1600000 in
theorem ZfV (s:S8) (K z:List Nat) (a:Option Addr) (cap:Nat) (w:World) (hs:s.Ok) (hK:K.length=80) (hKl:∀x∈K,x<18446744073709551616) (gK:Nat) (hg:gK<w.heap.size) (hKr:w.rangeAt gK 0 ((nI K).map (Value.int .u64))) (hr:Row .u8 w a 128 cap (nI z)) (hz:∀x∈z,x<256):
  Calls Tryz.prog 165 #[.agg ((nI s.list).map (Value.int .u64)).toArray, .slice a 128 cap, .pointer (some ⟨gK,0,none⟩)] w fun e w'=>e= .returned (.agg ((nI (mixL K s z).list).map (Value.int .u64)).toArray)∧Below w.heap.size w w':=by
 have HZ:Hid (∀x∈z,x<256):=hz
 have HK:Hid (K.length=80):=hK
 have HG:Hid (gK<w.heap.size):=hg
 have HKr:Hid (∀i,i<80→w.cell? ⟨gK,i,none⟩=some (.int .u64 ((K[i]?.getD 0:Nat):Int))):=fun i hi=>by
  have:=hKr i (.int .u64 ((K[i]?.getD 0:Nat):Int)) (by rw [List.getElem?_map, ←Za2,List.getElem?_eq_getElem (show i<(nI K).length by rw [Zaa,hK];exact hi)];rfl)
  rwa [Nat.zero_add] at this
 have HKl:Hid (∀x∈K,x<18446744073709551616):=hKl
 clear hz hK hKl hg hKr
 generalize hX0:((nI s.list).map (Value.int .u64)).toArray=X0
 have hz1:=Tryz.zeroValue155
 have hz2:=Tryz.zeroCells155_ne
 have hz3:=Tryz.zeroCells155_size
 go_enter Tryz.func165,Tryz.ntmps165
 go_wp2_with fail
 have A3:=(Arr.new w 157 .u64 (nI s.list) X0 hX0.symm).alloc (.cells ((nI (List.replicate 8 0)).map (Value.int .u64)).toArray 157)
 have A6:=Arr.new (w.alloc (.cells X0 157)) 157 .u64 (nI (List.replicate 8 0)) _ rfl
 have q1:=ZcZ w (.cells X0 157) (.cells ((nI (List.replicate 8 0)).map (Value.int .u64)).toArray 157)
 have z1:(w.alloc (.cells X0 157)).heap.size=w.heap.size+1:=by simp
 have z3:((w.alloc (.cells X0 157)).alloc (.cells ((nI (List.replicate 8 0)).map (Value.int .u64)).toArray 157)).heap.size=w.heap.size+1+1:=by simp
 rw [z1] at A6
 clear z1
 change Calls Tryz.prog _ _ ((w.alloc (.cells X0 157)).alloc (.cells ((nI (List.replicate 8 0)).map (Value.int .u64)).toArray 157)) _
 generalize (w.alloc (.cells X0 157)).alloc (.cells ((nI (List.replicate 8 0)).map (Value.int .u64)).toArray 157)=w1 at*
 refine (Zhe z a cap w1 (hr.below q1 (Nat.le_refl _)) HZ.out).mono ?_
 rintro e w2 ⟨rfl,q2⟩
 have hs2:=q2.size
 have q3:=(q1.trans (q2.mono (by omega))).alloc (by omega) (.cells Tryz.zeroCells155 155)
 replace A3:=(A3.below q2 (by omega)).alloc (.cells Tryz.zeroCells155 155)
 replace A6:=(A6.below q2 (by omega)).alloc (.cells Tryz.zeroCells155 155)
 have A7:=Arr.new w2 155 .u64 (nI (List.replicate 80 0)) _ Ze4
 have HW:Hid ((nI (ZaP z)).length=80):=by show _=_;rw [Zaa,ZeP]
 have HS:Hid (∀x∈ZaP z,x<18446744073709551616):=ZfI z HZ.out
 have HFin:Hid (∀q,ZbA s K (ZaP z) 80=q→mixL K s z=s.plus q):=fun q hq=>by unfold mixL;rw [hq]
 generalize ZaP z=W at*
 clear q1 q2
 go_wp2_with (refine ZbP rfl 155 _ _ rfl w2.heap.size (nI (W)) rfl rfl A7 Tryz.size155 (by decide+kernel) HW.out ?_)
 replace A3:=A3.whole_other ((nI (W)).map (Value.int .u64)).toArray (show w.heap.size≠w2.heap.size by omega)
 replace A6:=A6.whole_other ((nI (W)).map (Value.int .u64)).toArray (show w.heap.size+1≠w2.heap.size by omega)
 replace A7:=A7.whole (nI (W))
 replace q3:=below_setRow q3 (show w.heap.size≤w2.heap.size by omega) ((nI (W)).map (Value.int .u64)).toArray
 change Code.wp _ _ _ _ ((w2.alloc (.cells Tryz.zeroCells155 155)).setRow w2.heap.size ((nI (W)).map (Value.int .u64)).toArray)
 generalize (w2.alloc (.cells Tryz.zeroCells155 155)).setRow w2.heap.size ((nI (W)).map (Value.int .u64)).toArray=w3 at*
 clear hX0
 generalize hX7:((nI (W)).map (Value.int .u64)).toArray=X7
 clear hX7
 have c0:w3.cell? ⟨w.heap.size,0,none⟩=some (.int .u64 (s.a:Int)):=A3.cell 0 (by rw [Zaa];exact (by decide:0<8))
 have c1:w3.cell? ⟨w.heap.size,1,none⟩=some (.int .u64 (s.b:Int)):=A3.cell 1 (by rw [Zaa];exact (by decide:1<8))
 have c2:w3.cell? ⟨w.heap.size,2,none⟩=some (.int .u64 (s.c:Int)):=A3.cell 2 (by rw [Zaa];exact (by decide:2<8))
 have c3:w3.cell? ⟨w.heap.size,3,none⟩=some (.int .u64 (s.d:Int)):=A3.cell 3 (by rw [Zaa];exact (by decide:3<8))
 have c4:w3.cell? ⟨w.heap.size,4,none⟩=some (.int .u64 (s.e:Int)):=A3.cell 4 (by rw [Zaa];exact (by decide:4<8))
 have c5:w3.cell? ⟨w.heap.size,5,none⟩=some (.int .u64 (s.f:Int)):=A3.cell 5 (by rw [Zaa];exact (by decide:5<8))
 have c6:w3.cell? ⟨w.heap.size,6,none⟩=some (.int .u64 (s.g:Int)):=A3.cell 6 (by rw [Zaa];exact (by decide:6<8))
 have c7:w3.cell? ⟨w.heap.size,7,none⟩=some (.int .u64 (s.h:Int)):=A3.cell 7 (by rw [Zaa];exact (by decide:7<8))
 go_wp2_with fail
 go_quiet (fail)
 go_wp2_with fail
 go_quiet (fail)
 clear c0 c1 c2 c3 c4 c5 c6 c7
 go_wp2
 go_loopw [8,9,10,11,12,13,14,15,39] (fun x8 x9 x10 x11 x12 x13 x14 x15 y wr=>∃k a b c d e f g h:Nat,k≤80∧y= .int .i64 (k:Int)∧Hid (ZbA s K (W) k=⟨a,b,c,d,e,f,g,h⟩)∧x8= .int .u64 (a:Int)∧x9= .int .u64 (b:Int)∧x10= .int .u64 (c:Int)∧x11= .int .u64 (d:Int)∧x12= .int .u64 (e:Int)∧x13= .int .u64 (f:Int)∧x14= .int .u64 (g:Int)∧x15= .int .u64 (h:Int)
   ∧Hid (Arr wr w.heap.size 157 .u64 (nI s.list))∧Hid (Arr wr (w.heap.size+1) 157 .u64 (nI (List.replicate 8 0)))∧Hid (Arr wr w2.heap.size 155 .u64 (nI (W)))∧Hid (Below w.heap.size w wr)) (fun _ _ _ _ _ _ _ _ y _=>80 - (intOf y).toNat)
 case atStart=>exact ⟨0,s.a,s.b,s.c,s.d,s.e,s.f,s.g,s.h,by omega,rfl,rfl,rfl,rfl,rfl,rfl,rfl,rfl,rfl,rfl,A3,A6,A7,Zbx (Zbx q3 _) _⟩
 case round=>
  clear A3 A6 A7 q3
  obtain ⟨k,a,b,c,d,e,f,g,h,hk,rfl,HQ,rfl,rfl,rfl,rfl,rfl,rfl,rfl,rfl,HA3,HA6,HA7,HB⟩:=hrel
  have hok:=hs.to K (W) k
  rw [HQ.out] at hok
  obtain ⟨ba,bb,bc,bd,be,bf,bg,bh⟩:=hok
  dsimp only at ba bb bc bd be bf bg bh
  by_cases hlt:k<80
  ·have cK:=(HB.out.cell (p:=⟨gK,k,none⟩) HG.out).trans (HKr.out k hlt)
   have cW:=HA7.out.cell k (by rw [HW.out];exact hlt)
   rw [Za2] at cW
   have lK:=ZaK (by decide) HKl.out k
   have lW:=ZaK (by decide) HS.out k
   have HN:Hid (ZbA s K (W) (k+1)=⟨((h+(rr e 14^^^rr e 18^^^rr e 41)+((e&&& f)^^^((18446744073709551615 - e)&&& g))+K[k]?.getD 0+(W)[k]?.getD 0)+((rr a 28^^^rr a 34^^^rr a 39)+((a&&& b)^^^(a&&& c)^^^(b&&& c))))%18446744073709551616,a,b,c,(d+(h+(rr e 14^^^rr e 18^^^rr e 41)+((e&&& f)^^^((18446744073709551615 - e)&&& g))+K[k]?.getD 0+(W)[k]?.getD 0))%18446744073709551616,e,f,g⟩):=by
    show (ZbA s K (W) k).rnd _ _=_
    rw [HQ.out]
    rfl
   generalize K[k]?.getD 0=kk at*
   generalize (W)[k]?.getD 0=ww at*
   have k6:∀w,Calls Tryz.prog 196 #[.int .u64 (e:Int), .int .i64 14] w fun e' w'=>e'= .returned (.int .u64 ((rr e 14:Nat):Int))∧w=w':=fun w=>Zbs e 14 w be (by decide) (by decide)
   have k11:∀w,Calls Tryz.prog 196 #[.int .u64 (e:Int), .int .i64 18] w fun e' w'=>e'= .returned (.int .u64 ((rr e 18:Nat):Int))∧w=w':=fun w=>Zbs e 18 w be (by decide) (by decide)
   have k25:∀w,Calls Tryz.prog 196 #[.int .u64 (e:Int), .int .i64 41] w fun e' w'=>e'= .returned (.int .u64 ((rr e 41:Nat):Int))∧w=w':=fun w=>Zbs e 41 w be (by decide) (by decide)
   have k2:∀w,Calls Tryz.prog 196 #[.int .u64 (a:Int), .int .i64 28] w fun e' w'=>e'= .returned (.int .u64 ((rr a 28:Nat):Int))∧w=w':=fun w=>Zbs a 28 w ba (by decide) (by decide)
   have k13:∀w,Calls Tryz.prog 196 #[.int .u64 (a:Int), .int .i64 34] w fun e' w'=>e'= .returned (.int .u64 ((rr a 34:Nat):Int))∧w=w':=fun w=>Zbs a 34 w ba (by decide) (by decide)
   have k22:∀w,Calls Tryz.prog 196 #[.int .u64 (a:Int), .int .i64 39] w fun e' w'=>e'= .returned (.int .u64 ((rr a 39:Nat):Int))∧w=w':=fun w=>Zbs a 39 w ba (by decide) (by decide)
   have l6:=ZaG e 14 be (by decide)
   have l11:=ZaG e 18 be (by decide)
   have l25:=ZaG e 41 be (by decide)
   have l2:=ZaG a 28 ba (by decide)
   have l13:=ZaG a 34 ba (by decide)
   have l22:=ZaG a 39 ba (by decide)
   generalize rr e 14=r6 at*
   generalize rr e 18=r11 at*
   generalize rr e 41=r25 at*
   generalize rr a 28=r2 at*
   generalize rr a 34=r13 at*
   generalize rr a 39=r22 at*
   have e1:∀x:Int,x=((r6:Nat):Int)→bits .xor .u64 x ((r11:Nat):Int)=((r6^^^r11:Nat):Int):=fun x hx=>by subst hx;exact u64_xor_nat r6 r11 l6 l11
   have f1:=xlt l6 l11
   generalize r6^^^r11=y1 at*
   have e2:∀x:Int,x=((y1:Nat):Int)→bits .xor .u64 x ((r25:Nat):Int)=((y1^^^r25:Nat):Int):=fun x hx=>by subst hx;exact u64_xor_nat y1 r25 f1 l25
   have f2:=xlt f1 l25
   generalize y1^^^r25=y2 at*
   have e3:∀x:Int,x=((r2:Nat):Int)→bits .xor .u64 x ((r13:Nat):Int)=((r2^^^r13:Nat):Int):=fun x hx=>by subst hx;exact u64_xor_nat r2 r13 l2 l13
   have f3:=xlt l2 l13
   generalize r2^^^r13=y3 at*
   have e4:∀x:Int,x=((y3:Nat):Int)→bits .xor .u64 x ((r22:Nat):Int)=((y3^^^r22:Nat):Int):=fun x hx=>by subst hx;exact u64_xor_nat y3 r22 f3 l22
   have f4:=xlt f3 l22
   generalize y3^^^r22=y4 at*
   have e5:∀x:Int,x=((e:Nat):Int)→bits .and .u64 x ((f:Nat):Int)=((e&&& f:Nat):Int):=fun x hx=>by subst hx;exact u64_and_nat e f be bf
   have f5:e&&& f<18446744073709551616:=alt bf
   generalize e&&& f=y5 at*
   have e0:bits .xor .u64 (if IntKind.u64.signed=true then -1 else IntKind.u64.max) ((e:Nat):Int)=((18446744073709551615 - e:Nat):Int):=by
    rw [←Zob e be]
    exact u64_xor_nat 18446744073709551615 e (by decide) be
   have e6:∀x:Int,x=(((18446744073709551615 - e):Nat):Int)→bits .and .u64 x ((g:Nat):Int)=(((18446744073709551615 - e)&&& g:Nat):Int):=fun x hx=>by subst hx;exact u64_and_nat (18446744073709551615 - e) g (by omega) bg
   have f6:(18446744073709551615 - e)&&& g<18446744073709551616:=alt bg
   generalize (18446744073709551615 - e)&&& g=y6 at*
   generalize 18446744073709551615 - e=ne at*
   have e7:∀x:Int,x=((y5:Nat):Int)→bits .xor .u64 x ((y6:Nat):Int)=((y5^^^y6:Nat):Int):=fun x hx=>by subst hx;exact u64_xor_nat y5 y6 f5 f6
   have f7:=xlt f5 f6
   generalize y5^^^y6=y7 at*
   have e8:∀x:Int,x=((a:Nat):Int)→bits .and .u64 x ((b:Nat):Int)=((a&&& b:Nat):Int):=fun x hx=>by subst hx;exact u64_and_nat a b ba bb
   have f8:a&&& b<18446744073709551616:=alt bb
   generalize a&&& b=y8 at*
   have e9:∀x:Int,x=((a:Nat):Int)→bits .and .u64 x ((c:Nat):Int)=((a&&& c:Nat):Int):=fun x hx=>by subst hx;exact u64_and_nat a c ba bc
   have f9:a&&& c<18446744073709551616:=alt bc
   generalize a&&& c=y9 at*
   have e10:∀x:Int,x=((b:Nat):Int)→bits .and .u64 x ((c:Nat):Int)=((b&&& c:Nat):Int):=fun x hx=>by subst hx;exact u64_and_nat b c bb bc
   have f10:b&&& c<18446744073709551616:=alt bc
   generalize b&&& c=y10 at*
   have e11:∀x:Int,x=((y8:Nat):Int)→bits .xor .u64 x ((y9:Nat):Int)=((y8^^^y9:Nat):Int):=fun x hx=>by subst hx;exact u64_xor_nat y8 y9 f8 f9
   have f11:=xlt f8 f9
   generalize y8^^^y9=y11 at*
   have e12:∀x:Int,x=((y11:Nat):Int)→bits .xor .u64 x ((y10:Nat):Int)=((y11^^^y10:Nat):Int):=fun x hx=>by subst hx;exact u64_xor_nat y11 y10 f11 f10
   have f12:=xlt f11 f10
   generalize y11^^^y10=y12 at*
   go_wp2_with fail
   go_quiet (first
    | (go_at_call 196;with_reducible exact Zbl (k6 _))
    | (go_at_call 196;with_reducible exact Zbl (k11 _))
    | (go_at_call 196;with_reducible exact Zbl (k25 _)))
   go_wp2_with fail
   refine (k2 _).mono ?_
   rintro e' w' ⟨rfl,rfl⟩
   go_wp2_with fail
   refine (k13 _).mono ?_
   rintro e' w' ⟨rfl,rfl⟩
   go_wp2_with fail
   refine (k22 _).mono ?_
   rintro e' w' ⟨rfl,rfl⟩
   clear k6 k11 k25 k2 k13 k22
   go_wp2
   go_roundw
   case rel=>exact ⟨k+1,_,_,_,_,_,_,_,_,by omega,by go_num,HN,by simp only [IntKind.wrap_u64];go_num,rfl,rfl,rfl,by simp only [IntKind.wrap_u64];go_num,rfl,rfl,rfl,HA3.out.drewN _,HA6.out.drewN _,HA7.out.drewN _,Zbx HB.out _⟩
   case measure=>simp [intOf];omega
  ·obtain rfl:k=80:=by omega
   have HM:Hid (mixL K s z=s.plus ⟨a,b,c,d,e,f,g,h⟩):=HFin.out _ HQ.out
   have HP:Hid (∀k,k≤8→(Zbm s ⟨a,b,c,d,e,f,g,h⟩ k).length=8):=fun k hk=>by simp [Zbm,Zhf,S8.plus];omega
   rw [show ((80:Nat):Int)=80 from rfl]
   clear HQ HFin HA7 HW HS HK HKr HG HKl HZ hr ba bb bc bd be bf bg bh z3 hs2
   go_wp2
   go_loopw [113] (fun y wr=>∃k:Nat,k≤8∧y= .int .i64 (k:Int)∧Hid (Arr wr w.heap.size 157 .u64 (nI (Zbm s ⟨a,b,c,d,e,f,g,h⟩ k)))∧Hid (Arr wr (w.heap.size+1) 157 .u64 (nI (List.replicate 8 0)))∧Hid (Below w.heap.size w wr)) (fun y _=>8 - (intOf y).toNat)
   case atStart=>exact ⟨0,by omega,rfl,HA3,HA6,HB⟩
   case round=>
    clear HA3 HA6 HB
    obtain ⟨k,hk,rfl,HP3,HA6',HB'⟩:=hrel
    rcases (show k=0∨k=1∨k=2∨k=3∨k=4∨k=5∨k=6∨k=7∨k=8 by omega) with rfl|rfl|rfl|rfl|rfl|rfl|rfl|rfl|rfl
    ·have cS:wr.cell? ⟨w.heap.size,0,none⟩=some (.int .u64 (s.a:Int)):=HP3.out.cell 0 (by rw [Zaa,HP.out 0 (by decide)];decide)
     have fS:=HP3.out.unfrozen 0
     have HN:Hid (Arr (wr.setCell ⟨w.heap.size,0,none⟩ (.int .u64 (IntKind.u64.wrap ((s.a:Int)+(a:Int))))) w.heap.size 157 .u64 (nI (Zbm s ⟨a,b,c,d,e,f,g,h⟩ 1))):=by
      show Arr _ _ _ _ _
      have:=HP3.out.set (by rw [Zaa,HP.out 0 (by decide)];decide) 0 (((s.a+a)%18446744073709551616:Nat):Int)
      rw [show IntKind.u64.wrap ((s.a:Int)+(a:Int))=(((s.a+a)%18446744073709551616:Nat):Int) from by rw [IntKind.wrap_u64];omega]
      exact this
     go_wp2_with (refine ZbC rfl 157 _ _ rfl _ _ 0 rfl rfl Tryz.underlying157 Tryz.underlying144 Tryz.one144 (by decide) rfl ?_)
     go_roundw
     case rel=>exact ⟨1,by decide,rfl,HN,HA6'.out.other _ _ (by show w.heap.size+1≠w.heap.size;omega),HB'.out.setCell (Nat.le_refl _) _⟩
     case measure=>decide
    ·have cS:wr.cell? ⟨w.heap.size,1,none⟩=some (.int .u64 (s.b:Int)):=HP3.out.cell 1 (by rw [Zaa,HP.out 1 (by decide)];decide)
     have fS:=HP3.out.unfrozen 1
     have HN:Hid (Arr (wr.setCell ⟨w.heap.size,1,none⟩ (.int .u64 (IntKind.u64.wrap ((s.b:Int)+(b:Int))))) w.heap.size 157 .u64 (nI (Zbm s ⟨a,b,c,d,e,f,g,h⟩ 2))):=by
      show Arr _ _ _ _ _
      have:=HP3.out.set (by rw [Zaa,HP.out 1 (by decide)];decide) 1 (((s.b+b)%18446744073709551616:Nat):Int)
      rw [show IntKind.u64.wrap ((s.b:Int)+(b:Int))=(((s.b+b)%18446744073709551616:Nat):Int) from by rw [IntKind.wrap_u64];omega]
      exact this
     go_wp2_with (refine ZbC rfl 157 _ _ rfl _ _ 1 rfl rfl Tryz.underlying157 Tryz.underlying144 Tryz.one144 (by decide) rfl ?_)
     go_roundw
     case rel=>exact ⟨2,by decide,rfl,HN,HA6'.out.other _ _ (by show w.heap.size+1≠w.heap.size;omega),HB'.out.setCell (Nat.le_refl _) _⟩
     case measure=>decide
    ·have cS:wr.cell? ⟨w.heap.size,2,none⟩=some (.int .u64 (s.c:Int)):=HP3.out.cell 2 (by rw [Zaa,HP.out 2 (by decide)];decide)
     have fS:=HP3.out.unfrozen 2
     have HN:Hid (Arr (wr.setCell ⟨w.heap.size,2,none⟩ (.int .u64 (IntKind.u64.wrap ((s.c:Int)+(c:Int))))) w.heap.size 157 .u64 (nI (Zbm s ⟨a,b,c,d,e,f,g,h⟩ 3))):=by
      show Arr _ _ _ _ _
      have:=HP3.out.set (by rw [Zaa,HP.out 2 (by decide)];decide) 2 (((s.c+c)%18446744073709551616:Nat):Int)
      rw [show IntKind.u64.wrap ((s.c:Int)+(c:Int))=(((s.c+c)%18446744073709551616:Nat):Int) from by rw [IntKind.wrap_u64];omega]
      exact this
     go_wp2_with (refine ZbC rfl 157 _ _ rfl _ _ 2 rfl rfl Tryz.underlying157 Tryz.underlying144 Tryz.one144 (by decide) rfl ?_)
     go_roundw
     case rel=>exact ⟨3,by decide,rfl,HN,HA6'.out.other _ _ (by show w.heap.size+1≠w.heap.size;omega),HB'.out.setCell (Nat.le_refl _) _⟩
     case measure=>decide
    ·have cS:wr.cell? ⟨w.heap.size,3,none⟩=some (.int .u64 (s.d:Int)):=HP3.out.cell 3 (by rw [Zaa,HP.out 3 (by decide)];decide)
     have fS:=HP3.out.unfrozen 3
     have HN:Hid (Arr (wr.setCell ⟨w.heap.size,3,none⟩ (.int .u64 (IntKind.u64.wrap ((s.d:Int)+(d:Int))))) w.heap.size 157 .u64 (nI (Zbm s ⟨a,b,c,d,e,f,g,h⟩ 4))):=by
      show Arr _ _ _ _ _
      have:=HP3.out.set (by rw [Zaa,HP.out 3 (by decide)];decide) 3 (((s.d+d)%18446744073709551616:Nat):Int)
      rw [show IntKind.u64.wrap ((s.d:Int)+(d:Int))=(((s.d+d)%18446744073709551616:Nat):Int) from by rw [IntKind.wrap_u64];omega]
      exact this
     go_wp2_with (refine ZbC rfl 157 _ _ rfl _ _ 3 rfl rfl Tryz.underlying157 Tryz.underlying144 Tryz.one144 (by decide) rfl ?_)
     go_roundw
     case rel=>exact ⟨4,by decide,rfl,HN,HA6'.out.other _ _ (by show w.heap.size+1≠w.heap.size;omega),HB'.out.setCell (Nat.le_refl _) _⟩
     case measure=>decide
    ·have cS:wr.cell? ⟨w.heap.size,4,none⟩=some (.int .u64 (s.e:Int)):=HP3.out.cell 4 (by rw [Zaa,HP.out 4 (by decide)];decide)
     have fS:=HP3.out.unfrozen 4
     have HN:Hid (Arr (wr.setCell ⟨w.heap.size,4,none⟩ (.int .u64 (IntKind.u64.wrap ((s.e:Int)+(e:Int))))) w.heap.size 157 .u64 (nI (Zbm s ⟨a,b,c,d,e,f,g,h⟩ 5))):=by
      show Arr _ _ _ _ _
      have:=HP3.out.set (by rw [Zaa,HP.out 4 (by decide)];decide) 4 (((s.e+e)%18446744073709551616:Nat):Int)
      rw [show IntKind.u64.wrap ((s.e:Int)+(e:Int))=(((s.e+e)%18446744073709551616:Nat):Int) from by rw [IntKind.wrap_u64];omega]
      exact this
     go_wp2_with (refine ZbC rfl 157 _ _ rfl _ _ 4 rfl rfl Tryz.underlying157 Tryz.underlying144 Tryz.one144 (by decide) rfl ?_)
     go_roundw
     case rel=>exact ⟨5,by decide,rfl,HN,HA6'.out.other _ _ (by show w.heap.size+1≠w.heap.size;omega),HB'.out.setCell (Nat.le_refl _) _⟩
     case measure=>decide
    ·have cS:wr.cell? ⟨w.heap.size,5,none⟩=some (.int .u64 (s.f:Int)):=HP3.out.cell 5 (by rw [Zaa,HP.out 5 (by decide)];decide)
     have fS:=HP3.out.unfrozen 5
     have HN:Hid (Arr (wr.setCell ⟨w.heap.size,5,none⟩ (.int .u64 (IntKind.u64.wrap ((s.f:Int)+(f:Int))))) w.heap.size 157 .u64 (nI (Zbm s ⟨a,b,c,d,e,f,g,h⟩ 6))):=by
      show Arr _ _ _ _ _
      have:=HP3.out.set (by rw [Zaa,HP.out 5 (by decide)];decide) 5 (((s.f+f)%18446744073709551616:Nat):Int)
      rw [show IntKind.u64.wrap ((s.f:Int)+(f:Int))=(((s.f+f)%18446744073709551616:Nat):Int) from by rw [IntKind.wrap_u64];omega]
      exact this
     go_wp2_with (refine ZbC rfl 157 _ _ rfl _ _ 5 rfl rfl Tryz.underlying157 Tryz.underlying144 Tryz.one144 (by decide) rfl ?_)
     go_roundw
     case rel=>exact ⟨6,by decide,rfl,HN,HA6'.out.other _ _ (by show w.heap.size+1≠w.heap.size;omega),HB'.out.setCell (Nat.le_refl _) _⟩
     case measure=>decide
    ·have cS:wr.cell? ⟨w.heap.size,6,none⟩=some (.int .u64 (s.g:Int)):=HP3.out.cell 6 (by rw [Zaa,HP.out 6 (by decide)];decide)
     have fS:=HP3.out.unfrozen 6
     have HN:Hid (Arr (wr.setCell ⟨w.heap.size,6,none⟩ (.int .u64 (IntKind.u64.wrap ((s.g:Int)+(g:Int))))) w.heap.size 157 .u64 (nI (Zbm s ⟨a,b,c,d,e,f,g,h⟩ 7))):=by
      show Arr _ _ _ _ _
      have:=HP3.out.set (by rw [Zaa,HP.out 6 (by decide)];decide) 6 (((s.g+g)%18446744073709551616:Nat):Int)
      rw [show IntKind.u64.wrap ((s.g:Int)+(g:Int))=(((s.g+g)%18446744073709551616:Nat):Int) from by rw [IntKind.wrap_u64];omega]
      exact this
     go_wp2_with (refine ZbC rfl 157 _ _ rfl _ _ 6 rfl rfl Tryz.underlying157 Tryz.underlying144 Tryz.one144 (by decide) rfl ?_)
     go_roundw
     case rel=>exact ⟨7,by decide,rfl,HN,HA6'.out.other _ _ (by show w.heap.size+1≠w.heap.size;omega),HB'.out.setCell (Nat.le_refl _) _⟩
     case measure=>decide
    ·have cS:wr.cell? ⟨w.heap.size,7,none⟩=some (.int .u64 (s.h:Int)):=HP3.out.cell 7 (by rw [Zaa,HP.out 7 (by decide)];decide)
     have fS:=HP3.out.unfrozen 7
     have HN:Hid (Arr (wr.setCell ⟨w.heap.size,7,none⟩ (.int .u64 (IntKind.u64.wrap ((s.h:Int)+(h:Int))))) w.heap.size 157 .u64 (nI (Zbm s ⟨a,b,c,d,e,f,g,h⟩ 8))):=by
      show Arr _ _ _ _ _
      have:=HP3.out.set (by rw [Zaa,HP.out 7 (by decide)];decide) 7 (((s.h+h)%18446744073709551616:Nat):Int)
      rw [show IntKind.u64.wrap ((s.h:Int)+(h:Int))=(((s.h+h)%18446744073709551616:Nat):Int) from by rw [IntKind.wrap_u64];omega]
      exact this
     go_wp2_with (refine ZbC rfl 157 _ _ rfl _ _ 7 rfl rfl Tryz.underlying157 Tryz.underlying144 Tryz.one144 (by decide) rfl ?_)
     go_roundw
     case rel=>exact ⟨8,by decide,rfl,HN,HA6'.out.other _ _ (by show w.heap.size+1≠w.heap.size;omega),HB'.out.setCell (Nat.le_refl _) _⟩
     case measure=>decide
    ·have A3:Arr wr w.heap.size 157 .u64 (nI (s.plus ⟨a,b,c,d,e,f,g,h⟩).list):=HP3.out
     rw [←HM.out] at A3
     have HL:Hid ((nI (mixL K s z).list).length=8):=by show _=_;rw [Zaa];rfl
     go_wp2_with (first
      | (refine Zci rfl 157 _ rfl w.heap.size rfl A3 Tryz.underlying157 Tryz.size157 HL.out ?_)
      | (refine ZbP rfl 157 _ _ rfl (w.heap.size+1) (nI (mixL K s z).list) rfl rfl HA6'.out Tryz.size157 (by decide+kernel) HL.out ?_))
     exact bodyPost_ret (resA rfl _ _ (w.heap.size+1) rfl (HA6'.out.whole _) Tryz.underlying157 Tryz.size157 HL.out) rfl ⟨rfl,below_setRow HB'.out (by omega) _⟩
end Go.Proofs.YtcaloldcihpkfaaGreatDoor.B

/-
 The code of layer 14 (sha512): put, padding, Pad.
-/
namespace Go.Proofs.YtcaloldcihpkfaaGreatDoor.B
open Go.RowKit
set_option linter.unusedVariables false
set_option maxRecDepth 8192

def ptL (l b:List Nat) (off k:Nat):List Nat:=l.take off++(b.take k++l.drop (off+k))
theorem Zoc {l b:List Nat} {off k:Nat} (hk:k≤b.length) (h:off+k≤l.length):(ptL l b off k).length=l.length:=by simp [ptL];omega
theorem Zod (l b:List Nat) (off:Nat):ptL l b off 0=l:=by simp [ptL]
theorem Zoe {l b:List Nat} {off k:Nat} (hk:k<b.length) (h:off+k<l.length):(ptL l b off k).set (off+k) (b[k]?.getD 0)=ptL l b off (k+1):=by
 unfold ptL
 have h1:(l.take off).length=off:=by simp;omega
 have h2:(b.take k).length=k:=by simp;omega
 rw [List.set_append_right _ _ (by omega),h1,show off+k - off=k from by omega,List.set_append_right _ _ (by omega),h2,Nat.sub_self,ZcY b k hk,List.drop_eq_getElem_cons h,List.set_cons_zero,List.append_assoc, ←Nat.add_assoc]
 rfl
theorem Zof {l b:List Nat} {off n:Nat} (hb:b.length=n) (h:off+n≤l.length):ptL l b off n=spL l b off n 0:=by
 unfold ptL spL
 rw [List.take_of_length_le (show b.length≤n by omega),List.drop_zero,Nat.add_zero]
theorem ZjN (x k:Nat) (hk:k<8):x/2^(64 - 8*(k+1))%256=(beN 8 x)[k]?.getD 0:=by
 rw [ZfX 8 x k hk]
 congr 2
 rw [show (256:Nat)=2^8 from rfl, ←Nat.pow_mul]
 congr 1
 omega
set_option maxHeartbeats 1600000 in
theorem Zht (l:List Nat) (T:TypeId) (g off x:Nat) (cap:Nat) (w:World) (hA:Arr w g T .u8 (nI l)) (hl:off+8≤l.length) (hll:l.length≤1000000) (hx:x<18446744073709551616):
  Calls Tryz.prog 167 #[.slice (some ⟨g,off,none⟩) 8 cap, .int .u64 (x:Int)] w fun e w'=>e= .returned (.tuple #[])∧Arr w' g T .u8 (nI (spL l (beN 8 x) off 8 0))∧Below g w w':=by
 have HL:Hid (off+8≤l.length):=hl
 have HLL:Hid (l.length≤maxLen):=by show _≤_;unfold maxLen;omega
 have HB8:Hid ((beN 8 x).length=8):=ZdO 8 x
 have HF:Hid (ptL l (beN 8 x) off 8=spL l (beN 8 x) off 8 0):=Zof (ZdO 8 x) hl
 clear hll
 go_enter Tryz.func167,Tryz.ntmps167
 go_wp2
 go_loopw [7] (fun i wr=>∃k:Nat,k≤8∧i= .int .i64 (k:Int)∧Hid (Arr wr g T .u8 (nI (ptL l (beN 8 x) off k)))∧Hid (Below g w wr)) (fun i _=>8 - (intOf i).toNat)
 case atStart=>exact ⟨0,Nat.zero_le _,rfl,by rw [Zod];exact hA,Below.refl _ _⟩
 case round=>
  clear hA
  obtain ⟨k,hk,rfl,HA,HB⟩:=hrel
  by_cases hlt:k<8
  ·have hlen:=Zoc (l:=l) (b:=beN 8 x) (off:=off) (k:=k) (by rw [HB8.out];exact hk) (by have:=HL.out;omega)
   have hc:=HA.out.cell (off+k) (by rw [Zaa,hlen];have:=HL.out;omega)
   have hf:=HA.out.unfrozen (off+k)
   have HN:Hid (Arr (wr.setCell ⟨g,off+k,none⟩ (.int .u8 ((x/2^(64 - 8*(k+1))%256:Nat):Int))) g T .u8 (nI (ptL l (beN 8 x) off (k+1)))):=by
    show Arr _ _ _ _ _
    have:=HA.out.set (by rw [Zaa,hlen];exact HLL.out) (off+k) ((x/2^(64 - 8*(k+1))%256:Nat):Int)
    rw [ZbH,ZjN x k hlt,Zoe (by rw [HB8.out];exact hlt) (by have:=HL.out;omega)] at this
    rw [ZjN x k hlt]
    exact this
   have e1:((64:Int) - 8*((k:Int)+1)).toNat=64 - 8*(k+1):=by omega
   have p1:(0:Int)≤(64:Int) - 8*((k:Int)+1):=by omega
   have p3:(64:Int) - 8*((k:Int)+1)<64:=by omega
   have hxl:x/2^(64 - 8*(k+1))≤x:=Nat.div_le_self _ _
   obtain ⟨sh,hsh⟩:∃a,64 - 8*(k+1)=a:=⟨_,rfl⟩
   rw [hsh] at e1 hxl HN
   obtain ⟨y,hy⟩:∃a,x/2^sh=a:=⟨_,rfl⟩
   have e2:(x:Int)/2^sh=(y:Int):=by rw [←hy];simp
   rw [hy] at hxl HN
   clear hy hsh
   generalize (nI (ptL l (beN 8 x) off k))[off+k]?.getD 0=c0 at*
   clear hlen
   go_wp2
   go_roundw
   case rel=>exact ⟨k+1,by omega,by go_num,(by rw [show ((y:Int)%256)=((y%256:Nat):Int) from by omega];exact HN),HB.out.setCell (Nat.le_refl _) _⟩
   case measure=>simp [intOf];omega
  ·obtain rfl:k=8:=by omega
   have A:=HA.out
   rw [HF.out] at A
   go_wp2
   go_end0
   exact ⟨rfl,A,HB.out⟩
theorem Zog (m:Nat):spL (128::List.replicate (m+16) 0) (beN 8 0) (1+m) 8 0=128::List.replicate (m+16) 0:=by
 unfold spL
 have e:beN 8 0=List.replicate 8 0:=by decide
 rw [e,List.drop_zero,Nat.add_zero,Nat.add_comm 1 m,List.take_succ_cons,List.take_replicate,Nat.min_eq_left (by omega),show m+1+8=(m+8)+1 from by omega,List.drop_succ_cons,List.drop_replicate,show m+16 - (m+8)=8 from by omega,List.replicate_append_replicate,List.cons_append,List.replicate_append_replicate]
theorem Zhg (n m:Nat) (hm:Zas n=m):spL (128::List.replicate (m+16) 0) (beN 8 (8*n)) (1+m+8) 8 0=padL n:=by
 unfold spL padL
 rw [ZfW,hm,List.drop_zero,Nat.add_zero,show 1+m+8=(m+8)+1 from by omega,List.take_succ_cons,List.take_replicate,Nat.min_eq_left (by omega),show m+8+1+8=(m+16)+1 from by omega,List.drop_succ_cons,List.drop_replicate,Nat.sub_self]
 simp
theorem Zhh (x:Nat) (n:Nat):(List.replicate (n+1) 0).set 0 x=x::List.replicate n 0:=by rw [List.replicate_succ,List.set_cons_zero]
set_option maxHeartbeats 1600000 in
theorem Zhi (n:Nat) (w:World) (hn:n<1000000000000):Calls Tryz.prog 124 #[.int .u64 (n:Int)] w fun e w'=>
  ∃v,e= .returned v∧w'.ownsRow w.heap.size 5 1 v (Zas n+17) ((nI (padL n)).map (Value.int .u8))∧Below w.heap.size w w':=by
 obtain ⟨i0,hi0,hz0,hz1,hz2⟩:=info_parts Tryz.info5
 obtain ⟨m,hm⟩:∃m,Zas n=m:=⟨_,rfl⟩
 have hm64:m<128:=by rw [←hm];exact ZdJ n
 have hmm:(239 - n%128)%128=m:=hm
 have HM:Hid (Zas n=m):=hm
 clear hm
 have hmax:m+17≤maxLen:=by unfold maxLen;omega
 have hmk:∀w1:World,w1.ownsRow w.heap.size 5 1 (.slice (some ⟨w.heap.size,0,none⟩) (m+17) (m+17)) (m+17) (madeCells (Value.int IntKind.u8 0).cells ((m+17)*1)).toList→w.grownBy w1 none→
   Arr w1 w.heap.size 5 .u8 (nI (List.replicate (m+16+1) 0))∧Below w.heap.size w w1:=fun w1 h1 h2=>by
  refine ⟨?_,(Below.refl _ _).grown h2 (Nat.le_refl _) (by simp)⟩
  rw [ZfP] at h1
  have:=Ze0 h1
  unfold Arr
  rw [this]
  simp [nI]
 have e1:(n:Int)%128=((n%128:Nat):Int):=by omega
 have hu:n%128<128:=Nat.mod_lt _ (by decide)
 have HP:Hid (spL (128::List.replicate (m+16) 0) (beN 8 (8*n)) (1+m+8) 8 0=padL n):=Zhg n m HM.out
 have HP0:Hid (spL (128::List.replicate (m+16) 0) (beN 8 0) (1+m) 8 0=128::List.replicate (m+16) 0):=Zog m
 have hmul:=fun w=>Zdk n 8 (by omega) (by decide) w
 rw [show n*8/18446744073709551616=0 from by omega,show n*8%18446744073709551616=8*n from by omega] at hmul
 generalize n%128=u at*
 have e2:((239:Int) - (u:Int))%128=(m:Int):=by omega
 have e2t:((239:Int) - (u:Int)).tmod 128=(m:Int):=by rw [Int.tmod_eq_emod_of_nonneg (by omega)];exact e2
 go_enter Tryz.func124,Tryz.ntmps124
 go_wp2_with (at_make;refine wpList_make_full _ rfl _ _ 28 rfl w.heap.size 5 i0 (.int .u8 0) 1 Tryz.underlying28 hi0 hz0 hz1 _ _ _ _ (m+17) rfl rfl (by omega) (by omega) (by rw [hz2];omega) hmax (Nat.le_refl _) ?_;intro w1 hown1 hgrow1;obtain ⟨A1,q1⟩:=hmk w1 hown1 hgrow1;have hc0:=A1.cell 0 (by rw [Zaa,List.length_replicate];omega);have hf0:=A1.unfrozen 0;clear hown1 hgrow1)
 replace A1:=A1.set (by rw [Zaa,List.length_replicate];unfold maxLen;omega) 0 ((128:Nat):Int)
 rw [ZbH,Zhh] at A1
 replace q1:=q1.setCell (p:=⟨w.heap.size,0,none⟩) (Nat.le_refl _) (.int .u8 128)
 change Calls Tryz.prog _ _ (w1.setCell ⟨w.heap.size,0,none⟩ (.int .u8 ((128:Nat):Int))) _
 refine (hmul _).mono ?_
 rintro e w2 ⟨rfl,rfl⟩
 obtain ⟨w2,hw2⟩:∃x,x=w1.setCell ⟨w.heap.size,0,none⟩ (.int .u8 ((128:Nat):Int)):=⟨_,rfl⟩
 rw [←hw2] at A1 ⊢
 rw [show w1.setCell ⟨w.heap.size,0,none⟩ (.int .u8 128)=w2 from hw2.symm] at q1
 clear hw2 hc0 hf0
 obtain ⟨n8,hn8⟩:∃x,8*n=x:=⟨_,rfl⟩
 have hn8l:n8<18446744073709551616:=by omega
 rw [hn8] at HP ⊢
 clear hn8 e1
 have s1:m+17 - (1+m)=16:=by omega
 go_wp2_with fail
 refine (Zht (128::List.replicate (m+16) 0) 5 w.heap.size (1+m) 0 16 _ A1 (by simp;omega) (by simp;omega) (by decide)).mono ?_
 rintro e w3 ⟨rfl,A3,q3⟩
 rw [HP0.out] at A3
 replace q3:=q1.trans q3
 clear A1 q1 w2
 go_wp2_with fail
 refine (Zht (128::List.replicate (m+16) 0) 5 w.heap.size (1+m+8) n8 8 _ A3 (by simp;omega) (by simp;omega) hn8l).mono ?_
 rintro e w4 ⟨rfl,A4,q4⟩
 rw [HP.out] at A4
 replace q4:=q3.trans q4
 clear A3 q3 w3
 have hlen:(nI (padL n)).length=m+17:=by rw [Zaa,ZfJ,HM.out]
 have own:=A4.own (by rw [hlen];exact hmax)
 rw [hlen, ←HM.out] at own
 rw [←HM.out]
 clear hlen
 go_wp2
 go_ret
 exact ⟨_,rfl,own,q4⟩
end Go.Proofs.YtcaloldcihpkfaaGreatDoor.B

/-
 The code of layer 14 (sha512): told, Block.
-/
namespace Go.Proofs.YtcaloldcihpkfaaGreatDoor.B
open Go.RowKit
set_option linter.unusedVariables false
set_option maxRecDepth 8192

def ZbJ (s:S8) (k:Nat):List Nat:=s.bytes.take (8*k)++List.replicate (64 - 8*k) 0
theorem ZfY (s:S8):s.bytes.length=64:=rfl
theorem Ze6 (s:S8) (k:Nat) (hk:k≤8):(ZbJ s k).length=64:=by simp [ZbJ,ZfY];omega
theorem Zhj (s:S8) (k:Nat) (hk:k<8):spL (ZbJ s k) (beN 8 (s.list[k]?.getD 0)) (8*k) 8 0=ZbJ s (k+1):=by
 rw [ZfW]
 rcases (show k=0∨k=1∨k=2∨k=3∨k=4∨k=5∨k=6∨k=7 by omega) with rfl|rfl|rfl|rfl|rfl|rfl|rfl|rfl<;>rfl
set_option maxHeartbeats 1600000 in
theorem Zdo (s:S8) (w:World) (hs:s.Ok):Calls Tryz.prog 125 #[.agg ((nI s.list).map (Value.int .u64)).toArray] w fun e w'=>e= .returned (.agg ((nI s.bytes).map (Value.int .u8)).toArray)∧Below w.heap.size w w':=by
 generalize hX0:((nI s.list).map (Value.int .u64)).toArray=X0
 have HL8:Hid ((nI s.list).length=8):=by show _=_;rw [Zaa];rfl
 go_enter Tryz.func125,Tryz.ntmps125
 have A1:=((Arr.new w 157 .u64 (nI s.list) X0 hX0.symm).alloc (.cells ((nI (List.replicate 64 0)).map (Value.int .u8)).toArray 63)).alloc (.cells ((nI (List.replicate 64 0)).map (Value.int .u8)).toArray 63)
 have A2:=(Arr.new (w.alloc (.cells X0 157)) 63 .u8 (nI (List.replicate 64 0)) _ rfl).alloc (.cells ((nI (List.replicate 64 0)).map (Value.int .u8)).toArray 63)
 have A3:=Arr.new ((w.alloc (.cells X0 157)).alloc (.cells ((nI (List.replicate 64 0)).map (Value.int .u8)).toArray 63)) 63 .u8 (nI (List.replicate 64 0)) _ rfl
 have q1:=ZgY w (.cells X0 157) (.cells ((nI (List.replicate 64 0)).map (Value.int .u8)).toArray 63) (.cells ((nI (List.replicate 64 0)).map (Value.int .u8)).toArray 63)
 have z1:(w.alloc (.cells X0 157)).heap.size=w.heap.size+1:=by simp
 have z2:((w.alloc (.cells X0 157)).alloc (.cells ((nI (List.replicate 64 0)).map (Value.int .u8)).toArray 63)).heap.size=w.heap.size+1+1:=by simp
 rw [z1] at A2
 rw [z2] at A3
 go_wp2_with (refine Zci rfl 157 _ rfl w.heap.size rfl A1 Tryz.underlying157 Tryz.size157 HL8.out ?_)
 clear z1 z2 A1
 go_loopw [7] (fun y wr=>∃k:Nat,k≤8∧y= .int .i64 (k:Int)∧Hid (Arr wr (w.heap.size+1+1) 63 .u8 (nI (ZbJ s k)))∧Hid (Arr wr (w.heap.size+1) 63 .u8 (nI (List.replicate 64 0)))∧Hid (Below w.heap.size w wr)) (fun y _=>8 - (intOf y).toNat)
 case atStart=>exact ⟨0,by omega,rfl,A3,A2,q1⟩
 case round=>
  clear A3 A2 q1
  obtain ⟨k,hk,rfl,HA3,HA2,HB⟩:=hrel
  by_cases hlt:k<8
  ·have hv:X0[k]? =some (.int .u64 ((s.list[k]?.getD 0:Nat):Int)):=by
    rw [←hX0, ←Za2,List.getElem?_toArray,List.getElem?_map,List.getElem?_eq_getElem (show k<(nI s.list).length by rw [HL8.out];exact hlt)]
    rfl
   have HV:Hid (X0[k]? =some (.int .u64 ((s.list[k]?.getD 0:Nat):Int))):=hv
   clear hv
   have HT:Hid (spL (ZbJ s k) (beN 8 (s.list[k]?.getD 0)) (8*k) 8 0=ZbJ s (k+1)):=Zhj s k hlt
   have hx:s.list[k]?.getD 0<18446744073709551616:=by
    rcases (show k=0∨k=1∨k=2∨k=3∨k=4∨k=5∨k=6∨k=7 by omega) with rfl|rfl|rfl|rfl|rfl|rfl|rfl|rfl
    ·exact hs.a
    ·exact hs.b
    ·exact hs.c
    ·exact hs.d
    ·exact hs.e
    ·exact hs.f
    ·exact hs.g
    ·exact hs.h
   generalize s.list[k]?.getD 0=x at*
   have hsl:∀W,(Instr.sliceAt 63 (.pointer (some ⟨w.heap.size+1+1,0,none⟩)) (some (.int .i64 ((k:Int)*8))) (some (.int .i64 (((k:Int)+1)*8))) none).run Tryz.prog W= .ok (.slice (some ⟨w.heap.size+1+1,8*k,none⟩) 8 (64 - 8*k)) W:=fun W=>by
    rw [show (k:Int)*8=((8*k:Nat):Int) from by omega,show ((k:Int)+1)*8=((8*k+8:Nat):Int) from by omega,Zjz 63 5 64 Tryz.underlying63 Tryz.one5 _ _ .i64 .i64 (8*k) (8*k+8) (by omega) (by omega) (by omega) W,show 8*k+8 - 8*k=8 from by omega,Nat.zero_add]
   go_wp2_with (refine ZbC rfl 157 _ _ rfl X0 _ k rfl rfl Tryz.underlying157 Tryz.underlying144 Tryz.one144 hlt HV.out ?_)
   refine (Zht (ZbJ s k) 63 (w.heap.size+1+1) (8*k) x (64 - 8*k) _ HA3.out (by rw [Ze6 s k hk];omega) (by rw [Ze6 s k hk];omega) hx).mono ?_
   rintro e w3 ⟨rfl,A3,q3⟩
   rw [HT.out] at A3
   have A2:=HA2.out.below q3 (by omega)
   have q4:=HB.out.trans (q3.mono (by omega))
   clear hsl q3
   go_wp2
   go_roundw
   case rel=>exact ⟨k+1,by omega,by go_num,A3,A2,q4⟩
   case measure=>simp [intOf];omega
  ·obtain rfl:k=8:=by omega
   have A3:Arr wr (w.heap.size+1+1) 63 .u8 (nI s.bytes):=HA3.out
   have HL:Hid ((nI s.bytes).length=64):=by show _=_;rw [Zaa];rfl
   go_wp2_with (first
    | (refine Zci rfl 63 _ rfl (w.heap.size+1+1) rfl A3 Tryz.underlying63 Tryz.size63 HL.out ?_)
    | (refine ZbP rfl 63 _ _ rfl (w.heap.size+1) (nI s.bytes) rfl rfl HA2.out Tryz.size63 (by decide+kernel) HL.out ?_))
   exact bodyPost_ret (resA rfl _ _ (w.heap.size+1) rfl (HA2.out.whole _) Tryz.underlying63 Tryz.size63 HL.out) rfl ⟨rfl,below_setRow HB.out (by omega) _⟩
end Go.Proofs.YtcaloldcihpkfaaGreatDoor.B
