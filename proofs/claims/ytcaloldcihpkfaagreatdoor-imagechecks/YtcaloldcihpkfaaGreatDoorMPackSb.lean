/-
 The code of layer 13 (sha256): spread.
-/
import Derived.Test.YtcaloldcihpkfaaGreatDoorMPackSa
import Derived.Lib.AppendZeros
import Derived.Defers
import Derived.Laws.Pointers
import Derived.Laws.LoneSync
import Derived.RegionCalls
namespace Go.Proofs.YtcaloldcihpkfaaGreatDoor
open Go.RowKit
set_option linter.unusedVariables false
set_option maxRecDepth 8192

def pwr (z:List Nat) (i:Nat):Nat→Nat
 | 0=>0
 | j+1=>pwr z i j*256+z[4*i+j]?.getD 0
theorem ZfT (z:List Nat) (h:∀x∈z,x<256) (i j:Nat):pwr z i j<256^j:=by
 induction j with
 | zero=>simp [pwr]
 | succ j ih=>
  have:=ZaK (by decide) h (4*i+j)
  simp only [pwr,Nat.pow_succ]
  omega
theorem Zjx (z:List Nat) (i:Nat):pwr z i 4=ZeO z i:=by simp [pwr,ZeO]
def wb (z:List Nat) (k:Nat):List Nat:=(List.range 64).map fun i=>pwr z i (min 4 (k - 4*i))
theorem Ze5 (z:List Nat) (k:Nat):(wb z k).length=64:=by simp [wb]
theorem Zg4 (z:List Nat):wb z 0=List.replicate 64 0:=by
 apply List.ext_getElem (by simp [wb])
 intro i h1 h2
 rw [List.getElem_replicate]
 simp only [wb,List.getElem_map,List.getElem_range]
 rw [show min 4 (0 - 4*i)=0 from by omega,pwr]
theorem Zg5 (z:List Nat) (k i:Nat) (hi:i<64):(wb z k)[i]?.getD 0=pwr z i (min 4 (k - 4*i)):=by simp [wb,hi]
theorem Zg6 (z:List Nat) (k:Nat) (hk:k<64):(wb z k)[k/4]?.getD 0=pwr z (k/4) (k%4):=by
 rw [Zg5 z k (k/4) (by omega)];congr 1;omega
theorem Zg7 (z:List Nat) (k:Nat) (hk:k<64):(wb z k).set (k/4) (pwr z (k/4) (k%4)*256+z[k]?.getD 0)=wb z (k+1):=by
 apply List.ext_getElem (by simp [wb])
 intro i h1 h2
 simp only [wb,List.length_map,List.length_range] at h2
 rw [List.getElem_set]
 by_cases e:k/4=i
 ·rw [if_pos e]
  subst e
  simp only [wb,List.getElem_map,List.getElem_range]
  rw [show min 4 (k+1 - 4*(k/4))=k%4+1 from by omega,pwr,show 4*(k/4)+k%4=k from by omega]
 ·rw [if_neg e]
  simp only [wb,List.getElem_map,List.getElem_range]
  congr 1
  omega
theorem Zg8 (z:List Nat):wb z 64=Zam z++List.replicate 48 0:=by
 apply List.ext_getElem (by simp [wb,Zam])
 intro i h1 h2
 simp only [wb,List.length_map,List.length_range] at h1
 rcases Nat.lt_or_ge i 16 with h|h
 ·rw [List.getElem_append_left (by simp [Zam];exact h)]
  simp only [wb,Zam,List.getElem_map,List.getElem_range]
  rw [show min 4 (64 - 4*i)=4 from by omega,Zjx]
 ·rw [List.getElem_append_right (by simp [Zam];exact h)]
  simp only [wb,List.getElem_map,List.getElem_range,List.getElem_replicate]
  rw [show min 4 (64 - 4*i)=0 from by omega,pwr]
theorem ZfU (a b:Nat) (hb:b<256):(a*256)|||b=a*256+b:=by
 have:=Nat.two_pow_add_eq_or_of_lt (i:=8) hb a
 rw [Nat.mul_comm, ←this]
def ws (z:List Nat) (k:Nat):List Nat:=Zaq (Zam z) k++List.replicate (48 - k) 0
theorem Zg9 (z:List Nat) (k:Nat) (hk:k≤48):(ws z k).length=64:=by simp [ws,Zcg,ZbW];omega
theorem Zha (z:List Nat):ws z 0=wb z 64:=by rw [Zg8];rfl
theorem Zhb (z:List Nat):ws z 48=ZaP z:=by simp [ws,ZaP]
theorem Zhc (z:List Nat) (k i:Nat) (hi:i<16+k):(ws z k)[i]?.getD 0=(Zaq (Zam z) k)[i]?.getD 0:=by
 unfold ws;rw [List.getElem?_append_left (by rw [Zcg,ZbW];exact hi)]
theorem Zhd (z:List Nat) (k:Nat) (hk:k<48):(ws z k).set (16+k) (ZbF (Zaq (Zam z) k))=ws z (k+1):=by
 unfold ws
 have hl:(Zaq (Zam z) k).length=16+k:=by rw [Zcg,ZbW]
 rw [List.set_append_right _ _ (by omega),hl,Nat.sub_self,show 48 - k=(48 - (k+1))+1 from by omega,List.replicate_succ,List.set_cons_zero,Zaq,List.append_assoc]
 rfl
set_option maxHeartbeats 3200000 in
theorem Zhe (z:List Nat) (a:Option Addr) (cap:Nat) (w:World) (hr:Row .u8 w a 64 cap (nI z)) (hz:∀x∈z,x<256):
  Calls Tryz.prog 178 #[.slice a 64 cap] w fun e w'=>e= .returned (.agg ((nI (ZaP z)).map (Value.int .u32)).toArray)∧Below w.heap.size w w':=by
 have HZ:Hid (∀x∈z,x<256):=hz
 clear hz
 go_enter Tryz.func178,Tryz.ntmps178
 go_wp2
 have A0:=(Arr.new w 184 .u32 (nI (List.replicate 64 0)) _ rfl).alloc (.cells ((nI (List.replicate 64 0)).map (Value.int .u32)).toArray 184)
 have A1:=Arr.new (w.alloc (.cells ((nI (List.replicate 64 0)).map (Value.int .u32)).toArray 184)) 184 .u32 (nI (List.replicate 64 0)) _ rfl
 have hs:(w.alloc (.cells ((nI (List.replicate 64 0)).map (Value.int .u32)).toArray 184)).heap.size=w.heap.size+1:=by simp
 have q1:=ZcZ w (.cells ((nI (List.replicate 64 0)).map (Value.int .u32)).toArray 184) (.cells ((nI (List.replicate 64 0)).map (Value.int .u32)).toArray 184)
 rw [hs] at A1
 clear hs
 go_loopw [13] (fun y wr=>∃k:Nat,k≤64∧y= .int .i64 (k:Int)∧Hid (Arr wr (w.heap.size+1) 184 .u32 (nI (wb z k)))∧Hid (Arr wr w.heap.size 184 .u32 (nI (List.replicate 64 0)))∧Hid (Below w.heap.size w wr)) (fun y _=>64 - (intOf y).toNat)
 case atStart=>exact ⟨0,by omega,rfl,by rw [Zg4];exact A1,A0,q1⟩
 case round=>
  clear A0 A1 q1
  obtain ⟨k,hk,rfl,HA1,HA0,HB⟩:=hrel
  by_cases hlt:k<64
  ·obtain ⟨b,off,rfl,hbs,hcell⟩:=(hr.below HB.out (Nat.le_refl _)).hcell (by omega)
   have hc1:=hcell k hlt
   clear hcell
   rw [Za2] at hc1
   have hx:=ZaK (by decide) HZ.out k
   have hk4:k/4<64:=by omega
   have hcl:=HA1.out.cell (k/4) (by rw [Zaa,Ze5];exact hk4)
   have hfz:=HA1.out.unfrozen (k/4)
   rw [Za2,Zg6 z k hlt] at hcl
   have hpl:pwr z (k/4) (k%4)<256^3:=Nat.lt_of_lt_of_le (ZfT z HZ.out (k/4) (k%4)) (Nat.pow_le_pow_right (by decide) (by omega))
   have HN:Hid (Arr (wr.setCell ⟨w.heap.size+1,k/4,none⟩ (.int .u32 ((pwr z (k/4) (k%4)*256+z[k]?.getD 0:Nat):Int))) (w.heap.size+1) 184 .u32 (nI (wb z (k+1)))):=by
    show Arr _ _ _ _ _
    have:=HA1.out.set (by rw [Zaa,Ze5];decide) (k/4) ((pwr z (k/4) (k%4)*256+z[k]?.getD 0:Nat):Int)
    rw [ZbH,Zg7 z k hlt] at this
    exact this
   generalize pwr z (k/4) (k%4)=p at*
   generalize z[k]?.getD 0=x at*
   have ho:bits .or .u32 (((p*256:Nat):Int)) (x:Int)=((p*256+x:Nat):Int):=by rw [u32_or_nat _ _ (by omega) (by omega),ZfU p x hx]
   have hp1:(p:Int)*256=((p*256:Nat):Int):=by omega
   have hpl2:p*256+x<4294967296:=by omega
   have hpl3:p*256<4294967296:=by omega
   generalize p*256+x=px at*
   generalize p*256=p256 at*
   go_wp2
   go_roundw
   case rel=>exact ⟨k+1,by omega,by go_num,HN,HA0.out.other _ _ (by show w.heap.size≠w.heap.size+1;omega),HB.out.setCell (by show w.heap.size≤w.heap.size+1;omega) _⟩
   case measure=>simp [intOf];omega
  ·obtain rfl:k=64:=by omega
   rw [←Zha] at HA1
   rw [show ((64:Nat):Int)=64 from rfl]
   go_wp2
   go_loopw [6] (fun y wr=>∃k:Nat,k≤48∧y= .int .i64 ((16+k:Nat):Int)∧Hid (Arr wr (w.heap.size+1) 184 .u32 (nI (ws z k)))∧Hid (Arr wr w.heap.size 184 .u32 (nI (List.replicate 64 0)))∧Hid (Below w.heap.size w wr)) (fun y _=>64 - (intOf y).toNat)
   case atStart=>exact ⟨0,by omega,rfl,HA1,HA0,HB⟩
   case round=>
    clear HA1 HA0 HB
    obtain ⟨k,hk,rfl,HA1,HA0,HB⟩:=hrel
    by_cases hlt:k<48
    ·have hlen:(nI (ws z k)).length=64:=by rw [Zaa,Zg9 z k hk]
     have hml:(Zaq (Zam z) k).length=16+k:=by rw [Zcg,ZbW]
     have c16:=HA1.out.cell (16+k - 16) (by rw [hlen];omega)
     have c15:=HA1.out.cell (16+k - 15) (by rw [hlen];omega)
     have c7:=HA1.out.cell (16+k - 7) (by rw [hlen];omega)
     have c2:=HA1.out.cell (16+k - 2) (by rw [hlen];omega)
     have c0:=HA1.out.cell (16+k) (by rw [hlen];omega)
     have hfz:=HA1.out.unfrozen (16+k)
     rw [Za2,Zhc z k _ (by omega)] at c16 c15 c7 c2
     have HN:Hid (Arr (wr.setCell ⟨w.heap.size+1,16+k,none⟩ (.int .u32 ((ZbF (Zaq (Zam z) k):Nat):Int))) (w.heap.size+1) 184 .u32 (nI (ws z (k+1)))):=by
      show Arr _ _ _ _ _
      have:=HA1.out.set (by rw [hlen];decide) (16+k) ((ZbF (Zaq (Zam z) k):Nat):Int)
      rw [ZbH,Zhd z k hlt] at this
      exact this
     have b:=Zd8 _ (Zd9 z HZ.out) k
     have b16:=ZaK (by decide) b (16+k - 16)
     have b15:=ZaK (by decide) b (16+k - 15)
     have b7:=ZaK (by decide) b (16+k - 7)
     have b2:=ZaK (by decide) b (16+k - 2)
     have hnx:ZbF (Zaq (Zam z) k)=((Zaq (Zam z) k)[16+k - 16]?.getD 0+sg0 ((Zaq (Zam z) k)[16+k - 15]?.getD 0)+(Zaq (Zam z) k)[16+k - 7]?.getD 0+sg1 ((Zaq (Zam z) k)[16+k - 2]?.getD 0))%4294967296:=by unfold ZbF;rw [hml]
     unfold sg0 sg1 at hnx
     have HX:Hid (_=_):=hnx
     clear hnx
     generalize ZbF (Zaq (Zam z) k)=nx at*
     generalize (Zaq (Zam z) k)[16+k - 16]?.getD 0=x16 at*
     generalize (Zaq (Zam z) k)[16+k - 15]?.getD 0=x15 at*
     generalize (Zaq (Zam z) k)[16+k - 7]?.getD 0=x7 at*
     generalize (Zaq (Zam z) k)[16+k - 2]?.getD 0=x2 at*
     clear b hml hlen
     generalize (nI (ws z k))[16+k]?.getD 0=x0 at*
     have hi1:16≤16+k:=by omega
     have hi2:16+k<64:=by omega
     generalize hi:16+k=i at*
     have HI:Hid (16+k=i):=hi
     clear hi
     have t16:((i:Int) - 16).toNat=i - 16:=by omega
     have t15:((i:Int) - 15).toNat=i - 15:=by omega
     have t7:((i:Int) - 7).toNat=i - 7:=by omega
     have t2:((i:Int) - 2).toNat=i - 2:=by omega
     have p16:(0:Int)≤(i:Int) - 16∧(i:Int) - 16<64:=by omega
     have p15:(0:Int)≤(i:Int) - 15∧(i:Int) - 15<64:=by omega
     have p7:(0:Int)≤(i:Int) - 7∧(i:Int) - 7<64:=by omega
     have p2:(0:Int)≤(i:Int) - 2∧(i:Int) - 2<64:=by omega
     obtain ⟨p16a,p16b⟩:=p16
     obtain ⟨p15a,p15b⟩:=p15
     obtain ⟨p7a,p7b⟩:=p7
     obtain ⟨p2a,p2b⟩:=p2
     have k7:=fun w=>Zbs x15 7 w b15 (by decide) (by decide)
     have k18:=fun w=>Zbs x15 18 w b15 (by decide) (by decide)
     have k17:=fun w=>Zbs x2 17 w b2 (by decide) (by decide)
     have k19:=fun w=>Zbs x2 19 w b2 (by decide) (by decide)
     have l7:=ZaG x15 7 b15 (by decide)
     have l18:=ZaG x15 18 b15 (by decide)
     have l17:=ZaG x2 17 b2 (by decide)
     have l19:=ZaG x2 19 b2 (by decide)
     have ld8:x15/8<4294967296:=by omega
     have ld10:x2/1024<4294967296:=by omega
     have ed8:(x15:Int)/8=((x15/8:Nat):Int):=by omega
     have ed10:(x2:Int)/1024=((x2/1024:Nat):Int):=by omega
     generalize rr x15 7=r7 at*
     generalize rr x15 18=r18 at*
     generalize rr x2 17=r17 at*
     generalize rr x2 19=r19 at*
     generalize x15/8=d8 at*
     generalize x2/1024=d10 at*
     have e1:=u32_xor_nat r7 r18 l7 l18
     have f1:=xlt l7 l18
     generalize r7^^^r18=y1 at*
     have e2:=u32_xor_nat y1 d8 f1 ld8
     have f2:=xlt f1 ld8
     generalize y1^^^d8=y2 at*
     have e3:=u32_xor_nat r17 r19 l17 l19
     have f3:=xlt l17 l19
     generalize r17^^^r19=y3 at*
     have e4:=u32_xor_nat y3 d10 f3 ld10
     have f4:=xlt f3 ld10
     generalize y3^^^d10=y4 at*
     go_wp2_with fail
     go_quiet (fail)
     go_wp2_with fail
     refine (k7 _).mono ?_
     rintro e w' ⟨rfl,rfl⟩
     go_wp2_with fail
     refine (k18 _).mono ?_
     rintro e w' ⟨rfl,rfl⟩
     go_wp2_with fail
     refine (k17 _).mono ?_
     rintro e w' ⟨rfl,rfl⟩
     go_wp2_with fail
     refine (k19 _).mono ?_
     rintro e w' ⟨rfl,rfl⟩
     clear k7 k18 k17 k19
     have hn1:i - 16≠i:=by omega
     have hn2:i - 7≠i:=by omega
     go_wp2_with fail
     go_region
     rw [show ((x16:Int)+(y2:Int)+(x7:Int)+(y4:Int))%4294967296=((nx:Nat):Int) from by rw [HX.out];omega]
     go_wp2
     go_roundw
     case rel=>exact ⟨k+1,by omega,by rw [←HI.out];go_num,HN,HA0.out.other _ _ (by show w.heap.size≠w.heap.size+1;omega),(Zbx HB.out _).setCell (by show w.heap.size≤w.heap.size+1;omega) _⟩
     case measure=>simp [intOf];omega
    ·obtain rfl:k=48:=by omega
     have A1:=HA1.out
     rw [Zhb] at A1
     have HL:Hid ((nI (ZaP z)).length=64):=by show _=_;rw [Zaa,ZeP]
     go_wp2_with (first
      | (refine Zci rfl 184 _ rfl (w.heap.size+1) rfl A1 Tryz.underlying184 Tryz.size184 HL.out ?_)
      | (refine ZbP rfl 184 _ _ rfl w.heap.size (nI (ZaP z)) rfl rfl HA0.out Tryz.size184 (by decide+kernel) HL.out ?_))
     exact bodyPost_ret (resA rfl _ _ w.heap.size rfl (HA0.out.whole _) Tryz.underlying184 Tryz.size184 HL.out) rfl ⟨rfl,below_setRow HB.out (Nat.le_refl _) _⟩
end Go.Proofs.YtcaloldcihpkfaaGreatDoor

/-
 The code of layer 13 (sha256): mix.
-/
namespace Go.Proofs.YtcaloldcihpkfaaGreatDoor
open Go.RowKit
set_option linter.unusedVariables false
set_option maxRecDepth 8192

def Zbm (s q:S8) (k:Nat):List Nat:=(s.plus q).list.take k++s.list.drop k
theorem Zhf (s:S8):s.list.length=8:=rfl
theorem ZnB (e:Nat) (h:e<4294967296):4294967295^^^e=4294967295 - e:=by
 have h1:(~~~(BitVec.ofNat 32 e)).toNat=4294967295 - e:=by
  rw [BitVec.toNat_not,BitVec.toNat_ofNat]
  omega
 rw [←h1, ←BitVec.allOnes_xor,BitVec.toNat_xor,BitVec.toNat_allOnes,BitVec.toNat_ofNat,Nat.mod_eq_of_lt (show e<2^32 from h)]
theorem ZnC {P:Program} {w:World} (ty e:TypeId) (m:Nat) (cs:Array Value) (k ek:IntKind) (i:Nat) (z:Int) (hu:P.underlying ty=some (.array m e)) (hue:P.underlying e=some (.int ek)) (he:(P.info? e).map (·.size)=some 1) (hi:i<m) (hv:cs[i]? =some (.int ek z)):
  (Instr.index ty (.agg cs) (.int k (i:Int))).run P w= .ok (.int ek z) w:=by
 have h1:(0:Int)≤(i:Int)∧(i:Int)<(m:Int):=by omega
 obtain ⟨inf,hq,hs⟩:=Option.map_eq_some_iff.1 he
 simp [Instr.index,asIntOf,run_underlying hu,run_underlying hue,sizeOf,typeInfo,hq,hs,h1,part,isAgg,hv,go_sem]
 omega
theorem ZbC {P:Program} {ops:Array Oper} {rest:List Oper} {o:Oper} {a:Act} {w:World} {Q:Exit→Act→World→Prop} (hgd:o.guard=none) (ty:TypeId) (x y:Operand) (ho:o.op= .index ty x y)
  (cs:Array Value) (k:IntKind) (i:Nat) (hx:a.eval x= .agg cs) (hy:a.eval y= .int k (i:Int)) {e:TypeId} {m:Nat} {ek:IntKind} {z:Int} (hu:P.underlying ty=some (.array m e)) (hue:P.underlying e=some (.int ek)) (he:(P.info? e).map (·.size)=some 1) (hi:i<m) (hv:cs[i]? =some (.int ek z))
  (h:wpList P ops Q rest (a.put o.dst (.int ek z)) w):wpList P ops Q (o::rest) a w:=
 wpList_plain hgd fun _ hK=>by
  unfold Oper.wp execOp
  simp only [ho,hx,hy,Sem.run_bind,Sem.run_pure,Result.andThen_ok,ZnC ty e m cs k ek i z hu hue he hi hv]
  exact hK _ _ h
theorem Tryz.one175:(Tryz.prog.info? 175).map (·.size)=some 1:=by kernel_rfl
set_option maxHeartbeats 1600000 in
theorem ZfV (s:S8) (K z:List Nat) (a:Option Addr) (cap:Nat) (w:World) (hs:s.Ok) (hK:K.length=64) (hKl:∀x∈K,x<4294967296) (hr:Row .u8 w a 64 cap (nI z)) (hz:∀x∈z,x<256):
  Calls Tryz.prog 136 #[.agg ((nI s.list).map (Value.int .u32)).toArray, .slice a 64 cap, .agg ((nI K).map (Value.int .u32)).toArray] w fun e w'=>e= .returned (.agg ((nI (mixL K s z).list).map (Value.int .u32)).toArray)∧Below w.heap.size w w':=by
 have HZ:Hid (∀x∈z,x<256):=hz
 have HK:Hid (K.length=64):=hK
 have HKl:Hid (∀x∈K,x<4294967296):=hKl
 clear hz hK hKl
 generalize hX0:((nI s.list).map (Value.int .u32)).toArray=X0
 generalize hX1:((nI K).map (Value.int .u32)).toArray=X1
 go_enter Tryz.func136,Tryz.ntmps136
 go_wp2_with fail
 have A3:=((Arr.new w 185 .u32 (nI s.list) X0 hX0.symm).alloc (.cells X1 184)).alloc (.cells ((nI (List.replicate 8 0)).map (Value.int .u32)).toArray 185)
 have A5:=(Arr.new (w.alloc (.cells X0 185)) 184 .u32 (nI K) X1 hX1.symm).alloc (.cells ((nI (List.replicate 8 0)).map (Value.int .u32)).toArray 185)
 have A6:=Arr.new ((w.alloc (.cells X0 185)).alloc (.cells X1 184)) 185 .u32 (nI (List.replicate 8 0)) _ rfl
 have q1:=ZgY w (.cells X0 185) (.cells X1 184) (.cells ((nI (List.replicate 8 0)).map (Value.int .u32)).toArray 185)
 have z1:(w.alloc (.cells X0 185)).heap.size=w.heap.size+1:=by simp
 have z2:((w.alloc (.cells X0 185)).alloc (.cells X1 184)).heap.size=w.heap.size+1+1:=by simp
 have z3:(((w.alloc (.cells X0 185)).alloc (.cells X1 184)).alloc (.cells ((nI (List.replicate 8 0)).map (Value.int .u32)).toArray 185)).heap.size=w.heap.size+1+1+1:=by simp
 rw [z1] at A5
 rw [z2] at A6
 clear z1 z2
 change Calls Tryz.prog _ _ (((w.alloc (.cells X0 185)).alloc (.cells X1 184)).alloc (.cells ((nI (List.replicate 8 0)).map (Value.int .u32)).toArray 185)) _
 generalize ((w.alloc (.cells X0 185)).alloc (.cells X1 184)).alloc (.cells ((nI (List.replicate 8 0)).map (Value.int .u32)).toArray 185)=w1 at*
 refine (Zhe z a cap w1 (hr.below q1 (Nat.le_refl _)) HZ.out).mono ?_
 rintro e w2 ⟨rfl,q2⟩
 have hs2:=q2.size
 have q3:=(q1.trans (q2.mono (by omega))).alloc (by omega) (.cells ((nI (List.replicate 64 0)).map (Value.int .u32)).toArray 184)
 replace A3:=(A3.below q2 (by omega)).alloc (.cells ((nI (List.replicate 64 0)).map (Value.int .u32)).toArray 184)
 replace A5:=(A5.below q2 (by omega)).alloc (.cells ((nI (List.replicate 64 0)).map (Value.int .u32)).toArray 184)
 replace A6:=(A6.below q2 (by omega)).alloc (.cells ((nI (List.replicate 64 0)).map (Value.int .u32)).toArray 184)
 have A7:=Arr.new w2 184 .u32 (nI (List.replicate 64 0)) _ rfl
 have HW:Hid ((nI (ZaP z)).length=64):=by show _=_;rw [Zaa,ZeP]
 have HS:Hid (∀x∈ZaP z,x<4294967296):=ZfI z HZ.out
 have HFin:Hid (∀q,ZbA s K (ZaP z) 64=q→mixL K s z=s.plus q):=fun q hq=>by unfold mixL;rw [hq]
 generalize ZaP z=W at*
 clear q1 q2
 go_wp2_with (refine ZbP rfl 184 _ _ rfl w2.heap.size (nI (W)) rfl rfl A7 Tryz.size184 (by decide+kernel) HW.out ?_)
 replace A3:=A3.whole_other ((nI (W)).map (Value.int .u32)).toArray (show w.heap.size≠w2.heap.size by omega)
 replace A5:=A5.whole_other ((nI (W)).map (Value.int .u32)).toArray (show w.heap.size+1≠w2.heap.size by omega)
 replace A6:=A6.whole_other ((nI (W)).map (Value.int .u32)).toArray (show w.heap.size+1+1≠w2.heap.size by omega)
 replace A7:=A7.whole (nI (W))
 replace q3:=below_setRow q3 (show w.heap.size≤w2.heap.size by omega) ((nI (W)).map (Value.int .u32)).toArray
 change Code.wp _ _ _ _ ((w2.alloc (.cells ((nI (List.replicate 64 0)).map (Value.int .u32)).toArray 184)).setRow w2.heap.size ((nI (W)).map (Value.int .u32)).toArray)
 generalize (w2.alloc (.cells ((nI (List.replicate 64 0)).map (Value.int .u32)).toArray 184)).setRow w2.heap.size ((nI (W)).map (Value.int .u32)).toArray=w3 at*
 clear hX0 hX1
 generalize hX7:((nI (W)).map (Value.int .u32)).toArray=X7
 clear hX7
 have c0:w3.cell? ⟨w.heap.size,0,none⟩=some (.int .u32 (s.a:Int)):=A3.cell 0 (by rw [Zaa];exact (by decide:0<8))
 have c1:w3.cell? ⟨w.heap.size,1,none⟩=some (.int .u32 (s.b:Int)):=A3.cell 1 (by rw [Zaa];exact (by decide:1<8))
 have c2:w3.cell? ⟨w.heap.size,2,none⟩=some (.int .u32 (s.c:Int)):=A3.cell 2 (by rw [Zaa];exact (by decide:2<8))
 have c3:w3.cell? ⟨w.heap.size,3,none⟩=some (.int .u32 (s.d:Int)):=A3.cell 3 (by rw [Zaa];exact (by decide:3<8))
 have c4:w3.cell? ⟨w.heap.size,4,none⟩=some (.int .u32 (s.e:Int)):=A3.cell 4 (by rw [Zaa];exact (by decide:4<8))
 have c5:w3.cell? ⟨w.heap.size,5,none⟩=some (.int .u32 (s.f:Int)):=A3.cell 5 (by rw [Zaa];exact (by decide:5<8))
 have c6:w3.cell? ⟨w.heap.size,6,none⟩=some (.int .u32 (s.g:Int)):=A3.cell 6 (by rw [Zaa];exact (by decide:6<8))
 have c7:w3.cell? ⟨w.heap.size,7,none⟩=some (.int .u32 (s.h:Int)):=A3.cell 7 (by rw [Zaa];exact (by decide:7<8))
 go_wp2_with fail
 go_quiet (fail)
 go_wp2_with fail
 go_quiet (fail)
 clear c0 c1 c2 c3 c4 c5 c6 c7
 go_wp2
 go_loopw [8,9,10,11,12,13,14,15,39] (fun x8 x9 x10 x11 x12 x13 x14 x15 y wr=>∃k a b c d e f g h:Nat,k≤64∧y= .int .i64 (k:Int)∧Hid (ZbA s K (W) k=⟨a,b,c,d,e,f,g,h⟩)∧x8= .int .u32 (a:Int)∧x9= .int .u32 (b:Int)∧x10= .int .u32 (c:Int)∧x11= .int .u32 (d:Int)∧x12= .int .u32 (e:Int)∧x13= .int .u32 (f:Int)∧x14= .int .u32 (g:Int)∧x15= .int .u32 (h:Int)
   ∧Hid (Arr wr w.heap.size 185 .u32 (nI s.list))∧Hid (Arr wr (w.heap.size+1) 184 .u32 (nI K))∧Hid (Arr wr (w.heap.size+1+1) 185 .u32 (nI (List.replicate 8 0)))∧Hid (Arr wr w2.heap.size 184 .u32 (nI (W)))∧Hid (Below w.heap.size w wr)) (fun _ _ _ _ _ _ _ _ y _=>64 - (intOf y).toNat)
 case atStart=>exact ⟨0,s.a,s.b,s.c,s.d,s.e,s.f,s.g,s.h,by omega,rfl,rfl,rfl,rfl,rfl,rfl,rfl,rfl,rfl,rfl,A3,A5,A6,A7,Zbx (Zbx q3 _) _⟩
 case round=>
  clear A3 A5 A6 A7 q3
  obtain ⟨k,a,b,c,d,e,f,g,h,hk,rfl,HQ,rfl,rfl,rfl,rfl,rfl,rfl,rfl,rfl,HA3,HA5,HA6,HA7,HB⟩:=hrel
  have hok:=hs.to K (W) k
  rw [HQ.out] at hok
  obtain ⟨ba,bb,bc,bd,be,bf,bg,bh⟩:=hok
  dsimp only at ba bb bc bd be bf bg bh
  by_cases hlt:k<64
  ·have cK:=HA5.out.cell k (by rw [Zaa,HK.out];exact hlt)
   have cW:=HA7.out.cell k (by rw [HW.out];exact hlt)
   rw [Za2] at cK cW
   have lK:=ZaK (by decide) HKl.out k
   have lW:=ZaK (by decide) HS.out k
   have HN:Hid (ZbA s K (W) (k+1)=⟨((h+(rr e 6^^^rr e 11^^^rr e 25)+((e&&& f)^^^((4294967295 - e)&&& g))+K[k]?.getD 0+(W)[k]?.getD 0)+((rr a 2^^^rr a 13^^^rr a 22)+((a&&& b)^^^(a&&& c)^^^(b&&& c))))%4294967296,a,b,c,(d+(h+(rr e 6^^^rr e 11^^^rr e 25)+((e&&& f)^^^((4294967295 - e)&&& g))+K[k]?.getD 0+(W)[k]?.getD 0))%4294967296,e,f,g⟩):=by
    show (ZbA s K (W) k).rnd _ _=_
    rw [HQ.out]
    rfl
   generalize K[k]?.getD 0=kk at*
   generalize (W)[k]?.getD 0=ww at*
   have k6:∀w,Calls Tryz.prog 179 #[.int .u32 (e:Int), .int .i64 6] w fun e' w'=>e'= .returned (.int .u32 ((rr e 6:Nat):Int))∧w=w':=fun w=>Zbs e 6 w be (by decide) (by decide)
   have k11:∀w,Calls Tryz.prog 179 #[.int .u32 (e:Int), .int .i64 11] w fun e' w'=>e'= .returned (.int .u32 ((rr e 11:Nat):Int))∧w=w':=fun w=>Zbs e 11 w be (by decide) (by decide)
   have k25:∀w,Calls Tryz.prog 179 #[.int .u32 (e:Int), .int .i64 25] w fun e' w'=>e'= .returned (.int .u32 ((rr e 25:Nat):Int))∧w=w':=fun w=>Zbs e 25 w be (by decide) (by decide)
   have k2:∀w,Calls Tryz.prog 179 #[.int .u32 (a:Int), .int .i64 2] w fun e' w'=>e'= .returned (.int .u32 ((rr a 2:Nat):Int))∧w=w':=fun w=>Zbs a 2 w ba (by decide) (by decide)
   have k13:∀w,Calls Tryz.prog 179 #[.int .u32 (a:Int), .int .i64 13] w fun e' w'=>e'= .returned (.int .u32 ((rr a 13:Nat):Int))∧w=w':=fun w=>Zbs a 13 w ba (by decide) (by decide)
   have k22:∀w,Calls Tryz.prog 179 #[.int .u32 (a:Int), .int .i64 22] w fun e' w'=>e'= .returned (.int .u32 ((rr a 22:Nat):Int))∧w=w':=fun w=>Zbs a 22 w ba (by decide) (by decide)
   have l6:=ZaG e 6 be (by decide)
   have l11:=ZaG e 11 be (by decide)
   have l25:=ZaG e 25 be (by decide)
   have l2:=ZaG a 2 ba (by decide)
   have l13:=ZaG a 13 ba (by decide)
   have l22:=ZaG a 22 ba (by decide)
   generalize rr e 6=r6 at*
   generalize rr e 11=r11 at*
   generalize rr e 25=r25 at*
   generalize rr a 2=r2 at*
   generalize rr a 13=r13 at*
   generalize rr a 22=r22 at*
   have e1:∀x:Int,x=((r6:Nat):Int)→bits .xor .u32 x ((r11:Nat):Int)=((r6^^^r11:Nat):Int):=fun x hx=>by subst hx;exact u32_xor_nat r6 r11 l6 l11
   have f1:=xlt l6 l11
   generalize r6^^^r11=y1 at*
   have e2:∀x:Int,x=((y1:Nat):Int)→bits .xor .u32 x ((r25:Nat):Int)=((y1^^^r25:Nat):Int):=fun x hx=>by subst hx;exact u32_xor_nat y1 r25 f1 l25
   have f2:=xlt f1 l25
   generalize y1^^^r25=y2 at*
   have e3:∀x:Int,x=((r2:Nat):Int)→bits .xor .u32 x ((r13:Nat):Int)=((r2^^^r13:Nat):Int):=fun x hx=>by subst hx;exact u32_xor_nat r2 r13 l2 l13
   have f3:=xlt l2 l13
   generalize r2^^^r13=y3 at*
   have e4:∀x:Int,x=((y3:Nat):Int)→bits .xor .u32 x ((r22:Nat):Int)=((y3^^^r22:Nat):Int):=fun x hx=>by subst hx;exact u32_xor_nat y3 r22 f3 l22
   have f4:=xlt f3 l22
   generalize y3^^^r22=y4 at*
   have e5:∀x:Int,x=((e:Nat):Int)→bits .and .u32 x ((f:Nat):Int)=((e&&& f:Nat):Int):=fun x hx=>by subst hx;exact u32_and_nat e f be bf
   have f5:e&&& f<4294967296:=alt bf
   generalize e&&& f=y5 at*
   have e0:bits .xor .u32 (if IntKind.u32.signed=true then -1 else IntKind.u32.max) ((e:Nat):Int)=((4294967295 - e:Nat):Int):=by
    rw [←ZnB e be]
    exact u32_xor_nat 4294967295 e (by decide) be
   have e6:∀x:Int,x=(((4294967295 - e):Nat):Int)→bits .and .u32 x ((g:Nat):Int)=(((4294967295 - e)&&& g:Nat):Int):=fun x hx=>by subst hx;exact u32_and_nat (4294967295 - e) g (by omega) bg
   have f6:(4294967295 - e)&&& g<4294967296:=alt bg
   generalize (4294967295 - e)&&& g=y6 at*
   generalize 4294967295 - e=ne at*
   have e7:∀x:Int,x=((y5:Nat):Int)→bits .xor .u32 x ((y6:Nat):Int)=((y5^^^y6:Nat):Int):=fun x hx=>by subst hx;exact u32_xor_nat y5 y6 f5 f6
   have f7:=xlt f5 f6
   generalize y5^^^y6=y7 at*
   have e8:∀x:Int,x=((a:Nat):Int)→bits .and .u32 x ((b:Nat):Int)=((a&&& b:Nat):Int):=fun x hx=>by subst hx;exact u32_and_nat a b ba bb
   have f8:a&&& b<4294967296:=alt bb
   generalize a&&& b=y8 at*
   have e9:∀x:Int,x=((a:Nat):Int)→bits .and .u32 x ((c:Nat):Int)=((a&&& c:Nat):Int):=fun x hx=>by subst hx;exact u32_and_nat a c ba bc
   have f9:a&&& c<4294967296:=alt bc
   generalize a&&& c=y9 at*
   have e10:∀x:Int,x=((b:Nat):Int)→bits .and .u32 x ((c:Nat):Int)=((b&&& c:Nat):Int):=fun x hx=>by subst hx;exact u32_and_nat b c bb bc
   have f10:b&&& c<4294967296:=alt bc
   generalize b&&& c=y10 at*
   have e11:∀x:Int,x=((y8:Nat):Int)→bits .xor .u32 x ((y9:Nat):Int)=((y8^^^y9:Nat):Int):=fun x hx=>by subst hx;exact u32_xor_nat y8 y9 f8 f9
   have f11:=xlt f8 f9
   generalize y8^^^y9=y11 at*
   have e12:∀x:Int,x=((y11:Nat):Int)→bits .xor .u32 x ((y10:Nat):Int)=((y11^^^y10:Nat):Int):=fun x hx=>by subst hx;exact u32_xor_nat y11 y10 f11 f10
   have f12:=xlt f11 f10
   generalize y11^^^y10=y12 at*
   go_wp2_with fail
   go_quiet (first
    | (go_at_call 179;with_reducible exact Zbl (k6 _))
    | (go_at_call 179;with_reducible exact Zbl (k11 _))
    | (go_at_call 179;with_reducible exact Zbl (k25 _)))
   go_wp2_with fail
   refine (k2 _).mono ?_
   rintro e' w' ⟨rfl,rfl⟩
   go_wp2_with fail
   refine (k13 _).mono ?_
   rintro e' w' ⟨rfl,rfl⟩
   go_wp2_with fail
   refine (k22 _).mono ?_
   rintro e' w' ⟨rfl,rfl⟩
   clear k6 k11 k25 k2 k13 k22
   go_wp2
   go_roundw
   case rel=>exact ⟨k+1,_,_,_,_,_,_,_,_,by omega,by go_num,HN,by go_num,rfl,rfl,rfl,by go_num,rfl,rfl,rfl,HA3.out.drewN _,HA5.out.drewN _,HA6.out.drewN _,HA7.out.drewN _,Zbx HB.out _⟩
   case measure=>simp [intOf];omega
  ·obtain rfl:k=64:=by omega
   have HM:Hid (mixL K s z=s.plus ⟨a,b,c,d,e,f,g,h⟩):=HFin.out _ HQ.out
   have HP:Hid (∀k,k≤8→(Zbm s ⟨a,b,c,d,e,f,g,h⟩ k).length=8):=fun k hk=>by simp [Zbm,Zhf,S8.plus];omega
   rw [show ((64:Nat):Int)=64 from rfl]
   clear HQ HFin HA5 HA7 HW HS HK HKl HZ hr ba bb bc bd be bf bg bh z3 hs2
   go_wp2
   go_loopw [111] (fun y wr=>∃k:Nat,k≤8∧y= .int .i64 (k:Int)∧Hid (Arr wr w.heap.size 185 .u32 (nI (Zbm s ⟨a,b,c,d,e,f,g,h⟩ k)))∧Hid (Arr wr (w.heap.size+1+1) 185 .u32 (nI (List.replicate 8 0)))∧Hid (Below w.heap.size w wr)) (fun y _=>8 - (intOf y).toNat)
   case atStart=>exact ⟨0,by omega,rfl,HA3,HA6,HB⟩
   case round=>
    clear HA3 HA6 HB
    obtain ⟨k,hk,rfl,HP3,HA6',HB'⟩:=hrel
    rcases (show k=0∨k=1∨k=2∨k=3∨k=4∨k=5∨k=6∨k=7∨k=8 by omega) with rfl|rfl|rfl|rfl|rfl|rfl|rfl|rfl|rfl
    ·have cS:wr.cell? ⟨w.heap.size,0,none⟩=some (.int .u32 (s.a:Int)):=HP3.out.cell 0 (by rw [Zaa,HP.out 0 (by decide)];decide)
     have fS:=HP3.out.unfrozen 0
     have HN:Hid (Arr (wr.setCell ⟨w.heap.size,0,none⟩ (.int .u32 (((s.a:Int)+(a:Int))%4294967296))) w.heap.size 185 .u32 (nI (Zbm s ⟨a,b,c,d,e,f,g,h⟩ 1))):=by
      show Arr _ _ _ _ _
      have:=HP3.out.set (by rw [Zaa,HP.out 0 (by decide)];decide) 0 (((s.a+a)%4294967296:Nat):Int)
      rw [show ((s.a:Int)+(a:Int))%4294967296=(((s.a+a)%4294967296:Nat):Int) from by omega]
      exact this
     go_wp2_with (refine ZbC rfl 185 _ _ rfl _ _ 0 rfl rfl Tryz.underlying185 Tryz.underlying175 Tryz.one175 (by decide) rfl ?_)
     go_roundw
     case rel=>exact ⟨1,by decide,rfl,HN,HA6'.out.other _ _ (by show w.heap.size+1+1≠w.heap.size;omega),HB'.out.setCell (Nat.le_refl _) _⟩
     case measure=>decide
    ·have cS:wr.cell? ⟨w.heap.size,1,none⟩=some (.int .u32 (s.b:Int)):=HP3.out.cell 1 (by rw [Zaa,HP.out 1 (by decide)];decide)
     have fS:=HP3.out.unfrozen 1
     have HN:Hid (Arr (wr.setCell ⟨w.heap.size,1,none⟩ (.int .u32 (((s.b:Int)+(b:Int))%4294967296))) w.heap.size 185 .u32 (nI (Zbm s ⟨a,b,c,d,e,f,g,h⟩ 2))):=by
      show Arr _ _ _ _ _
      have:=HP3.out.set (by rw [Zaa,HP.out 1 (by decide)];decide) 1 (((s.b+b)%4294967296:Nat):Int)
      rw [show ((s.b:Int)+(b:Int))%4294967296=(((s.b+b)%4294967296:Nat):Int) from by omega]
      exact this
     go_wp2_with (refine ZbC rfl 185 _ _ rfl _ _ 1 rfl rfl Tryz.underlying185 Tryz.underlying175 Tryz.one175 (by decide) rfl ?_)
     go_roundw
     case rel=>exact ⟨2,by decide,rfl,HN,HA6'.out.other _ _ (by show w.heap.size+1+1≠w.heap.size;omega),HB'.out.setCell (Nat.le_refl _) _⟩
     case measure=>decide
    ·have cS:wr.cell? ⟨w.heap.size,2,none⟩=some (.int .u32 (s.c:Int)):=HP3.out.cell 2 (by rw [Zaa,HP.out 2 (by decide)];decide)
     have fS:=HP3.out.unfrozen 2
     have HN:Hid (Arr (wr.setCell ⟨w.heap.size,2,none⟩ (.int .u32 (((s.c:Int)+(c:Int))%4294967296))) w.heap.size 185 .u32 (nI (Zbm s ⟨a,b,c,d,e,f,g,h⟩ 3))):=by
      show Arr _ _ _ _ _
      have:=HP3.out.set (by rw [Zaa,HP.out 2 (by decide)];decide) 2 (((s.c+c)%4294967296:Nat):Int)
      rw [show ((s.c:Int)+(c:Int))%4294967296=(((s.c+c)%4294967296:Nat):Int) from by omega]
      exact this
     go_wp2_with (refine ZbC rfl 185 _ _ rfl _ _ 2 rfl rfl Tryz.underlying185 Tryz.underlying175 Tryz.one175 (by decide) rfl ?_)
     go_roundw
     case rel=>exact ⟨3,by decide,rfl,HN,HA6'.out.other _ _ (by show w.heap.size+1+1≠w.heap.size;omega),HB'.out.setCell (Nat.le_refl _) _⟩
     case measure=>decide
    ·have cS:wr.cell? ⟨w.heap.size,3,none⟩=some (.int .u32 (s.d:Int)):=HP3.out.cell 3 (by rw [Zaa,HP.out 3 (by decide)];decide)
     have fS:=HP3.out.unfrozen 3
     have HN:Hid (Arr (wr.setCell ⟨w.heap.size,3,none⟩ (.int .u32 (((s.d:Int)+(d:Int))%4294967296))) w.heap.size 185 .u32 (nI (Zbm s ⟨a,b,c,d,e,f,g,h⟩ 4))):=by
      show Arr _ _ _ _ _
      have:=HP3.out.set (by rw [Zaa,HP.out 3 (by decide)];decide) 3 (((s.d+d)%4294967296:Nat):Int)
      rw [show ((s.d:Int)+(d:Int))%4294967296=(((s.d+d)%4294967296:Nat):Int) from by omega]
      exact this
     go_wp2_with (refine ZbC rfl 185 _ _ rfl _ _ 3 rfl rfl Tryz.underlying185 Tryz.underlying175 Tryz.one175 (by decide) rfl ?_)
     go_roundw
     case rel=>exact ⟨4,by decide,rfl,HN,HA6'.out.other _ _ (by show w.heap.size+1+1≠w.heap.size;omega),HB'.out.setCell (Nat.le_refl _) _⟩
     case measure=>decide
    ·have cS:wr.cell? ⟨w.heap.size,4,none⟩=some (.int .u32 (s.e:Int)):=HP3.out.cell 4 (by rw [Zaa,HP.out 4 (by decide)];decide)
     have fS:=HP3.out.unfrozen 4
     have HN:Hid (Arr (wr.setCell ⟨w.heap.size,4,none⟩ (.int .u32 (((s.e:Int)+(e:Int))%4294967296))) w.heap.size 185 .u32 (nI (Zbm s ⟨a,b,c,d,e,f,g,h⟩ 5))):=by
      show Arr _ _ _ _ _
      have:=HP3.out.set (by rw [Zaa,HP.out 4 (by decide)];decide) 4 (((s.e+e)%4294967296:Nat):Int)
      rw [show ((s.e:Int)+(e:Int))%4294967296=(((s.e+e)%4294967296:Nat):Int) from by omega]
      exact this
     go_wp2_with (refine ZbC rfl 185 _ _ rfl _ _ 4 rfl rfl Tryz.underlying185 Tryz.underlying175 Tryz.one175 (by decide) rfl ?_)
     go_roundw
     case rel=>exact ⟨5,by decide,rfl,HN,HA6'.out.other _ _ (by show w.heap.size+1+1≠w.heap.size;omega),HB'.out.setCell (Nat.le_refl _) _⟩
     case measure=>decide
    ·have cS:wr.cell? ⟨w.heap.size,5,none⟩=some (.int .u32 (s.f:Int)):=HP3.out.cell 5 (by rw [Zaa,HP.out 5 (by decide)];decide)
     have fS:=HP3.out.unfrozen 5
     have HN:Hid (Arr (wr.setCell ⟨w.heap.size,5,none⟩ (.int .u32 (((s.f:Int)+(f:Int))%4294967296))) w.heap.size 185 .u32 (nI (Zbm s ⟨a,b,c,d,e,f,g,h⟩ 6))):=by
      show Arr _ _ _ _ _
      have:=HP3.out.set (by rw [Zaa,HP.out 5 (by decide)];decide) 5 (((s.f+f)%4294967296:Nat):Int)
      rw [show ((s.f:Int)+(f:Int))%4294967296=(((s.f+f)%4294967296:Nat):Int) from by omega]
      exact this
     go_wp2_with (refine ZbC rfl 185 _ _ rfl _ _ 5 rfl rfl Tryz.underlying185 Tryz.underlying175 Tryz.one175 (by decide) rfl ?_)
     go_roundw
     case rel=>exact ⟨6,by decide,rfl,HN,HA6'.out.other _ _ (by show w.heap.size+1+1≠w.heap.size;omega),HB'.out.setCell (Nat.le_refl _) _⟩
     case measure=>decide
    ·have cS:wr.cell? ⟨w.heap.size,6,none⟩=some (.int .u32 (s.g:Int)):=HP3.out.cell 6 (by rw [Zaa,HP.out 6 (by decide)];decide)
     have fS:=HP3.out.unfrozen 6
     have HN:Hid (Arr (wr.setCell ⟨w.heap.size,6,none⟩ (.int .u32 (((s.g:Int)+(g:Int))%4294967296))) w.heap.size 185 .u32 (nI (Zbm s ⟨a,b,c,d,e,f,g,h⟩ 7))):=by
      show Arr _ _ _ _ _
      have:=HP3.out.set (by rw [Zaa,HP.out 6 (by decide)];decide) 6 (((s.g+g)%4294967296:Nat):Int)
      rw [show ((s.g:Int)+(g:Int))%4294967296=(((s.g+g)%4294967296:Nat):Int) from by omega]
      exact this
     go_wp2_with (refine ZbC rfl 185 _ _ rfl _ _ 6 rfl rfl Tryz.underlying185 Tryz.underlying175 Tryz.one175 (by decide) rfl ?_)
     go_roundw
     case rel=>exact ⟨7,by decide,rfl,HN,HA6'.out.other _ _ (by show w.heap.size+1+1≠w.heap.size;omega),HB'.out.setCell (Nat.le_refl _) _⟩
     case measure=>decide
    ·have cS:wr.cell? ⟨w.heap.size,7,none⟩=some (.int .u32 (s.h:Int)):=HP3.out.cell 7 (by rw [Zaa,HP.out 7 (by decide)];decide)
     have fS:=HP3.out.unfrozen 7
     have HN:Hid (Arr (wr.setCell ⟨w.heap.size,7,none⟩ (.int .u32 (((s.h:Int)+(h:Int))%4294967296))) w.heap.size 185 .u32 (nI (Zbm s ⟨a,b,c,d,e,f,g,h⟩ 8))):=by
      show Arr _ _ _ _ _
      have:=HP3.out.set (by rw [Zaa,HP.out 7 (by decide)];decide) 7 (((s.h+h)%4294967296:Nat):Int)
      rw [show ((s.h:Int)+(h:Int))%4294967296=(((s.h+h)%4294967296:Nat):Int) from by omega]
      exact this
     go_wp2_with (refine ZbC rfl 185 _ _ rfl _ _ 7 rfl rfl Tryz.underlying185 Tryz.underlying175 Tryz.one175 (by decide) rfl ?_)
     go_roundw
     case rel=>exact ⟨8,by decide,rfl,HN,HA6'.out.other _ _ (by show w.heap.size+1+1≠w.heap.size;omega),HB'.out.setCell (Nat.le_refl _) _⟩
     case measure=>decide
    ·have A3:Arr wr w.heap.size 185 .u32 (nI (s.plus ⟨a,b,c,d,e,f,g,h⟩).list):=HP3.out
     rw [←HM.out] at A3
     have HL:Hid ((nI (mixL K s z).list).length=8):=by show _=_;rw [Zaa];rfl
     go_wp2_with (first
      | (refine Zci rfl 185 _ rfl w.heap.size rfl A3 Tryz.underlying185 Tryz.size185 HL.out ?_)
      | (refine ZbP rfl 185 _ _ rfl (w.heap.size+1+1) (nI (mixL K s z).list) rfl rfl HA6'.out Tryz.size185 (by decide+kernel) HL.out ?_))
     exact bodyPost_ret (resA rfl _ _ (w.heap.size+1+1) rfl (HA6'.out.whole _) Tryz.underlying185 Tryz.size185 HL.out) rfl ⟨rfl,below_setRow HB'.out (by omega) _⟩
end Go.Proofs.YtcaloldcihpkfaaGreatDoor

/-
 The code of layer 13 (sha256): put, padding, slices.Grow, slices.Concat, Pad.
-/
namespace Go.Proofs.YtcaloldcihpkfaaGreatDoor
open Go.RowKit
set_option linter.unusedVariables false
set_option maxRecDepth 8192

def beN (n x:Nat):List Nat:=(List.range n).map fun j=>x/256^(n - 1 - j)%256
theorem ZdO (n x:Nat):(beN n x).length=n:=by simp [beN]
theorem ZfW (x:Nat):beN 8 x=be8 x:=by simp [beN,be8,List.range,List.range.loop]
theorem ZnD (x:Nat):beN 4 x=be4 x:=by simp [beN,be4,List.range,List.range.loop]
theorem ZfX (n x k:Nat) (h:k<n):(beN n x)[k]?.getD 0=x/256^(n - 1 - k)%256:=by simp [beN,h]
def spL (l b:List Nat) (off n k:Nat):List Nat:=l.take (off+k)++(b.drop k++l.drop (off+n))
theorem ZnE {l b:List Nat} {off n k:Nat} (hb:b.length=n) (h:off+n≤l.length) (hk:k≤n):(spL l b off n k).length=l.length:=by simp [spL];omega
theorem ZnF {l b:List Nat} {off n:Nat} (hb:b.length=n) (h:off+n≤l.length):spL l b off n n=l:=by
 unfold spL
 rw [List.drop_of_length_le (show b.length≤n by omega),List.nil_append,List.take_append_drop]
theorem ZnG {l b:List Nat} {off n k:Nat} (hb:b.length=n) (h:off+n≤l.length) (hk:k<n):(spL l b off n (k+1)).set (off+k) (b[k]?.getD 0)=spL l b off n k:=by
 unfold spL
 have h1:l.take (off+(k+1))=l.take (off+k)++ [l[off+k]?.getD 0]:=by rw [←Nat.add_assoc];exact ZcY l (off+k) (by omega)
 have h2:(l.take (off+k)).length=off+k:=by simp;omega
 rw [h1,List.append_assoc,List.set_append_right _ _ (by omega),h2,Nat.sub_self,List.singleton_append,List.set_cons_zero,List.getElem?_eq_getElem (show k<b.length by omega),List.drop_eq_getElem_cons (show k<b.length by omega)]
 rfl
set_option maxHeartbeats 1600000 in
theorem Zjy (l:List Nat) (T:TypeId) (g off n x:Nat) (cap:Nat) (w:World) (hA:Arr w g T .u8 (nI l)) (hl:off+n≤l.length) (hll:l.length≤1000000) (hx:x<18446744073709551616) (hn:n≤8):
  Calls Tryz.prog 182 #[.slice (some ⟨g,off,none⟩) n cap, .int .u64 (x:Int)] w fun e w'=>e= .returned (.tuple #[])∧Arr w' g T .u8 (nI (spL l (beN n x) off n 0))∧Below g w w':=by
 have HL:Hid (off+n≤l.length):=hl
 have HLL:Hid (l.length≤maxLen):=by show _≤_;unfold maxLen;omega
 clear hll
 go_enter Tryz.func182,Tryz.ntmps182
 go_wp2
 go_loopw [1,4] (fun y i wr=>∃k:Nat,k≤n∧i= .int .i64 ((k:Int) - 1)∧y= .int .u64 ((x/256^(n - k):Nat):Int)∧Hid (Arr wr g T .u8 (nI (spL l (beN n x) off n k)))∧Hid (Below g w wr)) (fun _ i _=>(intOf i+1).toNat)
 case atStart=>exact ⟨n,Nat.le_refl _,by go_num,by simp,by rw [ZnF (ZdO n x) HL.out];exact hA,Below.refl _ _⟩
 case round=>
  obtain ⟨k,hk,rfl,rfl,HA,HB⟩:=hrel
  by_cases h0:k=0
  ·subst h0
   go_wp2
   go_end0
   exact ⟨rfl,HA.out,HB.out⟩
  ·obtain ⟨j,rfl⟩:∃j,k=j+1:=⟨k - 1,by omega⟩
   have hlen:=ZnE (ZdO n x) HL.out hk
   have hc:=HA.out.cell (off+j) (by rw [Zaa,hlen];have:=HL.out;omega)
   have hf:=HA.out.unfrozen (off+j)
   have HN:Hid (Arr (wr.setCell ⟨g,off+j,none⟩ (.int .u8 ((x/256^(n - (j+1))%256:Nat):Int))) g T .u8 (nI (spL l (beN n x) off n j))):=by
    show Arr _ _ _ _ _
    have:=HA.out.set (by rw [Zaa,hlen];exact HLL.out) (off+j) ((x/256^(n - (j+1))%256:Nat):Int)
    rw [ZbH,show n - (j+1)=n - 1 - j from by omega, ←ZfX n x j (by omega),ZnG (ZdO n x) HL.out (by omega)] at this
    rw [show n - (j+1)=n - 1 - j from by omega, ←ZfX n x j (by omega)]
    exact this
   have HS:Hid (x/256^(n - j)=x/256^(n - (j+1))/256):=by
    show _=_
    rw [show n - j=n - (j+1)+1 from by omega,Nat.pow_succ,Nat.div_div_eq_div_mul]
   have hxl:x/256^(n - (j+1))≤x:=Nat.div_le_self _ _
   generalize x/256^(n - (j+1))=y at*
   generalize (nI (spL l (beN n x) off n (j+1)))[off+j]?.getD 0=c0 at*
   have e1:((j+1:Nat):Int) - 1=(j:Int):=by omega
   rw [e1]
   have hjn:(j:Int)<(n:Int):=by omega
   clear hlen
   go_wp2
   go_roundw
   case rel=>exact ⟨j,by omega,by go_num,by rw [HS.out];go_num,by rw [show ((y:Int)%256)=((y%256:Nat):Int) from by omega];exact HN,HB.out.setCell (Nat.le_refl _) _⟩
   case measure=>simp [intOf]
theorem Zhg (n m:Nat) (hm:Zas n=m):spL (128::List.replicate (m+8) 0) (beN 8 (8*n)) (1+m) 8 0=padL n:=by
 unfold spL padL
 rw [ZfW,hm,List.drop_zero,Nat.add_zero,Nat.add_comm 1 m,List.take_succ_cons,List.take_replicate,Nat.min_eq_left (by omega),show m+1+8=(m+8)+1 from by omega,List.drop_succ_cons,List.drop_replicate,Nat.sub_self]
 simp
theorem Zhh (x:Nat) (n:Nat):(List.replicate (n+1) 0).set 0 x=x::List.replicate n 0:=by rw [List.replicate_succ,List.set_cons_zero]
set_option maxHeartbeats 1600000 in
theorem Zhi (n:Nat) (w:World) (hn:n<1000000000000):Calls Tryz.prog 139 #[.int .u64 (n:Int)] w fun e w'=>
  ∃v,e= .returned v∧w'.ownsRow w.heap.size 5 1 v (Zas n+9) ((nI (padL n)).map (Value.int .u8))∧Below w.heap.size w w':=by
 obtain ⟨i0,hi0,hz0,hz1,hz2⟩:=info_parts Tryz.info5
 obtain ⟨m,hm⟩:∃m,Zas n=m:=⟨_,rfl⟩
 have hm64:m<64:=by rw [←hm];exact ZdJ n
 have hmm:(119 - n%64)%64=m:=hm
 have HM:Hid (Zas n=m):=hm
 clear hm
 have hmax:m+9≤maxLen:=by unfold maxLen;omega
 have hmk:∀w1:World,w1.ownsRow w.heap.size 5 1 (.slice (some ⟨w.heap.size,0,none⟩) (m+9) (m+9)) (m+9) (madeCells (Value.int IntKind.u8 0).cells ((m+9)*1)).toList→w.grownBy w1 none→
   Arr w1 w.heap.size 5 .u8 (nI (List.replicate (m+8+1) 0))∧Below w.heap.size w w1:=fun w1 h1 h2=>by
  refine ⟨?_,(Below.refl _ _).grown h2 (Nat.le_refl _) (by simp)⟩
  rw [ZfP] at h1
  have:=Ze0 h1
  unfold Arr
  rw [this]
  simp [nI]
 have e1:(n:Int)%64=((n%64:Nat):Int):=by omega
 have hu:n%64<64:=Nat.mod_lt _ (by decide)
 have HP:Hid (spL (128::List.replicate (m+8) 0) (beN 8 (8*n)) (1+m) 8 0=padL n):=Zhg n m HM.out
 generalize n%64=u at*
 have e2:((119:Int) - (u:Int))%64=(m:Int):=by omega
 have e2t:((119:Int) - (u:Int)).tmod 64=(m:Int):=by rw [Int.tmod_eq_emod_of_nonneg (by omega)];exact e2
 go_enter Tryz.func139,Tryz.ntmps139
 go_wp2_with (at_make;refine wpList_make_full _ rfl _ _ 28 rfl w.heap.size 5 i0 (.int .u8 0) 1 Tryz.underlying28 hi0 hz0 hz1 _ _ _ _ (m+9) rfl rfl (by omega) (by omega) (by rw [hz2];omega) hmax (Nat.le_refl _) ?_;intro w1 hown1 hgrow1;obtain ⟨A1,q1⟩:=hmk w1 hown1 hgrow1;have hc0:=A1.cell 0 (by rw [Zaa,List.length_replicate];omega);have hf0:=A1.unfrozen 0;clear hown1 hgrow1)
 rw [show m+9 - (1+m)=8 from by omega,show (n:Int)*8=((8*n:Nat):Int) from by omega]
 replace A1:=A1.set (by rw [Zaa,List.length_replicate];unfold maxLen;omega) 0 ((128:Nat):Int)
 rw [ZbH,Zhh] at A1
 replace q1:=q1.setCell (p:=⟨w.heap.size,0,none⟩) (Nat.le_refl _) (.int .u8 128)
 change Calls Tryz.prog _ _ (w1.setCell ⟨w.heap.size,0,none⟩ (.int .u8 ((128:Nat):Int))) _
 refine (Zjy (128::List.replicate (m+8) 0) 5 w.heap.size (1+m) 8 (8*n) 8 _ A1 (by simp;omega) (by simp;omega) (by omega) (by decide)).mono ?_
 rintro e w2 ⟨rfl,A2,q2⟩
 rw [HP.out] at A2
 clear A1 hc0 hf0
 have hlen:(nI (padL n)).length=m+9:=by rw [Zaa,ZfJ,HM.out]
 have own:=A2.own (by rw [hlen];exact hmax)
 rw [hlen, ←HM.out] at own
 rw [←HM.out]
 clear hlen
 go_wp2
 go_ret
 exact ⟨_,rfl,own,q1.trans q2⟩
set_option maxHeartbeats 1600000 in
theorem ZnH (n:Nat) (w:World) (h0:0<n) (hn:n≤1000000):Calls Tryz.prog 181 #[.slice none 0 0, .int .i64 (n:Int)] w fun e w'=>
  ∃v,e= .returned v∧w'.ownsRow w.heap.size 5 1 v 0 []∧Below w.heap.size w w':=by
 obtain ⟨i0,hi0,hz0,hz1,hz2⟩:=info_parts Tryz.info5
 have hrun:=Lib.run_append_nil_zeros w 28 3 28 5 i0 (.int .u8 0) .i64 .i64 Tryz.underlying28 Tryz.underlying3 hi0 hz0 n h0 (by rw [hz1];decide) (by omega) (by rw [hz2];omega)
 have hge:=grownCap_ge w n 0 5
 have hle:=grownCap_le_maxLen w n 0 5 (by unfold maxLen;omega)
 generalize grownCap w n 0 5=cp at*
 go_enter Tryz.func181,Tryz.ntmps181
 go_wp2_with (at_builtin;refine Lib.wpList_append_run _ rfl _ _ _ _ rfl _ _ rfl rfl _ _ hrun ?_)
 go_ret
 exact ⟨_,rfl,⟨rfl, .inr ⟨w.heap.size,cp,_,rfl,Nat.le_refl _,heap_alloc_last w _,Nat.zero_le _,hle,by simp [size_zeroCells];omega,by simp⟩⟩,(ZaS w _).drew⟩
set_option maxHeartbeats 3200000 in
theorem ZnI (z1 z2:List Nat) (a1 a2:Option Addr) (l1 c1 l2 c2 b:Nat) (w:World) (h1:Row .u8 w a1 l1 c1 (nI z1)) (h2:Row .u8 w a2 l2 c2 (nI z2)) (hb:b<w.heap.size) (hc0:w.cell? ⟨b,0,none⟩=some (.slice a1 l1 c1)) (hc1:w.cell? ⟨b,1,none⟩=some (.slice a2 l2 c2))
  (hl1:l1≤100000) (hl2:l2≤100000) (h0:0<l2):
  Calls Tryz.prog 138 #[.slice (some ⟨b,0,none⟩) 2 2] w fun e w'=>∃v,e= .returned v∧w'.ownsRow w.heap.size 5 1 v (l1+l2) ((nI (z1++z2)).map (Value.int .u8))∧Below w.heap.size w w':=by
 obtain ⟨i0,hi0,hz0,hz1,hz2⟩:=info_parts Tryz.info5
 go_enter Tryz.func138,Tryz.ntmps138
 go_wp2
 go_loop [3,11] (fun s i=>(i= .int .i64 0∧s= .int .i64 0)∨(i= .int .i64 1∧s= .int .i64 (l1:Int))∨(i= .int .i64 2∧s= .int .i64 ((l1+l2:Nat):Int))) (fun _ i=>2 - (intOf i).toNat)
 case atStart=>exact .inl ⟨rfl,rfl⟩
 case round=>
  rcases hrel with ⟨rfl,rfl⟩|⟨rfl,rfl⟩|⟨rfl,rfl⟩
  ·have p1:¬(l1:Int)<0:=by omega
   go_wp2
   go_round
   case rel=>exact .inr (.inl ⟨rfl,rfl⟩)
   case measure=>decide
  ·have p1:¬(l1:Int)+(l2:Int)<0:=by omega
   go_wp2
   go_round
   case rel=>exact .inr (.inr ⟨rfl,by go_num⟩)
   case measure=>decide
  ·go_wp2_with fail
   refine (ZnH (l1+l2) w (by omega) (by omega)).mono ?_
   rintro e w1 ⟨v,rfl,own1,q1⟩
   go_wp2
   go_loopw [6,27] (fun v i wr=>((i= .int .i64 0∧Hid (wr.ownsRow w.heap.size 5 1 v 0 []))∨(i= .int .i64 1∧Hid (wr.ownsRow w.heap.size 5 1 v l1 ((nI z1).map (Value.int .u8))))∨(i= .int .i64 2∧Hid (wr.ownsRow w.heap.size 5 1 v (l1+l2) ((nI (z1++z2)).map (Value.int .u8)))))∧Hid (Below w.heap.size w wr)) (fun _ i _=>2 - (intOf i).toNat)
   case atStart=>exact ⟨.inl ⟨rfl,own1⟩,q1⟩
   case round=>
    clear own1 q1
    obtain ⟨hr,HB⟩:=hrel
    have hsz:=HB.out.size
    have d0:=(HB.out.cell (p:=⟨b,0,none⟩) hb).trans hc0
    have d1:=(HB.out.cell (p:=⟨b,1,none⟩) hb).trans hc1
    rcases hr with ⟨rfl,HO⟩|⟨rfl,HO⟩|⟨rfl,HO⟩
    ·go_wp2_with (at_builtin;refine Zdn _ rfl _ _ 28 rfl w.heap.size 5 i0 (.int .u8 0) 1 Tryz.underlying28 hi0 hz0 hz1 hz2 rfl _ _ _ rfl HO.out .u8 a1 l1 c1 _ rfl (h1.below HB.out (Nat.le_refl _)) (by unfold maxLen;omega) (by omega) (by omega) ?_)
     intro v' w3 hown' hgrow
     have q3:=HB.out.grown hgrow hsz (fun k hk=>(HO.out.lt k hk).1)
     clear hgrow
     go_wp2
     go_roundw
     case rel=>exact ⟨.inr (.inl ⟨rfl,hown'⟩),q3⟩
     case measure=>decide
    ·go_wp2_with (at_builtin;refine Zdn _ rfl _ _ 28 rfl w.heap.size 5 i0 (.int .u8 0) 1 Tryz.underlying28 hi0 hz0 hz1 hz2 rfl _ _ _ rfl HO.out .u8 a2 l2 c2 _ rfl (h2.below HB.out (Nat.le_refl _)) (by unfold maxLen;omega) (by omega) (by omega) ?_)
     intro v' w3 hown' hgrow
     have q3:=HB.out.grown hgrow hsz (fun k hk=>(HO.out.lt k hk).1)
     rw [←List.map_append, ←ZbY] at hown'
     clear hgrow
     go_wp2
     go_roundw
     case rel=>exact ⟨.inr (.inr ⟨rfl,hown'⟩),q3⟩
     case measure=>decide
    ·go_wp2
     go_ret
     exact ⟨_,rfl,HO.out,HB.out⟩
end Go.Proofs.YtcaloldcihpkfaaGreatDoor

/-
 The code of layer 13 (sha256): told, Block.
-/
namespace Go.Proofs.YtcaloldcihpkfaaGreatDoor
open Go.RowKit
set_option linter.unusedVariables false
set_option maxRecDepth 8192

section
variable {P:Program} {ops:Array Oper} {Q:Exit→Act→World→Prop} {md:Region.Mode} {S:World→Prop}
theorem ZdP (S:World→Prop) {id:Nat} {a:Act} {w:World} (hm:P.follows .mixedOrders=true)
  (h:wpAnyH P .any ops Q S ops.size (Array.replicate ops.size false) a w.drew):(Code.region id ops true).wp P Q a w:=wp_region_held hm h
theorem Zbt {i:Nat} {o:Oper} {fuel:Nat} {listed:Array Bool} {a:Act} {w:World} (hr:Region.ready md ops listed=[i]) (ho:ops[i]? =some o)
  (hw:Region.wanted o (yielded ops a.tmps)=true)
  (h:∀K':Act→World→Prop,(∀a w1,S w1→wpAnyH P md ops Q S fuel (listed.setIfInBounds i true) a w1→K' a w1)→Oper.wp P o a w K' Q):
  wpAnyH P md ops Q S (fuel+1) listed a w:=by
 refine wpAnyH_all hr (by simp) fun j hj=> ?_
 simp only [List.mem_singleton] at hj
 subst hj
 refine wpOp_step ho fun K' hK=> ?_
 rw [if_pos hw]
 exact h K' fun a w1 hs hh=>hK a w1 ⟨hs,hh⟩
end
theorem ZnJ {P:Program} {o:Oper} {a:Act} {w:World} {K:Act→World→Prop} {Q:Exit→Act→World→Prop} (ty:TypeId) (x y:Operand) (ho:o.op= .store ty x y)
  (g:Nat) {k:IntKind} (ys:List Int) (hx:a.eval x= .pointer (some ⟨g,0,none⟩)) (hy:a.eval y= .agg (ys.map (Value.int k)).toArray) {T:TypeId} {zs:List Int} (hA:Arr w g T k zs) {m:Nat} (hi:(P.info? ty).map (·.size)=some m) (hl:zs.length=m) (hl2:ys.length=m)
  (h:K (a.put o.dst undef) (w.setRow g (ys.map (Value.int k)).toArray)):o.wp P a w K Q:=
 wp_store_row ty x y ho g _ hx hy T _ hA (by rw [hi];simp [hl2]) (by simp [hl,hl2]) (ZfQ k ys) h

theorem Zjz {P:Program} (t e:TypeId) (n:Nat) (hu:P.underlying t=some (.array n e)) (he:(P.info? e).map (·.size)=some 1) (b o:Nat) (kl kh:IntKind) (l h:Nat) (h1:l≤h) (h2:h≤n) (h3:l<n) (w:World):
  (Instr.sliceAt t (.pointer (some ⟨b,o,none⟩)) (some (.int kl (l:Int))) (some (.int kh (h:Int))) none).run P w= .ok (.slice (some ⟨b,o+l,none⟩) (h - l) (n - l)) w:=by
 have hal:P.arrayLen t=n:=by simp [Program.arrayLen,hu]
 have hel:P.elem t=e:=by simp [Program.elem,hu]
 obtain ⟨inf,hq,hs⟩:=Option.map_eq_some_iff.1 he
 rw [run_sliceAt_array_lh w t ⟨b,o,none⟩ (by rw [hal,hel];exact hu) kl kh (l:Int) (h:Int) (by omega) (by omega) (by rw [hal];omega)]
 rw [hal,hel]
 simp [sizeOf,typeInfo,hq,hs,slicedAt,show ¬n=l by omega,Zbc]
theorem ZjA {P:Program} (t e:TypeId) (n:Nat) (hu:P.underlying t=some (.array n e)) (he:(P.info? e).map (·.size)=some 1) (b o:Nat) (kl:IntKind) (l:Nat) (h3:l<n) (w:World):
  (Instr.sliceAt t (.pointer (some ⟨b,o,none⟩)) (some (.int kl (l:Int))) none none).run P w= .ok (.slice (some ⟨b,o+l,none⟩) (n - l) (n - l)) w:=by
 have hal:P.arrayLen t=n:=by simp [Program.arrayLen,hu]
 have hel:P.elem t=e:=by simp [Program.elem,hu]
 obtain ⟨inf,hq,hs⟩:=Option.map_eq_some_iff.1 he
 rw [run_sliceAt_array_l w t ⟨b,o,none⟩ (by rw [hal,hel];exact hu) kl (l:Int) (by omega) (by rw [hal];omega)]
 rw [hal,hel]
 simp [sizeOf,typeInfo,hq,hs,slicedAt,show ¬n=l by omega,Zbc]
theorem ZnK {P:Program} (t e:TypeId) (n:Nat) (hu:P.underlying t=some (.array n e)) (he:(P.info? e).map (·.size)=some 1) (b o:Nat) (kh:IntKind) (h:Nat) (h2:h≤n) (h3:0<n) (w:World):
  (Instr.sliceAt t (.pointer (some ⟨b,o,none⟩)) none (some (.int kh (h:Int))) none).run P w= .ok (.slice (some ⟨b,o,none⟩) h n) w:=by
 have hal:P.arrayLen t=n:=by simp [Program.arrayLen,hu]
 have hel:P.elem t=e:=by simp [Program.elem,hu]
 obtain ⟨inf,hq,hs⟩:=Option.map_eq_some_iff.1 he
 rw [run_sliceAt_array_h w t ⟨b,o,none⟩ (by rw [hal,hel];exact hu) kh (h:Int) (by omega) (by rw [hal];omega)]
 rw [hal,hel]
 simp [sizeOf,typeInfo,hq,hs,slicedAt,show ¬n=0 by omega,Zbc]
theorem ZjB {P:Program} (t e:TypeId) (n:Nat) (hu:P.underlying t=some (.array n e)) (he:(P.info? e).map (·.size)=some 1) (b o:Nat) (h3:0<n) (w:World):
  (Instr.sliceAt t (.pointer (some ⟨b,o,none⟩)) none none none).run P w= .ok (.slice (some ⟨b,o,none⟩) n n) w:=by
 have hal:P.arrayLen t=n:=by simp [Program.arrayLen,hu]
 have hel:P.elem t=e:=by simp [Program.elem,hu]
 obtain ⟨inf,hq,hs⟩:=Option.map_eq_some_iff.1 he
 rw [run_sliceAt_array_all w t ⟨b,o,none⟩ (by rw [hal,hel];exact hu)]
 rw [hal,hel]
 simp [sizeOf,typeInfo,hq,hs,slicedAt,show ¬n=0 by omega,Zbc]

def ZbJ (s:S8) (k:Nat):List Nat:=s.bytes.take (4*k)++List.replicate (32 - 4*k) 0
theorem ZfY (s:S8):s.bytes.length=32:=rfl
theorem Ze6 (s:S8) (k:Nat) (hk:k≤8):(ZbJ s k).length=32:=by simp [ZbJ,ZfY];omega
theorem Zhj (s:S8) (k:Nat) (hk:k<8):spL (ZbJ s k) (beN 4 (s.list[k]?.getD 0)) (4*k) 4 0=ZbJ s (k+1):=by
 rw [ZnD]
 rcases (show k=0∨k=1∨k=2∨k=3∨k=4∨k=5∨k=6∨k=7 by omega) with rfl|rfl|rfl|rfl|rfl|rfl|rfl|rfl<;>rfl
theorem Tryz.one5:(Tryz.prog.info? 5).map (·.size)=some 1:=by kernel_rfl
theorem Tryz.size22:(Tryz.prog.info? 22).map (·.size)=some 32:=by kernel_rfl
set_option maxHeartbeats 1600000 in
theorem Zdo (s:S8) (w:World) (hs:s.Ok):Calls Tryz.prog 140 #[.agg ((nI s.list).map (Value.int .u32)).toArray] w fun e w'=>e= .returned (.agg ((nI s.bytes).map (Value.int .u8)).toArray)∧Below w.heap.size w w':=by
 generalize hX0:((nI s.list).map (Value.int .u32)).toArray=X0
 have HL8:Hid ((nI s.list).length=8):=by show _=_;rw [Zaa];rfl
 go_enter Tryz.func140,Tryz.ntmps140
 have A1:=((Arr.new w 185 .u32 (nI s.list) X0 hX0.symm).alloc (.cells ((nI (List.replicate 32 0)).map (Value.int .u8)).toArray 22)).alloc (.cells ((nI (List.replicate 32 0)).map (Value.int .u8)).toArray 22)
 have A2:=(Arr.new (w.alloc (.cells X0 185)) 22 .u8 (nI (List.replicate 32 0)) _ rfl).alloc (.cells ((nI (List.replicate 32 0)).map (Value.int .u8)).toArray 22)
 have A3:=Arr.new ((w.alloc (.cells X0 185)).alloc (.cells ((nI (List.replicate 32 0)).map (Value.int .u8)).toArray 22)) 22 .u8 (nI (List.replicate 32 0)) _ rfl
 have q1:=ZgY w (.cells X0 185) (.cells ((nI (List.replicate 32 0)).map (Value.int .u8)).toArray 22) (.cells ((nI (List.replicate 32 0)).map (Value.int .u8)).toArray 22)
 have z1:(w.alloc (.cells X0 185)).heap.size=w.heap.size+1:=by simp
 have z2:((w.alloc (.cells X0 185)).alloc (.cells ((nI (List.replicate 32 0)).map (Value.int .u8)).toArray 22)).heap.size=w.heap.size+1+1:=by simp
 rw [z1] at A2
 rw [z2] at A3
 go_wp2_with (refine Zci rfl 185 _ rfl w.heap.size rfl A1 Tryz.underlying185 Tryz.size185 HL8.out ?_)
 clear z1 z2 A1
 go_loopw [7] (fun y wr=>∃k:Nat,k≤8∧y= .int .i64 (k:Int)∧Hid (Arr wr (w.heap.size+1+1) 22 .u8 (nI (ZbJ s k)))∧Hid (Arr wr (w.heap.size+1) 22 .u8 (nI (List.replicate 32 0)))∧Hid (Below w.heap.size w wr)) (fun y _=>8 - (intOf y).toNat)
 case atStart=>exact ⟨0,by omega,rfl,A3,A2,q1⟩
 case round=>
  clear A3 A2 q1
  obtain ⟨k,hk,rfl,HA3,HA2,HB⟩:=hrel
  by_cases hlt:k<8
  ·have hv:X0[k]? =some (.int .u32 ((s.list[k]?.getD 0:Nat):Int)):=by
    rw [←hX0, ←Za2,List.getElem?_toArray,List.getElem?_map,List.getElem?_eq_getElem (show k<(nI s.list).length by rw [HL8.out];exact hlt)]
    rfl
   have HV:Hid (X0[k]? =some (.int .u32 ((s.list[k]?.getD 0:Nat):Int))):=hv
   clear hv
   have HT:Hid (spL (ZbJ s k) (beN 4 (s.list[k]?.getD 0)) (4*k) 4 0=ZbJ s (k+1)):=Zhj s k hlt
   have hx:s.list[k]?.getD 0<4294967296:=by
    rcases (show k=0∨k=1∨k=2∨k=3∨k=4∨k=5∨k=6∨k=7 by omega) with rfl|rfl|rfl|rfl|rfl|rfl|rfl|rfl
    ·exact hs.a
    ·exact hs.b
    ·exact hs.c
    ·exact hs.d
    ·exact hs.e
    ·exact hs.f
    ·exact hs.g
    ·exact hs.h
   generalize s.list[k]?.getD 0=x at*
   have hsl:∀W,(Instr.sliceAt 22 (.pointer (some ⟨w.heap.size+1+1,0,none⟩)) (some (.int .i64 ((k:Int)*4))) (some (.int .i64 (((k:Int)+1)*4))) none).run Tryz.prog W= .ok (.slice (some ⟨w.heap.size+1+1,4*k,none⟩) 4 (32 - 4*k)) W:=fun W=>by
    rw [show (k:Int)*4=((4*k:Nat):Int) from by omega,show ((k:Int)+1)*4=((4*k+4:Nat):Int) from by omega,Zjz 22 5 32 Tryz.underlying22 Tryz.one5 _ _ .i64 .i64 (4*k) (4*k+4) (by omega) (by omega) (by omega) W,show 4*k+4 - 4*k=4 from by omega,Nat.zero_add]
   go_wp2_with (refine ZbC rfl 185 _ _ rfl X0 _ k rfl rfl Tryz.underlying185 Tryz.underlying175 Tryz.one175 hlt HV.out ?_)
   refine (Zjy (ZbJ s k) 22 (w.heap.size+1+1) (4*k) 4 x (32 - 4*k) _ HA3.out (by rw [Ze6 s k hk];omega) (by rw [Ze6 s k hk];omega) (by omega) (by decide)).mono ?_
   rintro e w3 ⟨rfl,A3,q3⟩
   rw [HT.out] at A3
   have A2:=HA2.out.below q3 (by omega)
   have q4:=HB.out.trans (q3.mono (by omega))
   clear hsl q3
   go_wp2
   go_roundw
   case rel=>exact ⟨k+1,by omega,by go_num,A3,A2,q4⟩
   case measure=>simp [intOf];omega
  ·obtain rfl:k=8:=by omega
   have A3:Arr wr (w.heap.size+1+1) 22 .u8 (nI s.bytes):=HA3.out
   have HL:Hid ((nI s.bytes).length=32):=by show _=_;rw [Zaa];rfl
   go_wp2_with (first
    | (refine Zci rfl 22 _ rfl (w.heap.size+1+1) rfl A3 Tryz.underlying22 Tryz.size22 HL.out ?_)
    | (refine ZbP rfl 22 _ _ rfl (w.heap.size+1) (nI s.bytes) rfl rfl HA2.out Tryz.size22 (by decide+kernel) HL.out ?_))
   exact bodyPost_ret (resA rfl _ _ (w.heap.size+1) rfl (HA2.out.whole _) Tryz.underlying22 Tryz.size22 HL.out) rfl ⟨rfl,below_setRow HB.out (by omega) _⟩
end Go.Proofs.YtcaloldcihpkfaaGreatDoor

/-
 The code of layer 13 (sha256): a Hash in memory: what is reckoned once, what is counted, its state and its rest.
-/
namespace Go.Proofs.YtcaloldcihpkfaaGreatDoor
open Go.RowKit
set_option linter.unusedVariables false
set_option maxRecDepth 8192

theorem Zbd {a b c:World} {row:Option Nat} (h:a.grownBy b row) (k:b.grownBy c row):a.grownBy c row:=
 ⟨k.os.trans h.os,k.tape.trans h.tape,k.output.trans h.output,Nat.le_trans h.size k.size,fun j hj hne=>(k.block j (Nat.lt_of_lt_of_le hj h.size) hne).trans (h.block j hj hne)⟩
theorem ZdQ (w:World) (h j:Nat) (v:Value):w.grownBy (w.setCell ⟨h,j,none⟩ v) (some h):=
 ⟨rfl,rfl,rfl,by simp,fun k hk hne=>Below.heap_setCell w _ v k (fun e=>hne (by rw [e]))⟩
theorem ZbQ (w:World) (h:Nat):∀(vs:List Value) (o:Nat),w.grownBy (w.setCells h o vs) (some h):=by
 intro vs
 induction vs generalizing w with
 | nil=>exact fun _=>World.grownBy.refl _ _
 | cons v r ih=>exact fun o=>Zbd (ZdQ w h o v) (ih _ (o+1))
theorem Zc3 {w w':World} (h:Option Nat) (q:Below w.heap.size w w'):w.grownBy w' h:=⟨q.os,q.tape,q.output,q.size,fun k hk _=>q.block k hk⟩
theorem Zc4 {a w:World} {h:Option Nat} (g:a.grownBy w h):a.grownBy w.drew h:=⟨g.os,g.tape,g.output,g.size,g.block⟩
theorem ZfZ {w0 w w':World} {h B:Nat} (q:Below B w0 w) (g:w.grownBy w' (some h)) (hB:B≤w.heap.size) (hh:B≤h):Below B w0 w':=
 q.grown g hB (fun k hk=>by simp only [Option.some.injEq] at hk;omega)
theorem Row.turned {k:IntKind} {w w':World} {a:Option Addr} {len cap h:Nat} {zs:List Int} (hr:Row k w a len cap zs) (hg:w.grownBy w' (some h)) (hne:0<len→∀ad,a=some ad→ad.block≠h):Row k w' a len cap zs:=by
 refine ⟨hr.hlen,hr.hcap,hr.hmax,hr.hnil,fun h0=> ?_⟩
 obtain ⟨b,off,rfl,hbs,hcell⟩:=hr.hcell h0
 have hb:some b≠some h:=fun e=>hne h0 _ rfl (by simpa using e)
 refine ⟨b,off,rfl,Nat.lt_of_lt_of_le hbs hg.size,fun i hi=> ?_⟩
 rw [World.cell?_of_block (w:=w) (hg.block b hbs hb)]
 exact hcell i hi
theorem Arr.turned {w w':World} {g h:Nat} {T:TypeId} {k:IntKind} {zs:List Int} (hA:Arr w g T k zs) (hg:w.grownBy w' (some h)) (hne:g≠h):Arr w' g T k zs:=by
 unfold Arr;rw [hg.block g hA.lt (fun e=>hne (by simpa using e))];exact hA

structure HashAt (w:World) (h:Nat) (d m:Int) (K s r:List Nat) (n:Nat):Prop where
 lt:h<w.heap.size
 th:w.there h 0 140
 c0:w.cell? ⟨h,0,none⟩=some (.int .u32 d)
 c1:w.cell? ⟨h,1,none⟩=some (.int .i32 m)
 rK:w.rangeAt h 3 ((nI K).map (Value.int .u32))
 rs:w.rangeAt h 67 ((nI s).map (Value.int .u32))
 rr:w.rangeAt h 75 ((nI r).map (Value.int .u8))
 cn:w.cell? ⟨h,139,none⟩=some (.int .u64 (n:Int))
 lK:K.length=64
 ls:s.length=8
 lr:r.length=64
theorem Zej {w w':World} {b o:Nat} {cs:List Value} (h:w.rangeAt b o cs) (e:w'.heap[b]? =w.heap[b]?):w'.rangeAt b o cs:=fun j v hv=>by
 rw [World.cell?_of_block (w:=w) e];exact h j v hv
theorem Zhk {w w':World} {b o n:Nat} (h:w.there b o n) (e:w'.heap[b]? =w.heap[b]?):w'.there b o n:=fun j hj=>by
 rw [World.cell?_of_block (w:=w) e,World.frozen?_of_block (w:=w) e];exact h j hj
theorem HashAt.same {w w':World} {h:Nat} {d m:Int} {K s r:List Nat} {n:Nat} (H:HashAt w h d m K s r n) (e:w'.heap[h]? =w.heap[h]?) (hs:w.heap.size≤w'.heap.size):HashAt w' h d m K s r n:=
 ⟨Nat.lt_of_lt_of_le H.lt hs,Zhk H.th e,(World.cell?_of_block (w:=w) e).trans H.c0,(World.cell?_of_block (w:=w) e).trans H.c1,Zej H.rK e,Zej H.rs e,Zej H.rr e,(World.cell?_of_block (w:=w) e).trans H.cn,H.lK,H.ls,H.lr⟩
theorem HashAt.below {w w':World} {h:Nat} {d m:Int} {K s r:List Nat} {n:Nat} (H:HashAt w h d m K s r n) {B:Nat} (q:Below B w w') (hB:h<B):HashAt w' h d m K s r n:=H.same (q.block h hB) q.size
theorem HashAt.drew {w:World} {h:Nat} {d m:Int} {K s r:List Nat} {n:Nat} (H:HashAt w h d m K s r n):HashAt w.drew h d m K s r n:=H.same rfl (Nat.le_refl _)
theorem HashAt.turned {w w':World} {h g:Nat} {d m:Int} {K s r:List Nat} {n:Nat} (H:HashAt w h d m K s r n) (q:w.grownBy w' (some g)) (hne:h≠g):HashAt w' h d m K s r n:=H.same (q.block h H.lt (fun e=>hne (by simpa using e))) q.size
theorem ZdR (w:World) (b o:Nat) (v:Value):w.setCells b o [v]=w.setCell ⟨b,o,none⟩ v:=rfl
theorem Zcj {w:World} {b n:Nat} (h:w.there b 0 n) (o k:Nat) (hk:o+k≤n):w.there b o k:=fun j hj=>by
 have:=h (o+j) (by omega)
 rwa [Nat.zero_add] at this
theorem Zbe {w:World} {b o j:Nat} {vs:List Value} (h:j<o∨o+vs.length≤j):(w.setCells b o vs).cell? ⟨b,j,none⟩=w.cell? ⟨b,j,none⟩:=World.cell?_setCells_out b vs o w ⟨b,j,none⟩ (fun _ _=>h)
theorem HashAt.set0 {w:World} {h:Nat} {d m:Int} {K s r:List Nat} {n:Nat} (H:HashAt w h d m K s r n) (x:Int):HashAt (w.setCell ⟨h,0,none⟩ (.int .u32 x)) h x m K s r n:=by
 rw [←ZdR]
 have lK:=H.lK;have ls:=H.ls;have lr:=H.lr
 exact ⟨Nat.lt_of_lt_of_le H.lt (ZbQ w h _ _).size,World.there_setCells H.th _ _ _,World.cell?_setCell_same _ _ _ H.c0,(Zbe (by simp)).trans H.c1,
  World.rangeAt_setCells_apart H.rK _ _ _ (by simp),World.rangeAt_setCells_apart H.rs _ _ _ (by simp),World.rangeAt_setCells_apart H.rr _ _ _ (by simp),(Zbe (by simp)).trans H.cn,lK,ls,lr⟩
theorem HashAt.set1 {w:World} {h:Nat} {d m:Int} {K s r:List Nat} {n:Nat} (H:HashAt w h d m K s r n) (x:Int):HashAt (w.setCell ⟨h,1,none⟩ (.int .i32 x)) h d x K s r n:=by
 rw [←ZdR]
 have lK:=H.lK;have ls:=H.ls;have lr:=H.lr
 exact ⟨Nat.lt_of_lt_of_le H.lt (ZbQ w h _ _).size,World.there_setCells H.th _ _ _,(Zbe (by simp)).trans H.c0,World.cell?_setCell_same _ _ _ H.c1,
  World.rangeAt_setCells_apart H.rK _ _ _ (by simp),World.rangeAt_setCells_apart H.rs _ _ _ (by simp),World.rangeAt_setCells_apart H.rr _ _ _ (by simp),(Zbe (by simp)).trans H.cn,lK,ls,lr⟩
theorem HashAt.setN {w:World} {h:Nat} {d m:Int} {K s r:List Nat} {n:Nat} (H:HashAt w h d m K s r n) (x:Nat):HashAt (w.setCell ⟨h,139,none⟩ (.int .u64 (x:Int))) h d m K s r x:=by
 rw [←ZdR]
 have lK:=H.lK;have ls:=H.ls;have lr:=H.lr
 exact ⟨Nat.lt_of_lt_of_le H.lt (ZbQ w h _ _).size,World.there_setCells H.th _ _ _,(Zbe (by simp)).trans H.c0,(Zbe (by simp)).trans H.c1,
  World.rangeAt_setCells_apart H.rK _ _ _ (by simp [Zaa];omega),World.rangeAt_setCells_apart H.rs _ _ _ (by simp [Zaa];omega),World.rangeAt_setCells_apart H.rr _ _ _ (by simp [Zaa];omega),World.cell?_setCell_same _ _ _ H.cn,lK,ls,lr⟩
theorem HashAt.setK {w:World} {h:Nat} {d m:Int} {K s r:List Nat} {n:Nat} (H:HashAt w h d m K s r n) (L:List Nat) (hL:L.length=64):HashAt (w.setCells h 3 ((nI L).map (Value.int .u32))) h d m L s r n:=by
 have lK:=H.lK;have ls:=H.ls;have lr:=H.lr
 have hl:((nI L).map (Value.int .u32)).length=64:=by rw [List.length_map,Zaa,hL]
 exact ⟨Nat.lt_of_lt_of_le H.lt (ZbQ w h _ _).size,World.there_setCells H.th _ _ _,(Zbe (by omega)).trans H.c0,(Zbe (by omega)).trans H.c1,
  World.rangeAt_setCells_same _ _ _ _ (by rw [hl];exact Zcj H.th 3 64 (by decide)),World.rangeAt_setCells_apart H.rs _ _ _ (by omega),World.rangeAt_setCells_apart H.rr _ _ _ (by omega),(Zbe (by omega)).trans H.cn,hL,ls,lr⟩
theorem HashAt.setS {w:World} {h:Nat} {d m:Int} {K s r:List Nat} {n:Nat} (H:HashAt w h d m K s r n) (L:List Nat) (hL:L.length=8):HashAt (w.setCells h 67 ((nI L).map (Value.int .u32))) h d m K L r n:=by
 have lK:=H.lK;have ls:=H.ls;have lr:=H.lr
 have hl:((nI L).map (Value.int .u32)).length=8:=by rw [List.length_map,Zaa,hL]
 exact ⟨Nat.lt_of_lt_of_le H.lt (ZbQ w h _ _).size,World.there_setCells H.th _ _ _,(Zbe (by omega)).trans H.c0,(Zbe (by omega)).trans H.c1,
  World.rangeAt_setCells_apart H.rK _ _ _ (by right;left;rw [List.length_map,Zaa,lK];decide),World.rangeAt_setCells_same _ _ _ _ (by rw [hl];exact Zcj H.th 67 8 (by decide)),World.rangeAt_setCells_apart H.rr _ _ _ (by omega),(Zbe (by omega)).trans H.cn,lK,hL,lr⟩
theorem HashAt.setR {w:World} {h:Nat} {d m:Int} {K s r:List Nat} {n:Nat} (H:HashAt w h d m K s r n) (at_:Nat) (L:List Nat) (hL:at_+L.length≤64):HashAt (w.setCells h (75+at_) ((nI L).map (Value.int .u8))) h d m K s (r.take at_++(L++r.drop (at_+L.length))) n:=by
 have lK:=H.lK;have ls:=H.ls;have lr:=H.lr
 have hl:((nI L).map (Value.int .u8)).length=L.length:=by rw [List.length_map,Zaa]
 refine ⟨Nat.lt_of_lt_of_le H.lt (ZbQ w h _ _).size,World.there_setCells H.th _ _ _,(Zbe (by omega)).trans H.c0,(Zbe (by omega)).trans H.c1,
  World.rangeAt_setCells_apart H.rK _ _ _ (by right;left;rw [List.length_map,Zaa,lK];omega),World.rangeAt_setCells_apart H.rs _ _ _ (by right;left;rw [List.length_map,Zaa,ls];omega), ?_,(Zbe (by omega)).trans H.cn,lK,ls,by simp;omega⟩
 intro j v hv
 have hj:j<64:=by have:=(List.getElem?_eq_some_iff.1 hv).1;simp [Zaa] at this;omega
 by_cases h1:j<at_
 ·rw [Zbe (by omega)]
  apply H.rr j v
  rw [ZbY,List.map_append,List.getElem?_append_left (by rw [List.length_map,Zaa,List.length_take];omega)] at hv
  rw [←hv, ←ZcC,List.map_take,List.getElem?_take,if_pos h1]
 ·by_cases h2:j<at_+L.length
  ·have hv2:((nI L).map (Value.int .u8))[j - at_]? =some v:=by
    rw [ZbY,ZbY,List.map_append,List.map_append,List.getElem?_append_right (by rw [List.length_map,Zaa,List.length_take];omega)] at hv
    rw [List.length_map,Zaa,List.length_take,Nat.min_eq_left (by omega),List.getElem?_append_left (by rw [List.length_map,Zaa];omega)] at hv
    exact hv
   have:=World.rangeAt_setCells_same w h (75+at_) ((nI L).map (Value.int .u8)) (by rw [hl];exact Zcj H.th (75+at_) L.length (by omega)) (j - at_) v hv2
   rwa [show 75+at_+(j - at_)=75+j from by omega] at this
  ·rw [Zbe (by omega)]
   apply H.rr j v
   rw [ZbY,ZbY,List.map_append,List.map_append,List.getElem?_append_right (by rw [List.length_map,Zaa,List.length_take];omega)] at hv
   rw [List.length_map,Zaa,List.length_take,Nat.min_eq_left (by omega),List.getElem?_append_right (by rw [List.length_map,Zaa];omega),List.length_map,Zaa] at hv
   rw [←hv, ←ZcN,List.map_drop,List.getElem?_drop]
   congr 1
   omega
end Go.Proofs.YtcaloldcihpkfaaGreatDoor

/-
 The code of layer 13 (sha256): what is done once (sync.Once, its lock), what is counted (sync/atomic), of a Hash.
-/
namespace Go.Proofs.YtcaloldcihpkfaaGreatDoor
open Go.RowKit
set_option linter.unusedVariables false
set_option maxRecDepth 8192

theorem ZjC (w:World):(callFunc 216 #[]).run Tryz.prog w= .ok (.value (.tuple #[])) w:=run_call_mark0 Tryz.func216 (by kernel_rfl) (by kernel_rfl) (by kernel_rfl) .disable (by kernel_rfl) w
theorem ZjD (w:World):(callFunc 218 #[]).run Tryz.prog w= .ok (.value (.tuple #[])) w:=run_call_mark0 Tryz.func218 (by kernel_rfl) (by kernel_rfl) (by kernel_rfl) .enable (by kernel_rfl) w
theorem ZnL (a:Addr) (w:World):(callFunc 219 #[.pointer (some a)]).run Tryz.prog w= .ok (.value (.tuple #[])) w:=run_call_marked Tryz.func219 (by kernel_rfl) (by kernel_rfl) (by kernel_rfl) .acquire (by kernel_rfl) a w
theorem ZnM (a:Addr) (w:World):(callFunc 221 #[.pointer (some a)]).run Tryz.prog w= .ok (.value (.tuple #[])) w:=run_call_marked Tryz.func221 (by kernel_rfl) (by kernel_rfl) (by kernel_rfl) .releaseMerge (by kernel_rfl) a w

theorem ZnN (a:Addr) (w:World) (hc:w.cell? a=some (.int .i32 0)) (hz:w.frozen? a=false):
  Calls Tryz.prog 211 #[.pointer (some a)] w fun e w'=>e= .returned (.tuple #[])∧w'=w.setCell a (.int .i32 1):=by
 have hd:=ZjC
 have he:=ZjD
 have ha:=ZnL
 have hcas:=run_call_cas_hit (P:=Tryz.prog) Tryz.func217 (by kernel_rfl) (by kernel_rfl) (by kernel_rfl) .i32 (by kernel_rfl) (y:=1) hc hz
 have hc':(w.setCell a (.int .i32 1)).cell? a=some (.int .i32 1):=World.cell?_setCell_same w a _ hc
 have hcv:=run_convert_to_unsafe (P:=Tryz.prog) (src:=249) (dst:=253) Tryz.underlying249 Tryz.underlying253 (by kernel_rfl) hc'
 go_enter Tryz.func211,Tryz.ntmps211
 go_wp2
 first|go_end0|(simp only [Exit.inBlock,Exit.then];refine bodyPost_ret (results_none rfl _ _ _) rfl ?_)|refine bodyPost_ret (results_none rfl _ _ _) rfl ?_
 exact ⟨rfl,rfl⟩
theorem ZnO (a:Addr) (w:World) (hc:w.cell? a=some (.int .i32 0)) (hz:w.frozen? a=false):
  Calls Tryz.prog 199 #[.pointer (some a)] w fun e w'=>e= .returned (.tuple #[])∧w'=w.setCell a (.int .i32 1):=by
 go_enter Tryz.func199,Tryz.ntmps199
 go_wp2_with (go_at_call 211;refine (ZnN a _ hc hz).mono ?_;rintro e w' ⟨rfl,rfl⟩)
 go_end0
 exact ⟨rfl,rfl⟩
theorem ZnP (a:Addr) (w:World) (hc:w.cell? a=some (.int .i32 1)) (hz:w.frozen? a=false):
  Calls Tryz.prog 212 #[.pointer (some a)] w fun e w'=>e= .returned (.tuple #[])∧w'=w.setCell a (.int .i32 0):=by
 have hd:=ZjC
 have he:=ZjD
 have hr:=ZnM
 have hadd:=run_call_add (P:=Tryz.prog) Tryz.func222 (by kernel_rfl) (by kernel_rfl) (by kernel_rfl) .i32 (by kernel_rfl) (y:= -1) (s:=0) hc hz (by simp [go_sem];rfl)
 have hcv:=run_convert_to_unsafe (P:=Tryz.prog) (src:=249) (dst:=253) Tryz.underlying249 Tryz.underlying253 (by kernel_rfl) hc
 go_enter Tryz.func212,Tryz.ntmps212
 go_wp2
 go_end0
 exact ⟨rfl,rfl⟩
theorem ZnQ (a:Addr) (u:FrameMode) (w:World) (hc:w.cell? a=some (.int .i32 1)) (hz:w.frozen? a=false):
  CallsD Tryz.prog 200 #[.pointer (some a)] u w fun e u' w'=>u'=u∧(e= .returned (.tuple #[])∧w'=w.setCell a (.int .i32 0)):=by
 go_enter_d Tryz.func200,Tryz.ntmps200
 go_wp2_with (go_at_call 212;refine (ZnP a _ hc hz).mono ?_;rintro e w' ⟨rfl,rfl⟩)
 go_end0
 exact ⟨rfl,rfl⟩
theorem ZnR (a:Addr) (x:Value) (u:FrameMode) (w:World) (hc:w.cell? a=some x) (hz:w.frozen? a=false):
  CallsD Tryz.prog 201 #[.pointer (some a), .bool true] u w fun e u' w'=>u'=u∧(e= .returned (.tuple #[])∧w'=w.drew.setCell a (.int .u32 1)):=by
 have hc':w.drew.cell? a=some x:=by go_simp
 have hz':w.drew.frozen? a=false:=by go_simp
 have hst:=run_call_store (P:=Tryz.prog) Tryz.func213 (by kernel_rfl) (by kernel_rfl) (by kernel_rfl) (by kernel_rfl) (k:= .u32) (y:=1) hc' hz'
 go_enter_d Tryz.func201,Tryz.ntmps201
 go_wp2
 go_region_calls
 all_goals (go_end0;exact ⟨rfl,rfl⟩)
end Go.Proofs.YtcaloldcihpkfaaGreatDoor

/-
 The code of layer 13 (sha256): reckon, Once.Do, the count, New.
-/
namespace Go.Proofs.YtcaloldcihpkfaaGreatDoor
open Go.RowKit
set_option linter.unusedVariables false
set_option maxRecDepth 8192

theorem Zhl {P:Program} {ops:Array Oper} {rest:List Oper} {o:Oper} {a:Act} {w:World} {Q:Exit→Act→World→Prop} (hgd:o.guard=none) (ty:TypeId) (x y:Operand) (ho:o.op= .store ty x y)
  (b p:Nat) {k:IntKind} (ys:List Int) (hx:a.eval x= .pointer (some ⟨b,p,none⟩)) (hy:a.eval y= .agg (ys.map (Value.int k)).toArray) {m:Nat} (ht:w.there b p m) (hi:(P.info? ty).map (·.size)=some m) (hl:ys.length=m)
  (h:wpList P ops Q rest (a.put o.dst undef) (w.setCells b p (ys.map (Value.int k)))):wpList P ops Q (o::rest) a w:=
 wpList_store_mid hgd ty x y ho b p _ hx hy (by simpa [hl] using ht) (by rw [hi];simp [hl]) (ZfQ k ys) (by simpa using h)
theorem ZjE {P:Program} {o:Oper} {a:Act} {w:World} {K:Act→World→Prop} {Q:Exit→Act→World→Prop} (ty:TypeId) (x y:Operand) (ho:o.op= .store ty x y)
  (b p:Nat) {k:IntKind} (ys:List Int) (hx:a.eval x= .pointer (some ⟨b,p,none⟩)) (hy:a.eval y= .agg (ys.map (Value.int k)).toArray) {m:Nat} (ht:w.there b p m) (hi:(P.info? ty).map (·.size)=some m) (hl:ys.length=m)
  (h:K (a.put o.dst undef) (w.setCells b p (ys.map (Value.int k)))):o.wp P a w K Q:=
 wp_store_mid ty x y ho b p _ hx hy (by simpa [hl] using ht) (by rw [hi];simp [hl]) (ZfQ k ys) (by simpa using h)
theorem Zhm {P:Program} {a:Act} {o:Oper} {w:World} (ty:TypeId) (x:Operand) (ho:o.op= .load ty x) (b p:Nat) (hx:a.eval x= .pointer (some ⟨b,p,none⟩)) {k:IntKind} {zs:List Int} (hA:w.rangeAt b p (zs.map (Value.int k))) {n:Nat} {e:TypeId}
  (hu:P.underlying ty=some (.array n e)) {m:Nat} (hi:(P.info? ty).map (·.size)=some m) (hl:zs.length=m):(execOp a.eval o).run P w= .ok (.value (.agg (zs.map (Value.int k)).toArray)) w:=by
 unfold execOp
 simp only [ho,hx,Instr.loadAt,Instr.sureAddr,Sem.run_bind,Sem.run_pure,Result.andThen_ok,run_loadVar_mid w b p ty _ _ hA hu rfl (show (P.info? ty).map (·.size)=some (zs.map (Value.int k)).length by rw [hi];simp [hl])]
theorem ZjF {P:Program} {ops:Array Oper} {rest:List Oper} {o:Oper} {a:Act} {w:World} {Q:Exit→Act→World→Prop} (hgd:o.guard=none) (ty:TypeId) (x:Operand) (ho:o.op= .load ty x)
  (b p:Nat) (hx:a.eval x= .pointer (some ⟨b,p,none⟩)) {k:IntKind} {zs:List Int} (hA:w.rangeAt b p (zs.map (Value.int k))) {n:Nat} {e:TypeId} (hu:P.underlying ty=some (.array n e)) {m:Nat} (hi:(P.info? ty).map (·.size)=some m) (hl:zs.length=m)
  (h:wpList P ops Q rest (a.put o.dst (.agg (zs.map (Value.int k)).toArray)) w):wpList P ops Q (o::rest) a w:=
 wpList_load_mid hgd ty x ho b p hx _ _ hA hu rfl (by rw [hi];simp [hl]) h

theorem ZnS:SL.length=8:=by decide+kernel
set_option maxHeartbeats 800000 in
theorem ZnT (KX SX:List Nat) (hKX:KX.length=64) (hSX:SX.length=8) (hR:∀w,Calls Tryz.prog 175 #[] w fun e w'=>e= .returned (.agg ((nI KX).map (Value.int .u32)).toArray)∧Below w.heap.size w w') (hS:∀w,Calls Tryz.prog 176 #[] w fun e w'=>e= .returned (.agg ((nI SX).map (Value.int .u32)).toArray)∧Below w.heap.size w w')
  (w:World) (h:Nat) (d m:Int) (K s r:List Nat) (n:Nat) (H:HashAt w h d m K s r n):Calls Tryz.prog 134 #[.pointer (some ⟨h,0,none⟩)] w fun e w'=>e= .returned (.tuple #[])∧HashAt w' h d m KX SX r n∧w.grownBy w' (some h):=by
 have HKX:Hid (KX.length=64):=hKX
 have HSX:Hid (SX.length=8):=hSX
 clear hKX hSX
 go_enter Tryz.func134,Tryz.ntmps134
 go_wp2_with fail
 refine (hR _).mono ?_
 rintro e w1 ⟨rfl,q1⟩
 have H1:=H.below q1 H.lt
 have g1:w.grownBy w1 (some h):=Zc3 _ q1
 have t1:=Zcj H1.th 3 64 (by decide)
 go_wp2_with (refine Zhl rfl 184 _ _ rfl h 3 (nI KX) rfl rfl t1 Tryz.size184 (by rw [Zaa];exact HKX.out) ?_)
 have H2:=H1.setK KX HKX.out
 have g2:w.grownBy _ (some h):=Zbd g1 (ZbQ w1 h ((nI KX).map (Value.int .u32)) 3)
 generalize w1.setCells h 3 ((nI KX).map (Value.int .u32))=w2 at*
 clear H1 g1 t1 q1
 refine (hS _).mono ?_
 rintro e w3 ⟨rfl,q3⟩
 have H3:=H2.below q3 H2.lt
 have g3:w.grownBy w3 (some h):=Zbd g2 (Zc3 _ q3)
 have t3:=Zcj H3.th 67 8 (by decide)
 go_wp2_with (refine Zhl rfl 185 _ _ rfl h 67 (nI SX) rfl rfl t3 Tryz.size185 (by rw [Zaa];exact HSX.out) ?_)
 have H4:=H3.setS SX HSX.out
 have g4:w.grownBy _ (some h):=Zbd g3 (ZbQ w3 h ((nI SX).map (Value.int .u32)) 67)
 go_end0
 exact ⟨rfl,H4,g4⟩
theorem ZnU (w:World) (h:Nat) (d m:Int) (K s r:List Nat) (n:Nat) (H:HashAt w h d m K s r n):Calls Tryz.prog 134 #[.pointer (some ⟨h,0,none⟩)] w fun e w'=>e= .returned (.tuple #[])∧HashAt w' h d m KL SL r n∧w.grownBy w' (some h):=
 ZnT KL SL ZeR ZnS ZgX ZgW w h d m K s r n H
theorem Zhn (a:Addr) (d:Int) (w:World) (hc:w.cell? a=some (.int .u32 d)):Calls Tryz.prog 173 #[.pointer (some a)] w fun e w'=>e= .returned (.bool (d != 0))∧w=w':=by
 have hl:=run_call_load (P:=Tryz.prog) Tryz.func198 (by kernel_rfl) (by kernel_rfl) (by kernel_rfl) .u32 (by kernel_rfl) hc
 go_enter Tryz.func173,Tryz.ntmps173
 go_wp2
 go_ret
 exact ⟨rfl,rfl⟩
set_option maxRecDepth 100000 in
set_option maxHeartbeats 1600000 in
theorem ZnV (w:World) (h:Nat) (K s r:List Nat) (n:Nat) (H:HashAt w h 0 0 K s r n):
  Calls Tryz.prog 174 #[.pointer (some ⟨h,0,none⟩), .func (.func 134) #[.pointer (some ⟨h,0,none⟩)] #[]] w fun e w'=>e= .returned (.tuple #[])∧HashAt w' h 1 0 KL SL r n∧w.grownBy w' (some h):=by
 have hnot:∀(x:Bool) (w:World),(Op.unary .not (.bool x)).run Tryz.prog w= .ok (.bool (!x)) w:=fun _ _=>rfl
 have f0:∀ {w:World} {d m:Int} {K s r:List Nat} {n:Nat},HashAt w h d m K s r n→∀j,j<140→w.frozen? ⟨h,j,none⟩=false:=fun H j hj=>by have:=(H.th j hj).2;rwa [Nat.zero_add] at this
 have HF:Hid (∀ {w:World} {d m:Int} {K s r:List Nat} {n:Nat},HashAt w h d m K s r n→∀j,j<140→w.frozen? ⟨h,j,none⟩=false):=f0
 clear f0
 go_enter_defers Tryz.func174,Tryz.ntmps174
 go_wp2_with fail
 refine (ZnO ⟨h,1,none⟩ _ H.c1 (HF.out H 1 (by decide))).mono ?_
 rintro e w1 ⟨rfl,hw1⟩
 have H1:HashAt w1 h 0 1 K s r n:=by rw [hw1];exact H.set1 1
 have g1:w.grownBy w1 (some h):=by rw [hw1];exact ZdQ w h 1 _
 clear hw1
 go_wp2_with fail
 refine (Zhn ⟨h,0,none⟩ 0 _ H1.c0).mono ?_
 rintro e w2 ⟨rfl,rfl⟩
 go_wp2_with fail
 refine (ZnU _ h 0 1 K s r n H1).mono ?_
 rintro e w2 ⟨rfl,H2,g2⟩
 go_wp2
 refine leaves_cons (f:=201) (args:= #[.pointer (some ⟨h,0,none⟩), .bool true]) (by simp) (by simp [go_sem]) ?_
 refine (ZnR ⟨h,0,none⟩ (.int .u32 0) .returning _ H2.c0 (HF.out H2 0 (by decide))).mono ?_
 rintro e u' w3 ⟨rfl,rfl,hw3⟩
 have H3:HashAt w3 h 1 1 KL SL r n:=by rw [hw3];exact H2.drew.set0 1
 have g3:w.grownBy w3 (some h):=by rw [hw3];exact Zbd (Zc4 (Zbd g1 g2)) (ZdQ _ h 0 _)
 clear hw3
 refine leaves_cons (f:=200) (args:= #[.pointer (some ⟨h,1,none⟩)]) (by simp [settle]) (by simp [go_sem]) ?_
 refine (ZnQ ⟨h,1,none⟩ _ _ H3.c1 (HF.out H3 1 (by decide))).mono ?_
 rintro e u' w4 ⟨rfl,rfl,hw4⟩
 have H4:HashAt w4 h 1 0 KL SL r n:=by rw [hw4];exact H3.set1 0
 have g4:w.grownBy w4 (some h):=by rw [hw4];exact Zbd g3 (ZdQ _ h 1 _)
 simp [Leaves,settle,results,Tryz.results174]
 exact ⟨H4,g4⟩
set_option maxHeartbeats 800000 in
theorem ZnW (w:World) (h:Nat) (K s r:List Nat) (n:Nat) (H:HashAt w h 0 0 K s r n):
  Calls Tryz.prog 133 #[.pointer (some ⟨h,0,none⟩), .func (.func 134) #[.pointer (some ⟨h,0,none⟩)] #[]] w fun e w'=>e= .returned (.tuple #[])∧HashAt w' h 1 0 KL SL r n∧w.grownBy w' (some h):=by
 have hnot:∀(x:Bool) (w:World),(Op.unary .not (.bool x)).run Tryz.prog w= .ok (.bool (!x)) w:=fun _ _=>rfl
 go_enter Tryz.func133,Tryz.ntmps133
 go_wp2_with fail
 refine (Zhn ⟨h,0,none⟩ 0 _ H.c0).mono ?_
 rintro e w2 ⟨rfl,rfl⟩
 go_wp2_with fail
 refine (ZnV _ h K s r n H).mono ?_
 rintro e w2 ⟨rfl,H2,g2⟩
 go_wp2
 go_end0
 exact ⟨rfl,H2,g2⟩
theorem ZnX (w:World) (h:Nat) (fv:Value) (hc:w.cell? ⟨h,0,none⟩=some (.int .u32 1)):Calls Tryz.prog 133 #[.pointer (some ⟨h,0,none⟩),fv] w fun e w'=>e= .returned (.tuple #[])∧w=w':=by
 have hnot:∀(x:Bool) (w:World),(Op.unary .not (.bool x)).run Tryz.prog w= .ok (.bool (!x)) w:=fun _ _=>rfl
 go_enter Tryz.func133,Tryz.ntmps133
 go_wp2_with fail
 refine (Zhn ⟨h,0,none⟩ 1 _ hc).mono ?_
 rintro e w2 ⟨rfl,rfl⟩
 go_wp2
 go_end0
 exact ⟨rfl,rfl⟩
theorem ZnY (a:Addr) (n x:Nat) (w:World) (hc:w.cell? a=some (.int .u64 (n:Int))) (hz:w.frozen? a=false) (hb:n+x<18446744073709551616):
  Calls Tryz.prog 135 #[.pointer (some a), .int .u64 (x:Int)] w fun e w'=>e= .returned (.int .u64 ((n+x:Nat):Int))∧w'=w.setCell a (.int .u64 ((n+x:Nat):Int)):=by
 have hadd:=run_call_add (P:=Tryz.prog) Tryz.func177 (by kernel_rfl) (by kernel_rfl) (by kernel_rfl) .u64 (by kernel_rfl) (y:=(x:Int)) (s:=((n+x:Nat):Int)) hc hz (by
  have e:IntKind.u64.wrap ((n:Int)+(x:Int))=((n+x:Nat):Int):=by rw [IntKind.wrap_u64];omega
  simp [go_sem,e])
 go_enter Tryz.func135,Tryz.ntmps135
 go_wp2
 go_ret
 exact ⟨rfl,rfl⟩
theorem ZnZ (a:Addr) (n:Nat) (w:World) (hc:w.cell? a=some (.int .u64 (n:Int))):
  Calls Tryz.prog 137 #[.pointer (some a)] w fun e w'=>e= .returned (.int .u64 (n:Int))∧w=w':=by
 have hl:=run_call_load (P:=Tryz.prog) Tryz.func180 (by kernel_rfl) (by kernel_rfl) (by kernel_rfl) .u64 (by kernel_rfl) hc
 go_enter Tryz.func137,Tryz.ntmps137
 go_wp2
 go_ret
 exact ⟨rfl,rfl⟩
end Go.Proofs.YtcaloldcihpkfaaGreatDoor

/-
 The code of layer 13 (sha256): New, and what a Hash of some bytes is.
-/
namespace Go.Proofs.YtcaloldcihpkfaaGreatDoor
open Go.RowKit
set_option linter.unusedVariables false
set_option maxRecDepth 8192

theorem Zho {w:World} {b:Nat} {A B C:List Value} {T:TypeId} {fr:Nat×Nat} (h:w.heap[b]? =some (.cells (A++(B++C)).toArray T fr)) (o:Nat) (ho:o=A.length):w.rangeAt b o B:=fun j v hv=>by
 subst ho
 have hj:j<B.length:=(List.getElem?_eq_some_iff.1 hv).1
 rw [cell_of_row w b _ _ T fr h,List.getElem?_toArray,List.getElem?_append_right (by omega),show A.length+j - A.length=j from by omega,List.getElem?_append_left hj]
 exact hv
theorem Zn0:Tryz.zeroCells190=(([.int .u32 0, .int .i32 0, .int .u32 0]:List Value)++((nI (List.replicate 64 0)).map (Value.int .u32)++((nI (List.replicate 8 0)).map (Value.int .u32)++((nI (List.replicate 64 0)).map (Value.int .u8)++([.int .u64 0]:List Value))))).toArray:=by kernel_rfl
theorem Zn1 {w:World} {h:Nat} (hh:w.heap[h]? =some (.cells Tryz.zeroCells190 190 (0,0))):HashAt w h 0 0 (List.replicate 64 0) (List.replicate 8 0) (List.replicate 64 0) 0:=by
 have hsz:Tryz.zeroCells190.size=140:=by kernel_rfl
 have hc:∀j,w.cell? ⟨h,j,none⟩=Tryz.zeroCells190[j]? :=fun j=>cell_of_row w h j _ _ _ hh
 have hlt:h<w.heap.size:=by
  rcases Nat.lt_or_ge h w.heap.size with h'|h'
  ·exact h'
  ·rw [Array.getElem?_eq_none h'] at hh;simp at hh
 have c0:Tryz.zeroCells190[0]? =some (.int .u32 0):=by kernel_rfl
 have c1:Tryz.zeroCells190[1]? =some (.int .i32 0):=by kernel_rfl
 have cn:Tryz.zeroCells190[139]? =some (.int .u64 0):=by kernel_rfl
 have th:w.there h 0 140:=fun j hj=>by
  refine ⟨?_,by simp [World.frozen?,hh]⟩
  rw [hc,Nat.zero_add,Array.getElem?_eq_getElem (by rw [hsz];exact hj)]
  rfl
 rw [Zn0] at hh
 refine ⟨hlt,th,(hc 0).trans c0,(hc 1).trans c1,Zho hh 3 rfl, ?_, ?_,(hc 139).trans cn,by simp,by simp,by simp⟩
 ·rw [←List.append_assoc] at hh
  exact Zho hh 67 (by simp [nI])
 ·rw [←List.append_assoc, ←List.append_assoc] at hh
  exact Zho hh 75 (by simp [nI])
theorem Zn2 (w:World):Calls Tryz.prog 96 #[] w fun e w'=>e= .returned (.pointer (some ⟨w.heap.size,0,none⟩))∧HashAt w' w.heap.size 0 0 (List.replicate 64 0) (List.replicate 8 0) (List.replicate 64 0) 0∧Below w.heap.size w w':=by
 have hz1:=Tryz.zeroValue190
 have hz2:=Tryz.zeroCells190_ne
 have hz3:=Tryz.zeroCells190_size
 go_enter Tryz.func96,Tryz.ntmps96
 go_wp2
 go_ret
 exact ⟨rfl,Zn1 (heap_alloc_last w _),ZaS w _⟩
def Zby (D r:List Nat):Prop:=r.length=64∧r.take (D.length%64)=D.drop (64*(D.length/64))
theorem Zhp (K:List Nat) (S:S8) {D r L:List Nat} (h:Zby D r) (hm:D.length%64+L.length<64):
  Zby (D++L) (r.take (D.length%64)++(L++r.drop (D.length%64+L.length)))∧(D++L).length/64=D.length/64∧Zan K S (D++L) (D.length/64)=Zan K S D (D.length/64):=by
 have hq:(D++L).length/64=D.length/64:=by rw [List.length_append];omega
 have hr:(D++L).length%64=D.length%64+L.length:=by rw [List.length_append];omega
 obtain ⟨h1,h2⟩:=h
 refine ⟨⟨by simp;omega, ?_⟩,hq, ?_⟩
 ·rw [hq,hr, ←List.append_assoc,List.take_append_of_le_length (by simp;omega),List.take_of_length_le (by simp;omega),h2,List.drop_append_of_le_length (by omega)]
 ·apply Zea
  rw [List.take_append_of_le_length (by omega)]
theorem Zhq (K:List Nat) (S:S8) {D r L:List Nat} (h:Zby D r) (hm:D.length%64+L.length=64):
  mixL K (Zan K S D (D.length/64)) (r.take (D.length%64)++(L++r.drop (D.length%64+L.length)))=Zan K S (D++L) ((D++L).length/64)∧(D++L).length%64=0∧∀r':List Nat,r'.length=64→Zby (D++L) r':=by
 have hq:(D++L).length/64=D.length/64+1:=by rw [List.length_append];omega
 have hr:(D++L).length%64=0:=by rw [List.length_append];omega
 have hl:D.length+L.length=64*(D.length/64+1):=by omega
 obtain ⟨h1,h2⟩:=h
 refine ⟨?_,hr,fun r' h'=>⟨h', ?_⟩⟩
 ·rw [hq,Zan]
  have e1:Zan K S (D++L) (D.length/64)=Zan K S D (D.length/64):=Zea K S _ _ _ (by rw [List.take_append_of_le_length (by omega)])
  rw [e1,h2,List.drop_of_length_le (show r.length≤D.length%64+L.length by omega),List.append_nil,List.drop_append_of_le_length (by omega),List.take_of_length_le (by rw [List.length_append,List.length_drop];omega)]
 ·rw [hr,hq,List.take_zero,List.drop_of_length_le (by rw [List.length_append];omega)]
theorem ZjG {D r L:List Nat} (hr:∀x∈r,x<256) (hL:∀x∈L,x<256) (a b:Nat):∀x∈r.take a++(L++r.drop b),x<256:=fun x hx=>by
 simp only [List.mem_append] at hx
 rcases hx with h|h|h
 ·exact hr x (List.mem_of_mem_take h)
 ·exact hL x h
 ·exact hr x (List.mem_of_mem_drop h)

def OnAt (w:World) (h:Nat) (K:List Nat) (S:S8) (D:List Nat):Prop:=∃r,HashAt w h 1 0 K (Zan K S D (D.length/64)).list r D.length∧Zby D r∧∀x∈r,x<256
def HIs (w:World) (h:Nat) (K:List Nat) (S:S8) (D:List Nat):Prop:=OnAt w h K S D∨(D=[]∧HashAt w h 0 0 (List.replicate 64 0) (List.replicate 8 0) (List.replicate 64 0) 0)
theorem OnAt.same {w w':World} {h:Nat} {K:List Nat} {S:S8} {D:List Nat} (H:OnAt w h K S D) (e:w'.heap[h]? =w.heap[h]?) (hs:w.heap.size≤w'.heap.size):OnAt w' h K S D:=by
 obtain ⟨r,h1,h2⟩:=H
 exact ⟨r,h1.same e hs,h2⟩
theorem OnAt.lt {w:World} {h:Nat} {K:List Nat} {S:S8} {D:List Nat} (H:OnAt w h K S D):h<w.heap.size:=by obtain ⟨r,h1,_⟩:=H;exact h1.lt
theorem OnAt.below {w w':World} {h B:Nat} {K:List Nat} {S:S8} {D:List Nat} (H:OnAt w h K S D) (q:Below B w w') (hB:h<B):OnAt w' h K S D:=H.same (q.block h hB) q.size
theorem HIs.lt {w:World} {h:Nat} {K:List Nat} {S:S8} {D:List Nat} (H:HIs w h K S D):h<w.heap.size:=by
 rcases H with H|⟨_,H⟩
 ·exact H.lt
 ·exact H.lt
theorem HIs.below {w w':World} {h B:Nat} {K:List Nat} {S:S8} {D:List Nat} (H:HIs w h K S D) (q:Below B w w') (hB:h<B):HIs w' h K S D:=by
 rcases H with H|⟨hd,H⟩
 ·exact .inl (H.below q hB)
 ·exact .inr ⟨hd,H.below q hB⟩
theorem ZjH (w:World) (h:Nat) (D:List Nat) (H:HIs w h KL S0 D):
  Calls Tryz.prog 133 #[.pointer (some ⟨h,0,none⟩), .func (.func 134) #[.pointer (some ⟨h,0,none⟩)] #[]] w fun e w'=>e= .returned (.tuple #[])∧OnAt w' h KL S0 D∧w.grownBy w' (some h):=by
 rcases H with H|⟨rfl,H⟩
 ·obtain ⟨r,h1,h2⟩:=H
  refine (ZnX w h _ h1.c0).mono ?_
  rintro e w' ⟨rfl,rfl⟩
  exact ⟨rfl,⟨r,h1,h2⟩,World.grownBy.refl _ _⟩
 ·refine (ZnW w h _ _ _ _ H).mono ?_
  rintro e w' ⟨rfl,h1,g1⟩
  rw [←ZfN] at h1
  exact ⟨rfl,⟨_,h1,⟨by simp,rfl⟩,fun x hx=>by rw [(List.mem_replicate.1 hx).2];decide⟩,g1⟩
theorem ZjI {k:IntKind} {w:World} {a:Option Addr} {len cap:Nat} {zs:List Int} (hr:Row k w a len cap zs) (n:Nat) (hn:n≤len):∃a' c',sliced a n len cap 1= .slice a' (len - n) c'∧Row k w a' (len - n) c' (zs.drop n)∧∀ad',a'=some ad'→∃ad,a=some ad∧ad'.block=ad.block:=by
 have hl:=hr.hlen
 have hc:=hr.hcap
 have hm:=hr.hmax
 unfold sliced
 cases a with
 | none=>
  refine ⟨none,cap - n,by simp,⟨by simp [hl],by omega,by omega,fun _=>by have:=hr.hnil rfl;omega,fun h0=> ?_⟩,by simp⟩
  have:=hr.hnil rfl
  omega
 | some ad=>
  by_cases e:cap=n
  ·refine ⟨some ad,cap - n,by simp [e],⟨by simp [hl],by omega,by omega,by simp,fun h0=>by omega⟩,fun ad' h'=>⟨ad,rfl,by simp at h';rw [h']⟩⟩
  ·by_cases h0:0<len
   ·obtain ⟨b,off,hab,hbs,hcell⟩:=hr.hcell h0
    simp only [Option.some.injEq] at hab
    subst hab
    refine ⟨some ⟨b,off+n,none⟩,cap - n,by simp [e,Zbc],⟨by simp [hl],by omega,by omega,by simp,fun h1=>⟨b,off+n,rfl,hbs,fun i hi=> ?_⟩⟩,fun ad' h'=>⟨_,rfl,by simp at h';rw [←h']⟩⟩
    rw [Nat.add_assoc,hcell (n+i) (by omega),List.getElem?_drop]
   ·refine ⟨_,cap - n,by simp [e];rfl,⟨by simp [hl],by omega,by omega,by simp,fun h1=>by omega⟩,fun ad' h'=>⟨_,rfl, ?_⟩⟩
    simp only [Option.some.injEq] at h'
    rw [←h']
    obtain ⟨b,off,sp⟩:=ad
    unfold Addr.add
    split<;>simp_all
theorem Tryz.size63:(Tryz.prog.info? 63).map (·.size)=some 64:=by kernel_rfl
theorem ZjJ {P:Program} (t e:TypeId) (hu:P.underlying t=some (.slice e)) (he:(P.info? e).map (·.size)=some 1) (a:Option Addr) (len cap n:Nat) (k:IntKind) (hn:n≤len) (hc:len≤cap) (w:World):
  (Instr.sliceAt t (.slice a len cap) (some (.int k (n:Int))) none none).run P w= .ok (sliced a n len cap 1) w:=by
 have hel:P.elem t=e:=by simp [Program.elem,hu]
 obtain ⟨inf,hq,hs⟩:=Option.map_eq_some_iff.1 he
 have hu':P.underlying t=some (.slice (P.elem t)):=by rw [hel];exact hu
 rw [run_sliceAt_slice w t _ _ _ _ hu',run_slice_l w t a len cap hu' k (n:Int) (by omega) (by omega)]
 rw [hel]
 simp [sizeOf,typeInfo,hq,hs]
theorem Zf0 {P:Program} {ops:Array Oper} {rest:List Oper} {o:Oper} {a:Act} {w:World} {Q:Exit→Act→World→Prop} (hgd:o.guard=none) (ty:TypeId) (x lo:Operand) (ho:o.op= .slice ty x (some lo) none none)
  (vx vl v:Value) (hx:a.eval x=vx) (hl:a.eval lo=vl) (hr:(Instr.sliceAt ty vx (some vl) none none).run P w= .ok v w)
  (h:wpList P ops Q rest (a.put o.dst v) w):wpList P ops Q (o::rest) a w:=
 wpList_plain hgd fun _ hK=>by
  unfold Oper.wp execOp
  simp only [ho,hx,hl,Option.map_some,Option.map_none,Sem.run_bind,Sem.run_pure,Result.andThen_ok,hr]
  exact hK _ _ h
end Go.Proofs.YtcaloldcihpkfaaGreatDoor

/-
 The code of layer 13 (sha256): Write.
-/
namespace Go.Proofs.YtcaloldcihpkfaaGreatDoor
open Go.RowKit
set_option linter.unusedVariables false
set_option maxRecDepth 8192

theorem ZjK {P:Program} {a:Act} {o:Oper} {w:World} (ty:TypeId) (x:Operand) (ho:o.op= .slice ty x none none none) (vx v:Value) (hx:a.eval x=vx) (hr:(Instr.sliceAt ty vx none none none).run P w= .ok v w):(execOp a.eval o).run P w= .ok (.value v) w:=by
 unfold execOp
 simp only [ho,hx,Option.map_none,Sem.run_bind,Sem.run_pure,Result.andThen_ok,hr]
theorem HashAt.row {w:World} {h:Nat} {d m:Int} {K s r:List Nat} {n:Nat} (H:HashAt w h d m K s r n):Row .u8 w (some ⟨h,75,none⟩) 64 64 (nI r):=
 ⟨by rw [Zaa];exact H.lr,Nat.le_refl _,by decide,by simp,fun _=>⟨h,75,rfl,H.lt,fun i hi=>by
  have hl:i<(nI r).length:=by rw [Zaa,H.lr];exact hi
  apply H.rr i
  rw [List.getElem?_map,List.getElem?_eq_getElem hl]
  rfl⟩⟩
set_option maxHeartbeats 3200000 in
theorem Zn3 (K:List Nat) (S:S8) (hK:K.length=64) (hKl:∀x∈K,x<4294967296) (hSok:S.Ok)
  (hOnce:∀w h D,HIs w h K S D→Calls Tryz.prog 133 #[.pointer (some ⟨h,0,none⟩), .func (.func 134) #[.pointer (some ⟨h,0,none⟩)] #[]] w fun e w'=>e= .returned (.tuple #[])∧OnAt w' h K S D∧w.grownBy w' (some h))
  (w:World) (h:Nat) (D z:List Nat) (a:Option Addr) (len cap:Nat) (H:HIs w h K S D) (hr:Row .u8 w a len cap (nI z)) (hz:∀x∈z,x<256) (hne:0<len→∀ad,a=some ad→ad.block≠h) (hb:D.length+len<1000000000000):
  Calls Tryz.prog 97 #[.pointer (some ⟨h,0,none⟩), .slice a len cap] w fun e w'=>e= .returned (.int .i64 0)∧OnAt w' h K S (D++z)∧w.grownBy w' (some h):=by
 have hmf:∀(fn:Fn) (first cap:Array Value) (w:World),(Instr.makeFunc fn first cap).run Tryz.prog w= .ok (.func fn first cap) w:=fun _ _ _ _=>rfl
 have HLz:Hid (z.length=len):=by have:=hr.hlen;rw [Zaa] at this;exact this
 have HK:Hid (K.length=64):=hK
 have HKl:Hid (∀x∈K,x<4294967296):=hKl
 have HZ:Hid (∀x∈z,x<256):=hz
 clear hK hKl hz
 go_enter Tryz.func97,Tryz.ntmps97
 go_wp2_with fail
 refine (hOnce _ h D H).mono ?_
 rintro e w1 ⟨rfl,H1,g1⟩
 clear hOnce H hmf
 replace hr:=hr.turned g1 hne
 obtain ⟨r1,A1,R1,B1⟩:=H1
 have f1:=(A1.th 139 (by decide)).2
 rw [Nat.zero_add] at f1
 go_wp2_with fail
 refine (ZnY ⟨h,139,none⟩ D.length len _ A1.cn f1 (by omega)).mono ?_
 rintro e w2 ⟨rfl,hw2⟩
 have A2:HashAt w2 h 1 0 K (Zan K S D (D.length/64)).list r1 (D.length+len):=by rw [hw2];exact A1.setN (D.length+len)
 have g2:w1.grownBy w2 (some h):=by rw [hw2];exact ZdQ w1 h 139 _
 replace hr:=hr.turned g2 hne
 replace g2:=Zbd g1 g2
 clear hw2 A1 g1 f1
 have HR1:Hid (Zby D r1∧∀x∈r1,x<256):=⟨R1,B1⟩
 have HB:Hid (D.length+len<1000000000000):=hb
 have hat:D.length%64<64:=Nat.mod_lt _ (by decide)
 have e2:(D.length:Int)%64=((D.length%64:Nat):Int):=by omega
 have e1:((D.length+len:Nat):Int) - (len:Int)=(D.length:Int):=by omega
 have HAT:Hid (D.length%64=D.length%64):=rfl
 clear R1 B1
 obtain ⟨NL,hNL⟩:∃NL,D.length+len=NL:=⟨_,rfl⟩
 rw [hNL] at A2 e1 ⊢
 obtain ⟨N,hN⟩:∃N,D.length=N:=⟨_,rfl⟩
 rw [hN] at e1 e2 hat
 obtain ⟨at0,hat0⟩:∃x,N%64=x:=⟨_,rfl⟩
 rw [hat0] at e2 hat
 have HNL:Hid (D.length+len=NL):=hNL
 have HN:Hid (D.length=N):=hN
 have HAt:Hid (N%64=at0):=hat0
 have hNLl:NL<1000000000000:=by rw [←hNL];exact hb
 have hNle:N+len=NL:=by rw [←hN];exact hNL
 clear hNL hN hat0 hb HAT
 have hNN:N≤NL∧len≤NL:=by omega
 clear hNle
 go_wp2
 clear e1 e2
 have HG2:Hid (w.grownBy w2 (some h)):=g2
 have HA2:Hid (HashAt w2 h 1 0 K (Zan K S D (D.length/64)).list r1 NL):=A2
 have HRW:Hid (Row .u8 w2 a len cap (nI z)):=hr
 have HNE:Hid (0<len→∀ad,a=some ad→ad.block≠h):=hne
 clear g2 A2 hr hne
 go_loopw [1,6] (fun b y wr=>∃(j rm at_:Nat) (a':Option Addr) (c':Nat) (r:List Nat),b= .slice a' rm c'∧y= .int .i64 (at_:Int)∧at_<64∧rm≤NL∧Hid (j+rm=len)∧Hid ((N+j)%64=at_)∧Hid (Row .u8 wr a' rm c' (nI (z.drop j)))∧Hid (0<rm→∀ad,a'=some ad→ad.block≠h)∧Hid (HashAt wr h 1 0 K (Zan K S (D++z.take j) ((D++z.take j).length/64)).list r NL)∧Hid (Zby (D++z.take j) r∧∀x∈r,x<256)∧Hid (w.grownBy wr (some h))) (fun b _ _=>match b with| .slice _ l _=>l|_=>0)
 case atStart=>exact ⟨0,len,at0,a,cap,r1,rfl,rfl,hat,hNN.2,by show 0+len=len;omega,HAt,HRW,HNE,by rw [List.take_zero,List.append_nil];exact HA2,by rw [List.take_zero,List.append_nil];exact HR1,HG2⟩
 case round=>
  clear HG2 HA2 HRW HNE HR1 HAt hat
  obtain ⟨j,rm,at_,a',c',r,rfl,rfl,hat,hrm,HJ,HAt,HR,HNE,HH,HRO,HG⟩:=hrel
  have HDl:Hid ((D++z.take j).length=N+j):=by
   show _=_
   rw [List.length_append,List.length_take,HN.out,HLz.out]
   have:=HJ.out
   omega
  by_cases h0:rm=0
  ·subst h0
   have HF:Hid (OnAt wr h K S (D++z)):=by
    have e:z.take j=z:=List.take_of_length_le (by rw [HLz.out];have:=HJ.out;omega)
    have hh:=HH.out
    have ho:=HRO.out
    rw [e] at hh ho
    refine ⟨r, ?_,ho.1,ho.2⟩
    have el:(D++z).length=NL:=by rw [List.length_append,HLz.out];exact HNL.out
    rw [el] at hh ⊢
    exact hh
   go_wp2
   go_ret
   exact ⟨rfl,HF.out,HG.out⟩
  ·obtain ⟨b,off,rfl,hbs,hcell⟩:=HR.out.hcell (by omega)
   have hbh:b≠h:=HNE.out (by omega) _ rfl
   obtain ⟨m,hm⟩:∃m:Nat,(m=rm∧at_+rm<64)∨(at_+m=64∧m≤rm):=by
    rcases Nat.lt_or_ge (at_+rm) 64 with h1|h1
    ·exact ⟨rm, .inl ⟨rfl,h1⟩⟩
    ·exact ⟨64 - at_, .inr ⟨by omega,by omega⟩⟩
   have hmr:m≤rm:=by omega
   have hm64:at_+m≤64:=by omega
   have hm0:0<m:=by omega
   have HLl:Hid (((z.drop j).take m).length=m):=by
    show _=_
    rw [List.length_take,List.length_drop,HLz.out]
    have:=HJ.out
    omega
   have hsl:∀W,(Instr.sliceAt 63 (.pointer (some ⟨h,75,none⟩)) (some (.int .i64 (at_:Int))) none none).run Tryz.prog W= .ok (.slice (some ⟨h,75+at_,none⟩) (64 - at_) (64 - at_)) W:=fun W=>ZjA 63 5 64 Tryz.underlying63 Tryz.one5 h 75 .i64 at_ hat W
   have th:=Zcj HH.out.th (75+at_) m (by omega)
   have hcp:=run_copy_cells (P:=Tryz.prog) wr 28 28 3 5 h (75+at_) (64 - at_) (64 - at_) ⟨b,off,none⟩ rm c' ((nI ((z.drop j).take m)).map (Value.int .u8)) Tryz.underlying28 Tryz.one5 (by rw [List.length_map,Zaa,HLl.out];show m=min rm (64 - at_);omega)
    (fun i v hv=>by
     rw [Zbc]
     have hi:i<m:=by have:=(List.getElem?_eq_some_iff.1 hv).1;rwa [List.length_map,Zaa,HLl.out] at this
     rw [hcell i (by omega), ←hv, ←ZcC,List.getElem?_map,List.getElem?_take,if_pos hi,List.getElem?_eq_getElem (show i<(nI (z.drop j)).length by rw [HR.out.hlen];omega)]
     rfl)
    (fun i hi=>(th i (by rwa [List.length_map,Zaa,HLl.out] at hi)).1) (fun i hi=>(th i (by rwa [List.length_map,Zaa,HLl.out] at hi)).2) (by intro v hv;obtain ⟨x,_,rfl⟩:=List.mem_map.1 hv;rfl)
   rw [List.length_map,Zaa,HLl.out] at hcp
   obtain ⟨a2,c2,hs2,row2,blk2⟩:=ZjI HR.out m hmr
   have hrest:=fun W=>ZjJ 28 5 Tryz.underlying28 Tryz.one5 (some ⟨b,off,none⟩) rm c' m .i64 hmr HR.out.hcap W
   rw [hs2] at hrest
   rw [ZcN,List.drop_drop] at row2
   have HRest:Hid (∀W,(Instr.sliceAt 28 (.slice (some ⟨b,off,none⟩) rm c') (some (.int .i64 (m:Int))) none none).run Tryz.prog W= .ok (.slice a2 (rm - m) c2) W):=hrest
   have HB2:Hid (0<rm - m→∀ad,a2=some ad→ad.block≠h):=fun _ ad hd=>by
    obtain ⟨ad',h1,h2⟩:=blk2 ad hd
    rw [h2]
    exact HNE.out (by omega) _ h1
   have gC:=ZbQ wr h ((nI ((z.drop j).take m)).map (Value.int .u8)) (75+at_)
   have HC:=HH.out.setR at_ ((z.drop j).take m) (by rw [HLl.out];exact hm64)
   replace row2:=row2.turned gC HB2.out
   have HE:Hid (z.take (j+m)=z.take j++(z.drop j).take m):=by show _=_;rw [List.take_add]
   rw [HLl.out] at HC
   have HCp:Hid (Sem.run Tryz.prog (Builtin.copy_ #[28,28] 3 #[.slice (some ⟨h,75+at_,none⟩) (64 - at_) (64 - at_), .slice (some ⟨b,off,none⟩) rm c']) wr= .ok (goInt m) (wr.setCells h (75+at_) ((nI ((z.drop j).take m)).map (Value.int .u8)))):=hcp
   clear hcp hrest hs2 blk2 th hcell
   have hcp:=HCp.out
   have e64:(at_:Int)<64:=by omega
   have HLen:Hid ((D++z.take j).length%64=at_):=by show _=_;rw [HDl.out];exact HAt.out
   have HAp:Hid (D++z.take (j+m)=D++z.take j++(z.drop j).take m):=by show _=_;rw [HE.out,List.append_assoc]
   have HL256:Hid (∀x∈(z.drop j).take m,x<256):=fun x hx=>HZ.out x (List.mem_of_mem_drop (List.mem_of_mem_take hx))
   generalize hL:(z.drop j).take m=L at*
   clear hL
   generalize wr.setCells h (75+at_) ((nI L).map (Value.int .u8))=wc at*
   have HB3:Hid (∀x∈r.take at_++(L++r.drop (at_+m)),x<256):=ZjG (D:=D) HRO.out.2 HL256.out _ _
   have gG:w.grownBy wc (some h):=Zbd HG.out gC
   have HGC:Hid (w.grownBy wc (some h)):=gG
   have HROW:Hid (Row .u8 wc a2 (rm - m) c2 (nI (z.drop (j+m)))):=row2
   clear gG gC row2 HCp
   rcases hm with ⟨rfl,hlt⟩|⟨hfull,_⟩
   ·have HNEW:=Zhp K S (L:=L) HRO.out.1 (by rw [HLen.out,HLl.out];exact hlt)
    rw [HLen.out,HLl.out, ←HAp.out] at HNEW
    have HST:Hid (HashAt wc h 1 0 K (Zan K S (D++z.take (j+m)) ((D++z.take (j+m)).length/64)).list (r.take at_++(L++r.drop (at_+m))) NL):=by
     show HashAt _ _ _ _ _ _ _ _
     rw [HNEW.2.1,HNEW.2.2]
     exact HC
    have HRN:Hid (Zby (D++z.take (j+m)) (r.take at_++(L++r.drop (at_+m)))∧∀x∈r.take at_++(L++r.drop (at_+m)),x<256):=⟨HNEW.1,HB3.out⟩
    have HA2:Hid ((N+(j+m))%64=at_+m):=by show _=_;have:=HAt.out;omega
    have HJ2:Hid (j+m+(m - m)=len):=by show _=_;have:=HJ.out;omega
    have hq:((at_:Int)+(m:Int)==64)=false:=by simp;omega
    rw [Nat.sub_self] at HROW HJ2 HB2
    clear HNEW HC HRO HH
    go_wp2_with (refine Zf0 rfl 28 _ _ rfl (.slice (some ⟨b,off,none⟩) m c') (.int .i64 (m:Int)) _ rfl rfl (HRest.out _) ?_)
    go_roundw
    case rel=>exact ⟨j+m,0,at_+m,a2,c2,_,rfl,by go_num,by omega,Nat.zero_le _,HJ2,HA2,HROW,HB2,HST,HRN,HGC⟩
    case measure=>simp only;omega
   ·have HNEW:=Zhq K S (L:=L) HRO.out.1 (by rw [HLen.out,HLl.out];exact hfull)
    rw [HLen.out,HLl.out, ←HAp.out] at HNEW
    have hq:((at_:Int)+(m:Int)==64)=true:=by simp;omega
    have HC2:Hid (HashAt wc h 1 0 K (Zan K S (D++z.take j) ((D++z.take j).length/64)).list (r.take at_++(L++r.drop (at_+m))) NL):=HC
    have HN2:=HNEW
    have HNW:Hid (_∧_):=HNEW
    clear HN2 HNEW HC
    have HOK:Hid ((Zan K S (D++z.take j) ((D++z.take j).length/64)).Ok):=ZdI hSok _ _
    go_wp2_with (refine Zf0 rfl 28 _ _ rfl (.slice (some ⟨b,off,none⟩) rm c') (.int .i64 (m:Int)) _ rfl rfl (HRest.out _) ?_)
    generalize Zan K S (D++z.take j) ((D++z.take j).length/64)=st at*
    generalize r.take at_++(L++r.drop (at_+m))=r2 at*
    have HA2:Hid ((N+(j+m))%64=0):=by show _=_;have:=HAt.out;omega
    have HJ2:Hid (j+m+(rm - m)=len):=by show _=_;have:=HJ.out;omega
    clear hcp hsl HRest HH HRO HR HNE
    have hS0:(∃s':List Nat,HashAt wc.drew h 1 0 K s' r2 NL)∧wc.grownBy wc.drew (some h):=⟨⟨_,HC2.out.drew⟩,Zc4 (World.grownBy.refl _ _)⟩
    refine ZdP (fun w'=>(∃s':List Nat,HashAt w' h 1 0 K s' r2 NL)∧wc.grownBy w' (some h)) (by kernel_rfl) ?_
    refine Zaz (rs:=[0,1,2,3,5,6,7,8,9,10,11,12]) (fuel:=5) (by kernel_rfl) (fun c d v a w h=>by cases d<;>exact h) (by kernel_rfl) hS0 (fun K' hK'=> ?_)
    refine Zah _ rfl (by rfl) rfl ?_
    go_simp
    refine Zah _ rfl (by rfl) rfl ?_
    go_simp
    refine Zad (.pointer (some ⟨h,0,none⟩)) rfl (by rfl) (fun w' hw'=> ?_) ?_
    ·go_simp
    go_simp
    refine Zad (.pointer (some ⟨h,67,none⟩)) rfl (by rfl) (fun w' hw'=> ?_) ?_
    ·go_simp
    go_simp
    refine Zah _ rfl (by rfl) rfl ?_
    go_simp
    refine Zad (.pointer (some ⟨h,0,none⟩)) rfl (by rfl) (fun w' hw'=> ?_) ?_
    ·go_simp
    go_simp
    refine Zad (.pointer (some ⟨h,75,none⟩)) rfl (by rfl) (fun w' hw'=> ?_) ?_
    ·go_simp
    go_simp
    refine Zad (.slice (some ⟨h,75,none⟩) 64 64) rfl (by rfl) (fun w' hw'=> ?_) ?_
    ·exact ZjK 63 (.tmp 53) rfl (.pointer (some ⟨h,75,none⟩)) _ rfl (ZjB 63 5 64 Tryz.underlying63 Tryz.one5 h 75 (by decide) w')
    go_simp
    refine Zah _ rfl (by rfl) rfl ?_
    go_simp
    refine Zad (.pointer (some ⟨h,0,none⟩)) rfl (by rfl) (fun w' hw'=> ?_) ?_
    ·go_simp
    go_simp
    refine Zad (.pointer (some ⟨h,3,none⟩)) rfl (by rfl) (fun w' hw'=> ?_) ?_
    ·go_simp
    go_simp
    refine Zad (.agg ((nI K).map (Value.int .u32)).toArray) rfl (by rfl) (fun w' hw'=> ?_) ?_
    ·obtain ⟨⟨s',hh⟩,_⟩:=hw'
     exact Zhm 184 _ rfl h 3 rfl hh.rK Tryz.underlying184 Tryz.size184 (by rw [Zaa];exact HK.out)
    go_simp
    refine Zac (hK'.out _ ?_)
    clear hK' K'
    refine Zbt (i:=4) (fuel:=4) (by kernel_rfl) rfl (by rfl) (fun K' hK'=> ?_)
    refine wp_load_mid 185 _ rfl h 67 rfl _ _ HC2.out.drew.rs Tryz.underlying185 rfl (by rw [Tryz.size185,List.length_map,Zaa,HC2.out.ls]) ?_
    go_simp
    refine hK' _ _ hS0 ?_
    clear hK' K'
    refine Zbt (i:=13) (fuel:=3) (by kernel_rfl) rfl (by rfl) (fun K' hK'=> ?_)
    go_simp
    refine (ZfV st K r2 (some ⟨h,75,none⟩) 64 _ HOK.out HK.out HKl.out HC2.out.drew.row HB3.out).mono ?_
    rintro e wm ⟨rfl,qm⟩
    have HM:=HC2.out.drew.below qm HC2.out.lt
    have gM:wc.grownBy wm (some h):=Zbd (Zc4 (World.grownBy.refl _ _)) (Zc3 _ qm)
    have SM:(∃s':List Nat,HashAt wm h 1 0 K s' r2 NL)∧wc.grownBy wm (some h):=⟨⟨_,HM⟩,gM⟩
    refine hK' _ _ SM ?_
    clear hK' K'
    refine Zaz (rs:=[14,15]) (fuel:=1) (by kernel_rfl) (fun c d v a w h=>by cases d<;>exact h) (by kernel_rfl) SM (fun K' hK'=> ?_)
    go_simp
    refine Zad (.pointer (some ⟨h,0,none⟩)) rfl (by rfl) (fun w' hw'=> ?_) ?_
    ·go_simp
    go_simp
    refine Zad (.pointer (some ⟨h,67,none⟩)) rfl (by rfl) (fun w' hw'=> ?_) ?_
    ·go_simp
    go_simp
    refine Zac (hK'.out _ ?_)
    clear hK' K'
    refine Zbt (i:=16) (fuel:=0) (by kernel_rfl) rfl (by rfl) (fun K' hK'=> ?_)
    refine ZjE 185 _ _ rfl h 67 (nI (mixL K st r2).list) rfl rfl (Zcj HM.th 67 8 (by decide)) Tryz.size185 (by rw [Zaa];rfl) ?_
    have HE2:=HM.setS (mixL K st r2).list rfl
    have gE:=Zbd gM (ZbQ wm h ((nI (mixL K st r2).list).map (Value.int .u32)) 67)
    generalize wm.setCells h 67 ((nI (mixL K st r2).list).map (Value.int .u32))=wE at*
    refine hK' _ _ ⟨⟨_,HE2⟩,gE⟩ ?_
    clear hK' K'
    refine wpAnyH_done (by kernel_rfl) ?_ _
    have HST:Hid (HashAt wE h 1 0 K (Zan K S (D++z.take (j+m)) ((D++z.take (j+m)).length/64)).list r2 NL):=by
     show HashAt _ _ _ _ _ _ _ _
     rw [←HNW.out.1]
     exact HE2
    have HRN:Hid (Zby (D++z.take (j+m)) r2∧∀x∈r2,x<256):=⟨HNW.out.2.2 r2 HC2.out.lr,HB3.out⟩
    have HROW2:Hid (Row .u8 wE a2 (rm - m) c2 (nI (z.drop (j+m)))):=HROW.out.turned gE HB2.out
    have HGE:Hid (w.grownBy wE (some h)):=Zbd HGC.out gE
    clear HE2 gE HM gM SM hS0 HROW HNW HC2 HGC qm
    go_wp2
    go_roundw
    case rel=>exact ⟨j+m,rm - m,0,a2,c2,r2,rfl,rfl,by omega,by omega,HJ2,HA2,HROW2,HB2,HST,HRN,HGE⟩
    case measure=>simp only;omega
end Go.Proofs.YtcaloldcihpkfaaGreatDoor

/-
 The code of layer 13 (sha256): Hash.Sum, Sum.
-/
namespace Go.Proofs.YtcaloldcihpkfaaGreatDoor
open Go.RowKit
set_option linter.unusedVariables false
set_option maxRecDepth 8192

theorem Zhr {w w1:World} {row:Option Nat} (g:w.grownBy w1 row) (b:Nat) (hb:w.heap.size≤b) (cs:Array Value):w.grownBy (w1.setRow b cs) row:=
 ⟨g.os,g.tape,g.output,by rw [size_setRow];exact g.size,fun k hk hne=>by rw [setRow_other w1 b k cs (by omega)];exact g.block k hk hne⟩
theorem ZjL {k:IntKind} {w:World} {a:Option Addr} {len cap:Nat} {zs:List Int} (hr:Row k w a len cap zs) (l m:Nat) (hm:0<m) (hl:l+m≤len):∃a',sliced a l (l+m) cap 1= .slice a' m (cap - l)∧∀w',(∀b off,a=some ⟨b,off,none⟩→w'.heap[b]? =w.heap[b]? ∧w.heap.size≤w'.heap.size)→Row k w' a' m (cap - l) ((zs.drop l).take m):=by
 obtain ⟨b,off,rfl,hbs,hcell⟩:=hr.hcell (by omega)
 have hc:=hr.hcap
 have hx:=hr.hmax
 have hlen:=hr.hlen
 refine ⟨some ⟨b,off+l,none⟩,by simp [sliced,show ¬cap=l by omega,Zbc],fun w' hw'=> ?_⟩
 obtain ⟨h1,h2⟩:=hw' b off rfl
 refine ⟨by simp;omega,by omega,by omega,by simp,fun _=>⟨b,off+l,rfl,by omega,fun i hi=> ?_⟩⟩
 rw [World.cell?_of_block (w:=w) h1,Nat.add_assoc,hcell (l+i) (by omega),List.getElem?_take,if_pos hi,List.getElem?_drop]
theorem ZjM {P:Program} (t e:TypeId) (hu:P.underlying t=some (.slice e)) (he:(P.info? e).map (·.size)=some 1) (a:Option Addr) (len cap l h:Nat) (kl kh:IntKind) (hl:l≤h) (hc:h≤cap) (w:World):
  (Instr.sliceAt t (.slice a len cap) (some (.int kl (l:Int))) (some (.int kh (h:Int))) none).run P w= .ok (sliced a l h cap 1) w:=by
 have hel:P.elem t=e:=by simp [Program.elem,hu]
 obtain ⟨inf,hq,hs⟩:=Option.map_eq_some_iff.1 he
 have hu':P.underlying t=some (.slice (P.elem t)):=by rw [hel];exact hu
 rw [run_sliceAt_slice w t _ _ _ _ hu',run_slice_lh w t a len cap hu' kl kh (l:Int) (h:Int) (by omega) (by omega) (by omega)]
 rw [hel]
 simp [sizeOf,typeInfo,hq,hs]
theorem Zn4 {P:Program} {a:Act} {o:Oper} {w:World} (ty:TypeId) (x lo hi:Operand) (ho:o.op= .slice ty x (some lo) (some hi) none) (vx vl vh v:Value) (hx:a.eval x=vx) (hl:a.eval lo=vl) (hh:a.eval hi=vh) (hr:(Instr.sliceAt ty vx (some vl) (some vh) none).run P w= .ok v w):(execOp a.eval o).run P w= .ok (.value v) w:=by
 unfold execOp
 simp only [ho,hx,hl,hh,Option.map_some,Option.map_none,Sem.run_bind,Sem.run_pure,Result.andThen_ok,hr]
theorem Ze7 {P:Program} {a:Act} {o:Oper} {w:World} (ty:TypeId) (x hi:Operand) (ho:o.op= .slice ty x none (some hi) none) (vx vh v:Value) (hx:a.eval x=vx) (hh:a.eval hi=vh) (hr:(Instr.sliceAt ty vx none (some vh) none).run P w= .ok v w):(execOp a.eval o).run P w= .ok (.value v) w:=by
 unfold execOp
 simp only [ho,hx,hh,Option.map_some,Option.map_none,Sem.run_bind,Sem.run_pure,Result.andThen_ok,hr]
theorem Zn5 (K:List Nat) (S:S8) (D r:List Nat) (h:Zby D r):(Zan K (Zan K S D (D.length/64)) (r.take (D.length%64)++padL D.length) ((D.length%64+(Zas D.length+9))/64)).bytes=sumL K S D:=by
 have h1:64*(D.length/64)≤D.length:=by omega
 have e:r.take (D.length%64)++padL D.length=(D++padL D.length).drop (64*(D.length/64)):=by rw [h.2,List.drop_append_of_le_length h1]
 have e2:Zan K S D (D.length/64)=Zan K S (D++padL D.length) (D.length/64):=Zea K S _ _ _ (by rw [List.take_append_of_le_length h1])
 unfold sumL
 rw [e,e2, ←Zi8]
 congr 2
 omega
theorem Zn6 {w:World} {base:Nat} {e:TypeId} {size:Nat} {v:Value} {n:Nat} {xs:List Value} (h:w.ownsRow base e size v n xs) (g:Nat) (hg:g<base) (cs:Array Value):(w.setRow g cs).ownsRow base e size v n xs:=by
 obtain ⟨h1,h2⟩:=h
 refine ⟨h1, ?_⟩
 rcases h2 with h2|⟨g',cap,cur,hv,hg',hh,r⟩
 ·exact .inl h2
 ·exact .inr ⟨g',cap,cur,hv,hg',by rw [setRow_other w g g' cs (by omega)];exact hh,r⟩
set_option maxHeartbeats 3200000 in
theorem Zn7 (K:List Nat) (S:S8) (hK:K.length=64) (hKl:∀x∈K,x<4294967296) (hSok:S.Ok)
  (hOnce:∀w h D,HIs w h K S D→Calls Tryz.prog 133 #[.pointer (some ⟨h,0,none⟩), .func (.func 134) #[.pointer (some ⟨h,0,none⟩)] #[]] w fun e w'=>e= .returned (.tuple #[])∧OnAt w' h K S D∧w.grownBy w' (some h))
  (w:World) (h:Nat) (D:List Nat) (H:HIs w h K S D) (hb:D.length<1000000000000):
  Calls Tryz.prog 98 #[.pointer (some ⟨h,0,none⟩)] w fun e w'=>e= .returned (.agg ((nI (sumL K S D)).map (Value.int .u8)).toArray)∧OnAt w' h K S D∧w.grownBy w' (some h):=by
 have hmf:∀(fn:Fn) (first cap:Array Value) (w:World),(Instr.makeFunc fn first cap).run Tryz.prog w= .ok (.func fn first cap) w:=fun _ _ _ _=>rfl
 have HK:Hid (K.length=64):=hK
 have HKl:Hid (∀x∈K,x<4294967296):=hKl
 clear hK hKl
 have hlt:=H.lt
 have A2:=Arr.new w 22 .u8 (nI (List.replicate 32 0)) _ rfl
 have q0:=ZaS w (.cells ((nI (List.replicate 32 0)).map (Value.int .u8)).toArray 22)
 replace H:=H.below q0 hlt
 have s0:(w.alloc (.cells ((nI (List.replicate 32 0)).map (Value.int .u8)).toArray 22)).heap.size=w.heap.size+1:=by simp
 go_enter Tryz.func98,Tryz.ntmps98
 go_wp2_with fail
 change Calls Tryz.prog _ _ (w.alloc (.cells ((nI (List.replicate 32 0)).map (Value.int .u8)).toArray 22)) _
 generalize w.alloc (.cells ((nI (List.replicate 32 0)).map (Value.int .u8)).toArray 22)=w0 at*
 refine (hOnce _ h D H).mono ?_
 rintro e w1 ⟨rfl,H1,g1⟩
 clear hOnce H hmf
 have s1:=g1.size
 replace A2:=A2.turned g1 (by omega)
 replace g1:=Zbd (Zc3 (some h) q0) g1
 clear q0
 obtain ⟨r,A1,R1⟩:=H1
 go_wp2_with fail
 refine (ZnZ ⟨h,139,none⟩ D.length _ A1.cn).mono ?_
 rintro e w1' ⟨rfl,rfl⟩
 have HOK:Hid ((Zan K S D (D.length/64)).Ok):=ZdI hSok _ _
 have HTL:Hid ((Zan K (Zan K S D (D.length/64)) (r.take (D.length%64)++padL D.length) ((D.length%64+(Zas D.length+9))/64)).bytes=sumL K S D):=Zn5 K S D r R1.1
 have HON:Hid (∀w',HashAt w' h 1 0 K (Zan K S D (D.length/64)).list r D.length→OnAt w' h K S D):=fun w' h'=>⟨r,h',R1⟩
 have hpw:=ZgL D.length
 have hnl:=ZdJ D.length
 have HR2:Hid (∀x∈r,x<256):=R1.2
 clear R1
 generalize Zan K S D (D.length/64)=st at*
 generalize hN:D.length=n at*
 clear hN
 have HLs:Hid ((nI st.list).length=8):=by show _=_;rw [Zaa];rfl
 have A4:=Arr.new w1 185 .u32 (nI (List.replicate 8 0)) _ rfl
 go_wp2_with (first
  | (refine ZjF rfl 185 _ rfl h 67 rfl A1.rs Tryz.underlying185 Tryz.size185 HLs.out ?_)
  | (refine ZbP rfl 185 _ _ rfl w1.heap.size (nI st.list) rfl rfl A4 Tryz.size185 (by decide+kernel) HLs.out ?_))
 rw [show ∀a:Act,a.put none undef=a from fun _=>rfl]
 have A4':=A4.whole (nI st.list)
 have H2:HashAt ((w1.alloc (.cells ((nI (List.replicate 8 0)).map (Value.int .u32)).toArray 185)).setRow w1.heap.size ((nI st.list).map (Value.int .u32)).toArray) h 1 0 K st.list r n:=A1.same ((setRow_other _ _ _ _ (by have:=A1.lt;omega)).trans (Below.heap_alloc _ _ _ A1.lt)) (by rw [size_setRow];simp)
 have A2':=(A2.alloc (.cells ((nI (List.replicate 8 0)).map (Value.int .u32)).toArray 185)).whole_other ((nI st.list).map (Value.int .u32)).toArray (show w.heap.size≠w1.heap.size by omega)
 have g2:=Zhr (Zbd g1 (Zc3 (some h) (ZaS w1 (.cells ((nI (List.replicate 8 0)).map (Value.int .u32)).toArray 185)))) w1.heap.size (by omega) ((nI st.list).map (Value.int .u32)).toArray
 have s2:((w1.alloc (.cells ((nI (List.replicate 8 0)).map (Value.int .u32)).toArray 185)).setRow w1.heap.size ((nI st.list).map (Value.int .u32)).toArray).heap.size=w1.heap.size+1:=by rw [size_setRow];simp
 have hlt1:=A1.lt
 change Code.wp _ _ _ _ ((w1.alloc (.cells ((nI (List.replicate 8 0)).map (Value.int .u32)).toArray 185)).setRow w1.heap.size ((nI st.list).map (Value.int .u32)).toArray)
 generalize (w1.alloc (.cells ((nI (List.replicate 8 0)).map (Value.int .u32)).toArray 185)).setRow w1.heap.size ((nI st.list).map (Value.int .u32)).toArray=w2 at*
 clear A4 A1 A2 g1
 obtain ⟨mr,hmr⟩:∃x,n%64=x:=⟨_,rfl⟩
 have HMR:Hid (n%64=mr):=hmr
 have hm64:mr<64:=by rw [←hmr];exact Nat.mod_lt _ (by decide)
 have hrem:(n:Int)%64=(mr:Int):=by rw [←hmr];omega
 rw [hmr] at HTL
 clear hmr
 refine Zju (by kernel_rfl) ?_
 refine Zaz (rs:=[0,1,2,3,4,5,6]) (fuel:=4) (by kernel_rfl) (fun c d v a w h=>by cases d<;>exact h) (by kernel_rfl) (Zao.drew _) (fun K' hK'=> ?_)
 refine Zah _ rfl (by rfl) rfl ?_
 go_simp
 refine Zad (.pointer (some ⟨h,0,none⟩)) rfl (by rfl) (fun w' hw'=> ?_) ?_
 ·go_simp
 go_simp
 refine Zad (.pointer (some ⟨h,75,none⟩)) rfl (by rfl) (fun w' hw'=> ?_) ?_
 ·go_simp
 go_simp
 refine Zah _ rfl (by rfl) rfl ?_
 go_simp
 refine Zad (.int .u64 (mr:Int)) rfl (by rfl) (fun w' hw'=> ?_) ?_
 ·go_simp
  rw [Int.tmod_eq_emod_of_nonneg (by omega)]
  exact hrem
 go_simp
 refine Zad (.slice (some ⟨h,75,none⟩) mr 64) rfl (by rfl) (fun w' hw'=> ?_) ?_
 ·exact Ze7 63 (.tmp 26) (.tmp 28) rfl (.pointer (some ⟨h,75,none⟩)) (.int .u64 (mr:Int)) _ rfl rfl (ZnK 63 5 64 Tryz.underlying63 Tryz.one5 h 75 .u64 mr (by omega) (by decide) w')
 go_simp
 refine Zah _ rfl (by rfl) rfl ?_
 go_simp
 refine Zac (hK'.out _ ?_)
 clear hK' K'
 refine Zc1 (i:=7) (fuel:=3) (by kernel_rfl) rfl (by rfl) (fun K' hK'=> ?_)
 go_simp
 refine (Zhi n _ hb).mono ?_
 rintro e w3 ⟨v3,rfl,own3,q3⟩
 obtain ⟨a3,c3,rfl,row3⟩:=ZaF own3
 clear own3
 have S3:Zao w2 w3:=Zao.trans (Zao.drew w2) q3
 refine hK' _ _ S3 ?_
 clear hK' K' q3
 refine Zc1 (i:=8) (fuel:=2) (by kernel_rfl) rfl (by rfl) (fun K' hK'=> ?_)
 have S4:Zao w3 (w3.alloc (.cells #[.slice (some ⟨h,75,none⟩) mr 64, .slice a3 (Zas n+9) c3] 28)):=ZaS _ _
 go_simp
 refine hK' _ _ S4 ?_
 clear hK' K'
 refine Zc1 (i:=9) (fuel:=1) (by kernel_rfl) rfl (by rfl) (fun K' hK'=> ?_)
 have S24:=Zao.trans S3 S4
 have hlt2:h<w2.heap.size:=H2.lt
 have H4:=H2.below S24 hlt2
 have row4:=H4.row
 have rowr:Row .u8 (w3.alloc (.cells #[.slice (some ⟨h,75,none⟩) mr 64, .slice a3 (Zas n+9) c3] 28)) (some ⟨h,75,none⟩) mr 64 (nI (r.take mr)):=by
  refine ⟨by rw [Zaa,List.length_take,H2.lr];omega,by omega,row4.hmax,by simp,fun h0=> ?_⟩
  obtain ⟨b',o',e',hb',hc'⟩:=row4.hcell (by decide)
  simp only [Option.some.injEq,Addr.mk.injEq,and_true] at e'
  obtain ⟨rfl,rfl⟩:=e'
  refine ⟨h,75,rfl,hb',fun i hi=> ?_⟩
  rw [hc' i (by omega), ←ZcC,List.getElem?_take,if_pos hi]
 have z3:(w3.alloc (.cells #[.slice (some ⟨h,75,none⟩) mr 64, .slice a3 (Zas n+9) c3] 28)).heap.size=w3.heap.size+1:=by simp
 have hs3:=S3.size
 go_simp
 refine (ZnI (r.take mr) (padL n) _ a3 mr 64 (Zas n+9) c3 w3.heap.size _ rowr (row3.below S4 (Nat.le_refl _)) (by rw [z3];omega) (by rw [World.cell?_alloc_at _ _ _ _ rfl];rfl) (by rw [World.cell?_alloc_at _ _ _ _ rfl];rfl) (by omega) (by omega) (by omega)).mono ?_
 rintro e w5 ⟨v5,rfl,own5,q5⟩
 obtain ⟨a5,c5,rfl,_⟩:=ZaF own5
 have S5:=Zao.trans S24 q5
 rw [z3] at own5
 refine hK' _ _ q5 ?_
 clear hK' K' H4 row4 rowr row3 S4 S24 q5
 refine Zaz (rs:=[10]) (fuel:=0) (by kernel_rfl) (fun c d v a w h=>by cases d<;>exact h) (by kernel_rfl) (Zao.refl _) (fun K' hK'=> ?_)
 go_simp
 refine ZaB _ rfl (by rfl) rfl ?_
 go_simp
 refine Zac (hK'.out _ ?_)
 clear hK' K'
 refine wpAnyH_done (by kernel_rfl) ?_ _
 have HH:Hid (HashAt w5 h 1 0 K st.list r n):=H2.below S5 hlt2
 have HA4:Hid (Arr w5 w1.heap.size 185 .u32 (nI st.list)):=A4'.below S5 (by omega)
 have HA2:Hid (Arr w5 w.heap.size 22 .u8 (nI (List.replicate 32 0))):=A2'.below S5 (by omega)
 have HG:Hid (w.grownBy w5 (some h)):=Zbd g2 (Zc3 _ S5)
 have HO:Hid (w5.ownsRow (w3.heap.size+1) 5 1 (.slice a5 (mr+(Zas n+9)) c5) (mr+(Zas n+9)) ((nI (r.take mr++padL n)).map (Value.int .u8))):=own5
 clear H2 A4' A2' g2 own5 S5 S3
 have HBY:Hid (∀x∈r.take mr++padL n,x<256):=fun x hx=>by
  rcases List.mem_append.1 hx with h'|h'
  ·exact HR2.out x (List.mem_of_mem_take h')
  ·exact ZfK n x h'
 have hTL:(mr+(Zas n+9))%64=0:=by have:=HMR.out;omega
 obtain ⟨TB,hTB⟩:∃TB,mr+(Zas n+9)=64*TB:=⟨(mr+(Zas n+9))/64,by omega⟩
 rw [show (mr+(Zas n+9))/64=TB from by omega] at HTL
 rw [hTB] at HO ⊢
 generalize hTl:r.take mr++padL n=tl at*
 have hTB3:TB≤3:=by omega
 have hW3:w1.heap.size<w3.heap.size+1:=by omega
 have hW:w.heap.size<w1.heap.size:=by omega
 have hW3':w.heap.size<w3.heap.size+1:=by omega
 generalize w3.heap.size+1=B at*
 clear hTl hTL hTB hpw hrem z3 hs3 hnl s2
 have HTl:Hid (tl.length=64*TB):=by show _=_;have:=HO.out.1;rw [List.length_map,Zaa] at this;simpa using this
 go_wp2
 go_loopw [6] (fun y wr=>∃k:Nat,k≤TB∧y= .int .i64 ((64*k:Nat):Int)∧Hid (Arr wr w1.heap.size 185 .u32 (nI (Zan K st tl k).list))∧Hid (HashAt wr h 1 0 K st.list r n)∧Hid (Arr wr w.heap.size 22 .u8 (nI (List.replicate 32 0)))∧Hid (wr.ownsRow B 5 1 (.slice a5 (64*TB) c5) (64*TB) ((nI tl).map (Value.int .u8)))∧Hid (w.grownBy wr (some h))) (fun y _=>64*TB - (intOf y).toNat)
 case atStart=>exact ⟨0,Nat.zero_le _,rfl,HA4,HH,HA2,HO,HG⟩
 case round=>
  clear HA4 HH HA2 HO HG
  obtain ⟨k,hk,rfl,HA4,HH,HA2,HO,HG⟩:=hrel
  have HOKk:Hid ((Zan K st tl k).Ok):=ZdI HOK.out _ _
  have HNX:Hid (mixL K (Zan K st tl k) ((tl.drop (64*k)).take 64)=Zan K st tl (k+1)):=rfl
  have hlt4:=HA4.out.lt
  by_cases hkt:k<TB
  ·obtain ⟨a6,c6,e6,row6⟩:=ZaF HO.out
   simp only [Value.slice.injEq,true_and] at e6
   obtain ⟨rfl,rfl⟩:=e6
   obtain ⟨a7,hs7,row7⟩:=ZjL row6 (64*k) 64 (by decide) (by omega)
   have hcap6:=row6.hcap
   have HWin:Hid (∀W,(Instr.sliceAt 28 (.slice a5 (64*TB) c5) (some (.int .i64 ((64*k:Nat):Int))) (some (.int .i64 ((64*k+64:Nat):Int))) none).run Tryz.prog W= .ok (.slice a7 64 (c5 - 64*k)) W):=fun W=>by
    rw [ZjM 28 5 Tryz.underlying28 Tryz.one5 a5 (64*TB) c5 (64*k) (64*k+64) .i64 .i64 (by omega) (by omega) W,hs7]
   have HRW:Hid (∀w',(∀b off,a5=some ⟨b,off,none⟩→w'.heap[b]? =wr.heap[b]? ∧wr.heap.size≤w'.heap.size)→Row .u8 w' a7 64 (c5 - 64*k) (nI ((tl.drop (64*k)).take 64))):=fun w' hw'=>by
    have:=row7 w' hw'
    rw [ZcN,ZcC] at this
    exact this
   have HW256:Hid (∀x∈(tl.drop (64*k)).take 64,x<256):=fun x hx=>HBY.out x (List.mem_of_mem_drop (List.mem_of_mem_take hx))
   clear row6 row7 hs7
   generalize (tl.drop (64*k)).take 64=zk at*
   generalize Zan K st tl k=sk at*
   have e1:((64*k:Nat):Int)+64=((64*k+64:Nat):Int):=by omega
   have HE1:Hid (((64*k:Nat):Int)+64=((64*k+64:Nat):Int)):=e1
   clear e1
   obtain ⟨p0,hp0⟩:∃p0,64*k=p0:=⟨_,rfl⟩
   have HP0:Hid (64*k=p0):=hp0
   rw [hp0] at HE1 HWin HRW ⊢
   have hp1:p0<64*TB:=by omega
   have hp2:p0≤192:=by omega
   clear hp0
   have hS0:HashAt wr.drew h 1 0 K st.list r n∧(∃ys:List Int,ys.length=8∧Arr wr.drew w1.heap.size 185 .u32 ys)∧Arr wr.drew w.heap.size 22 .u8 (nI (List.replicate 32 0))∧wr.drew.ownsRow B 5 1 (.slice a5 (64*TB) c5) (64*TB) ((nI tl).map (Value.int .u8))∧w.grownBy wr.drew (some h)∧w1.heap.size<wr.drew.heap.size:=⟨HH.out.drew,⟨_,(show (nI sk.list).length=8 by rw [Zaa];rfl),HA4.out⟩,HA2.out,HO.out,Zc4 HG.out,hlt4⟩
   go_wp2_with fail
   refine ZdP (fun w'=>HashAt w' h 1 0 K st.list r n∧(∃ys:List Int,ys.length=8∧Arr w' w1.heap.size 185 .u32 ys)∧Arr w' w.heap.size 22 .u8 (nI (List.replicate 32 0))∧w'.ownsRow B 5 1 (.slice a5 (64*TB) c5) (64*TB) ((nI tl).map (Value.int .u8))∧w.grownBy w' (some h)∧w1.heap.size<w'.heap.size) (by kernel_rfl) ?_
   refine Zaz (rs:=[1,2,3,4,5,6,7,8,9]) (fuel:=3) (by kernel_rfl) (fun c d v a w h=>by cases d<;>exact h) (by kernel_rfl) hS0 (fun K' hK'=> ?_)
   refine Zah _ rfl (by rfl) rfl ?_
   go_simp
   refine Zah _ rfl (by rfl) rfl ?_
   go_simp
   refine Zah _ rfl (by rfl) rfl ?_
   go_simp
   refine Zad (.int .i64 ((p0+64:Nat):Int)) rfl (by rfl) (fun w' hw'=> ?_) ?_
   ·go_simp
    rw [IntKind.wrap_i64]
    omega
   go_simp
   refine Zad (.slice a7 64 (c5 - p0)) rfl (by rfl) (fun w' hw'=> ?_) ?_
   ·exact Zn4 28 (.tmp 41) (.tmp 42) (.tmp 44) rfl (.slice a5 (64*TB) c5) (.int .i64 (p0:Int)) (.int .i64 ((p0+64:Nat):Int)) _ rfl rfl rfl (HWin.out w')
   go_simp
   refine Zah _ rfl (by rfl) rfl ?_
   go_simp
   refine Zad (.pointer (some ⟨h,0,none⟩)) rfl (by rfl) (fun w' hw'=> ?_) ?_
   ·go_simp
   go_simp
   refine Zad (.pointer (some ⟨h,3,none⟩)) rfl (by rfl) (fun w' hw'=> ?_) ?_
   ·go_simp
   go_simp
   refine Zad (.agg ((nI K).map (Value.int .u32)).toArray) rfl (by rfl) (fun w' hw'=> ?_) ?_
   ·exact Zhm 184 _ rfl h 3 rfl hw'.1.rK Tryz.underlying184 Tryz.size184 (by rw [Zaa];exact HK.out)
   go_simp
   refine Zac (hK'.out _ ?_)
   clear hK' K'
   refine Zbt (i:=0) (fuel:=2) (by kernel_rfl) rfl (by rfl) (fun K' hK'=> ?_)
   refine wp_load_row 185 _ rfl w1.heap.size rfl 185 _ (0,0) _ HA4.out Tryz.underlying185 rfl (by rw [Tryz.size185];simp [Zaa];rfl) ?_
   go_simp
   refine hK' _ _ hS0 ?_
   clear hK' K'
   refine Zbt (i:=10) (fuel:=1) (by kernel_rfl) rfl (by rfl) (fun K' hK'=> ?_)
   go_simp
   refine (ZfV sk K zk a7 (c5 - p0) wr.drew HOKk.out HK.out HKl.out (HRW.out wr.drew (fun b off hb'=>⟨rfl,Nat.le_refl _⟩)) HW256.out).mono ?_
   rintro e wm ⟨rfl,qm⟩
   obtain ⟨hh0,⟨ys,hy,ha0⟩,hz0,ho0,hg0,hl0⟩:=hS0
   have SM:HashAt wm h 1 0 K st.list r n∧(∃ys:List Int,ys.length=8∧Arr wm w1.heap.size 185 .u32 ys)∧Arr wm w.heap.size 22 .u8 (nI (List.replicate 32 0))∧wm.ownsRow B 5 1 (.slice a5 (64*TB) c5) (64*TB) ((nI tl).map (Value.int .u8))∧w.grownBy wm (some h)∧w1.heap.size<wm.heap.size:=⟨hh0.below qm hh0.lt,⟨ys,hy,ha0.below qm ha0.lt⟩,hz0.below qm hz0.lt,ZgV ho0 qm,Zbd hg0 (Zc3 _ qm),Nat.lt_of_lt_of_le hl0 qm.size⟩
   refine hK' _ _ SM ?_
   clear hK' K' hh0 hy ha0 hz0 ho0 hg0 hl0 qm
   obtain ⟨hh,⟨ys,hy,ha⟩,hz,ho,hg,hl⟩:=SM
   refine Zbt (i:=11) (fuel:=0) (by kernel_rfl) rfl (by rfl) (fun K' hK'=> ?_)
   refine ZnJ 185 _ _ rfl w1.heap.size (nI (mixL K sk zk).list) rfl rfl ha Tryz.size185 hy (by rw [Zaa];rfl) ?_
   have A4:=ha.whole (nI (mixL K sk zk).list)
   have H5:HashAt (wm.setRow w1.heap.size ((nI (mixL K sk zk).list).map (Value.int .u32)).toArray) h 1 0 K st.list r n:=hh.same (setRow_other _ _ _ _ (by omega)) (by rw [size_setRow];exact Nat.le_refl _)
   have A2:=hz.whole_other ((nI (mixL K sk zk).list).map (Value.int .u32)).toArray (show w.heap.size≠w1.heap.size by omega)
   have O5:=Zn6 ho w1.heap.size hW3 ((nI (mixL K sk zk).list).map (Value.int .u32)).toArray
   have G5:=Zhr hg w1.heap.size (by omega) ((nI (mixL K sk zk).list).map (Value.int .u32)).toArray
   have L5:w1.heap.size<(wm.setRow w1.heap.size ((nI (mixL K sk zk).list).map (Value.int .u32)).toArray).heap.size:=by rw [size_setRow];exact hl
   generalize wm.setRow w1.heap.size ((nI (mixL K sk zk).list).map (Value.int .u32)).toArray=wE at*
   refine hK' _ _ ⟨H5,⟨_,(show (nI (mixL K sk zk).list).length=8 by rw [Zaa];rfl),A4⟩,A2,O5,G5,L5⟩ ?_
   clear hK' K'
   refine wpAnyH_done (by kernel_rfl) ?_ _
   rw [HNX.out] at A4
   clear hh hy ha hz ho hg hl
   go_wp2
   go_roundw
   case rel=>exact ⟨k+1,by omega,by have:=HP0.out;go_num,A4,H5,A2,O5,G5⟩
   case measure=>have:=HP0.out;simp [intOf];omega
  ·obtain rfl:k=TB:=by omega
   have HLk:Hid ((nI (Zan K st tl k).list).length=8):=by show _=_;rw [Zaa];rfl
   have A4:=HA4.out
   generalize Zan K st tl k=sk at*
   go_wp2_with (refine Zci rfl 185 _ rfl w1.heap.size rfl A4 Tryz.underlying185 Tryz.size185 HLk.out ?_)
   refine (Zdo sk _ HOKk.out).mono ?_
   rintro e w6 ⟨rfl,q6⟩
   have H6:=HH.out.below q6 HH.out.lt
   have A6:=HA2.out.below q6 HA2.out.lt
   have G6:=Zbd HG.out (Zc3 _ q6)
   have HL32:Hid ((nI sk.bytes).length=32):=by show _=_;rw [Zaa];rfl
   go_wp2_with (refine ZbP rfl 22 _ _ rfl w.heap.size (nI sk.bytes) rfl rfl A6 Tryz.size22 (by decide+kernel) HL32.out ?_)
   have H7:HashAt (w6.setRow w.heap.size ((nI sk.bytes).map (Value.int .u8)).toArray) h 1 0 K st.list r n:=H6.same (setRow_other _ _ _ _ (by omega)) (by rw [size_setRow];exact Nat.le_refl _)
   exact bodyPost_ret (resA rfl _ _ w.heap.size rfl (A6.whole _) Tryz.underlying22 Tryz.size22 HL32.out) rfl ⟨by rw [HTL.out],HON.out _ H7,Zhr G6 w.heap.size (Nat.le_refl _) _⟩
theorem Zn8 (w:World) (h:Nat) (D z:List Nat) (a:Option Addr) (len cap:Nat) (H:HIs w h KL S0 D) (hr:Row .u8 w a len cap (nI z)) (hz:∀x∈z,x<256) (hne:0<len→∀ad,a=some ad→ad.block≠h) (hb:D.length+len<1000000000000):
  Calls Tryz.prog 97 #[.pointer (some ⟨h,0,none⟩), .slice a len cap] w fun e w'=>e= .returned (.int .i64 0)∧OnAt w' h KL S0 (D++z)∧w.grownBy w' (some h):=
 Zn3 KL S0 ZeR ZeS ZeT ZjH w h D z a len cap H hr hz hne hb
theorem Zn9 (w:World) (h:Nat) (D:List Nat) (H:HIs w h KL S0 D) (hb:D.length<1000000000000):
  Calls Tryz.prog 98 #[.pointer (some ⟨h,0,none⟩)] w fun e w'=>e= .returned (.agg ((nI (sumL KL S0 D)).map (Value.int .u8)).toArray)∧OnAt w' h KL S0 D∧w.grownBy w' (some h):=
 Zn7 KL S0 ZeR ZeS ZeT ZjH w h D H hb
end Go.Proofs.YtcaloldcihpkfaaGreatDoor

/-
 The code of layer 13 (sha256): Sum.
-/
namespace Go.Proofs.YtcaloldcihpkfaaGreatDoor
open Go.RowKit
set_option linter.unusedVariables false
set_option maxRecDepth 8192

set_option maxHeartbeats 1600000 in
theorem Zhs (K : List Nat) (S : S8) (hW : ∀ (w : World) (h : Nat) (D z : List Nat) (a : Option Addr) (len cap : Nat), HIs w h K S D → Row .u8 w a len cap (nI z) → (∀ x ∈ z, x < 256) → (0 < len → ∀ ad, a = some ad → ad.block ≠ h) → D.length + len < 1000000000000 →
   Calls Tryz.prog 97 #[.pointer (some ⟨h,0,none⟩), .slice a len cap] w fun e w'=>e= .returned (.int .i64 0)∧OnAt w' h K S (D++z)∧w.grownBy w' (some h))
  (hS:∀(w:World) (h:Nat) (D:List Nat),HIs w h K S D→D.length<1000000000000→Calls Tryz.prog 98 #[.pointer (some ⟨h,0,none⟩)] w fun e w'=>e= .returned (.agg ((nI (sumL K S D)).map (Value.int .u8)).toArray)∧OnAt w' h K S D∧w.grownBy w' (some h))
  (w:World) (z:List Nat) (a:Option Addr) (len cap:Nat) (hr:Row .u8 w a len cap (nI z)) (hz:∀x∈z,x<256) (hb:len<1000000000):
  Calls Tryz.prog 62 #[.slice a len cap] w fun e w'=>e= .returned (.agg ((nI (sumL K S z)).map (Value.int .u8)).toArray)∧Below w.heap.size w w':=by
 have HLz:Hid (z.length=len):=by have:=hr.hlen;rw [Zaa] at this;exact this
 have hS':=fun w h H=>hS w h z H (by rw [HLz.out];omega)
 have HL:Hid ((nI (sumL K S z)).length=32):=by show _=_;rw [Zaa];rfl
 clear hS
 generalize sumL K S z=sm at*
 have A2:=Arr.new w 22 .u8 (nI (List.replicate 32 0)) _ rfl
 have q0:=ZaS w (.cells ((nI (List.replicate 32 0)).map (Value.int .u8)).toArray 22)
 have s0:(w.alloc (.cells ((nI (List.replicate 32 0)).map (Value.int .u8)).toArray 22)).heap.size=w.heap.size+1:=by simp
 go_enter Tryz.func62,Tryz.ntmps62
 go_wp2_with fail
 change Calls Tryz.prog _ _ (w.alloc (.cells ((nI (List.replicate 32 0)).map (Value.int .u8)).toArray 22)) _
 generalize w.alloc (.cells ((nI (List.replicate 32 0)).map (Value.int .u8)).toArray 22)=w0 at*
 refine (Zn2 _).mono ?_
 rintro e w1 ⟨rfl,H1,q1⟩
 have s1:=q1.size
 rw [s0] at H1
 have hlt1:=H1.lt
 have q01:Below w.heap.size w w1:=q0.trans (q1.mono (by omega))
 replace A2:=A2.below q1 (by omega)
 have hr1:=hr.below q01 (Nat.le_refl _)
 go_wp2_with fail
 have hI:HIs w1 (w.heap.size+1) K S []:=Or.inr ⟨rfl,H1⟩
 have hN:0<len→∀ad,a=some ad→ad.block≠(w.heap.size+1):=fun h0 ad hd=>by
  obtain ⟨b,off,hab,hbs,_⟩:=hr.hcell h0
  rw [hab,Option.some.injEq] at hd
  rw [←hd]
  show b≠_
  omega
 have hLn:([]:List Nat).length+len<1000000000000:=by rw [List.length_nil];omega
 have hW':=hW w1 (w.heap.size+1) [] z a len cap hI hr1 hz hN hLn
 clear hI hN hLn hW
 refine hW'.mono ?_
 rintro e w2 ⟨rfl,H2,g2⟩
 rw [List.nil_append] at H2
 have s2:=g2.size
 replace A2:=A2.turned g2 (by omega)
 have q02:Below w.heap.size w w2:=ZfZ q01 g2 (by omega) (by omega)
 go_wp2_with fail
 refine (hS' w2 (w.heap.size+1) (.inl H2)).mono ?_
 rintro e w3 ⟨rfl,H3,g3⟩
 replace A2:=A2.turned g3 (by omega)
 have q03:Below w.heap.size w w3:=ZfZ q02 g3 (by omega) (by omega)
 clear hW' hS'
 go_wp2_with (refine ZbP rfl 22 _ _ rfl w.heap.size (nI sm) rfl rfl A2 Tryz.size22 (by decide+kernel) HL.out ?_)
 exact bodyPost_ret (resA rfl _ _ w.heap.size rfl (A2.whole _) Tryz.underlying22 Tryz.size22 HL.out) rfl ⟨rfl,below_setRow q03 (Nat.le_refl _) _⟩
theorem Zoa (w:World) (z:List Nat) (a:Option Addr) (len cap:Nat) (hr:Row .u8 w a len cap (nI z)) (hz:∀x∈z,x<256) (hb:len<1000000000):
  Calls Tryz.prog 62 #[.slice a len cap] w fun e w'=>e= .returned (.agg ((nI (sumL KL S0 z)).map (Value.int .u8)).toArray)∧Below w.heap.size w w':=
 Zhs KL S0 Zn8 Zn9 w z a len cap hr hz hb
end Go.Proofs.YtcaloldcihpkfaaGreatDoor
