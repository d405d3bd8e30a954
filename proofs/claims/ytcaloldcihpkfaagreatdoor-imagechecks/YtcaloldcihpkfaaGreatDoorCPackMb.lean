/-
 The code of layer 20 (manifest), as it landed: within, allWithin, inOrder, mayBe.
-/
import Derived.Test.YtcaloldcihpkfaaGreatDoorCPackMa
import Derived.Test.YtcaloldcihpkfaaGreatDoorMPackNa
import Derived.WalkSmall
namespace Go.Proofs.YtcaloldcihpkfaaGreatDoor.N
open Go.RowKit
set_option linter.unusedVariables false
set_option maxRecDepth 8192

theorem Zgo (n a b:Int) (w:World):Calls Tryz.prog 131 #[.int .i64 n, .int .i64 a, .int .i64 b] w fun e w'=>e= .returned (.bool (Zbf n a b))∧w=w':=by
 by_cases h:a≤n
 ·go_enter Tryz.func131,Tryz.ntmps131
  go_wp2
  go_ret
  exact ⟨ZaC (by unfold Zbf;simp [h]),rfl⟩
 ·go_enter Tryz.func131,Tryz.ntmps131
  go_wp2
  go_ret
  exact ⟨ZaC (by unfold Zbf;symm;rw [decide_eq_false_iff_not];omega),rfl⟩
def allB (z:List Int):Bool:=(List.range z.length).all fun i=>in31 (z[i]?.getD 0)
theorem Zp1 (a b c d:Int):allB [a,b,c,d]=(in31 a&&(in31 b&&(in31 c&&in31 d))):=by
 show (in31 a&&(in31 b&&(in31 c&&(in31 d&&true))))=_
 rw [Bool.and_true]
theorem Zp2 {z:List Int} {i:Nat} (hi:i<z.length) (h:in31 (z[i]?.getD 0)=false):allB z=false:=by
 cases hz:allB z
 ·rfl
 ·unfold allB at hz
  rw [List.all_eq_true.1 hz i (List.mem_range.2 hi)] at h
  cases h
theorem Zp3 {z:List Int} (h:∀i,i<z.length→in31 (z[i]?.getD 0)=true):allB z=true:=by
 unfold allB
 rw [List.all_eq_true]
 exact fun i hi=>h i (List.mem_range.1 hi)
theorem Zp4 {a:Option Addr} {n cap:Nat} {z:List Int} {w:World} (hr:Row .i64 w a n cap z):Calls Tryz.prog 99 #[.slice a n cap] w fun e w'=>e= .returned (.bool (allB z))∧w=w':=by
 have hm:=hr.hmax
 have hc:=hr.hcap
 have HL:Hid (z.length=n):=hr.hlen
 unfold maxLen at hm
 go_enter Tryz.func99,Tryz.ntmps99
 go_wp2
 go_loop [7] (fun y=>∃k:Nat,k≤n∧y= .int .i64 (k:Int)∧Hid (∀i,i<k→in31 (z[i]?.getD 0)=true)) (fun y=>n - (intOf y).toNat)
 case atStart=>exact ⟨0,Nat.zero_le _,rfl,fun i hi=>absurd hi (Nat.not_lt_zero _)⟩
 case round=>
  obtain ⟨k,hk,rfl,HK⟩:=hrel
  by_cases hlt:k<n
  ·obtain ⟨b,off,rfl,hbs,hcell⟩:=hr.hcell (by omega)
   have c1:=hcell k hlt
   have HX:∀x,x=in31 (z[k]?.getD 0)→Hid (x=in31 (z[k]?.getD 0)):=fun _ h=>h
   have hw:=fun w=>Zgo (z[k]?.getD 0) 0 2147483647 w
   cases hx:Zbf (z[k]?.getD 0) 0 2147483647
   ·have HA:Hid (allB z=false):=Zp2 (by rw [HL.out];exact hlt) hx
    rw [hx] at hw
    clear hcell HX hx
    generalize z[k]?.getD 0=x at*
    have hlt':(k:Int)<(n:Int):=by omega
    go_wp2_with fail
    refine (hw _).mono ?_
    rintro e w' ⟨rfl,rfl⟩
    go_wp2_with fail
    go_ret
    exact ⟨ZaC HA.out.symm,rfl⟩
   ·have HN:Hid (∀i,i<k+1→in31 (z[i]?.getD 0)=true):=fun i hi=>by
     rcases Nat.lt_or_ge i k with h1|h1
     ·exact HK.out i h1
     ·obtain rfl:i=k:=by omega
      exact hx
    rw [hx] at hw
    clear hcell HX hx
    generalize z[k]?.getD 0=x at*
    have hlt':(k:Int)<(n:Int):=by omega
    go_wp2_with fail
    refine (hw _).mono ?_
    rintro e w' ⟨rfl,rfl⟩
    go_wp2_with fail
    go_round
    case rel=>exact ⟨k+1,by omega,by go_num,HN⟩
    case measure=>simp [RowKit.intOf];omega
  ·obtain rfl:k=n:=by omega
   have HA:Hid (allB z=true):=Zp3 (by rw [HL.out];exact HK.out)
   go_wp2
   go_ret
   exact ⟨ZaC HA.out.symm,rfl⟩
set_option maxHeartbeats 1600000 in
theorem Zp5 {a:Option Addr} {n cap:Nat} {l:List Sg} {w:World} (hr:SegRow w a n cap l) (ho:∀s∈l,s.Ok):Calls Tryz.prog 100 #[.slice a n cap] w fun e w'=>e= .returned (.bool (okTo l n))∧Below w.heap.size w w':=by
 have hm:=hr.hmax
 have hc:=hr.hcap
 unfold maxLen at hm
 go_enter Tryz.func100,Tryz.ntmps100
 go_wp2
 go_loopw [3,8] (fun e i wr=>∃k:Nat,k≤n∧i= .int .i64 (k:Int)∧e= .int .i64 (Zb8 l k)∧Hid (okTo l k=true)∧Below w.heap.size w wr) (fun _ i _=>n - (RowKit.intOf i).toNat)
 case atStart=>exact ⟨0,Nat.zero_le _,rfl,rfl,ZjT l,Below.refl _ _⟩
 case round=>
  obtain ⟨k,hk,rfl,rfl,HO,q⟩:=hrel
  have hr':=hr.below q (Nat.le_refl _)
  have he:=Zf3 HO.out
  by_cases hlt:k<n
  ·obtain ⟨b,off,rfl,hbs,hcell⟩:=hr'.hcell (by omega)
   have hx:=hcell k hlt
   have hs:=ZcP ho k
   have HS:Hid (okTo l (k+1)=(Zbf (sgI l k).size 0 1048576&&Zbf (sgI l k).load (Zb8 l k) (2147483647 - (sgI l k).size))):=by
    show _=_
    rw [Ze9,HO.out,Bool.true_and]
    rfl
   have HF:Hid (okTo l (k+1)=false→okTo l n=false):=fun h=>by
    rw [Ze9,HO.out,Bool.true_and] at h
    exact ZjU h hlt
   have HE:Hid (Zb8 l (k+1)=(sgI l k).load+(sgI l k).size):=rfl
   clear hcell hr'
   generalize sgI l k=s at*
   generalize Zb8 l k=en at*
   have hlt':(k:Int)<(n:Int):=by omega
   have V0:=Vars.start wr
   go_wp2_with (first
    | (refine wpList_load_mid rfl 66 _ rfl b (off+k*34) rfl (sC s) _ hx Tryz.underlying66 rfl (by rw [ZbK hs];exact Tryz.szSg) ?_)
    | (refine Zai V0 5 66 rfl rfl rfl (sA sg0) ZcD ?_;intro w1 g1 V1)
    | (refine Zal V1 0 rfl _ (.tmp 11) rfl rfl rfl (sA s) rfl rfl Tryz.szSg (Zba Zb7) (Zba hs) (ZcQ s) ?_;intro w2 V2;have c0:=Zfa (V2.at 0 rfl);have c1:=Zfb (V2.at 0 rfl)))
   have q2:=Zbp q V2.bel
   have hw1:=Zgo s.size 0 1048576 w2
   cases h1:Zbf s.size 0 1048576
   ·have HN:Hid (okTo l n=false):=HF.out (by rw [HS.out,h1];rfl)
    rw [h1] at hw1
    refine hw1.mono ?_
    rintro e w' ⟨rfl,rfl⟩
    clear HS h1 HF HE
    go_wp2_with fail
    go_ret
    exact ⟨ZaC HN.out.symm,q2⟩
   ·rw [h1] at hw1
    have hb1:=Zcq h1
    refine hw1.mono ?_
    rintro e w' ⟨rfl,rfl⟩
    have hw2:=Zgo s.load en (2147483647 - s.size) w2
    have HS2:Hid (okTo l (k+1)=Zbf s.load en (2147483647 - s.size)):=by
     show _=_
     rw [HS.out,h1,Bool.true_and]
    clear HS h1
    go_wp2_with fail
    cases h2:Zbf s.load en (2147483647 - s.size)
    ·have HN:Hid (okTo l n=false):=HF.out (by rw [HS2.out,h2])
     rw [h2] at hw2
     refine hw2.mono ?_
     rintro e w' ⟨rfl,rfl⟩
     clear HS2 h2 HF HE
     go_wp2_with fail
     go_ret
     exact ⟨ZaC HN.out.symm,q2⟩
    ·have HN:Hid (okTo l (k+1)=true):=by show _=_;rw [HS2.out,h2]
     have hb2:=Zcq h2
     rw [h2] at hw2
     refine hw2.mono ?_
     rintro e w' ⟨rfl,rfl⟩
     clear HS2 h2 HF
     go_wp2_with fail
     go_roundw
     case rel=>exact ⟨k+1,by omega,by go_num,by rw [HE.out],HN,q2⟩
     case measure=>simp [RowKit.intOf];omega
  ·obtain rfl:k=n:=by omega
   go_wp2
   go_ret
   exact ⟨ZaC HO.out.symm,q⟩
set_option maxHeartbeats 1600000 in
theorem ZhZ {v s k e:Int} {a:Option Addr} {n cap:Nat} {l:List Sg} {w:World} (hr:SegRow w a n cap l) (ho:∀s∈l,s.Ok):Calls Tryz.prog 63 #[.agg #[.int .i64 v, .int .i64 s, .int .i64 k, .int .i64 e, .slice a n cap]] w fun e' w'=>e'= .returned (.bool (mayM ⟨v,s,k,e,l⟩))∧Below w.heap.size w w':=by
 have hm:=hr.hmax
 have hc:=hr.hcap
 unfold maxLen at hm
 have HM:Hid (mayM ⟨v,s,k,e,l⟩=((in31 v&&(in31 s&&(in31 k&&in31 e)))&&(decide (n≤8)&&okTo l n))):=by
  show _=_
  rw [←hr.hlen]
  rfl
 go_enter Tryz.func63,Tryz.ntmps63
 go_wp2_with fail
 have q0:=ZcZ w (.cells #[.int .i64 v, .int .i64 s, .int .i64 k, .int .i64 e, .slice a n cap] 25) (.cells #[.int .i64 v, .int .i64 s, .int .i64 k, .int .i64 e] 3)
 have hb:=(Vars.start w).new 25 #[.int .i64 v, .int .i64 s, .int .i64 k, .int .i64 e, .slice a n cap] |>.call (ZaS _ (.cells #[.int .i64 v, .int .i64 s, .int .i64 k, .int .i64 e] 3))
 have hg:=hb.at 0 rfl
 clear hb
 have rn:=Zed .i64 (w.alloc (.cells #[.int .i64 v, .int .i64 s, .int .i64 k, .int .i64 e, .slice a n cap] 25)) 3 (w.heap.size+1) (by simp) [v,s,k,e] 4 rfl (by unfold maxLen;omega) #[.int .i64 v, .int .i64 s, .int .i64 k, .int .i64 e] rfl
 have hr1:=hr.below q0 (Nat.le_refl _)
 generalize (w.alloc (.cells #[.int .i64 v, .int .i64 s, .int .i64 k, .int .i64 e, .slice a n cap] 25)).alloc (.cells #[.int .i64 v, .int .i64 s, .int .i64 k, .int .i64 e] 3)=w1 at*
 have hw:=Zp4 rn
 rw [Zp1] at hw
 have c4:=Zag hg 4
 clear hr rn hg
 cases hA:(in31 v&&(in31 s&&(in31 k&&in31 e)))
 ·rw [hA] at hw HM
  have HF:Hid (mayM ⟨v,s,k,e,l⟩=false):=by show _=_;rw [HM.out,Bool.false_and]
  clear HM
  refine hw.mono ?_
  rintro e' w' ⟨rfl,rfl⟩
  go_wp2_with fail
  go_ret
  exact ⟨ZaC HF.out.symm,q0⟩
 rw [hA] at hw HM
 have HM2:Hid (mayM ⟨v,s,k,e,l⟩=(decide (n≤8)&&okTo l n)):=by show _=_;rw [HM.out,Bool.true_and]
 clear HM hA
 have ho:=Zp5 hr1 ho
 refine hw.mono ?_
 rintro e' w' ⟨rfl,rfl⟩
 clear hw
 by_cases h8:n≤8
 ·have HM3:Hid (mayM ⟨v,s,k,e,l⟩=okTo l n):=by show _=_;rw [HM2.out,decide_eq_true h8,Bool.true_and]
  clear HM2
  have h8':(n:Int)≤8:=by omega
  go_wp2_with fail
  refine ho.mono ?_
  rintro e' w' ⟨rfl,q1⟩
  clear ho
  have HQ:Hid (Below _ w w'):=Zbp q0 q1
  clear q0 q1
  generalize okTo l n=b at*
  go_wp2_with fail
  go_ret
  exact ⟨ZaC HM3.out.symm,HQ.out⟩
 ·have HF:Hid (mayM ⟨v,s,k,e,l⟩=false):=by show _=_;rw [HM2.out,decide_eq_false h8,Bool.false_and]
  have h8':¬(n:Int)≤8:=by omega
  clear HM2
  go_wp2_with fail
  go_ret
  exact ⟨ZaC HF.out.symm,q0⟩
end Go.Proofs.YtcaloldcihpkfaaGreatDoor.N

/-
 The code of layer 20 (manifest), as it landed: lay.
-/
namespace Go.Proofs.YtcaloldcihpkfaaGreatDoor.N
open Go.RowKit
set_option linter.unusedVariables false
set_option maxRecDepth 8192

theorem ZkI (z:List Int) (k:Nat) (h:k<z.length):nums (z.take (k+1))=nums (z.take k)++four (z[k]?.getD 0):=by
 rw [Znp z k h]
 simp [nums]
theorem ZkJ (x:Int) (j:Nat) (hj:j<4):(four x).take (j+1)=(four x).take j++ [x/256^j%256]:=by
 rcases (show j=0∨j=1∨j=2∨j=3 by omega) with rfl|rfl|rfl|rfl<;>simp [four]
set_option maxHeartbeats 1600000 in
theorem ZkK {B:Nat} {v:Value} {t m:Nat} {D:List Int} {w:World} {g n:Nat} {z:List Int} (hown:Gr B 5 w v t m D) (hB:B≤w.heap.size) (hg:w.heap[g]? =some (.cells (z.map (Value.int .i64)).toArray 3 (0,0)))
  (hz:z.length=n) (hp:0<n) (hn:n≤8) (hm:m≤1000) (h0:∀i,i<n→0≤z[i]?.getD 0∧z[i]?.getD 0≤2147483647):
  Calls Tryz.prog 64 #[v, .slice (some ⟨g,0,none⟩) n n] w fun e w'=>∃v',e= .returned v'∧w'.ownsRow B 5 1 v' (m+4*n) ((D++nums z).map (Value.int .u8))∧Below B w w'∧ZaQ 5 w w':=by
 obtain ⟨i0,hi0,hz0,hz1,hz2⟩:=info_parts Tryz.info5
 have HZ:Hid (z.length=n):=hz
 clear hz
 go_enter Tryz.func64,Tryz.ntmps64
 go_wp2
 go_loopw [0,9] (fun b i wr=>∃k:Nat,k≤n∧i= .int .i64 (k:Int)∧Gr B 5 wr b (t+k) (m+4*k) (D++nums (z.take k))∧Below B w wr∧ZaQ 5 w wr) (fun _ i _=>n - (RowKit.intOf i).toNat)
 case atStart=>exact ⟨0,Nat.zero_le _,rfl,by simpa [nums] using hown,Below.refl _ _,ZaQ.refl _ _⟩
 case round=>
  obtain ⟨k,hk,rfl,own,q,kp⟩:=hrel
  by_cases hlt:k<n
  ·have hgk:=kp g _ _ (by decide) hg
   have ck:=Zag hgk k
   have hkl:k<z.length:=by rw [HZ.out];exact hlt
   have ez:(z.map (Value.int .i64)).toArray[k]? =some (.int .i64 (z[k]?.getD 0)):=by simp [List.getElem?_eq_getElem hkl]
   rw [ez] at ck
   have hx:=h0 k hlt
   have HX:Hid (nums (z.take (k+1))=nums (z.take k)++four (z[k]?.getD 0)):=ZkI z k hkl
   clear ez hgk
   generalize z[k]?.getD 0=x at*
   generalize nums (z.take k)=E at*
   have hlt':(k:Int)<(n:Int):=by omega
   go_wp2
   clear ck
   go_loopw [0,6,13] (fun b y i ws=>∃j:Nat,j≤4∧i= .int .i64 (j:Int)∧y= .int .i64 (x/256^j)∧Gr B 5 ws b (t+k+j) (m+4*k+j) (D++E++(four x).take j)∧Below B w ws∧ZaQ 5 w ws) (fun _ _ i _=>4 - (RowKit.intOf i).toNat)
   case atStart=>exact ⟨0,Nat.zero_le _,rfl,by simp,by simpa using own,q,kp⟩
   case round=>
    obtain ⟨j,hj,rfl,rfl,own,q,kp⟩:=hrel
    by_cases hl4:j<4
    ·have HS:Hid ((four x).take (j+1)=(four x).take j++ [x/256^j%256]):=ZkJ x j hl4
     have HD:Hid (x/256^j/256=x/256^(j+1)):=Zhv x j
     have hd0:0≤x/256^j:=Int.ediv_nonneg hx.1 (Int.pow_nonneg (by decide))
     have hd1:x/256^j≤x:=Int.ediv_le_self _ hx.1
     generalize x/256^j=y at*
     generalize (four x).take j=tk at*
     have hj4:(j:Int)<4:=by omega
     obtain ⟨F,hF⟩:∃F,F=D++E++tk:=⟨_,rfl⟩
     have HF:Hid (D++E++(four x).take (j+1)=F++ [y%256]):=by show _=_;rw [HS.out,hF];simp only [List.append_assoc]
     rw [←hF] at own
     clear hF HS
     have hsz:B≤wr.heap.size:=Nat.le_trans hB q.size
     have rn:=Zed .u8 wr 5 wr.heap.size rfl [y%256] 1 rfl (by unfold maxLen;omega) #[.int .u8 (y%256)] rfl
     go_wp2_with (at_builtin;refine ZdT _ rfl _ _ 28 rfl B 5 i0 (.int .u8 0) Tryz.underlying28 hi0 hz0 hz1 hz2 rfl rfl (own.alloc _) (some ⟨wr.heap.size,0,none⟩) 1 1 [y%256] rfl rn (by decide) (by omega) (by simp;omega) ?_)
     intro v' w1 own' q' kk'
     replace own':w1.ownsRow B 5 1 v' (m+4*k+j+1) ((F++ [y%256]).map (Value.int .u8)):=by rw [List.map_append];exact own'
     rw [←HF.out] at own'
     have qq:=(q.trans ((ZaS wr _).mono hsz)).trans q'
     have kk:=(kp.trans (ZaQ.alloc wr _)).trans kk'
     clear q' kk' rn
     go_wp2
     go_roundw
     case rel=>exact ⟨j+1,by omega,by go_num,by rw [HD.out], .inl own',qq,kk⟩
     case measure=>simp [RowKit.intOf];omega
    ·obtain rfl:j=4:=by omega
     go_wp2_with fail
     go_roundw
     case rel=>exact ⟨k+1,by omega,by go_num,by rw [HX.out, ←List.append_assoc];exact .inl (own.own (by omega)),q,kp⟩
     case measure=>simp [RowKit.intOf];omega
  ·obtain rfl:k=n:=by omega
   rw [List.take_of_length_le (by rw [HZ.out];exact Nat.le_refl _)] at own
   go_wp2
   go_ret
   exact ⟨_,rfl,own.own (by omega),q,kp⟩
end Go.Proofs.YtcaloldcihpkfaaGreatDoor.N

/-
 The code of layer 20 (manifest), as it landed: Bytes.
-/
namespace Go.Proofs.YtcaloldcihpkfaaGreatDoor.N
open Go.RowKit
set_option linter.unusedVariables false
set_option maxRecDepth 8192

theorem Zp6 {P:Program} (t e:TypeId) (n:Nat) (hu:P.underlying t=some (.array n e)) (he:(P.info? e).map (·.size)=some 1) (b o:Nat) (h3:0<n) (w:World):
  (Instr.sliceAt t (.pointer (some ⟨b,o,none⟩)) none none none).run P w= .ok (.slice (some ⟨b,o,none⟩) n n) w:=by
 have hal:P.arrayLen t=n:=by simp [Program.arrayLen,hu]
 have hel:P.elem t=e:=by simp [Program.elem,hu]
 obtain ⟨inf,hq,hs⟩:=Option.map_eq_some_iff.1 he
 rw [run_sliceAt_array_all w t ⟨b,o,none⟩ (by rw [hal,hel];exact hu)]
 rw [hal,hel]
 simp [sizeOf,typeInfo,hq,hs,slicedAt,show ¬n=0 by omega,Zbc]
theorem Tryz.szU8:(Tryz.prog.info? 5).map (·.size)=some 1:=by kernel_rfl
theorem Zfk {a:Act} {o:Oper} {w:World} (g k:Nat) (x:Operand) (ho:o.op= .slice 22 x none none none) (hx:a.eval x= .pointer (some ⟨g,k,none⟩)):
  (execOp a.eval o).run Tryz.prog w= .ok (.value (.slice (some ⟨g,k,none⟩) 32 32)) w:=by
 unfold execOp
 simp only [ho,hx,Option.map_none,Zp6 22 5 32 Tryz.underlying22 Tryz.szU8 g k (by decide) w,Sem.run_bind,Sem.run_pure,Result.andThen_ok]
theorem ZkL (l:List Sg) (k:Nat) (h:k<l.length):(l.take (k+1)).flatMap ZaL=(l.take k).flatMap ZaL++ZaL (sgI l k):=by
 rw [List.take_add_one,List.getElem?_eq_getElem h,Zf2 h,List.flatMap_append]
 simp only [Option.toList,List.flatMap_cons,List.flatMap_nil,List.append_nil]
theorem Zp7 (x y:Int):nums [x,y]=four x++four y:=by simp [nums]
set_option maxHeartbeats 1600000 in
theorem Zp8 {v s k e:Int} {a:Option Addr} {n cap:Nat} {l:List Sg} {w:World} (hr:SegRow w a n cap l) (ho:∀s∈l,s.Ok) (hm:mayM ⟨v,s,k,e,l⟩=false):
  Calls Tryz.prog 26 #[.agg #[.int .i64 v, .int .i64 s, .int .i64 k, .int .i64 e, .slice a n cap]] w fun e' w'=>e'= .returned (.tuple #[.slice none 0 0, .int .i64 1])∧Below w.heap.size w w':=by
 go_enter Tryz.func26,Tryz.ntmps26
 go_wp2_with fail
 have q0:=ZaS w (.cells #[.int .i64 v, .int .i64 s, .int .i64 k, .int .i64 e, .slice a n cap] 25)
 have hr1:=hr.below q0 (Nat.le_refl _)
 have h:=ZhZ (v:=v) (s:=s) (k:=k) (e:=e) hr1 ho
 rw [hm] at h
 generalize w.alloc (.cells #[.int .i64 v, .int .i64 s, .int .i64 k, .int .i64 e, .slice a n cap] 25)=w1 at*
 refine h.mono ?_
 rintro e' w2 ⟨rfl,q1⟩
 have HQ:Hid (Below w.heap.size w w2):=Zbp q0 q1
 clear q0 q1 h hr1 hr hm
 go_wp2_with fail
 go_ret2
 exact ⟨rfl,HQ.out⟩
set_option maxHeartbeats 3200000 in
theorem Zp9 {v s k e:Int} {a:Option Addr} {n cap:Nat} {l:List Sg} {w:World} (hr:SegRow w a n cap l) (ho:∀s∈l,s.Ok) (hm:mayM ⟨v,s,k,e,l⟩=true):
  Calls Tryz.prog 26 #[.agg #[.int .i64 v, .int .i64 s, .int .i64 k, .int .i64 e, .slice a n cap]] w fun e' w'=>∃u,e'= .returned (.tuple #[u, .int .i64 0])∧w'.ownsRow w.heap.size 5 1 u (24+40*n) ((Zay ⟨v,s,k,e,l⟩).map (Value.int .u8))∧Below w.heap.size w w':=by
 obtain ⟨i0,hi0,hz0,hz1,hz2⟩:=info_parts Tryz.info5
 have HL:Hid (l.length=n):=hr.hlen
 have M:=Zek hm
 have hn8:n≤8:=by rw [←HL.out];exact M.n
 have mc:=hr.hcap
 have mm:=hr.hmax
 unfold maxLen at mm
 have HA:Hid (Zc5 ⟨v,s,k,e,l⟩=mani++nums [v,s,k,e,(n:Int)]):=by show _=_;rw [←HL.out];rfl
 have HB:Hid (Zay ⟨v,s,k,e,l⟩=Zc5 ⟨v,s,k,e,l⟩++l.flatMap ZaL):=rfl
 have HM:Hid (MayM ⟨v,s,k,e,l⟩):=M
 go_enter Tryz.func26,Tryz.ntmps26
 go_wp2_with fail
 have q0:=ZaS w (.cells #[.int .i64 v, .int .i64 s, .int .i64 k, .int .i64 e, .slice a n cap] 25)
 have V0:=(Vars.start w).new 25 #[.int .i64 v, .int .i64 s, .int .i64 k, .int .i64 e, .slice a n cap]
 have hr1:=hr.below q0 (Nat.le_refl _)
 have h:=ZhZ (v:=v) (s:=s) (k:=k) (e:=e) hr1 ho
 rw [hm] at h
 generalize w.alloc (.cells #[.int .i64 v, .int .i64 s, .int .i64 k, .int .i64 e, .slice a n cap] 25)=w1 at*
 refine h.mono ?_
 rintro e' w2 ⟨rfl,q1⟩
 have V1:=V0.call q1
 have V2:=V1.call (ZaS w2 (.cells #[.int .u8 109, .int .u8 97, .int .u8 110, .int .u8 105] 5 (4,5)))
 have hg:=V2.at 0 rfl
 have c0:=Zag hg 0
 have c1:=Zag hg 1
 have c2:=Zag hg 2
 have c3:=Zag hg 3
 have c4:=Zag hg 4
 have kc:=Lib.run_convert_bytes_const (P:=Tryz.prog) w2 28 5 #[.int .u8 109, .int .u8 97, .int .u8 110, .int .u8 105] 4 4 Tryz.underlying28 Tryz.underlying5
 have qm:=ZaS w2 (.cells #[.int .u8 109, .int .u8 97, .int .u8 110, .int .u8 105] 5 (4,5))
 have ro:=Zf9 .u8 w2 5 (4,5) mani 4 rfl (by unfold maxLen;omega) #[.int .u8 109, .int .u8 97, .int .u8 110, .int .u8 105] rfl
 clear q0 q1 h hr1 hm V0 hg
 go_wp2_with fail
 clear c0 c1 c2 c3 c4 kc qm V1
 have V3:=V2.new 3 #[.int .i64 v, .int .i64 s, .int .i64 k, .int .i64 e, .int .i64 (n:Int)]
 have es:(w2.alloc (.cells #[.int .u8 109, .int .u8 97, .int .u8 110, .int .u8 105] 5 (4,5))).heap.size=w2.heap.size+1:=by simp
 rw [es] at V3
 have ro3:=ro.below (ZaS _ (.cells #[.int .i64 v, .int .i64 s, .int .i64 k, .int .i64 e, .int .i64 (n:Int)] 3)) (Nat.le_refl _)
 clear es V2 ro
 generalize (w2.alloc (.cells #[.int .u8 109, .int .u8 97, .int .u8 110, .int .u8 105] 5 (4,5))).alloc (.cells #[.int .i64 v, .int .i64 s, .int .i64 k, .int .i64 e, .int .i64 (n:Int)] 3)=w3 at*
 have h0:∀i,i<5→0≤ [v,s,k,e,(n:Int)][i]?.getD 0∧[v,s,k,e,(n:Int)][i]?.getD 0≤2147483647:=fun i hi=>by
  rcases (show i=0∨i=1∨i=2∨i=3∨i=4 by omega) with rfl|rfl|rfl|rfl|rfl
  ·exact M.v
  ·exact M.s
  ·exact M.k
  ·exact M.e
  ·show 0≤(n:Int)∧(n:Int)≤2147483647
   omega
 refine (ZkK (B:=w.heap.size) (t:=0) (.inr ⟨rfl,by decide,_,rfl,ro3⟩) V3.size (V3.at 0 rfl) (z:=[v,s,k,e,(n:Int)]) (n:=5) rfl (by decide) (by decide) (by decide) h0).mono ?_
 rintro e' w4 ⟨u4,rfl,own4,q4,kp4⟩
 rw [←HA.out] at own4
 have Q4:Below w.heap.size w w4:=V3.bel.trans q4
 have hm4:=kp4 _ _ _ (by decide) (V3.at 1 rfl)
 have c4:w4.cell? ⟨w.heap.size,4,none⟩=some (.slice a n cap):=Zag hm4 4
 clear hm4 q4 kp4 V3 ro3 h0 M
 generalize Zc5 ⟨v,s,k,e,l⟩=A at*
 go_wp2_with fail
 clear c4
 go_loopw [4,28] (fun u i wr=>∃j:Nat,j≤n∧i= .int .i64 (j:Int)∧wr.ownsRow w.heap.size 5 1 u (24+40*j) ((A++(l.take j).flatMap ZaL).map (Value.int .u8))∧Below w.heap.size w wr) (fun _ i _=>n - (RowKit.intOf i).toNat)
 case atStart=>exact ⟨0,Nat.zero_le _,rfl,by simpa using own4,Q4⟩
 case round=>
  clear own4 Q4
  obtain ⟨j,hj,rfl,own,q⟩:=hrel
  by_cases hlt:j<n
  ·obtain ⟨b,off,rfl,hbs,hcell⟩:=(hr.below q (Nat.le_refl _)).hcell (by omega)
   have hx:=hcell j hlt
   have hs:=ZcP ho j
   have hjl:j<l.length:=by rw [HL.out];exact hlt
   have hb:=HM.out.seg hjl
   have HT:Hid (A++(l.take (j+1)).flatMap ZaL=(A++(l.take j).flatMap ZaL)++ZaL (sgI l j)):=by show _=_;rw [ZkL l j hjl,List.append_assoc]
   replace hb:0≤(sgI l j).load∧(sgI l j).load≤2147483647∧0≤(sgI l j).size∧(sgI l j).size≤1048576:=hb
   clear hcell hjl
   generalize sgI l j=x at*
   generalize A++(l.take j).flatMap ZaL=D at*
   have hlt':(j:Int)<(n:Int):=by omega
   have V0:=Vars.start wr
   go_wp2_with (first
    | (refine wpList_load_mid rfl 66 _ rfl b (off+j*34) rfl (sC x) _ hx Tryz.underlying66 rfl (by rw [ZbK hs];exact Tryz.szSg) ?_)
    | (refine Zai V0 6 66 rfl rfl rfl (sA sg0) ZcD ?_;intro w5 g5 V5)
    | (refine Zal V5 0 rfl _ (.tmp 31) rfl rfl rfl (sA x) rfl rfl Tryz.szSg (Zba Zb7) (Zba hs) (ZcQ x) ?_;intro w6 V6))
   have own6:=(Zcs own V6.bel).drew
   have q6:=(Zbp q V6.bel).drew
   replace V6:=V6.drew
   clear own q hx V5 V0
   refine Zar (fun w'=>w'.heap[g5]? =some (.cells (sA x) 66 (0,0))) (by kernel_rfl) ?_
   refine Zaz (rs:=[0,1,2,3,4,7,8]) (fuel:=4) (by kernel_rfl) (fun c d v a w h=>by cases d<;>exact h) (by kernel_rfl) (V6.at 0 rfl) (fun K hK=> ?_)
   refine Zah _ rfl (by rfl) rfl ?_
   go_simp
   refine Zad (.pointer (some ⟨g5,0,none⟩)) rfl (by rfl) (fun w' hw'=> ?_) ?_
   ·go_simp
   go_simp
   refine Zad (.int .i64 x.load) rfl (by rfl) (fun w' hw'=> ?_) ?_
   ·have c0:=Zfa hw'
    go_simp
   go_simp
   refine Zad (.pointer (some ⟨g5,1,none⟩)) rfl (by rfl) (fun w' hw'=> ?_) ?_
   ·go_simp
   go_simp
   refine Zad (.int .i64 x.size) rfl (by rfl) (fun w' hw'=> ?_) ?_
   ·have c0:=Zfb hw'
    go_simp
   go_simp
   refine Zad (.pointer (some ⟨g5,2,none⟩)) rfl (by rfl) (fun w' hw'=> ?_) ?_
   ·go_simp
   go_simp
   refine Zad (.slice (some ⟨g5,2,none⟩) 32 32) rfl (by rfl) (fun w' hw'=>Zfk g5 2 _ rfl rfl) ?_
   go_simp
   refine Zac (hK.out _ ?_)
   clear hK K
   generalize w6.drew=w7 at*
   refine Za3 (i:=5) (fuel:=3) (by kernel_rfl) rfl (by rfl) (fun K hK=> ?_)
   have V8:=V6.new 3 #[.int .i64 x.load, .int .i64 x.size]
   have own8:=own6.alloc (.cells #[.int .i64 x.load, .int .i64 x.size] 3)
   have q8:=q6.alloc q6.size (.cells #[.int .i64 x.load, .int .i64 x.size] 3)
   go_simp
   refine hK _ _ (V8.at 1 rfl) ?_
   clear hK K own6 q6 V6
   generalize w7.alloc (.cells #[.int .i64 x.load, .int .i64 x.size] 3)=w8 at*
   refine Za3 (i:=6) (fuel:=2) (by kernel_rfl) rfl (by rfl) (fun K hK=> ?_)
   go_simp
   have h0:∀i,i<2→0≤ [x.load,x.size][i]?.getD 0∧[x.load,x.size][i]?.getD 0≤2147483647:=fun i hi=>by
    rcases (show i=0∨i=1 by omega) with rfl|rfl
    ·exact ⟨hb.1,hb.2.1⟩
    ·show 0≤x.size∧x.size≤2147483647
     omega
   refine (ZkK (B:=w.heap.size) (t:=0) (.inl own8) q8.size (V8.at 0 rfl) (z:=[x.load,x.size]) (n:=2) rfl (by decide) (by decide) (by omega) h0).mono ?_
   rintro e' w9 ⟨u9,rfl,own9,q9,kp9⟩
   have hg9:=kp9 _ _ _ (by decide) (V8.at 1 rfl)
   refine hK _ _ hg9 ?_
   clear hK K V8 own8 kp9 h0
   replace q8:=q8.trans q9
   clear q9
   have rd:=Zj2 hs hg9
   refine Za3 (i:=9) (fuel:=1) (by kernel_rfl) rfl (by rfl) (fun K hK=> ?_)
   refine Zj3 _ _ 28 rfl w.heap.size 5 i0 (.int .u8 0) Tryz.underlying28 hi0 hz0 hz1 hz2 rfl rfl own9 (some ⟨g5,2,none⟩) 32 32 x.dig rfl rd (by decide) (by omega) q8.size ?_
   intro v10 w10 own10 q10 kp10
   have hg10:=kp10 _ _ _ (by decide) hg9
   refine hK _ _ hg10 ?_
   clear hK K own9 kp10 rd hg9
   rw [Zp7,List.append_assoc,List.append_assoc] at own10
   replace own10:w10.ownsRow w.heap.size 5 1 v10 (24+40*(j+1)) ((D++ZaL x).map (Value.int .u8)):=by
    rw [show 24+40*(j+1)=24+40*j+4*2+32 by omega]
    exact own10
   rw [←HT.out] at own10
   replace q8:=q8.trans q10
   clear q10
   refine Zaz (rs:=[10]) (fuel:=0) (by kernel_rfl) (fun c d v a w h=>by cases d<;>exact h) (by kernel_rfl) hg10 (fun K hK=> ?_)
   go_simp
   refine ZaB _ rfl (by rfl) rfl ?_
   go_simp
   refine Zac (hK.out _ ?_)
   clear hK K
   refine wpAnyH_done (by kernel_rfl) ?_ _
   go_wp2_with fail
   go_roundw
   case rel=>exact ⟨j+1,by omega,by go_num,own10,q8⟩
   case measure=>simp [RowKit.intOf];omega
  ·obtain rfl:j=n:=by omega
   rw [List.take_of_length_le (by rw [HL.out];exact Nat.le_refl _), ←HB.out] at own
   go_wp2_with fail
   go_ret2
   exact ⟨_,rfl,own,q⟩
end Go.Proofs.YtcaloldcihpkfaaGreatDoor.N

/-
 The code of layer 20 (manifest), as it landed: the reader: need, take, number.
-/
namespace Go.Proofs.YtcaloldcihpkfaaGreatDoor.N
open Go.RowKit
set_option linter.unusedVariables false
set_option maxRecDepth 8192

def ZdZ:List PanicEntry:=[{ v:= .iface 29 (.int .i64 4),recovered:=false }]
theorem Zfl (g:Nat) (w:World):Calls Tryz.prog 128 #[.pointer (some ⟨g,0,none⟩), .bool true] w fun e w'=>e= .returned (.tuple #[])∧w=w':=by
 go_enter Tryz.func128,Tryz.ntmps128
 go_wp2_with fail
 go_end0
 first|exact ⟨rfl,rfl⟩|simp
theorem Zfm (g:Nat) (w:World):Calls Tryz.prog 128 #[.pointer (some ⟨g,0,none⟩), .bool false] w fun e w'=>e= .panicked ZdZ∧w=w':=by
 go_enter Tryz.func128,Tryz.ntmps128
 go_wp2_with fail
 exact ⟨rfl,rfl,rfl⟩
structure RAt (w:World) (g:Nat) (a:Option Addr) (n c:Nat) (z:List Int):Prop where
 box:w.heap[g]? =some (.cells #[.slice a n c] 128 (0,0))
 row:Row .u8 w a n c z
 apart:0<n→∀q,a=some q→q.block<g
theorem ZcF {k:IntKind} {w:World} {a:Option Addr} {n c g j:Nat} {z:List Int} (h:Row k w a n c z) (hg:∀q,a=some q→q.block≠g) (v:Value):Row k (w.setCell ⟨g,j,none⟩ v) a n c z:=by
 refine ⟨h.hlen,h.hcap,h.hmax,h.hnil,fun h0=> ?_⟩
 obtain ⟨b,off,rfl,hb,hc⟩:=h.hcell h0
 refine ⟨b,off,rfl,by simpa using hb,fun i hi=> ?_⟩
 rw [World.cell?_of_block (w:=w) (Below.heap_setCell w _ v b (hg _ rfl))]
 exact hc i hi
theorem RAt.step {w:World} {g b off n c k:Nat} {z:List Int} (H:RAt w g (some ⟨b,off,none⟩) n c z) (h0:0<n) (hk:k≤n) (a':Option Addr) (ha:a'=some ⟨b,off+k,none⟩∨(k=n∧a'=some ⟨b,off,none⟩)):
  RAt (w.setCell ⟨g,0,none⟩ (.slice a' (n - k) (c - k))) g a' (n - k) (c - k) (z.drop k):=by
 have hbg:=H.apart h0 _ rfl
 have hp:∀q,a'=some q→q.block<g:=fun q hq=>by
  rcases ha with rfl|⟨_,rfl⟩<;>(cases hq;exact hbg)
 refine ⟨by rw [heap_setCell_same w g 0 _ _ _ H.box];rfl,ZcF ?_ (fun q hq=>Nat.ne_of_lt (hp q hq)) _,fun _=>hp⟩
 rcases ha with rfl|⟨rfl,rfl⟩
 ·exact Zep H.row k hk
 ·have hl:=H.row.hlen
  have hc:=H.row.hcap
  have hm:=H.row.hmax
  exact ⟨by rw [List.length_drop];omega,by omega,by omega,(fun h=>by cases h),fun h=>absurd h (by omega)⟩
theorem Zh0 {w:World} {g:Nat} {a:Option Addr} {n c:Nat} {z:List Int} (h:RAt w g a n c z) (k:Nat) (hk:n<k) (hk2:k≤1000):
  Calls Tryz.prog 129 #[.pointer (some ⟨g,0,none⟩), .int .i64 (k:Int)] w fun e w'=>e= .panicked ZdZ∧w=w':=by
 have c0:w.cell? ⟨g,0,none⟩=some (.slice a n c):=Zag h.box 0
 have f0:=ZaJ h.box 0
 have hk':¬(k:Int)≤(n:Int):=by omega
 go_enter Tryz.func129,Tryz.ntmps129
 go_wp2_with fail
 refine (Zfm g w).mono ?_
 rintro e w' ⟨rfl,rfl⟩
 go_wp2_with fail
 exact ⟨rfl,rfl,rfl⟩
theorem Zh1 {w:World} {g:Nat} {a:Option Addr} {n c:Nat} {z:List Int} (h:RAt w g a n c z) (k:Nat) (h0:0<k) (hk:k≤n):
  Calls Tryz.prog 129 #[.pointer (some ⟨g,0,none⟩), .int .i64 (k:Int)] w fun e w'=>∃a',e= .returned (.slice a k c)∧w'=w.setCell ⟨g,0,none⟩ (.slice a' (n - k) (c - k))∧RAt w' g a' (n - k) (c - k) (z.drop k):=by
 have c0:w.cell? ⟨g,0,none⟩=some (.slice a n c):=Zag h.box 0
 have f0:=ZaJ h.box 0
 have hcap:=h.row.hcap
 have hmax:=h.row.hmax
 unfold maxLen at hmax
 have hk':(k:Int)≤(n:Int):=by omega
 obtain ⟨b,off,rfl,hbs,_⟩:=h.row.hcell (by omega)
 have H:Hid (RAt w g (some ⟨b,off,none⟩) n c z):=h
 clear h
 by_cases hck:c=k
 ·obtain rfl:n=k:=by omega
  subst hck
  have HR:=H.out.step (by omega) (Nat.le_refl _) (some ⟨b,off,none⟩) (.inr ⟨rfl,rfl⟩)
  simp only [Nat.sub_self] at HR ⊢
  go_enter Tryz.func129,Tryz.ntmps129
  go_wp2_with fail
  refine (Zfl g w).mono ?_
  rintro e w' ⟨rfl,rfl⟩
  go_wp2_with fail
  go_ret
  exact ⟨_,rfl,rfl,HR⟩
 ·have HR:=H.out.step (by omega) hk (some ⟨b,off+k,none⟩) (.inl rfl)
  go_enter Tryz.func129,Tryz.ntmps129
  go_wp2_with fail
  refine (Zfl g w).mono ?_
  rintro e w' ⟨rfl,rfl⟩
  go_wp2_with fail
  go_ret
  exact ⟨_,rfl,rfl,HR⟩
theorem Zd0 {w:World} {g:Nat} {a:Option Addr} {n c:Nat} {z:List Int} (h:RAt w g a n c z) (hn:n<4):
  Calls Tryz.prog 130 #[.pointer (some ⟨g,0,none⟩)] w fun e w'=>e= .panicked ZdZ∧w=w':=by
 have ht:=Zh0 h 4 hn (by decide)
 go_enter Tryz.func130,Tryz.ntmps130
 go_wp2_with fail
 refine ht.mono ?_
 rintro e w' ⟨rfl,rfl⟩
 go_wp2_with fail
 exact ⟨rfl,rfl,rfl⟩
set_option maxHeartbeats 800000 in
theorem Zc9 {w:World} {g:Nat} {a:Option Addr} {n c:Nat} {z:List Int} (h:RAt w g a n c z) (hz:IsB z) (hn:4≤n):
  Calls Tryz.prog 130 #[.pointer (some ⟨g,0,none⟩)] w fun e w'=>∃a',e= .returned (.int .i64 (Zab z 0))∧w'=w.setCell ⟨g,0,none⟩ (.slice a' (n - 4) (c - 4))∧RAt w' g a' (n - 4) (c - 4) (z.drop 4):=by
 have ht:=Zh1 h 4 (by decide) hn
 have hr:=fun v=>ZcF (j:=0) (Zdr h.row 4 hn) (fun q hq=>Nat.ne_of_lt (h.apart (by omega) q hq)) v
 have hmx:=h.row.hmax
 have hcp:=h.row.hcap
 unfold maxLen at hmx
 have hb:=Zcr hz 4
 have HN:Hid (Zb6 (z.take 4) 0 4=Zab z 0):=by
  show _=_
  rw [ZjR]
  simp [Zab]
 clear h
 go_enter Tryz.func130,Tryz.ntmps130
 go_wp2_with fail
 refine ht.mono ?_
 rintro e w1 ⟨a',rfl,hw1,H1⟩
 have HW:Hid (w1=_):=hw1
 replace hr:=hr (.slice a' (n - 4) (c - 4))
 rw [←hw1] at hr
 have HR:Hid (RAt w1 g a' (n - 4) (c - 4) (z.drop 4)):=H1
 obtain ⟨b,off,rfl,hbs,hcell⟩:=hr.hcell (by decide)
 clear ht hw1 H1 hr
 generalize z.take 4=y at*
 go_wp2_with fail
 go_loop [3,9] (fun n y'=>∃k:Nat,k≤4∧y'= .int .i64 (k:Int)∧n= .int .i64 (Zb6 y 0 k)) (fun _ y'=>4 - (RowKit.intOf y').toNat)
 case atStart=>exact ⟨0,Nat.zero_le _,rfl,rfl⟩
 case round=>
  obtain ⟨k,hk,rfl,rfl⟩:=hrel
  by_cases hlt:k<4
  ·have hc1:=hcell k hlt
   have hx:=hb.idx (0+k)
   have hn:=ZjQ hb 0 k
   have HS:Hid (Zb6 y 0 (k+1)=Zb6 y 0 k+y[0+k]?.getD 0*256^k):=rfl
   have HO:Hid (bits .or .i64 (Zb6 y 0 k) (wrap64 (y[0+k]?.getD 0*2^(8*k)))=Zb6 y 0 k+y[0+k]?.getD 0*256^k):=Zor _ _ k hlt hn.1 hn.2 hx.1 hx.2
   rw [Nat.zero_add] at hx HS HO
   clear hcell
   generalize Zb6 y 0 k=nn at*
   generalize y[k]?.getD 0=x at*
   have hk4:(k:Int)<4:=by omega
   go_wp2
   go_round
   case rel=>exact ⟨k+1,by omega,by go_num,by rw [HO.out,HS.out]⟩
   case measure=>simp [RowKit.intOf];omega
  ·have e:k=4:=by omega
   subst e
   rw [HN.out]
   go_wp2
   go_ret
   exact ⟨rfl,a',HW.out,HR.out⟩
end Go.Proofs.YtcaloldcihpkfaaGreatDoor.N

/-
 The code of layer 20 (manifest), as it landed: the reader: segment.
-/
namespace Go.Proofs.YtcaloldcihpkfaaGreatDoor.N
open Go.RowKit
set_option linter.unusedVariables false
set_option maxRecDepth 8192

theorem ZbM {a b c:World} {r:Option Nat} (h:a.grownBy b r) (k:b.grownBy c r):a.grownBy c r:=
 ⟨k.os.trans h.os,k.tape.trans h.tape,k.output.trans h.output,Nat.le_trans h.size k.size,fun i hi hr=>(k.block i (Nat.lt_of_lt_of_le hi h.size) hr).trans (h.block i hi hr)⟩
theorem Zew {a b:World} (h:Below a.heap.size a b) (r:Option Nat):a.grownBy b r:=⟨h.os,h.tape,h.output,h.size,fun i hi _=>h.block i hi⟩
theorem Zbr (w:World) (g j:Nat) (v:Value):w.grownBy (w.setCell ⟨g,j,none⟩ v) (some g):=
 ⟨rfl,rfl,rfl,by simp,fun k _ h=>Below.heap_setCell w _ v k (fun e=>h (by rw [e]))⟩
theorem Zcd {a b:World} {g k:Nat} {o:Obj} (h:a.grownBy b (some g)) (hk:a.heap[k]? =some o) (hg:k≠g):b.heap[k]? =some o:=by
 rw [h.block k (Zat hk) (fun e=>hg (by cases e;rfl))]
 exact hk
theorem Zqa {a b:World} {g B:Nat} (h:a.grownBy b (some g)) (hB:B≤a.heap.size) (hg:B≤g):Below B a b:=
 ⟨h.os,h.tape,h.output,h.size,fun k hk=>h.block k (by omega) (fun e=>by cases e;omega)⟩
theorem RAt.below {w w':World} {g:Nat} {a:Option Addr} {n c B:Nat} {z:List Int} (h:RAt w g a n c z) (q:Below B w w') (hB:w.heap.size≤B):RAt w' g a n c z:=
 ⟨by rw [q.block g (Nat.lt_of_lt_of_le (Zat h.box) hB)];exact h.box,h.row.below q hB,h.apart⟩
theorem RAt.above {w w':World} {g:Nat} {a:Option Addr} {n c B:Nat} {z:List Int} (h:RAt w g a n c z) (q:Below B w w') (hB:g<B):RAt w' g a n c z:=by
 refine ⟨by rw [q.block g hB];exact h.box,⟨h.row.hlen,h.row.hcap,h.row.hmax,h.row.hnil,fun h0=> ?_⟩,h.apart⟩
 obtain ⟨b,off,rfl,hb,hc⟩:=h.row.hcell h0
 have hbg:b<g:=h.apart h0 _ rfl
 refine ⟨b,off,rfl,Nat.lt_of_lt_of_le hb q.size,fun i hi=> ?_⟩
 rw [q.cell (by show b<B;omega)]
 exact hc i hi
theorem ZcG {a b c:World} {r:Option Nat} (h:a.grownBy b r) (q:Below a.heap.size b c):a.grownBy c r:=
 ⟨q.os.trans h.os,q.tape.trans h.tape,q.output.trans h.output,Nat.le_trans h.size q.size,fun i hi hr=>(q.block i hi).trans (h.block i hi hr)⟩
theorem Zh2 {w:World} {g:Nat} {T:TypeId} {s:Sg} (h:w.heap[g]? =some (.cells (sA s) T (0,0))):w.rangeAt g 0 (sC s):=fun j v hv=>by
 rw [Nat.zero_add,cell_of_row w g j _ T (0,0) h]
 simpa [sA] using hv
theorem ZcH {P:Program} {ops:Array Oper} {rest:List Oper} {o:Oper} {a:Act} {w:World} {Q:Exit→Act→World→Prop} {g:Nat} {T:TypeId} {X:Array Value} (hh:w.heap[g]? =some (.cells X T (0,0))) (x y:Operand) (hgd:o.guard=none) (hd:o.dst=none) (ho:o.op= .store T x y) (Y:Array Value)
  (hx:a.eval x= .pointer (some ⟨g,0,none⟩)) (hy:a.eval y= .agg Y) {n:Nat} (hn:(P.info? T).map (·.size)=some n) (hX:X.size=n) (hY:Y.size=n) (h1:Y.all (·.oneCell')=true)
  (h:wpList P ops Q rest a (w.setRow g Y)):wpList P ops Q (o::rest) a w:=
 wpList_plain hgd fun K hK=>wp_store_row T x y ho g Y hx hy T X hh (by rw [hn,hY]) (by rw [hX,hY]) h1 (by rw [hd];exact hK _ _ h)
theorem RAt.lt {w:World} {g:Nat} {a:Option Addr} {n c:Nat} {z:List Int} (h:RAt w g a n c z):g<w.heap.size:=Zat h.box
theorem Zqb {w:World} {g c:Nat} {T:TypeId} {a:Option Addr} {x y:Int} {d D:List Int} (hd:d.length=32) (hg:w.heap[g]? =some (.cells (sA ⟨x,y,d⟩) T (0,0))) (hr:Row .u8 w a 32 c D) (ty:TypeId):
  Sem.run Tryz.prog (Builtin.copy_ #[28,28] ty #[.slice (some ⟨g,2,none⟩) 32 32, .slice a 32 c]) w= .ok (.int .i64 32) (w.setRow g (sA ⟨x,y,D⟩)):=by
 obtain ⟨b,off,rfl,hbs,hcell⟩:=hr.hcell (by decide)
 have hl:=hr.hlen
 have hrun:=run_copy_row (P:=Tryz.prog) w 28 28 ty 5 g 2 32 32 ⟨b,off,none⟩ 32 c (sA ⟨x,y,d⟩) T (D.map (Value.int .u8)) Tryz.underlying28 Tryz.szU8 hg (by rw [List.length_map,hl];rfl) (Zc0 hl hcell) (by rw [List.length_map,hl];simp [sA,sC,hd]) (ints_oneCell _ _)
 rw [hrun]
 have e:(List.take 2 (sA ⟨x,y,d⟩).toList++D.map (Value.int .u8)++List.drop (2+(D.map (Value.int .u8)).length) (sA ⟨x,y,d⟩).toList).toArray=sA ⟨x,y,D⟩:=by
  have e1:List.drop (2+(D.map (Value.int .u8)).length) (sA ⟨x,y,d⟩).toList=[]:=List.drop_eq_nil_of_le (by rw [List.length_map,hl];simp [sA,sC,hd])
  rw [e1,List.append_nil]
  rfl
 rw [e]
 simp [goInt,hl]
theorem ZkM (x y:Int):Tryz.prog.built 66 [(0, .int .i64 x),(1, .int .i64 y)]=some (sA ⟨x,y,List.replicate 32 0⟩):=by kernel_rfl
set_option maxHeartbeats 1600000 in
theorem Zqc {w:World} {g:Nat} {a:Option Addr} {n c:Nat} {z:List Int} (h:RAt w g a n c z) (hz:IsB z) (hn:40≤n):
  Calls Tryz.prog 132 #[.pointer (some ⟨g,0,none⟩)] w fun e w'=>∃a',e= .returned (.agg (sA (sgAt z 0)))∧w.grownBy w' (some g)∧RAt w' g a' (n - 40) (c - 40) (z.drop 40):=by
 have hlt:=h.lt
 have V0:=Vars.start w
 have hzl:z.length=n:=h.row.hlen
 go_enter Tryz.func132,Tryz.ntmps132
 go_wp2_with (refine Zai V0 2 66 rfl rfl rfl (sA sg0) ZcD ?_;intro w1 g1 V1)
 have h1:=h.below V1.bel (Nat.le_refl _)
 have G1:=Zew V1.bel (some g)
 have hg1:=V1.at 0 rfl
 have hlo:w.heap.size≤g1:=V1.low _ (List.mem_cons_self ..)
 have hne:g1≠g:=by omega
 clear V0 V1 h
 refine (Zc9 h1 hz (by omega)).mono ?_
 rintro e w2 ⟨a2,rfl,hw2,h2⟩
 have G2:w.grownBy w2 (some g):=by rw [hw2];exact ZbM G1 (Zbr _ _ _ _)
 have hg2:w2.heap[g1]? =some (.cells (sA sg0) 66 (0,0)):=by rw [hw2];exact Zcd (Zbr _ _ _ _) hg1 hne
 clear hw2 h1 G1 hg1
 go_wp2_with fail
 refine (Zc9 h2 (Zck hz 4) (by omega)).mono ?_
 rintro e w3 ⟨a3,rfl,hw3,h3⟩
 have G3:w.grownBy w3 (some g):=by rw [hw3];exact ZbM G2 (Zbr _ _ _ _)
 have hg3:w3.heap[g1]? =some (.cells (sA sg0) 66 (0,0)):=by rw [hw3];exact Zcd (Zbr _ _ _ _) hg2 hne
 clear hw3 h2 G2 hg2
 rw [Zdp,Nat.add_zero]
 have HX:Hid (sgAt z 0=⟨Zab z 0,Zab z 4,(z.drop 8).take 32⟩):=rfl
 generalize Zab z 0=x at*
 generalize Zab z 4=y at*
 have V3:=Vars.start w3
 go_wp2_with (first
  | (refine ZaR 8 66 _ rfl rfl rfl (sA ⟨x,y,List.replicate 32 0⟩) (ZkM x y) ?_)
  | (refine Zai V3 3 66 rfl rfl rfl (sA sg0) ZcD ?_;intro w4 g4 V4)
  | (refine Zal V4 0 rfl _ (.tmp 8) rfl rfl rfl (sA ⟨x,y,List.replicate 32 0⟩) rfl rfl Tryz.szSg (Zba Zb7) (by rfl) (ZcQ _) ?_;intro w5 V5))
 have h5:=(h3.below V5.bel (Nat.le_refl _))
 have G5:=(ZbM G3 (Zew V5.bel (some g)))
 have hg5:w5.heap[g1]? =some (.cells (sA sg0) 66 (0,0)):=by rw [V5.bel.block g1 (Zat hg3)];exact hg3
 have hh5:=V5.at 0 rfl
 have hn4:w3.heap.size≤g4:=V5.low _ (List.mem_cons_self ..)
 have hs3:=G3.size
 have l31:=Zat hg3
 clear V3 V4 V5 h3 G3 hg3
 refine Zar (fun _=>True) (by kernel_rfl) ?_
 refine Zaz (rs:=[0,1,2]) (fuel:=2) (by kernel_rfl) (fun c d v a w h=>by cases d<;>exact h) (by kernel_rfl) trivial (fun K hK=> ?_)
 refine Zad (.pointer (some ⟨g4,2,none⟩)) rfl (by rfl) (fun w' hw'=> ?_) ?_
 ·go_simp
 go_simp
 refine Zad (.slice (some ⟨g4,2,none⟩) 32 32) rfl (by rfl) (fun w' hw'=>Zfk g4 2 _ rfl rfl) ?_
 go_simp
 refine Zah _ rfl (by rfl) rfl ?_
 go_simp
 refine Zac (hK.out _ ?_)
 clear hK K
 refine Za3 (i:=3) (fuel:=1) (by kernel_rfl) rfl (by rfl) (fun K hK=> ?_)
 go_simp
 have h5d:=h5.below ((Below.refl _ _).drew) (Nat.le_refl _)
 refine (Zh1 h5d 32 (by decide) (by omega)).mono ?_
 rintro e w6 ⟨a6,rfl,hw6,h6⟩
 refine hK _ _ trivial ?_
 clear hK K
 have G6:w.grownBy w6 (some g):=by rw [hw6];exact ZbM (ZcG G5 ((Below.refl _ _).drew)) (Zbr _ _ _ _)
 have hg6:w6.heap[g1]? =some (.cells (sA sg0) 66 (0,0)):=by rw [hw6];exact Zcd (Zbr w5.drew _ _ _) hg5 hne
 have hh6:w6.heap[g4]? =some (.cells (sA ⟨x,y,List.replicate 32 0⟩) 66 (0,0)):=by rw [hw6];exact Zcd (Zbr w5.drew _ _ _) hh5 (by omega)
 have r6:=ZcF (j:=0) (Zdr h5d.row 32 (by omega)) (fun q hq=>Nat.ne_of_lt (h5.apart (by omega) q hq)) (.slice a6 (n - 4 - 4 - 32) (c - 4 - 4 - 32))
 replace r6:Row .u8 w6 a3 32 (c - 4 - 4) (((z.drop 4).drop 4).take 32):=by rw [hw6];exact r6
 rw [List.drop_drop] at r6
 rw [List.drop_drop,List.drop_drop] at h6
 clear hw6 h5 h5d G5 hg5 hh5
 have hcp:=Zqb (by rfl) hh6 r6 3
 refine Za3 (i:=4) (fuel:=0) (by kernel_rfl) rfl (by rfl) (fun K hK=> ?_)
 go_simp
 refine hK _ _ trivial ?_
 clear hK K hcp
 have q7:Below w3.heap.size w6 (w6.setRow g4 (sA ⟨x,y,(z.drop (4+4)).take 32⟩)):=below_setRow (Below.refl _ _) hn4 _
 have hh7:=setRow_heap w6 g4 _ (sA ⟨x,y,(z.drop (4+4)).take 32⟩) _ _ hh6
 have hg7:(w6.setRow g4 (sA ⟨x,y,(z.drop (4+4)).take 32⟩)).heap[g1]? =some (.cells (sA sg0) 66 (0,0)):=by rw [q7.block g1 l31];exact hg6
 have h7:=h6.above q7 (by omega)
 have G7:=ZcG G6 (q7.mono hs3)
 have hsO:(⟨x,y,(z.drop (4+4)).take 32⟩:Sg).Ok:=⟨r6.hlen,Zcr (Zck hz _) _⟩
 have HE:Hid (sgAt z 0=⟨x,y,(z.drop (4+4)).take 32⟩):=HX.out
 clear r6 hh6 hg6 h6 G6 q7 HX
 generalize w6.setRow g4 (sA ⟨x,y,(z.drop (4+4)).take 32⟩)=w7 at*
 generalize (⟨x,y,(z.drop (4+4)).take 32⟩:Sg)=s at*
 refine wpAnyH_done (by kernel_rfl) ?_ _
 go_wp2_with (first
  | (refine wpList_load_mid rfl 66 _ rfl g4 0 rfl (sC s) _ (Zh2 hh7) Tryz.underlying66 rfl (by rw [ZbK hsO];exact Tryz.szSg) ?_)
  | (refine ZcH hg7 _ (.tmp 14) rfl rfl rfl (sA s) rfl rfl Tryz.szSg (Zba Zb7) (Zba hsO) (ZcQ s) ?_))
 have q8:Below w.heap.size w7 (w7.setRow g1 (sA s)):=below_setRow (Below.refl _ _) hlo _
 have hg8:=setRow_heap w7 g1 _ (sA s) _ _ hg7
 refine bodyPost_ret (results_cell_row rfl _ _ g1 _ (sA s) (0,0) _ rfl hg8 Tryz.underlying66 rfl (by rw [Zba hsO];exact Tryz.szSg)) rfl ?_
 refine ⟨a6,by rw [HE.out],ZcG G7 q8, ?_⟩
 have h8:=h7.above q8 hlt
 rw [show n - 4 - 4 - 32=n - 40 by omega,show c - 4 - 4 - 32=c - 40 by omega] at h8
 exact h8
theorem ZkN {w:World} {g:Nat} {a:Option Addr} {n c:Nat} {z:List Int} (h:RAt w g a n c z) (hz:IsB z) (hn:n<40):
  Calls Tryz.prog 132 #[.pointer (some ⟨g,0,none⟩)] w fun e w'=>e= .panicked ZdZ∧w.grownBy w' (some g):=by
 have V0:=Vars.start w
 go_enter Tryz.func132,Tryz.ntmps132
 go_wp2_with (refine Zai V0 2 66 rfl rfl rfl (sA sg0) ZcD ?_;intro w1 g1 V1)
 have h1:=h.below V1.bel (Nat.le_refl _)
 have G1:=Zew V1.bel (some g)
 clear V0 V1 h
 by_cases h4:n<4
 ·refine (Zd0 h1 h4).mono ?_
  rintro e w2 ⟨rfl,rfl⟩
  go_wp2_with fail
  exact ⟨rfl,rfl,G1⟩
 refine (Zc9 h1 hz (by omega)).mono ?_
 rintro e w2 ⟨a2,rfl,hw2,h2⟩
 have G2:w.grownBy w2 (some g):=by rw [hw2];exact ZbM G1 (Zbr _ _ _ _)
 clear hw2 h1 G1
 go_wp2_with fail
 by_cases h8:n<8
 ·refine (Zd0 h2 (by omega)).mono ?_
  rintro e w3 ⟨rfl,rfl⟩
  go_wp2_with fail
  exact ⟨rfl,rfl,G2⟩
 refine (Zc9 h2 (Zck hz 4) (by omega)).mono ?_
 rintro e w3 ⟨a3,rfl,hw3,h3⟩
 have G3:w.grownBy w3 (some g):=by rw [hw3];exact ZbM G2 (Zbr _ _ _ _)
 clear hw3 h2 G2
 rw [Zdp,Nat.add_zero]
 generalize Zab z 0=x at*
 generalize Zab z 4=y at*
 have V3:=Vars.start w3
 go_wp2_with (first
  | (refine ZaR 8 66 _ rfl rfl rfl (sA ⟨x,y,List.replicate 32 0⟩) (ZkM x y) ?_)
  | (refine Zai V3 3 66 rfl rfl rfl (sA sg0) ZcD ?_;intro w4 g4 V4)
  | (refine Zal V4 0 rfl _ (.tmp 8) rfl rfl rfl (sA ⟨x,y,List.replicate 32 0⟩) rfl rfl Tryz.szSg (Zba Zb7) (by rfl) (ZcQ _) ?_;intro w5 V5))
 have h5:=(h3.below V5.bel (Nat.le_refl _)).below ((Below.refl _ _).drew) (Nat.le_refl _)
 have G5:=ZcG (ZbM G3 (Zew V5.bel (some g))) ((Below.refl _ _).drew)
 clear V3 V4 V5 h3 G3
 refine Zar (fun _=>True) (by kernel_rfl) ?_
 refine Zaz (rs:=[0,1,2]) (fuel:=2) (by kernel_rfl) (fun c d v a w h=>by cases d<;>exact h) (by kernel_rfl) trivial (fun K hK=> ?_)
 refine Zad (.pointer (some ⟨g4,2,none⟩)) rfl (by rfl) (fun w' hw'=> ?_) ?_
 ·go_simp
 go_simp
 refine Zad (.slice (some ⟨g4,2,none⟩) 32 32) rfl (by rfl) (fun w' hw'=>Zfk g4 2 _ rfl rfl) ?_
 go_simp
 refine Zah _ rfl (by rfl) rfl ?_
 go_simp
 refine Zac (hK.out _ ?_)
 clear hK K
 refine Za3 (i:=3) (fuel:=1) (by kernel_rfl) rfl (by rfl) (fun K hK=> ?_)
 go_simp
 refine (Zh0 h5 32 (by omega) (by decide)).mono ?_
 rintro e w6 ⟨rfl,rfl⟩
 go_wp2_with fail
 exact ⟨rfl,rfl,G5⟩
end Go.Proofs.YtcaloldcihpkfaaGreatDoor.N
