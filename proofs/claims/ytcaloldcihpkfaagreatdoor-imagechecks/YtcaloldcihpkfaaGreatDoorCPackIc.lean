/-
 Layer 23: what the laws lean on: what was made is launched; small, None.
-/
import Derived.Test.YtcaloldcihpkfaaGreatDoorCPackIb
import Derived.Lib.SlBytesConst
namespace Go.Proofs.YtcaloldcihpkfaaGreatDoor.N
open Go.RowKit
set_option linter.unusedVariables false
set_option maxRecDepth 8192

theorem ZgI (sd:Nat) (m:Mf):ovI (Zbi sd m)=Zay m:=by
 unfold ovI Zbi
 rw [List.length_append,ZgH,Nat.add_sub_cancel,List.take_left']
 rfl
theorem ZuW (sd:Nat) (m:Mf):snI (Zbi sd m)=sgnI sd (Zay m):=by
 unfold snI Zbi
 rw [List.length_append,ZgH,Nat.add_sub_cancel,List.drop_left']
 rfl
theorem ZmF (sd:Nat) (m:Mf):(Zbi sd m).length=(Zay m).length+64:=by rw [Zbi,List.length_append,ZgH]
theorem ZuX (sd:Nat) {m:Mf} (h:m.Ok):IsB (Zbi sd m):=Ze8 (ZhA h) (Zms _ _)
theorem ZmG {m:Mf} (h:m.Ok) (hm:mayM m=true):Zab (Zay m) 12=m.key:=congrArg Mf.key (Zem h hm).1
theorem ZmH {m:Mf} (h:m.Ok) (hm:mayM m=true):Zab (Zay m) 8=m.sec:=congrArg Mf.sec (Zem h hm).1
theorem ZuY {m:Mf} (h:m.Ok) (hm:mayM m=true):Zab (Zay m) 16=m.ent:=congrArg Mf.ent (Zem h hm).1
theorem Zi3 {m:Mf} (h:m.Ok) (hm:mayM m=true):ZaN (Zay m) (cnt (Zay m))=m.segs:=congrArg Mf.segs (Zem h hm).1
theorem ZmI {m:Mf} (h:m.Ok) (hm:mayM m=true):cnt (Zay m)=m.segs.length:=by
 rw [←Zi3 h hm,Zf4]
def kyO (x:Int) (sd:Nat) (r:Bool):Ky:=⟨x,pubI sd,r⟩
theorem ZgJ (x:Int) (sd:Nat) (r:Bool):(kyO x sd r).Ok:=⟨ZiZ sd,Zmr sd⟩
theorem ZmJ (x:Int) (sd:Nat) (r:Bool):∀s∈ [kyO x sd r],s.Ok:=fun s hs=>by rw [List.mem_singleton.1 hs];exact ZgJ x sd r
theorem ZmK {x:Int} (sd:Nat) (r:Bool) (h:0≤x∧x≤2147483647):mayK [kyO x sd r]=true:=by
 unfold mayK ZbU
 simp only [List.length_cons,List.length_nil,Nat.zero_add]
 have e:Zez [kyO x sd r] 0=true:=by
  unfold Zez
  exact decide_eq_true (show (-1:Int)<x∧x≤2147483647 by omega)
 simp [List.range_succ,e]
theorem ZmL (x:Int) (sd:Nat) (r:Bool):Zbv [kyO x sd r] x=some 0:=by
 unfold Zbv
 simp [kyI,kyO]
theorem ZmM (x:Int) (sd:Nat):fndD [kyO x sd false] x=pubI sd∧fndC [kyO x sd false] x=0:=Zh8 (ZmL x sd false) rfl
theorem ZuZ (x:Int) (sd:Nat):fndC [kyO x sd true] x=190:=(Zh7 (ZmL x sd true) rfl).2
theorem Zu0 (sd:Nat) {m:Mf} (h:m.Ok) (hm:mayM m=true) (fuse:Int):Za8 [kyO m.key sd false] fuse (Zbi sd m)=bif decide (fuse≤m.sec) then 0 else 230:=by
 have M:=Zek hm
 rw [Za8,ZmK sd false M.k,decide_eq_true (by rw [ZmF];omega:64≤(Zbi sd m).length),ZgI,ZuW,(Zem h hm).2,ZmG h hm,ZmH h hm,(ZmM _ sd).1,(ZmM _ sd).2,Zmt sd (ZhA h)]
 rfl
theorem Zu1 (sd:Nat) {m:Mf} (h:m.Ok) (hm:mayM m=true) (fuse:Int):Za8 [kyO m.key sd true] fuse (Zbi sd m)=190:=by
 have M:=Zek hm
 rw [Za8,ZmK sd true M.k,decide_eq_true (by rw [ZmF];omega:64≤(Zbi sd m).length),ZgI,(Zem h hm).2,ZmG h hm,ZuZ]
 rfl
theorem Zu2 (sd:Nat) {m:Mf} (h:m.Ok) (hm:mayM m=true) (fuse:Int) (n:Nat) (R:Nat→B.PartV):ZbN [kyO m.key sd true] fuse (Zbi sd m) n R=190:=by
 rw [ZbN,Zu1 sd h hm]
 rfl
theorem Zu3 (sd:Nat) {m:Mf} (h:m.Ok) (hm:mayM m=true) (fuse:Int) (n:Nat) (R:Nat→B.PartV):ZbN [kyO m.key sd false] fuse (Zbi sd m) n R=bif decide (fuse≤m.sec) then (bif decide (n=m.segs.length) then bif areS m.segs R n then 0 else 231 else 231) else 230:=by
 rw [ZbN,Zu0 sd h hm]
 unfold sgsI
 rw [ZgI,ZmI h hm]
 have e:ZaN (Zay m) m.segs.length=m.segs:=by rw [←ZmI h hm];exact Zi3 h hm
 rw [e]
 cases decide (fuse≤m.sec)<;>rfl
def Zcz (n m:Nat) (R:Nat→B.PartV):Bool:=decide (n≤20)&&(decide (m≤20)&&(List.range m).all fun i=>decide ((R i).len≤200))
theorem ZmN {n m:Nat} {R:Nat→B.PartV} (h:Zcz n m R=true):n≤20∧m≤20∧∀i,i<m→(R i).len≤200:=by
 simpa [Zcz] using h
theorem Zu4 {n m:Nat} {R:Nat→B.PartV} {k:Nat} (hk:k<m) (h:¬(R k).len≤200):Zcz n m R=false:=by
 cases e:Zcz n m R
 ·rfl
 ·exact absurd ((ZmN e).2.2 k hk) h
set_option maxHeartbeats 800000 in
theorem Zu5 {w:World} {v s k e:Int} {a pa:Option Addr} {n c m pc:Nat} {R:Nat→B.PartV} (hc:n≤maxLen) (hp:B.PartsAt w pa m pc R):
  Calls Tryz.prog 8 #[.agg #[.int .i64 v, .int .i64 s, .int .i64 k, .int .i64 e, .slice a n c], .slice pa m pc] w fun e' w'=>e'= .returned (.bool (Zcz n m R))∧Below w.heap.size w w':=by
 have hpm:=hp.hmax
 have hpl:=hp.hlen
 unfold maxLen at hpm hc
 have V0:=Vars.start w
 go_enter Tryz.func8,Tryz.ntmps8
 by_cases hn:n≤20
 case neg=>
  have hn':(20:Int)<(n:Int):=by omega
  go_wp2_with (refine Zaj V0 2 25 _ rfl rfl rfl #[.int .i64 v, .int .i64 s, .int .i64 k, .int .i64 e, .slice a n c] rfl ?_;intro w1 g1 V1;have c4:w1.cell? ⟨g1,4,none⟩=some (.slice a n c):=Zag (V1.at 0 rfl) 4)
  go_ret
  exact ⟨ZaC (by rw [Zcz,decide_eq_false hn];rfl),V1.bel⟩
 have hn':¬(20:Int)<(n:Int):=by omega
 by_cases hm:m≤20
 case neg=>
  have hm':(20:Int)<(m:Int):=by omega
  go_wp2_with (refine Zaj V0 2 25 _ rfl rfl rfl #[.int .i64 v, .int .i64 s, .int .i64 k, .int .i64 e, .slice a n c] rfl ?_;intro w1 g1 V1;have c4:w1.cell? ⟨g1,4,none⟩=some (.slice a n c):=Zag (V1.at 0 rfl) 4)
  go_ret
  exact ⟨ZaC (by rw [Zcz,decide_eq_false hm,decide_eq_true hn];rfl),V1.bel⟩
 have hm':¬(20:Int)<(m:Int):=by omega
 go_wp2_with (refine Zaj V0 2 25 _ rfl rfl rfl #[.int .i64 v, .int .i64 s, .int .i64 k, .int .i64 e, .slice a n c] rfl ?_;intro w1 g1 V1;have c4:w1.cell? ⟨g1,4,none⟩=some (.slice a n c):=Zag (V1.at 0 rfl) 4)
 have HP:=hp.below V1.bel (Nat.le_refl _)
 have HQ:Hid (Below w.heap.size w w1):=V1.bel
 clear V0 V1 c4 hp
 go_loopw [5] (fun i wr=>∃k:Nat,k≤m∧i= .int .i64 (k:Int)∧Hid (∀j,j<k→(R j).len≤200)∧Hid (wr=w1)) (fun i _=>m - (RowKit.intOf i).toNat)
 case atStart=>exact ⟨0,Nat.zero_le _,rfl,fun j hj=>absurd hj (Nat.not_lt_zero _),rfl⟩
 case round=>
  obtain ⟨k,hk,rfl,HK,HW⟩:=hrel
  obtain rfl:=HW.out
  by_cases hlt:k<m
  ·obtain ⟨b,off,rfl,hb,hpe⟩:=HP.each (by omega)
   obtain ⟨x0,_,_⟩:=hpe k hlt
   have hlt':(k:Int)<(m:Int):=by omega
   have HR:Hid ((R k).len≤200→∀j,j<k+1→(R j).len≤200):=fun h j hj=>by
    rcases Nat.lt_or_ge j k with h1|h1
    ·exact HK.out j h1
    ·obtain rfl:j=k:=by omega
     exact h
   have HF0:Hid (¬(R k).len≤200→Zcz n m R=false):=Zu4 hlt
   clear hpe
   generalize R k=r at*
   by_cases hl:r.len≤200
   ·have hl':¬(200:Int)<(r.len:Int):=by omega
    go_wp2
    go_roundw
    case rel=>exact ⟨k+1,by omega,by go_num,HR.out hl,trivial⟩
    case measure=>simp [RowKit.intOf];omega
   ·have hl':(200:Int)<(r.len:Int):=by omega
    have HF:Hid (Zcz n m R=false):=HF0.out hl
    go_wp2
    go_ret
    exact ⟨ZaC HF.out.symm,HQ.out⟩
  ·obtain rfl:k=m:=by omega
   have hk0:¬(k:Int)<(k:Int):=by omega
   have HT:Hid (Zcz n k R=true):=by
    show _=_
    simp only [Zcz,decide_eq_true hn,decide_eq_true hm,Bool.true_and,List.all_eq_true,List.mem_range,decide_eq_true_iff]
    exact HK.out
   go_wp2
   go_ret
   exact ⟨ZaC HT.out.symm,HQ.out⟩
theorem Zv4 (w:World):Calls Tryz.prog 19 #[.agg ld00] w fun e w'=>e= .returned (.bool true)∧Below w.heap.size w w':=by
 have V0:=Vars.start w
 go_enter Tryz.func19,Tryz.ntmps19
 go_wp2_with (refine Zaj V0 1 44 _ rfl rfl rfl ld00 rfl ?_;intro w1 g1 V1;have c0:w1.cell? ⟨g1,0,none⟩=some (.int .i64 0):=Zag (V1.at 0 rfl) 0;have c1:w1.cell? ⟨g1,1,none⟩=some (.int .i64 0):=Zag (V1.at 0 rfl) 1;have c2:w1.cell? ⟨g1,2,none⟩=some (.int .i64 0):=Zag (V1.at 0 rfl) 2;have c3:w1.cell? ⟨g1,3,none⟩=some (.slice none 0 0):=Zag (V1.at 0 rfl) 3;have c4:w1.cell? ⟨g1,4,none⟩=some (.int .i64 0):=Zag (V1.at 0 rfl) 4)
 go_ret
 exact ⟨rfl,V1.bel⟩
end Go.Proofs.YtcaloldcihpkfaaGreatDoor.N

/-
 Layer 23: awake: the document's examples.
-/
namespace Go.Proofs.YtcaloldcihpkfaaGreatDoor.N
open Go.RowKit
set_option linter.unusedVariables false
set_option maxRecDepth 8192

theorem LdI.below {T:TypeId} {w w':World} {Z k:Nat} {l:List Sg} {R:Nat→B.PartV} {v:Value} (h:LdI T w Z l R k v) (q:Below w.heap.size w w'):LdI T w' Z l R k v:=h.keep q.size fun j _ hj=>q.block j hj
theorem Zu6 (x:Int) (sd:Nat):(kA (kyO x sd false)).setIfInBounds 33 (.bool true)=kA (kyO x sd true):=by
 unfold kA
 rw [List.setIfInBounds_toArray,ZqD (ZgJ x sd false)]
 rfl
theorem ZmO {k:IntKind} {w:World} {a:Option Addr} {n c:Nat} {z:List Int} (h:Row k w a n c z) (h0:0<n):∀q,a=some q→q.block<w.heap.size:=fun q hq=>by
 obtain ⟨b,off,rfl,hb,_⟩:=h.hcell h0
 cases hq
 exact hb
theorem Zu7 {d:List Int} (h:d.length=32):d=(List.range 32).map fun i=>d[i]?.getD 0:=by
 apply List.ext_getElem
 ·simp [h]
 ·intro i h1 h2
  simp [List.getElem?_eq_getElem h1]
theorem ZmP {w:World} {g:Nat} {T:TypeId} {s:Ky} (hg:w.heap[g]? =some (.cells (kA s) T (0,0))):KRow w (some ⟨g,0,none⟩) 1 1 [s]:=
 ⟨rfl,Nat.le_refl _,by unfold maxLen;omega,by simp,fun _=>⟨g,0,rfl,Zat hg,fun i hi=>by
  obtain rfl:i=0:=by omega
  exact Zid hg⟩⟩
theorem Zu8 (x:Int) (f:Nat→Int):Tryz.prog.built 54 [(0, .int .i64 x),(1, .agg (dA ((List.range 32).map f)))]=some (kA ⟨x,(List.range 32).map f,false⟩):=by kernel_rfl
theorem Zu9 (x:Int) (sd:Nat):Tryz.prog.built 54 [(0, .int .i64 x),(1, .agg (dA (pubI sd)))]=some (kA (kyO x sd false)):=by
 unfold kyO
 have h:=ZiZ sd
 generalize pubI sd=d at*
 rw [Zu7 h]
 exact Zu8 x _
def s5:Sg:=⟨5,0,List.replicate 32 0⟩
theorem Zva:∀s∈ [s5],s.Ok:=fun s hs=>by rw [List.mem_singleton.1 hs];exact ⟨rfl,fun x hx=>by rw [List.eq_of_mem_replicate hx];decide⟩
theorem Zvb:Tryz.prog.built 66 [(0, .int .i64 5)]=some (sA s5):=by kernel_rfl
theorem Zvc (w:World):(Instr.buildSlice 23 1 [(0, .agg (sA s5))].toArray).run Tryz.prog w= .ok (.slice (some ⟨w.heap.size,0,none⟩) 1 1) (w.alloc (.cells (sA s5) 66)):=by kernel_rfl
theorem Zvd (a:Option Addr) (n c:Nat):Tryz.prog.built 25 [(2, .int .i64 1),(3, .int .i64 9),(4, .slice a n c)]=some #[.int .i64 0, .int .i64 0, .int .i64 1, .int .i64 9, .slice a n c]:=by kernel_rfl
theorem Zve {w:World} {g:Nat} {T:TypeId} {s:Sg} (hg:w.heap[g]? =some (.cells (sA s) T (0,0))):SegRow w (some ⟨g,0,none⟩) 1 1 [s]:=
 ⟨rfl,Nat.le_refl _,by unfold maxLen;omega,by simp,fun _=>⟨g,0,rfl,Zat hg,fun i hi=>by
  obtain rfl:i=0:=by omega
  exact Zid hg⟩⟩
def abc:List Nat:=[97,98,99]
theorem Zvf (w:World):Row .u8 (w.alloc (.cells #[.int .u8 97, .int .u8 98, .int .u8 99] 5 (3,4))) (some ⟨w.heap.size,0,none⟩) 3 3 (nI abc):=
 Zf9 .u8 w 5 (3,4) (nI abc) 3 rfl (by decide) _ rfl
theorem Zvg (R:Nat→B.PartV) (h:(R 0).len=3):mayM (mfOf 0 0 1 9 [s5] R 1)=true:=by
 unfold mayM mfOf ZaX
 simp [List.range_succ,h,okTo,okAt,Zb8,sgI,s5,Zbf]
set_option maxHeartbeats 400000 in
theorem ZmQ (w:World) (ho:OAt w) (hd:DAt w):Calls Tryz.prog 11 #[] w fun e w'=>e= .returned (.bool true)∧Below w.heap.size w w':=by
 have V0:=Vars.start w
 have kc:=fun (w:World) (C:Array Value) (n c:Nat)=>Lib.run_convert_bytes_const (P:=Tryz.prog) w 28 5 C n c Tryz.underlying28 Tryz.underlying5
 go_enter Tryz.func11,Tryz.ntmps11
 go_upto_region 2 with (refine Zai V0 1 22 rfl rfl rfl (bA 0) Zbu ?_;intro w1 g1 V1)
 have q2:=ZaS w1 (.cells #[.int .u8 97, .int .u8 98, .int .u8 99] 5 (3,4))
 have V2:=V1.call q2
 have r2:=Zvf w1
 go_upto_region 3 with fail
 have V3:=V2.new 28 #[.slice (some ⟨w1.heap.size,0,none⟩) 3 3]
 have r3:=r2.below (ZaS (w1.alloc (.cells #[.int .u8 97, .int .u8 98, .int .u8 99] 5 (3,4))) (.cells #[.slice (some ⟨w1.heap.size,0,none⟩) 3 3] 28)) (Nat.le_refl _)
 have e3:(w1.alloc (.cells #[.int .u8 97, .int .u8 98, .int .u8 99] 5 (3,4))).heap.size=w1.heap.size+1:=by simp
 rw [e3] at V3
 generalize (w1.alloc (.cells #[.int .u8 97, .int .u8 98, .int .u8 99] 5 (3,4))).alloc (.cells #[.slice (some ⟨w1.heap.size,0,none⟩) 3 3] 28)=w3 at*
 clear V1 V2 q2 r2 e3 V0 kc
 generalize w1.heap.size+1=g3 at*
 generalize w1.heap.size=g2 at*
 clear w1
 go_step
 refine ZaM V3 1 rfl 14 _ rfl rfl rfl rfl Tryz.underlying22 Tryz.szB (Zaf _) ?_
 refine ZaR 15 66 [(0, .const (.int .i64 5))] (by rfl) rfl rfl (sA s5) Zvb ?_
 refine Zfz (Vars.start w3) 16 23 1 [(0, .tmp 15)] rfl rfl rfl 66 (sA s5) Zvc ?_
 intro w4 g4 U4
 have V4:=V3.made U4.bel (U4.low _ (List.mem_singleton.2 rfl)) (U4.at 0 rfl)
 have r4:=r3.below U4.bel (Nat.le_refl _)
 clear U4 V3 r3
 refine ZaR 17 25 [(2, .const (.int .i64 1)),(3, .const (.int .i64 9)),(4, .tmp 16)] (by rfl) rfl rfl _ (Zvd _ 1 1) ?_
 go_wp2_with fail
 obtain ⟨R,hR⟩:∃R:Nat→B.PartV,R=fun _=>⟨some ⟨g2,0,none⟩,3,3,abc⟩:=⟨_,rfl⟩
 have HR0:Hid (R 0=⟨some ⟨g2,0,none⟩,3,3,abc⟩):=by rw [hR];exact rfl
 have hlen:∀i,i<1→(R i).len≤100000:=fun i hi=>by rw [hR];show 3≤100000;decide
 have parts:∀w',w'.heap[g3]? =some (.cells #[.slice (some ⟨g2,0,none⟩) 3 3] 28 (0,0))→Row .u8 w' (some ⟨g2,0,none⟩) 3 3 (nI abc)→B.PartsAt w' (some ⟨g3,0,none⟩) 1 1 R:=fun w' h r=>by
  rw [hR]
  exact B.Zl2 (Zat h) ⟨Zag h 0,r,by decide,by decide⟩
 have hM:=Zvg R (by rw [hR])
 have hok:=Zi2 0 0 1 9 [s5] R 1
 have hD:=ZuX 0 hok
 have HS:Hid (sgsI (Zbi 0 (mfOf 0 0 1 9 [s5] R 1))=ZaX [s5] R 1∧Zab (ovI (Zbi 0 (mfOf 0 0 1 9 [s5] R 1))) 16=9∧Zab (ovI (Zbi 0 (mfOf 0 0 1 9 [s5] R 1))) 8=0):=by
  unfold sgsI
  rw [ZgI]
  exact ⟨Zi3 hok hM,ZuY hok hM,ZmH hok hM⟩
 have C1:Hid (ZbN [kyO 1 0 false] 0 (Zbi 0 (mfOf 0 0 1 9 [s5] R 1)) 1 R=0):=by
  show _=_
  have h:=Zu3 0 hok hM 0 1 R
  have e:areS (mfOf 0 0 1 9 [s5] R 1).segs R 1=true:=ZpL _ _ _
  have e2:(mfOf 0 0 1 9 [s5] R 1).segs.length=1:=ZcE _ _ _
  rw [e,e2] at h
  exact h
 have C2:Hid (ZbN [kyO 1 0 true] 0 (Zbi 0 (mfOf 0 0 1 9 [s5] R 1)) 1 R=190):=Zu2 0 hok hM 0 1 R
 have hmk:=ZmD (v:=0) (s:=0) (k:=1) (e:=9) 0 (by decide) (Zve (V4.at 0 rfl)) Zva (parts w4 (V4.at 1 rfl) r4) (by decide) hlen (ho.of V4) (hd.of V4)
 clear hok hR
 generalize Zbi 0 (mfOf 0 0 1 9 [s5] R 1)=D at*
 refine hmk.mono ?_
 rintro e5 w5 ⟨q5,⟨hno,_⟩|⟨x1,x2,ab,cb,rfl,rb⟩⟩
 case inl=>rw [hno rfl] at hM;cases hM
 clear x1 x2
 have V5:=V4.call q5
 have r5:=r4.below q5 (Nat.le_refl _)
 clear hmk hM V4 q5 r4
 go_upto_region 4 with fail
 go_step
 refine ZaM V5 2 rfl 22 _ rfl rfl rfl rfl Tryz.underlying22 Tryz.szB (Zaf _) ?_
 go_wp2_with fail
 refine (Zmu 0 (by decide) w5 (hd.of V5)).mono ?_
 rintro e6 w6 ⟨rfl,q6⟩
 have V6:=V5.call q6
 have r6:=r5.below q6 (Nat.le_refl _)
 have rb6:=rb.below q6 (Nat.le_refl _)
 clear V5 q6 r5 rb
 dsimp only
 go_step
 refine ZaR 24 54 [(0, .const (.int .i64 1)),(1, .tmp 23)] (by rfl) rfl rfl _ (Zu9 1 0) ?_
 refine Zfz (Vars.start w6) 25 39 1 [(0, .tmp 24)] rfl rfl rfl 54 (kA (kyO 1 0 false)) (ZqQ (ZgJ 1 0 false)) ?_
 intro w7 g7 U7
 have V7:=V6.made U7.bel (U7.low _ (List.mem_singleton.2 rfl)) (U7.at 0 rfl)
 have r7:=r6.below U7.bel (Nat.le_refl _)
 have rb7:=rb6.below U7.bel (Nat.le_refl _)
 have lo7:w6.heap.size≤g7:=U7.low _ (List.mem_singleton.2 rfl)
 have n1:∀q,(some ⟨g2,0,none⟩:Option Addr)=some q→q.block≠g7:=fun q hq=>by have:=ZmO r6 (by decide) q hq;omega
 have n2:∀q,ab=some q→q.block≠g7:=fun q hq=>by have:=ZmO rb6 (by decide) q hq;omega
 clear lo7
 clear U7 V6 r6 rb6
 go_wp2_with fail
 have hck:=ZmA (fuse:=0) (l:=[kyO 1 0 false]) (ZmP (V7.at 0 rfl)) (ZmJ 1 0 false) rb7 hD (by decide) (ho.of V7) (hd.of V7) (parts w7 (V7.at 2 rfl) r7) hlen
 rw [C1.out] at hck
 refine hck.mono ?_
 rintro e8 w8 ⟨q8,⟨x1,x2,x3,la,lc,rfl,Z,hZ,hld⟩|⟨hno,_⟩⟩
 case inr=>exact absurd rfl hno
 clear x1 x2 x3
 rw [HS.out.2.1,HS.out.2.2]
 rw [HS.out.1] at hld
 have V8:=V7.call q8
 have r8:=r7.below q8 (Nat.le_refl _)
 have rb8:=rb7.below q8 (Nat.le_refl _)
 have l7:=Zat (V7.at 0 rfl)
 have U8:=Vars.start w8
 clear hck V7 q8 r7 rb7
 go_upto_region 6 with (first
  | (refine Zai U8 6 44 rfl rfl rfl ld00 ZfG ?_;intro w9 g9 U9)
  | (refine Zal U9 0 rfl _ (.tmp 31) rfl rfl rfl #[.int .i64 0, .int .i64 9, .int .i64 0, .slice la 1 lc, .int .i64 0] rfl rfl Tryz.szLd rfl rfl (ZeN _ _ _ _ _ _ _) ?_;intro w10 U10))
 have V10:=V8.made U10.bel (U10.low _ (List.mem_singleton.2 rfl)) (U10.at 0 rfl)
 have r10:=r8.below U10.bel (Nat.le_refl _)
 have rb10:=rb8.below U10.bel (Nat.le_refl _)
 have hld10:=hld.below U10.bel
 clear U8 U9 U10 V8 r8 rb8 hld
 have c7:w10.cell? ⟨g7,33,none⟩=some (.bool false):=(Zag (V10.at 1 rfl) 33).trans (by
  unfold kA
  simp only [List.getElem?_toArray]
  exact Zib (ZgJ 1 0 false))
 have f7:=ZaJ (V10.at 1 rfl) 33
 have V11:=V10.put 1 rfl 33 (.bool true)
 rw [Zu6] at V11
 have r11:=ZcF (j:=33) r10 n1 (.bool true)
 have rb11:=ZcF (j:=33) rb10 n2 (.bool true)
 have hld11:LdI 70 (w10.setCell ⟨g7,33,none⟩ (.bool true)) Z (ZaX [s5] R 1) R 1 (.slice la 1 lc):=hld10.keep (by simp) (fun j hj _=>Below.heap_setCell _ _ _ j (by show j≠g7;omega))
 clear hld10 r10 rb10 V10 n1 n2 l7 hZ
 go_upto_region 7 with fail
 clear c7 f7
 generalize w10.setCell ⟨g7,33,none⟩ (.bool true)=w11 at*
 go_wp2_with fail
 have hck:=ZmA (fuse:=0) (l:=[kyO 1 0 true]) (ZmP (V11.at 1 rfl)) (ZmJ 1 0 true) rb11 hD (by decide) (ho.of V11) (hd.of V11) (parts w11 (V11.at 3 rfl) r11) hlen
 rw [C2.out] at hck
 refine hck.mono ?_
 rintro e12 w12 ⟨q12,⟨hno,_⟩|⟨x1,rfl⟩⟩
 case inl=>exact absurd hno (by decide)
 clear x1
 have V12:=V11.call q12
 obtain ⟨la',lc',e',hrow⟩:=(hld11.below q12).row
 cases e'
 obtain ⟨bl,rfl,hbl,he⟩:=hrow.each (by decide)
 obtain ⟨ad,cd,d0,d1,rd⟩:=he 0 (by decide)
 have hS5:(sgI (ZaX [s5] R 1) 0).load=5:=rfl
 rw [hS5] at d0
 rw [HR0.out] at d1 rd
 simp only [Nat.zero_mul,Nat.zero_add] at d0 d1
 have l12:w.heap.size≤w12.heap.size:=V12.bel.size
 have lbl:=Za0 d0
 have U12:=Vars.start w12
 clear hck V11 q12 r11 rb11 hld11 he hrow parts hlen hD C1 C2 HR0
 go_upto_region 8 with (first
  | (refine Zai U12 8 44 rfl rfl rfl ld00 ZfG ?_;intro w13 g13 U13)
  | (refine Zal U13 0 rfl _ (.tmp 41) rfl rfl rfl ld00 rfl rfl Tryz.szLd rfl rfl (ZeN 0 0 0 0 none 0 0) ?_;intro w14 U14))
 have V14:=V12.call U14.bel
 have k1:w14.cell? ⟨g9,1,none⟩=some (.int .i64 9):=Zag (V14.at 0 rfl) 1
 have k3:w14.cell? ⟨g9,3,none⟩=some (.slice (some ⟨bl,0,none⟩) 1 lc):=Zag (V14.at 0 rfl) 3
 have k4:w14.cell? ⟨bl,0,none⟩=some (.int .i64 5):=(U14.bel.cell (p:=⟨bl,0,none⟩) lbl).trans d0
 have k5:w14.cell? ⟨bl,1,none⟩=some (.slice ad 3 cd):=(U14.bel.cell (p:=⟨bl,1,none⟩) lbl).trans d1
 have kc:=ZfS (P:=Tryz.prog) Tryz.underlying28 Tryz.underlying5 Tryz.underlying9 (rd.below U14.bel (Nat.le_refl _))
 have hstr:(strOfNums (nI abc)).toList=[97,98,99]:=by rw [Lib.toList_data];rfl
 have HQ:Hid (Below w.heap.size w w14):=V14.bel
 clear U12 U13 U14 V12 V14 d0 d1 rd
 go_wp2_with fail
 go_ret
 exact ⟨rfl,HQ.out⟩
end Go.Proofs.YtcaloldcihpkfaaGreatDoor.N
