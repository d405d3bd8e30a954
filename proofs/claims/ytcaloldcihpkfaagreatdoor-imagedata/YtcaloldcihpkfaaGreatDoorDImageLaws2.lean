/-
 Layer 23's laws: Data.
-/
import Derived.Test.YtcaloldcihpkfaaGreatDoorDImageLaws
import Derived.Test.YtcaloldcihpkfaaGreatDoorDPackOp
namespace Go.Proofs.YtcaloldcihpkfaaGreatDoor.N
open Go.RowKit
set_option linter.unusedVariables false
set_option maxRecDepth 8192

def pV (R:Nat→B.PartV) (n:Nat):List Value:=(List.range n).map fun i=> .slice (R i).at_ (R i).len (R i).cap
theorem Zep (R:Nat→B.PartV) (n:Nat):(pV R n).length=n:=by simp [pV]
theorem Zgh (R:Nat→B.PartV) {n i:Nat} (h:i<n):(pV R n)[i]? =some (.slice (R i).at_ (R i).len (R i).cap):=by simp [pV,h]
theorem Zu0 (R:Nat→B.PartV) (n:Nat):∀u∈pV R n,u.oneCell'=true:=fun u hu=>by
 obtain ⟨i,_,rfl⟩:=List.mem_map.1 hu
 rfl
theorem Zmp {w:World} {base n:Nat} {e:TypeId} {v:Value} {xs:List Value} {R:Nat→B.PartV} (own:w.ownsRow base e 1 v n xs) (hx:∀i,i<n→xs[i]? =some (.slice (R i).at_ (R i).len (R i).cap)) (hr:∀i,i<n→Row .u8 w (R i).at_ (R i).len (R i).cap (nI (R i).num)∧∀x∈(R i).num,x<256):∃a c,v= .slice a n c∧B.PartsAt w a n c R:=by
 rcases id own.2 with ⟨rfl,h0⟩|⟨g,cap,cur,rfl,hg,hh,hnc,hcm,hcs,htake⟩
 ·subst h0
  exact ⟨none,0,rfl,Nat.le_refl _,Nat.zero_le _,fun h=>absurd h (by omega)⟩
 ·refine ⟨_,cap,rfl,hnc,hcm,fun _=>⟨g,0,rfl,Zau hh,fun i hi=>⟨?_,hr i hi⟩⟩⟩
  have:=own.cells (g:=g) rfl _ _ (hx i hi)
  rwa [ZaY] at this
theorem ZiP {P:Program} (w:World) {ops:Array Oper} {rest:List Oper} {o:Oper} {a:Act} {Q:Exit→Act→World→Prop} (hgd:o.guard=none) (s x:Operand) (t:TypeId)
  (ho:o.op= .call { callee:= .builtin .append,args:= #[s,x],argTypes:= #[t,t] })
  (base:Nat) (e:TypeId) (i:TypeInfo) (z:Value) (ht:P.underlying t=some (.slice e)) (hi:P.info? e=some i) (hz:i.zero=some z) (hsize:i.size=1) (hby:i.bytes=24) (hzs:z.cells.size=1)
  (v:Value) (n:Nat) (xs:List Value) (hs:a.eval s=v) (hown:w.ownsRow base e 1 v n xs)
  (sa:Option Addr) (m c:Nat) (R:Nat→B.PartV) (hx:a.eval x= .slice sa m c) (hr:B.PartsAt w sa m c R) (hn:sa=none→c=0)
  (hsm:n+m≤100000) (hbase:base≤w.heap.size)
  (h:∀v' w',w'.ownsRow base e 1 v' (n+m) (xs++pV R m)→Below base w w'→wpList P ops Q rest (a.put o.dst v') w'):wpList P ops Q (o::rest) a w:=by
 cases sa with
 | none=>
  obtain rfl:c=0:=hn rfl
  obtain rfl:m=0:=by have:=hr.hlen;omega
  refine wpList_append_own_none hgd s x t ho base e i 1 ht hi v n xs hs hown hx ?_
  exact h v w (by simpa [pV] using hown) (Below.refl _ _)
 | some ad=>
  refine wpList_append_own w hgd s x t ho base e i z 1 24 ht hi hz hsize hby hzs (by decide) v n xs hs hown ad m c (pV R m) hx (by rw [Zep,Nat.mul_one]) ?_ (Zu0 R m) (by unfold maxLen;omega) (by omega) hbase fun v' w' h1 h2 _=>h v' w' h1 ((Below.refl _ _).grown h2 hbase (fun j hj=>(hown.lt j hj).1))
  intro j u hj
  have hlt:j<m:=by rw [←Zep R m];exact (List.getElem?_eq_some_iff.1 hj).1
  obtain ⟨b,off,hab,_,hc⟩:=hr.each (by omega)
  simp only [Option.some.injEq] at hab
  subst hab
  rw [Zgh R hlt] at hj
  rw [ZaY,(hc j hlt).1]
  exact hj
def putP (R:Nat→B.PartV) (i:Nat) (p:B.PartV):Nat→B.PartV:=fun j=>if j=i then p else R j
theorem Zgi (R:Nat→B.PartV) (i:Nat) (p:B.PartV):putP R i p i=p:=if_pos rfl
theorem ZiQ (R:Nat→B.PartV) {i j:Nat} (p:B.PartV) (h:j≠i):putP R i p j=R j:=if_neg h
theorem Zu1 (sd:Nat) {m:Mf} (h:m.Ok) (hm:mayM m=true) (n:Nat) (R:Nat→B.PartV) (hn:n=m.segs.length→areS m.segs R n=false):Zbs [kyO m.key sd false] 0 (Zbc sd m) n R=231:=by
 have M:=ZdX hm
 rw [Zme sd h hm,decide_eq_true M.s.1]
 by_cases e:n=m.segs.length
 ·rw [decide_eq_true e,hn e]
  rfl
 ·rw [decide_eq_false e]
  rfl
theorem Zu2:∃i,Tryz.prog.info? 28=some i∧i.zero=some (.slice none 0 0)∧i.size=1∧i.bytes=24:=by
 have h:(Tryz.prog.info? 28).map (fun i=>(i.zero,i.size,i.bytes))=some (some (.slice none 0 0),1,24):=by kernel_rfl
 obtain ⟨i,hi,he⟩:=Option.map_eq_some_iff.1 h
 simp only [Prod.mk.injEq] at he
 exact ⟨i,hi,he.1,he.2.1,he.2.2⟩
theorem Zmq (w:World):Row .u8 w none 0 0 (nI []):=⟨rfl,Nat.le_refl _,Nat.zero_le _,fun _=>rfl,fun h=>absurd h (by omega)⟩
set_option maxHeartbeats 3200000 in
theorem Zu3 (sd:Nat) (hsd:sd<2^256) (v s k e:Int) (a pa:Option Addr) (n c m pc:Nat) (l:List Sg) (R:Nat→B.PartV) (w:World) (hr:SegRow w a n c l) (ok:∀s∈l,s.Ok) (hpN:PartsN w pa m pc R) (ho:OAt w) (hd:DAt w):
  Calls Tryz.prog 7 #[.agg (bA sd), .agg #[.int .i64 v, .int .i64 s, .int .i64 k, .int .i64 e, .slice a n c], .slice pa m pc] w fun e' w'=>e'= .returned (.bool true)∧Below w.heap.size w w':=by
 obtain ⟨hp,hnil⟩:=hpN
 obtain ⟨i0,hi0,hz0,hz1,hz2⟩:=Zu2
 have hcm:=Nat.le_trans hr.hcap hr.hmax
 have V0:=Vars.start w
 go_enter Tryz.func7,Tryz.ntmps7
 go_wp2_with (first
  | (refine Zaf V0 3 22 _ rfl rfl rfl (bA sd) rfl ?_;intro w1 g1 V1)
  | (refine Zaf V1 4 25 _ rfl rfl rfl #[.int .i64 v, .int .i64 s, .int .i64 k, .int .i64 e, .slice a n c] rfl ?_;intro w2 g2 V2)
  | (refine Zaw rfl (Zc4 V2 0 rfl _ rfl rfl Tryz.underlying25 rfl Tryz.szMf rfl) ?_))
 refine (ZuD hcm (hp.below V2.bel (Nat.le_refl _))).mono ?_
 rintro e3 w3 ⟨rfl,q3⟩
 have V3:=V2.call q3
 clear V0 V1 V2 q3
 cases hsm:Zcl n m R
 ·go_wp2
  go_ret
  exact ⟨rfl,V3.bel⟩
 obtain ⟨hn20,hm20,hl200⟩:=Zmf hsm
 have hlen:∀i,i<m→(R i).len≤100000:=fun i hi=>Nat.le_trans (hl200 i hi) (by decide)
 clear hsm
 go_wp2_with (first
  | (refine ZaF V3 1 rfl 24 _ rfl rfl rfl rfl Tryz.underlying22 Tryz.szB (Zae _) ?_)
  | (refine Zaw rfl (Zc4 V3 0 rfl _ rfl rfl Tryz.underlying25 rfl Tryz.szMf rfl) ?_))
 refine (Zl4 (v:=v) (s:=s) (k:=k) (e:=e) sd hsd (hr.below V3.bel (Nat.le_refl _)) ok (hp.below V3.bel (Nat.le_refl _)) (by omega) hlen (ho.of V3) (hd.of V3)).mono ?_
 rintro e4 w4 ⟨q4,⟨_,rfl⟩|⟨rfl,hM,ab,cb,rfl,rb⟩⟩
 ·have V4:=V3.call q4
  go_wp2_with fail
  refine (Zmj w4 (ho.of V4) (hd.of V4)).mono ?_
  rintro e5 w5 ⟨rfl,q5⟩
  have V5:=V4.call q5
  go_wp2
  go_ret
  exact ⟨rfl,V5.bel⟩
 have V4:=V3.call q4
 have hok:=Zgf v s k e l R m
 have hD:=Zl7 sd hok
 have e2:(mfOf v s k e l R m).segs.length=m:=Zcq _ _ _
 have CO:Hid (∀(n':Nat) (R':Nat→B.PartV),(n'=m→areS (Zbg l R m) R' m=false)→Zbs [kyO k sd false] 0 (Zbc sd (mfOf v s k e l R m)) n' R'=231):=fun n' R' h=>Zu1 sd hok hM n' R' (fun h'=>by
  rw [e2] at h'
  subst h'
  exact h rfl)
 clear hok hM V3 q4 hr ok e2
 generalize Zbc sd (mfOf v s k e l R m)=D at*
 have V5:=V4.drew
 have rb5:=rb.below (Zap.drew w4) (Nat.le_refl _)
 go_upto_region 6 with fail
 refine Zao (fun w'=>Vars w w' [⟨g2,25, #[.int .i64 v, .int .i64 s, .int .i64 k, .int .i64 e, .slice a m c]⟩,⟨g1,22,bA sd⟩]) (by kernel_rfl) ?_
 refine ZaH (rs:=[0,1,2]) (fuel:=4) (by kernel_rfl) (fun c d v a w h=>by cases d<;>exact h) (by kernel_rfl) V5 (fun K hK=> ?_)
 refine Zai (.pointer (some ⟨g2,2,none⟩)) rfl (by rfl) (fun w' hw'=>by go_simp) ?_
 go_simp
 refine Zai (.int .i64 k) rfl (by rfl) (fun w' hw'=>by have c2:w'.cell? ⟨g2,2,none⟩=some (.int .i64 k):=Zah (hw'.at 0 rfl) 2;go_simp) ?_
 go_simp
 refine Zai (.agg (bA sd)) rfl (by rfl) (fun w' hw'=>ZaD hw' 1 rfl _ rfl rfl Tryz.underlying22 Tryz.szB (Zae _)) ?_
 go_simp
 refine Zad (hK.out _ ?_)
 clear hK K
 refine Za0 (i:=3) (fuel:=3) (by kernel_rfl) rfl (by rfl) (fun K hK=> ?_)
 go_simp
 refine (ZlZ sd hsd _ (hd.of V5)).mono ?_
 rintro e6 w6 ⟨rfl,q6⟩
 have V6:=V5.call q6
 have rb6:=rb5.below q6 (Nat.le_refl _)
 refine hK _ _ V6 ?_
 clear hK K q6 rb5
 refine ZaH (rs:=[4]) (fuel:=2) (by kernel_rfl) (fun c d v a w h=>by cases d<;>exact h) (by kernel_rfl) V6 (fun K hK=> ?_)
 go_simp
 refine Zai (.agg (kA (kyO k sd false))) rfl (by rfl) (fun w' hw'=>Zcp 54 [(0, .tmp 39),(1, .tmp 41)] rfl _ (Zmi k sd)) ?_
 go_simp
 refine Zad (hK.out _ ?_)
 clear hK K
 refine Za0 (i:=5) (fuel:=1) (by kernel_rfl) rfl (by rfl) (fun K hK=> ?_)
 refine ZcI (Vars.start w6) 43 39 1 [(0, .tmp 42)] rfl rfl 54 (kA (kyO k sd false)) (ZkB (Zfc k sd false)) (fun w7 g7 U7=> ?_)
 have V7:=V6.made U7.bel (U7.low _ (List.mem_singleton.2 rfl)) (U7.at 0 rfl)
 have rb7:=rb6.below U7.bel (Nat.le_refl _)
 refine hK _ _ V7.tail ?_
 clear hK K U7 rb6 V6 V5 rb V4
 try go_simp
 refine ZaH (rs:=[6]) (fuel:=0) (by kernel_rfl) (fun c d v a w h=>by cases d<;>exact h) (by kernel_rfl) V7.tail (fun K hK=> ?_)
 refine ZaA _ rfl (by rfl) rfl ?_
 go_simp
 refine Zad (hK.out _ ?_)
 clear hK K
 refine wpAnyH_done (by kernel_rfl) ?_ _
 have hp7:=hp.below V7.bel (Nat.le_refl _)
 have own0:=World.ownsRow_nil w7 w7.heap.size 28 1
 go_upto_region 9 with (at_builtin;refine ZiP _ rfl _ _ 26 rfl w7.heap.size 28 i0 (.slice none 0 0) Tryz.underlying26 hi0 hz0 hz1 hz2 rfl _ 0 [] rfl own0 pa m pc R rfl hp7 hnil (by omega) (Nat.le_refl _) ?_;intro v8 w8 own8 q8)
 rw [List.nil_append,Nat.zero_add] at own8
 have V8:=V7.call q8
 have rb8:=rb7.below q8 (Nat.le_refl _)
 have rdR:∀w',Below w.heap.size w w'→∀i,i<m→Row .u8 w' (R i).at_ (R i).len (R i).cap (nI (R i).num)∧∀x∈(R i).num,x<256:=fun w' q i hi=>by
  obtain ⟨b,off,_,_,hc⟩:=hp.each (by omega)
  obtain ⟨_,c2,c3⟩:=hc i hi
  exact ⟨c2.below q (Nat.le_refl _),c3⟩
 have q9a:=ZaN w8 (.cells #[.slice none 0 0] 28)
 have own9a:=own8.alloc (.cells #[.slice none 0 0] 28)
 have s8:=q8.size
 have R9:B.PartsAt (w8.alloc (.cells #[.slice none 0 0] 28)) (some ⟨w8.heap.size,0,none⟩) 1 1 (fun _=>default):=by
  have hh:=heap_alloc_last w8 (.cells #[.slice none 0 0] 28)
  exact ⟨Nat.le_refl _,by decide,fun _=>⟨w8.heap.size,0,rfl,Zau hh,fun i hi=>by
   obtain rfl:i=0:=by omega
   exact ⟨Zah hh 0,Zmq _,fun x hx=>by cases hx⟩⟩⟩
 go_upto_region 10 with (at_builtin;refine ZiP _ rfl _ _ 26 rfl w7.heap.size 28 i0 (.slice none 0 0) Tryz.underlying26 hi0 hz0 hz1 hz2 rfl _ m _ rfl own9a (some ⟨w8.heap.size,0,none⟩) 1 1 (fun _=>default) rfl R9 (fun h=>by cases h) (by omega) (by simp;omega) ?_;intro v9 w9 own9 q9)
 have Q9:Below w7.heap.size w7 w9:=q8.trans ((q9a.mono s8).trans q9)
 have V9:=V7.call Q9
 have rb9:=rb7.below Q9 (Nat.le_refl _)
 obtain ⟨R',hR'⟩:∃R':Nat→B.PartV,R'=fun i=>if i<m then R i else default:=⟨_,rfl⟩
 have hR1:∀i,i<m→R' i=R i:=fun i hi=>by rw [hR'];exact if_pos hi
 have hR2:R' m=default:=by rw [hR'];exact if_neg (Nat.lt_irrefl _)
 obtain ⟨a9,c9,rfl,hp9⟩:=Zmp (R:=R') own9 (fun i hi=>by
  by_cases h:i<m
  ·rw [List.getElem?_append_left (by rw [Zep];exact h),Zgh R h,hR1 i h]
  ·obtain rfl:i=m:=by omega
   rw [List.getElem?_append_right (by rw [Zep];exact Nat.le_refl _),Zep,Nat.sub_self,hR2]
   rfl) (fun i hi=>by
  by_cases h:i<m
  ·rw [hR1 i h];exact rdR w9 V9.bel i h
  ·obtain rfl:i=m:=by omega
   rw [hR2];exact ⟨Zmq _,fun x hx=>by cases hx⟩)
 have hlen':∀i,i<m+1→(R' i).len≤100000:=fun i hi=>by
  by_cases h:i<m
  ·rw [hR1 i h];exact hlen i h
  ·obtain rfl:i=m:=by omega
   rw [hR2];exact Nat.zero_le _
 clear own9 own9a own8 q9 q9a q8 own0 hp7 V7 rb7 V8 rb8 R9 s8 Q9 hR' hR1 hR2
 go_wp2_with fail
 refine (ZiO (fuse:=0) (Zfe (V9.at 0 rfl)) (Zfd k sd false) rb9 hD (by omega) (ho.of V9) (hd.of V9) hp9 hlen' (CO.out (m+1) R' (fun h=>absurd h (by omega)))).mono ?_
 rintro e10 w10 ⟨q10,X,rfl,hX5,hX1,hXn,_⟩
 obtain rfl:=hXn (by decide)
 have V10:=V9.call q10
 have rb10:=rb9.below q10 (Nat.le_refl _)
 have U10:=Vars.start w10
 clear hXn hp9 hlen' V9 rb9 q10
 go_wp2_with (first
  | (refine Zag U10 11 44 rfl rfl rfl ld00 Zdt ?_;intro w11 g11 U11)
  | (refine Zak U11 0 rfl _ (.tmp 55) rfl rfl rfl ld00 rfl rfl Tryz.szLd rfl hX5 hX1 ?_;intro w12 U12))
 have HV:Hid (Vars w w12 [⟨g7,54,kA (kyO k sd false)⟩,⟨g2,25, #[.int .i64 v, .int .i64 s, .int .i64 k, .int .i64 e, .slice a m c]⟩,⟨g1,22,bA sd⟩]):=V10.call U12.bel
 have HRB:Hid (Row .u8 w12 ab (24+40*m+64) cb D):=rb10.below U12.bel (Nat.le_refl _)
 clear U10 U11 U12 V10 rb10
 go_loopw [13,14,15,16,17,18] (fun y _ _ _ _ _ wr=>∃j:Nat,j≤m∧y= .int .i64 (j:Int)∧Hid (Vars w wr [⟨g7,54,kA (kyO k sd false)⟩,⟨g2,25, #[.int .i64 v, .int .i64 s, .int .i64 k, .int .i64 e, .slice a m c]⟩,⟨g1,22,bA sd⟩])∧Hid (Row .u8 wr ab (24+40*m+64) cb D)) (fun y _ _ _ _ _ _=>m - (RowKit.intOf y).toNat)
 case atStart=>exact ⟨0,Nat.zero_le _,rfl,HV,HRB⟩
 case round=>
  clear HV HRB
  obtain ⟨j,hj,rfl,HV,HRB⟩:=hrel
  have V:=HV.out
  have rb:=HRB.out
  have hpw:=hp.below V.bel (Nat.le_refl _)
  by_cases hlt:j<m
  ·obtain ⟨b2,off2,rfl,hb2,hc2⟩:=hp.each (by omega)
   obtain ⟨x0,hrj,hzj⟩:=hc2 j hlt
   have hbw:b2<wr.heap.size:=Nat.lt_of_lt_of_le hb2 V.bel.size
   have own0:=World.ownsRow_nil wr wr.heap.size 28 1
   have hjj:(j:Int)<(m:Int):=by omega
   have hl2:=hl200 j hlt
   have hpl:=hp.hlen
   have hpm:=hp.hmax
   unfold maxLen at hpm
   obtain ⟨p,hpj⟩:∃p,p=R j:=⟨_,rfl⟩
   have HPJ:Hid (p=R j):=hpj
   rw [←hpj] at x0 hrj hzj hl2
   have HZ:Hid (∀x∈p.num,x<256):=hzj
   clear hpj hc2 hzj
   go_upto_region 18 with (at_builtin;refine ZiP _ rfl _ _ 26 rfl wr.heap.size 28 i0 (.slice none 0 0) Tryz.underlying26 hi0 hz0 hz1 hz2 rfl _ 0 [] rfl own0 (some ⟨b2,off2,none⟩) m pc R rfl hpw (fun h=>by cases h) (by omega) (Nat.le_refl _) ?_;intro v1 u1 own1 q1)
   rw [List.nil_append,Nat.zero_add] at own1
   rcases id own1.2 with ⟨_,h0⟩|⟨go,cap,cur,rfl,hgo,hgh,hnc,hcm9,_,_⟩
   ·omega
   unfold maxLen at hcm9
   have lgo:=Zau hgh
   have s1:=q1.size
   have qa:=ZaN u1 (.cells #[] 5)
   have ownA:=Zkm u1
   have xa:(u1.alloc (.cells #[] 5)).cell? ⟨b2,off2+j,none⟩=some (.slice p.at_ p.len p.cap):=by
    rw [qa.cell (p:=⟨b2,off2+j,none⟩) (by show b2<_;omega),q1.cell (p:=⟨b2,off2+j,none⟩) hbw,V.bel.cell (p:=⟨b2,off2+j,none⟩) hb2]
    exact x0
   have ra:=(((hrj.below V.bel (Nat.le_refl _)).below q1 (Nat.le_refl _)).below qa (Nat.le_refl _))
   obtain ⟨j0,hj0,hy0,hy1,hy2⟩:=info_parts Tryz.info5
   have sa:=qa.size
   have sa':(u1.alloc (.cells #[] 5)).heap.size=u1.heap.size+1:=by simp
   go_upto_region 19 with (first
    | (at_builtin;refine Zc8 _ rfl _ (.tmp 74) 28 rfl u1.heap.size 5 j0 (.int .u8 0) 1 Tryz.underlying28 hj0 hy0 hy1 hy2 rfl _ 0 [] rfl ownA .u8 p.at_ p.len p.cap _ rfl ra (by unfold maxLen;omega) (by omega) (by omega) ?_;intro v2 u2 own2 hg2;have q2:Below u1.heap.size u1 u2:=qa.grown hg2 (by omega) (fun h hh=>(ownA.lt h hh).1);rw [List.nil_append,Nat.zero_add] at own2;have qb:=ZaN u2 (.cells #[.int .u8 0] 5);have ownB:=own2.alloc (.cells #[.int .u8 0] 5);have rB:Row .u8 (u2.alloc (.cells #[.int .u8 0] 5)) (some ⟨u2.heap.size,0,none⟩) 1 1 [0]:=ZfE .u8 u2 5 (0,0) [0] 1 rfl (by decide) _ rfl;have s2:=q2.size)
    | (at_builtin;refine Zc8 _ rfl _ (.tmp 76) 28 rfl u1.heap.size 5 j0 (.int .u8 0) 1 Tryz.underlying28 hj0 hy0 hy1 hy2 rfl _ p.len _ rfl ownB .u8 (some ⟨u2.heap.size,0,none⟩) 1 1 _ rfl rB (by unfold maxLen;omega) (by omega) (by have:=qb.size;omega) ?_;intro v3 u3 own3 hg3;have k3:=own3.lt;rw [←List.map_append] at own3;obtain ⟨a3,c3,rfl,r3⟩:=Zbe own3;have q3:Below u1.heap.size u2 u3:=(qb.mono s2).grown hg3 (by have:=qb.size;omega) (fun h hh=>(ownB.lt h hh).1);have Q3:Below u1.heap.size u1 u3:=q2.trans q3;have own4:=ZdB own1 Q3;have c9:=own4.cells (g:=go) rfl j _ (Zgh R hlt);rw [ZaY,Nat.zero_add] at c9;have f9:u3.frozen? ⟨go,j,none⟩=false:=(by rcases id own4.2 with ⟨h,_⟩|⟨g',_,_,h,_,hh,_⟩<;>cases h;exact ZaI hh j)))
   have m3:∀q,a3=some q→q.block≠go:=fun q hq=>by have:=(k3 q.block (by rw [hq];rfl)).1;omega
   have r4:=Zcr (j:=j) r3 m3 (.slice a3 (p.len+1) c3)
   have own5:=(own4.stored j (.slice a3 (p.len+1) c3)).1
   have q4:Below wr.heap.size wr (u3.setCell ⟨go,j,none⟩ (.slice a3 (p.len+1) c3)):=(q1.trans (Q3.mono s1)).setCell hgo _
   generalize u3.setCell ⟨go,j,none⟩ (.slice a3 (p.len+1) c3)=u4 at*
   clear c9 f9 own4 Q3 q3 q2 hg2 hg3 ownA ownB own2 own3 rB qb qa ra xa own1 q1 k3 m3 r3 hgh
   have V4:=V.call q4
   have rb4:=rb.below q4 (Nat.le_refl _)
   obtain ⟨P,hP⟩:∃P:B.PartV,P=⟨a3,p.len+1,c3,p.num++ [0]⟩:=⟨_,rfl⟩
   obtain ⟨a5,c5,hv5,hp5⟩:=Zmp (R:=putP R j P) own5 (fun i hi=>by
    rw [List.getElem?_set]
    by_cases h:j=i
    ·subst h
     rw [if_pos rfl,if_pos (by rw [Zep];exact hi),Zgi,hP]
    ·rw [if_neg h,Zgh R hi,ZiQ R P (Ne.symm h)]) (fun i hi=>by
    by_cases h:i=j
    ·subst h
     rw [Zgi,hP]
     refine ⟨?_,fun x hx=> ?_⟩
     ·have e9:nI (p.num++ [0])=Go.Proofs.YtcaloldcihpkfaaGreatDoor.nI p.num++ [0]:=by simp [nI,Go.Proofs.YtcaloldcihpkfaaGreatDoor.nI]
      show Row .u8 u4 a3 (p.len+1) c3 (nI (p.num++ [0]))
      rw [e9]
      exact r4
     ·rcases List.mem_append.1 hx with h1|h1
      ·exact HZ.out x h1
      ·rw [List.mem_singleton.1 h1];decide
    ·rw [ZiQ R P h];exact rdR u4 V4.bel i hi)
   cases hv5
   have hlP:∀i,i<m→(putP R j P i).len≤100000:=fun i hi=>by
    by_cases h:i=j
    ·subst h;rw [Zgi,hP];show p.len+1≤100000;omega
    ·rw [ZiQ R P h];exact hlen i hi
   have hCO:=CO.out m (putP R j P) (fun _=>Zkb hlt (Zkg (by
    rw [Zgi,Zka l R hlt,hP, ←HPJ.out]
    show ((p.len+1:Nat):Int)≠(p.len:Int)
    omega)))
   have hCO2:=CO.out j R (fun h=>absurd h (by omega))
   clear own5 r4 hP rb V hrj x0 q4 HV HRB
   go_wp2_with fail
   refine (ZiO (fuse:=0) (Zfe (V4.at 0 rfl)) (Zfd k sd false) rb4 hD (by omega) (ho.of V4) (hd.of V4) hp5 hlP hCO).mono ?_
   rintro e5 u5 ⟨q5,X5,rfl,hX55,hX51,hX5n,_⟩
   obtain rfl:=hX5n (by decide)
   have V5:=V4.call q5
   have rb5:=rb4.below q5 (Nat.le_refl _)
   have U5:=Vars.start u5
   clear hX5n hp5 hlP V4 rb4 q5 hCO
   go_upto_region 20 with (first
    | (refine Zag U5 15 44 rfl rfl rfl ld00 Zdt ?_;intro u6 g15 U6)
    | (refine Zak U6 0 rfl _ (.tmp 84) rfl rfl rfl ld00 rfl rfl Tryz.szLd rfl hX55 hX51 ?_;intro u7 U7))
   have V7:=V5.made U7.bel (U7.low _ (List.mem_singleton.2 rfl)) (U7.at 0 rfl)
   have rb7:=rb5.below U7.bel (Nat.le_refl _)
   clear U5 U6 U7 V5 rb5
   have hpj:B.PartsAt u7 (some ⟨b2,off2,none⟩) j pc R:=by
    have h:=hp.below V7.bel (Nat.le_refl _)
    refine ⟨by have:=h.hlen;omega,h.hmax,fun _=> ?_⟩
    obtain ⟨b,off,e,hb,hc⟩:=h.each (by omega)
    exact ⟨b,off,e,hb,fun i hi=>hc i (by omega)⟩
   go_wp2_with fail
   refine (ZiO (fuse:=0) (Zfe (V7.at 1 rfl)) (Zfd k sd false) rb7 hD (by omega) (ho.of V7) (hd.of V7) hpj (fun i hi=>hlen i (by omega)) hCO2).mono ?_
   rintro e8 u8 ⟨q8,X8,rfl,hX85,hX81,hX8n,_⟩
   obtain rfl:=hX8n (by decide)
   have V8:=V7.call q8
   have rb8:=rb7.below q8 (Nat.le_refl _)
   have U8:=Vars.start u8
   clear hX8n hpj V7 rb7 q8 hCO2
   go_upto_region 21 with (first
    | (refine Zag U8 17 44 rfl rfl rfl ld00 Zdt ?_;intro u9 g17 U9)
    | (refine Zak U9 0 rfl _ (.tmp 93) rfl rfl rfl ld00 rfl rfl Tryz.szLd rfl hX85 hX81 ?_;intro u10 U10))
   have V10:=V8.made U10.bel (U10.low _ (List.mem_singleton.2 rfl)) (U10.at 0 rfl)
   have rb10:=rb8.below U10.bel (Nat.le_refl _)
   clear U8 U9 U10 V8 rb8
   go_wp2_with (refine Zaw rfl (Zc4 V10 1 rfl _ rfl rfl Tryz.underlying44 rfl Tryz.szLd rfl) ?_)
   refine (Zmg u10).mono ?_
   rintro e11 u11 ⟨rfl,q11⟩
   have V11:=V10.call q11
   have rb11:=rb10.below q11 (Nat.le_refl _)
   go_wp2_with (refine Zaw rfl (Zc4 V11 0 rfl _ rfl rfl Tryz.underlying44 rfl Tryz.szLd rfl) ?_)
   refine (Zmg u11).mono ?_
   rintro e12 u12 ⟨rfl,q12⟩
   have HV12:Hid (Vars w u12 [⟨g7,54,kA (kyO k sd false)⟩,⟨g2,25, #[.int .i64 v, .int .i64 s, .int .i64 k, .int .i64 e, .slice a m c]⟩,⟨g1,22,bA sd⟩]):=(V11.call q12).tail.tail
   have HR12:Hid (Row .u8 u12 ab (24+40*m+64) cb D):=rb11.below q12 (Nat.le_refl _)
   clear V10 rb10 q11 V11 rb11 q12
   go_wp2
   go_roundw
   case rel=>exact ⟨j+1,by omega,by go_num,HV12,HR12⟩
   case measure=>simp [RowKit.intOf];omega
  ·obtain rfl:j=m:=by omega
   have hk0:¬(j:Int)<(j:Int):=by omega
   go_wp2_with fail
   refine (Zmj wr (ho.of V) (hd.of V)).mono ?_
   rintro e13 w13 ⟨rfl,q13⟩
   have V13:=V.call q13
   go_wp2
   go_ret
   exact ⟨rfl,V13.bel⟩
end Go.Proofs.YtcaloldcihpkfaaGreatDoor.N
