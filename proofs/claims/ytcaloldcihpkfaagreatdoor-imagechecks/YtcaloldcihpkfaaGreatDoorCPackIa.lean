/-
 Layer 23, plain: segments with their data's lengths and digests; whether data are what segments say.
-/
import Derived.Test.YtcaloldcihpkfaaGreatDoorMPackSa
import Derived.Test.YtcaloldcihpkfaaGreatDoorMPackSf
import Derived.Test.YtcaloldcihpkfaaGreatDoorCPackMa
import Derived.Test.YtcaloldcihpkfaaGreatDoorCPackMc
import Derived.Test.YtcaloldcihpkfaaGreatDoorCPackKa
import Derived.Test.YtcaloldcihpkfaaGreatDoorMPackSb
import Derived.Test.YtcaloldcihpkfaaGreatDoorMPackFb
import Derived.Test.YtcaloldcihpkfaaGreatDoorCPackMb
namespace Go.Proofs.YtcaloldcihpkfaaGreatDoor.N
open Go.RowKit
set_option linter.unusedVariables false
set_option maxRecDepth 8192

def dgI (z:List Nat):List Int:=nI (sumL KL S0 z)
theorem Zfj (z:List Nat):(dgI z).length=32:=rfl
theorem ZkC {z:List Nat} (h:∀x∈z,x<256):IsB (nI z):=fun x hx=>by
 obtain ⟨n,hn,rfl⟩:=List.mem_map.1 hx
 have:=h n hn
 omega
theorem ZhY (z:List Nat):IsB (dgI z):=ZkC fun x hx=>by
 unfold sumL S8.bytes at hx
 simp only [List.mem_append] at hx
 rcases hx with (((((((h|h)|h)|h)|h)|h)|h)|h)<;>exact ZmZ _ x h
def ZaX (l:List Sg) (R:Nat→B.PartV) (n:Nat):List Sg:=(List.range n).map fun i=>⟨(sgI l i).load,((R i).len:Int),dgI (R i).num⟩
theorem ZcE (l:List Sg) (R:Nat→B.PartV) (n:Nat):(ZaX l R n).length=n:=by simp [ZaX]
theorem ZkD (l:List Sg) (R:Nat→B.PartV) (n:Nat):ZaX l R (n+1)=ZaX l R n++ [⟨(sgI l n).load,((R n).len:Int),dgI (R n).num⟩]:=by simp [ZaX,List.range_succ]
theorem ZpD (l:List Sg) (R:Nat→B.PartV) {n i:Nat} (h:i<n):sgI (ZaX l R n) i=⟨(sgI l i).load,((R i).len:Int),dgI (R i).num⟩:=by
 rw [Zf2 (by rw [ZcE];exact h)]
 simp [ZaX]
theorem Zev (l:List Sg) (R:Nat→B.PartV) (n:Nat):∀s∈ZaX l R n,s.Ok:=fun s hs=>by
 obtain ⟨i,_,rfl⟩:=List.mem_map.1 hs
 exact ⟨Zfj _,ZhY _⟩
def mixS (l:List Sg) (R:Nat→B.PartV) (k:Nat):List Sg:=ZaX l R k++l.drop k
theorem ZpE {l:List Sg} {n:Nat} (h:l.length=n) (R:Nat→B.PartV):mixS l R n=ZaX l R n:=by rw [mixS,List.drop_eq_nil_of_le (Nat.le_of_eq h),List.append_nil]
theorem ZpF {l:List Sg} {k:Nat} (h:k≤l.length) (R:Nat→B.PartV):(mixS l R k).length=l.length:=by rw [mixS,List.length_append,ZcE,List.length_drop];omega
theorem ZpG {l:List Sg} (h:∀s∈l,s.Ok) (R:Nat→B.PartV) (k:Nat):∀s∈mixS l R k,s.Ok:=fun s hs=>by
 rcases List.mem_append.1 hs with h1|h1
 ·exact Zev _ _ _ s h1
 ·exact h s (List.mem_of_mem_drop h1)
theorem ZpH {l:List Sg} {k:Nat} (h:k<l.length) (R:Nat→B.PartV):sgI (mixS l R k) k=sgI l k:=by
 rw [sgI,mixS,List.getElem?_append_right (by rw [ZcE];exact Nat.le_refl _),ZcE,Nat.sub_self,List.getElem?_drop,Nat.add_zero]
 rfl
theorem ZpI {l:List Sg} {k:Nat} (h:k<l.length) (R:Nat→B.PartV):mixS l R (k+1)=(mixS l R k).set k ⟨(sgI l k).load,((R k).len:Int),dgI (R k).num⟩:=by
 rw [mixS,ZkD,mixS,List.set_append_right _ _ (by rw [ZcE];exact Nat.le_refl _),ZcE,Nat.sub_self,List.drop_eq_getElem_cons h,List.set_cons_zero,List.append_assoc]
 rfl
def isS (l:List Sg) (R:Nat→B.PartV) (i:Nat):Bool:=decide (((R i).len:Int)=(sgI l i).size)&&decide (dgI (R i).num=(sgI l i).dig)
def areS (l:List Sg) (R:Nat→B.PartV) (n:Nat):Bool:=(List.range n).all (isS l R)
theorem ZpJ (l:List Sg) (R:Nat→B.PartV) (k:Nat):areS l R (k+1)=(areS l R k&&isS l R k):=by simp [areS,List.range_succ]
theorem ZpK {l:List Sg} {R:Nat→B.PartV} {i n:Nat} (hi:i<n) (h:isS l R i=false):areS l R n=false:=by
 cases e:areS l R n
 ·rfl
 ·rw [areS,List.all_eq_true] at e
  rw [e i (List.mem_range.2 hi)] at h
  cases h
theorem ZpL (l:List Sg) (R:Nat→B.PartV) (n:Nat):areS (ZaX l R n) R n=true:=by
 rw [areS,List.all_eq_true]
 intro i hi
 rw [isS,ZpD l R (List.mem_range.1 hi)]
 simp
theorem Zdx {d:List Int} (h:IsB d):nI (d.map Int.toNat)=d:=by
 unfold nI
 rw [List.map_map]
 conv=>rhs;rw [←List.map_id d]
 exact List.map_congr_left fun x hx=>by have:=h x hx;show ((x.toNat:Nat):Int)=x;omega
theorem ZkE (l:List Nat):(nI l).map Int.toNat=l:=by
 unfold nI
 rw [List.map_map]
 conv=>rhs;rw [←List.map_id l]
 exact List.map_congr_left fun y _=>Int.toNat_natCast y
theorem Zdy {d:List Int} (h:IsB d):Dig (d.map Int.toNat):=fun x hx=>by
 obtain ⟨y,hy,rfl⟩:=List.mem_map.1 hx
 have:=h y hy
 omega
end Go.Proofs.YtcaloldcihpkfaaGreatDoor.N

/-
 The code of layer 23 (image): a row of segments cloned.
-/
namespace Go.Proofs.YtcaloldcihpkfaaGreatDoor.N
open Go.RowKit
set_option linter.unusedVariables false
set_option maxRecDepth 8192

theorem ZpM (l:List Sg):∀u∈sCs l,u.oneCell'=true:=fun u hu=>by
 obtain ⟨s,_,h⟩:=List.mem_flatMap.1 hu
 exact Zf7 s u h
theorem SegRow.cells {w:World} {b off n:Nat} {l:List Sg} (ho:∀s∈l,s.Ok) (hl:l.length=n) (hc:∀i,i<n→w.rangeAt b (off+i*34) (sC (sgI l i))):∀j v,(sCs l)[j]? =some v→w.cell? ((⟨b,off,none⟩:Addr).add j)=some v:=by
 intro j v hj
 have hlt:j<l.length*34:=by rw [←ZhB ho];exact (List.getElem?_eq_some_iff.1 hj).1
 have hi:j/34<l.length:=by omega
 have hk:=ZbK (ZcP ho (j/34))
 have hm:j%34<(sC (sgI l (j/34))).length:=by omega
 have h1:=Zf8 ho (j/34) hi (j%34) _ (List.getElem?_eq_getElem hm)
 rw [show j/34*34+j%34=j by omega,hj] at h1
 have h2:=hc (j/34) (by omega) (j%34) _ (List.getElem?_eq_getElem hm)
 rw [Zbc,show off+j=off+j/34*34+j%34 by omega,h2, ←h1]
theorem ZpN {P:Program} (w:World) {ops:Array Oper} {rest:List Oper} {o:Oper} {a:Act} {Q:Exit→Act→World→Prop} (hgd:o.guard=none) (s x:Operand) (t:TypeId)
  (ho:o.op= .call { callee:= .builtin .append,args:= #[s,x],argTypes:= #[t,t] })
  (base:Nat) (e:TypeId) (i:TypeInfo) (z:Value) (ht:P.underlying t=some (.slice e)) (hi:P.info? e=some i) (hz:i.zero=some z) (hsize:i.size=34) (hby:i.bytes=48) (hzs:z.cells.size=34)
  (v:Value) (n:Nat) (xs:List Value) (hs:a.eval s=v) (hown:w.ownsRow base e 34 v n xs)
  (sa:Option Addr) (m c:Nat) (l:List Sg) (hx:a.eval x= .slice sa m c) (hr:SegRow w sa m c l) (ok:∀s∈l,s.Ok)
  (hsm:n+m≤100000) (hbase:base≤w.heap.size)
  (h:∀v' w',w'.ownsRow base e 34 v' (n+m) (xs++sCs l)→Below base w w'→wpList P ops Q rest (a.put o.dst v') w'):wpList P ops Q (o::rest) a w:=by
 cases sa with
 | none=>
  obtain rfl:c=0:=hr.hnil rfl
  obtain rfl:m=0:=by have:=hr.hcap;omega
  have hz0:l=[]:=List.eq_nil_of_length_eq_zero hr.hlen
  refine wpList_append_own_none hgd s x t ho base e i 34 ht hi v n xs hs hown hx ?_
  exact h v w (by rw [hz0];simpa [sCs] using hown) (Below.refl _ _)
 | some ad=>
  refine wpList_append_own w hgd s x t ho base e i z 34 48 ht hi hz hsize hby hzs (by decide) v n xs hs hown ad m c (sCs l) hx (by rw [ZhB ok,hr.hlen]) ?_ (ZpM l) (by unfold maxLen;omega) (by omega) hbase fun v' w' h1 h2 _=>h v' w' h1 ((Below.refl _ _).grown h2 hbase (fun j hj=>(hown.lt j hj).1))
  intro j u hj
  by_cases h0:0<m
  ·obtain ⟨b,off,hab,_,hcell⟩:=hr.hcell h0
   simp only [Option.some.injEq] at hab
   subst hab
   exact SegRow.cells ok hr.hlen hcell j u hj
  ·have hz0:l=[]:=List.eq_nil_of_length_eq_zero (by rw [hr.hlen];omega)
   rw [hz0] at hj
   simp [sCs] at hj
theorem ZpO (w:World):Sem.run Tryz.prog (binOp BinOp.eql 23 (.slice none 0 0) (.slice none 0 0)) w= .ok (.bool true) w:=by kernel_rfl
theorem ZpP (a:Addr) (l c:Nat) (w:World):Sem.run Tryz.prog (binOp BinOp.eql 23 (.slice (some a) l c) (.slice none 0 0)) w= .ok (.bool false) w:=by kernel_rfl
theorem ZpQ {w:World} {a:Option Addr} {n c:Nat} {l:List Sg} (hr:SegRow w a n c l) (ok:∀s∈l,s.Ok) (hn:n≤1000):
  Calls Tryz.prog 61 #[.slice a n c] w fun e w'=>∃v,e= .returned v∧w'.ownsRow w.heap.size 66 34 v n (sCs l)∧Below w.heap.size w w':=by
 obtain ⟨i0,hi0,hz0,hz1,hz2⟩:=Zgm
 cases a with
 | none=>
  obtain rfl:c=0:=hr.hnil rfl
  obtain rfl:n=0:=by have:=hr.hcap;omega
  have hD:l=[]:=List.eq_nil_of_length_eq_zero hr.hlen
  have hq:=ZpO w
  subst hD
  go_enter Tryz.func61,Tryz.ntmps61
  go_wp2
  go_ret
  exact ⟨_,rfl,World.ownsRow_nil _ _ _ _,Below.refl _ _⟩
 | some ad=>
  have hq:=ZpP ad n c w
  have q1:=ZaS w (.cells #[] 66)
  have hown0:=World.ownsRow_lit (base:=w.heap.size) (e:=66) (size:=34) w #[] 0 (Nat.le_refl _) (Nat.zero_le _) rfl
  have rd:=hr.below q1 (Nat.le_refl _)
  go_enter Tryz.func61,Tryz.ntmps61
  go_wp2_with (at_builtin;refine ZpN _ rfl _ _ 23 rfl w.heap.size 66 i0 (.agg (sA sg0)) Tryz.underlying23 hi0 hz0 hz1 hz2 (Zba Zb7) _ 0 [] rfl hown0 (some ad) n c l rfl rd ok (by omega) (by simp) ?_;intro v1 wo own1 qo)
  rw [List.nil_append,Nat.zero_add] at own1
  go_ret
  exact ⟨_,rfl,own1,q1.trans qo⟩
end Go.Proofs.YtcaloldcihpkfaaGreatDoor.N

/-
 The code of layer 23 (image): segments that are described.
-/
namespace Go.Proofs.YtcaloldcihpkfaaGreatDoor.N
open Go.RowKit
set_option linter.unusedVariables false
set_option maxRecDepth 8192

structure SgW (w:World) (g n:Nat) (l:List Sg):Prop where
 rng:∀i,i<n→w.rangeAt g (i*34) (sC (sgI l i))
 thr:w.there g 0 (n*34)
theorem ZpR {l:List Sg} {k:Nat} (hk:k<l.length) (s:Sg):sgI (l.set k s) k=s:=by simp [sgI,hk]
theorem ZpS {l:List Sg} {k i:Nat} (h:i≠k) (s:Sg):sgI (l.set k s) i=sgI l i:=by simp [sgI,Ne.symm h]
theorem SgW.c1 {w:World} {g n:Nat} {l:List Sg} (h:SgW w g n l) {k:Nat} (hk:k<n):w.cell? ⟨g,k*34+1,none⟩=some (.int .i64 (sgI l k).size):=h.rng k hk 1 _ rfl
theorem SgW.f1 {w:World} {g n:Nat} {l:List Sg} (h:SgW w g n l) {k:Nat} (hk:k<n):w.frozen? ⟨g,k*34+1,none⟩=false:=by
 have:=(h.thr (k*34+1) (by omega)).2
 rwa [Nat.zero_add] at this
theorem SgW.below {w w':World} {g n B:Nat} {l:List Sg} (h:SgW w g n l) (q:Below B w w') (hB:g<B):SgW w' g n l:=
 ⟨fun i hi=>Zfc (h.rng i hi) (q.block g hB),Zhk h.thr (q.block g hB)⟩
theorem SgW.put {w:World} {g n:Nat} {l:List Sg} (h:SgW w g n l) (ok:∀s∈l,s.Ok) (hl:l.length=n) {k:Nat} (hk:k<n) (x:Int) (d:List Int) (hd:d.length=32):
  SgW ((w.setCell ⟨g,k*34+1,none⟩ (.int .i64 x)).setCells g (k*34+2) (d.map (Value.int .u8))) g n (l.set k ⟨(sgI l k).load,x,d⟩):=by
 rw [←ZdR]
 refine ⟨fun i hi=> ?_,World.there_setCells (World.there_setCells h.thr _ _ _) _ _ _⟩
 by_cases e:i=k
 ·subst e
  rw [ZpR (by omega)]
  have h0:=h.rng i hi
  intro j v hv
  match j with
  | 0=>
   rw [Zbe (by omega),Zbe (by omega)]
   exact h0 0 v hv
  | 1=>
   rw [Zbe (by omega),ZdR]
   have hv:some (Value.int .i64 x)=some v:=hv
   rw [←hv]
   exact World.cell?_setCell_same _ _ _ (h.c1 hi)
  | m+2=>
   have hv:(d.map (Value.int .u8))[m]? =some v:=hv
   have h2:=World.rangeAt_setCells_same (w.setCells g (i*34+1) [.int .i64 x]) g (i*34+2) (d.map (Value.int .u8)) (Zcj (World.there_setCells h.thr _ _ _) _ _ (by rw [List.length_map,hd];omega)) m v hv
   rw [show i*34+(m+2)=i*34+2+m by omega]
   exact h2
 ·rw [ZpS e]
  have h34:=ZbK (ZcP ok i)
  refine World.rangeAt_setCells_apart (World.rangeAt_setCells_apart (h.rng i hi) _ _ _ (.inr ?_)) _ _ _ (.inr ?_)
  ·rw [h34];simp only [List.length_cons,List.length_nil];omega
  ·rw [h34,List.length_map,hd];omega
theorem ZkF (w:World) (z:List Nat) (a:Option Addr) (len cap:Nat) (hr:Row .u8 w a len cap (nI z)) (hz:∀x∈z,x<256) (hb:len<1000000000):
  Calls Tryz.prog 62 #[.slice a len cap] w fun e w'=>e= .returned (.agg ((dgI z).map (Value.int .u8)).toArray)∧Below w.heap.size w w':=Zoa w z a len cap hr hz hb
set_option maxHeartbeats 1600000 in
theorem ZpT {w:World} {a pa:Option Addr} {n c pc:Nat} {l:List Sg} {R:Nat→B.PartV} (hr:SegRow w a n c l) (ok:∀s∈l,s.Ok) (hp:B.PartsAt w pa n pc R) (hn:n≤1000) (hb:∀i,i<n→(R i).len≤100000):
  Calls Tryz.prog 25 #[.slice a n c, .slice pa n pc] w fun e w'=>∃a' c',e= .returned (.slice a' n c')∧SegRow w' a' n c' (ZaX l R n)∧Below w.heap.size w w':=by
 have HL:Hid (l.length=n):=hr.hlen
 have HOK:Hid (∀s∈l,s.Ok):=ok
 have HB:Hid (∀i,i<n→(R i).len≤100000):=hb
 have hpm:=hp.hmax
 have hpl:=hp.hlen
 unfold maxLen at hpm
 go_enter Tryz.func25,Tryz.ntmps25
 go_wp2_with fail
 refine (ZpQ hr ok hn).mono ?_
 rintro e w1 ⟨v,rfl,own,q1⟩
 have HP:Hid (B.PartsAt w1 pa n pc R):=hp.below q1 (Nat.le_refl _)
 have HP0:Hid (B.PartsAt w pa n pc R):=hp
 obtain ⟨a1,c1,rfl,hc1,HS⟩:∃a1 c1,v= .slice a1 n c1∧(n≤c1∧c1≤maxLen∧(a1=none→c1=0))∧Hid (0<n→∃g,a1=some ⟨g,0,none⟩∧w.heap.size≤g∧g<w1.heap.size∧SgW w1 g n l):=by
  rcases own.2 with ⟨rfl,h0⟩|⟨g,cap,cur,rfl,hg,hh,hnc,hcm,hcs,htake⟩
  ·subst h0
   exact ⟨none,0,rfl,⟨Nat.le_refl _,Nat.zero_le _,fun _=>rfl⟩,fun h=>absurd h (by omega)⟩
  ·refine ⟨_,cap,rfl,⟨hnc,hcm,fun h=>by cases h⟩,fun _=>⟨g,rfl,hg,Zat hh,fun i hi j u hu=> ?_,fun j hj=>⟨?_,ZaJ hh _⟩⟩⟩
   ·have:=own.cells (g:=g) rfl (i*34+j) u (Zf8 ok i (by rw [HL.out];exact hi) j u hu)
    rwa [Zbc,Nat.zero_add] at this
   ·rw [cell_of_row w1 g (0+j) _ _ _ hh,Array.getElem?_eq_getElem (by omega)]
    rfl
 clear own hr hp ok hb
 obtain ⟨hc1,hm1,hz1⟩:=hc1
 have hm1':=hm1
 unfold maxLen at hm1
 go_wp2
 go_loopw [6,7,12] (fun i6 i7 y wr=>∃k:Nat,k≤n∧y= .int .i64 (k:Int)∧Hid (Below w.heap.size w wr)∧w1.heap.size≤wr.heap.size∧Hid (B.PartsAt wr pa n pc R)∧Hid (0<n→∃g,a1=some ⟨g,0,none⟩∧w.heap.size≤g∧g<w1.heap.size∧SgW wr g n (mixS l R k))) (fun _ _ y _=>n - (intOf y).toNat)
 case atStart=>exact ⟨0,by omega,rfl,q1,Nat.le_refl _,HP,HS⟩
 case round=>
  clear HS HP q1
  obtain ⟨k,hk,rfl,HQ,hsz,HP,HS⟩:=hrel
  by_cases hlt:k<n
  ·obtain ⟨g,rfl,hg0,hg1,HG⟩:=HS.out (by omega)
   obtain ⟨b,off,rfl,hbs,hpe⟩:=HP.out.each (by omega)
   obtain ⟨x0,hri,hzi⟩:=hpe k hlt
   have hlb:=HB.out k hlt
   have HN:Hid (mixS l R (k+1)=(mixS l R k).set k ⟨(sgI (mixS l R k) k).load,((R k).len:Int),dgI (R k).num⟩):=by
    show _=_
    rw [ZpH (by rw [HL.out];exact hlt),ZpI (by rw [HL.out];exact hlt)]
   have HM:Hid ((mixS l R k).length=n∧∀s∈mixS l R k,s.Ok):=⟨by rw [ZpF (by rw [HL.out];omega),HL.out],ZpG HOK.out R k⟩
   have HGG:Hid (SgW wr g n (mixS l R k)):=HG
   generalize hl2:mixS l R (k+1)=l2 at HN
   have HL2:Hid (mixS l R (k+1)=l2):=hl2
   clear hl2
   generalize mixS l R k=l1 at*
   have hpe':Hid (R k=R k):=rfl
   clear hpe HS HG
   generalize R k=r at*
   obtain ⟨ar,len,cr,zr⟩:=r
   simp only at x0 hri hzi hlb HN
   have hii:(k:Int)<(n:Int):=by omega
   have HZ:Hid (∀x∈zr,x<256):=hzi
   clear hzi hpe'
   go_wp2_with fail
   refine (ZkF _ zr ar len cr hri HZ.out (by omega)).mono ?_
   rintro e w3 ⟨rfl,q3⟩
   have s3:=q3.size
   have HG3:=HGG.out.below q3 (by omega)
   have c9:=HG3.c1 hlt
   have f9:=HG3.f1 hlt
   have HG4:Hid (SgW ((w3.setCell ⟨g,k*34+1,none⟩ (.int .i64 (len:Int))).setCells g (k*34+2) ((dgI zr).map (Value.int .u8))) g n l2):=by
    rw [HN.out]
    exact HG3.put HM.out.2 HM.out.1 hlt _ _ (Zfj zr)
   have hth:(w3.setCell ⟨g,k*34+1,none⟩ (.int .i64 (len:Int))).there g (k*34+2) 32:=by
    rw [←ZdR]
    exact Zcj (World.there_setCells HG3.thr _ _ _) _ _ (by omega)
   have hq4:Below w.heap.size w3 ((w3.setCell ⟨g,k*34+1,none⟩ (.int .i64 (len:Int))).setCells g (k*34+2) ((dgI zr).map (Value.int .u8))):=
    ((Below.refl w.heap.size w3).setCell (show w.heap.size≤(⟨g,k*34+1,none⟩:Addr).block from hg0) _).grown (ZbQ _ _ _ _) (by have:=HQ.out.size;simp;omega) (fun k hk=>by cases hk;exact hg0)
   have HQ4:=HQ.out.trans ((q3.mono HQ.out.size).trans hq4)
   have s4:=hq4.size
   have hdl:=Zfj zr
   generalize dgI zr=dg at*
   have HP4:Hid (B.PartsAt ((w3.setCell ⟨g,k*34+1,none⟩ (.int .i64 (len:Int))).setCells g (k*34+2) (dg.map (Value.int .u8))) (some ⟨b,off,none⟩) n pc R):=HP0.out.below (HQ4) (Nat.le_refl _)
   have HQ5:Hid (Below w.heap.size w ((w3.setCell ⟨g,k*34+1,none⟩ (.int .i64 (len:Int))).setCells g (k*34+2) (dg.map (Value.int .u8)))):=HQ4
   clear HGG HG3 hri HN HM HZ hq4 HQ4 q3 HQ HP
   go_wp2_with (refine Zhl rfl 22 _ _ rfl g (k*34+2) dg (by go_simp) rfl hth (by kernel_rfl) hdl ?_)
   clear hth c9 f9
   generalize (w3.setCell ⟨g,k*34+1,none⟩ (.int .i64 (len:Int))).setCells g (k*34+2) (dg.map (Value.int .u8))=w4 at*
   go_roundw
   case rel=>exact ⟨k+1,by omega,by go_num,HQ5,by omega,HP4,fun _=>⟨g,rfl,hg0,hg1,by rw [HL2.out];exact HG4.out⟩⟩
   case measure=>simp [intOf];omega
  ·obtain rfl:k=n:=by omega
   have hk0:¬(k:Int)<(k:Int):=by omega
   have HE:Hid (mixS l R k=ZaX l R k):=ZpE HL.out R
   have HF:Hid (SegRow wr a1 k c1 (ZaX l R k)):=by
    refine ⟨ZcE l R k,hc1,hm1',hz1,fun h0=> ?_⟩
    obtain ⟨g,rfl,hg0,hg1,HG⟩:=HS.out h0
    rw [HE.out] at HG
    refine ⟨g,0,rfl,by omega,fun i hi=> ?_⟩
    rw [Nat.zero_add]
    exact HG.rng i hi
   clear HS HP
   go_wp2
   go_ret
   exact ⟨a1,c1,rfl,HF.out,HQ.out⟩
end Go.Proofs.YtcaloldcihpkfaaGreatDoor.N

/-
 The code of layer 23 (image): questions asked one after the other; unless.
-/
namespace Go.Proofs.YtcaloldcihpkfaaGreatDoor.N
open Go.RowKit
set_option linter.unusedVariables false
set_option maxRecDepth 8192

theorem Zgn (b:Bool) (r:Int) (w:World):Calls Tryz.prog 49 #[.bool b, .int .i64 r] w fun e w'=>e= .returned (.int .i64 (bif b then 0 else r))∧w=w':=by
 cases b
 ·go_enter Tryz.func49,Tryz.ntmps49
  go_wp2
  go_ret
  exact ⟨rfl,rfl⟩
 ·go_enter Tryz.func49,Tryz.ntmps49
  go_wp2
  go_ret
  exact ⟨rfl,rfl⟩
def Zcc (R:World→Prop) (E:Int→World→Prop) (e:Ending) (w':World):Prop:=(e= .returned (.int .i64 0)∧R w')∨∃r,r≠0∧e= .returned (.int .i64 r)∧E r w'
theorem ZkG (n:Nat) (hn:n≤100) (fs:Nat→Nat) (bx:Nat→List Value) (sb:Nat) (w:World) (R:Nat→World→Prop) (E:Int→World→Prop) (h0:R 0 w)
  (hc:∀k,k<n→∀w',R k w'→w'.cell? ⟨sb,k,none⟩=some (.func (.func (fs k)) #[] (bx k).toArray))
  (hf:∀k,k<n→∀args w,Sem.run Tryz.prog (callFunc (fs k) args) w= .ok (.enter (fs k) args) w)
  (hs:∀k,k<n→∀w',R k w'→Calls Tryz.prog (fs k) (bx k).toArray w' (Zcc (R (k+1)) E)):
  Calls Tryz.prog 40 #[.slice (some ⟨sb,0,none⟩) n n] w (Zcc (R n) E):=by
 have HC:Hid (∀k,k<n→∀w',R k w'→w'.cell? ⟨sb,k,none⟩=some (.func (.func (fs k)) #[] (bx k).toArray)):=hc
 have HF:Hid (∀k,k<n→∀args w,Sem.run Tryz.prog (callFunc (fs k) args) w= .ok (.enter (fs k) args) w):=hf
 have HS:Hid (∀k,k<n→∀w',R k w'→Calls Tryz.prog (fs k) (bx k).toArray w' (Zcc (R (k+1)) E)):=hs
 have H0:Hid (R 0 w):=h0
 clear hc hf hs h0
 go_enter Tryz.func40,Tryz.ntmps40
 go_wp2
 go_loopw [4,5,8] (fun _ _ y wr=>∃k:Nat,k≤n∧y= .int .i64 (k:Int)∧Hid (R k wr)) (fun _ _ y _=>n - (intOf y).toNat)
 case atStart=>exact ⟨0,Nat.zero_le _,rfl,H0⟩
 case round=>
  clear H0
  obtain ⟨k,hk,rfl,HR⟩:=hrel
  by_cases hlt:k<n
  ·have hlt9:(k:Int)<(n:Int):=by omega
   have hcell:=HC.out k hlt wr HR.out
   have hfk:=HF.out k hlt
   have HSK:=HS.out k hlt wr HR.out
   generalize bx k=b9 at*
   generalize fs k=f9 at*
   clear HR
   go_wp2_with fail
   refine HSK.mono ?_
   rintro e w3 (⟨rfl,h3⟩|⟨r,hr,rfl,h3⟩)
   ·have H3:Hid (R (k+1) w3):=h3
    clear h3 HSK
    go_wp2
    go_roundw
    case rel=>exact ⟨k+1,by omega,by go_num,H3⟩
    case measure=>simp [intOf];omega
   ·have hr9:(r != 0)=true:=by simpa using hr
    have H3:Hid (E r w3):=h3
    clear h3 HSK
    go_wp2
    go_ret
    exact .inr ⟨r,hr,rfl,H3.out⟩
  ·obtain rfl:k=n:=by omega
   have hk0:¬(k:Int)<(k:Int):=by omega
   go_wp2
   go_ret
   exact .inl ⟨rfl,HR.out⟩
end Go.Proofs.YtcaloldcihpkfaaGreatDoor.N

/-
 The code of layer 23 (image): are data what segments say of them?
-/
namespace Go.Proofs.YtcaloldcihpkfaaGreatDoor.N
open Go.RowKit
set_option linter.unusedVariables false
set_option maxRecDepth 8192

theorem ZkH {d:List Int} (h:IsB d):dA d=arr .u8 (d.map Int.toNat):=by unfold dA dC arr;rw [Zdx h]
theorem ZpU {d e:List Int} (hd:IsB d) (he:IsB e):decide (d.map Int.toNat=e.map Int.toNat)=decide (d=e):=by
 rw [Bool.eq_iff_iff,decide_eq_true_iff,decide_eq_true_iff]
 exact ⟨fun h=>by rw [←Zdx hd,h,Zdx he],fun h=>by rw [h]⟩
theorem ZpV {l:List Sg} {R:Nat→B.PartV} {k:Nat} (h:((R k).len:Int)≠(sgI l k).size):isS l R k=false:=by
 rw [isS,decide_eq_false h,Bool.false_and]
theorem ZpW {l:List Sg} {R:Nat→B.PartV} {k:Nat} (h:((R k).len:Int)=(sgI l k).size):isS l R k=decide (dgI (R k).num=(sgI l k).dig):=by
 rw [isS,decide_eq_true h,Bool.true_and]
theorem ZpX:(Tryz.prog.info? 5).map (·.size)=some 1:=by kernel_rfl
theorem ZpY {a:Act} {o:Oper} {w:World} (ty':TypeId) {d e:List Int} (hd:IsB d) (he:IsB e) (hl:d.length=32) (hl':e.length=32) (x y:Operand) (ho:o.op= .binOp .neq 22 x y ty') (hx:a.eval x= .agg (dA d)) (hy:a.eval y= .agg (dA e)):
  (execOp a.eval o).run Tryz.prog w= .ok (.value (.bool (!decide (d=e)))) w:=
 Zki 22 ty' x y ho (d.map Int.toNat) (e.map Int.toNat) (!decide (d=e)) (by rw [ZpU hd he,Bool.not_not]) (by rw [hx,ZkH hd]) (by rw [hy,ZkH he]) (by kernel_rfl) Tryz.underlying22 Tryz.underlying5 ZpX (by rw [List.length_map,hl]) (by rw [List.length_map,hl'])
theorem ZpZ {w:World} {g:Nat} {T:TypeId} {s:Sg} (h:w.heap[g]? =some (.cells (sA s) T (0,0))):w.rangeAt g 2 (s.dig.map (Value.int .u8)):=fun j v hv=>by
 rw [cell_of_row w g (2+j) _ T (0,0) h,show 2+j=j+1+1 by omega, ←hv]
 simp [sA,sC]
set_option maxHeartbeats 1600000 in
theorem Zp0 {w:World} {a pa:Option Addr} {n c pc:Nat} {l:List Sg} {R:Nat→B.PartV} (hr:SegRow w a n c l) (ok:∀s∈l,s.Ok) (hp:B.PartsAt w pa n pc R) (hb:∀i,i<n→(R i).len≤100000):
  Calls Tryz.prog 54 #[.slice a n c, .slice pa n pc] w fun e w'=>e= .returned (.bool (areS l R n))∧Below w.heap.size w w':=by
 have hm:=hr.hmax
 have hc:=hr.hcap
 have hpm:=hp.hmax
 have hpl:=hp.hlen
 unfold maxLen at hm hpm
 have HB:Hid (∀i,i<n→(R i).len≤100000):=hb
 clear hb
 go_enter Tryz.func54,Tryz.ntmps54
 go_wp2
 go_loopw [5,9] (fun _ i wr=>∃k:Nat,k≤n∧i= .int .i64 (k:Int)∧Hid (areS l R k=true)∧Below w.heap.size w wr) (fun _ i _=>n - (RowKit.intOf i).toNat)
 case atStart=>exact ⟨0,Nat.zero_le _,rfl,rfl,Below.refl _ _⟩
 case round=>
  obtain ⟨k,hk,rfl,HA,q⟩:=hrel
  have hr':=hr.below q (Nat.le_refl _)
  have hp':=hp.below q (Nat.le_refl _)
  by_cases hlt:k<n
  ·obtain ⟨b,off,rfl,hbs,hcell⟩:=hr'.hcell (by omega)
   have hx:=hcell k hlt
   have hs:=ZcP ok k
   obtain ⟨b2,off2,rfl,hbs2,hpe⟩:=hp'.each (by omega)
   obtain ⟨x0,hri,hzi⟩:=hpe k hlt
   have hlb:=HB.out k hlt
   have HS:Hid (areS l R (k+1)=isS l R k):=by show _=_;rw [ZpJ,HA.out,Bool.true_and]
   have HF:Hid (isS l R k=false→areS l R n=false):=fun h=>ZpK hlt h
   have HSZ:Hid (((R k).len:Int)≠(sgI l k).size→isS l R k=false):=ZpV
   have HSD:Hid (((R k).len:Int)=(sgI l k).size→isS l R k=decide (dgI (R k).num=(sgI l k).dig)):=ZpW
   clear hcell hr' hpe hp' HA
   generalize hak:areS l R (k+1)=ak1 at HS
   have HAK:Hid (areS l R (k+1)=ak1):=hak
   clear hak
   generalize isS l R k=ik at*
   generalize sgI l k=s at*
   generalize R k=r at*
   obtain ⟨ar,len,cr,zr⟩:=r
   simp only at x0 hri hzi hlb HSZ HSD
   have HZ:Hid (∀x∈zr,x<256):=hzi
   clear hzi
   have hlt':(k:Int)<(n:Int):=by omega
   have V0:=Vars.start wr
   go_upto_region 4 with (first
    | (refine wpList_load_mid rfl 66 _ rfl b (off+k*34) rfl (sC s) _ hx Tryz.underlying66 rfl (by rw [ZbK hs];exact Tryz.szSg) ?_)
    | (refine Zai V0 6 66 rfl rfl rfl (sA sg0) ZcD ?_;intro w1 g1 V1)
    | (refine Zal V1 0 rfl _ (.tmp 13) rfl rfl rfl (sA s) rfl rfl Tryz.szSg (Zba Zb7) (Zba hs) (ZcQ s) ?_;intro w2 V2;have c1:=Zfb (V2.at 0 rfl)))
   have x2:w2.cell? ⟨b2,off2+k,none⟩=some (.slice ar len cr):=by rw [V2.bel.cell hbs2];exact x0
   have r2:=hri.below V2.bel (Nat.le_refl _)
   have d2:=ZpZ (V2.at 0 rfl)
   have q2:=Zbp q V2.bel
   have HQ2:Hid (Below w.heap.size w w2):=q2
   clear x0 hri hx hbs2 V1
   by_cases hsz:(len:Int)=s.size
   ·have HD:Hid (ik=decide (dgI zr=s.dig)):=HSD.out hsz
    have hne:((len:Int) != s.size)=false:=by rw [hsz];simp
    have hlz:=Zfj zr
    have hbz:=ZhY zr
    have hl2:=hs.len
    have hb2:=hs.byt
    have hsum:=fun w' (h:Zao w2.drew w')=>ZkF w' zr ar len cr (r2.below ((Zao.drew w2).trans h) (Nat.le_refl _)) HZ.out (by omega)
    clear HSD HSZ hsz
    generalize dgI zr=dg at*
    refine Zar (fun w'=>Zao w2.drew w') (by kernel_rfl) ?_
    refine Zaz (rs:=[0,1,2,3,4,5,6,7,8,9,10,11,12,14,15]) (fuel:=3) (by kernel_rfl) (fun c d v a w h=>by cases d<;>exact h) (by kernel_rfl) (Zao.refl _) (fun K hK=> ?_)
    iterate 14 (first
     | (refine Zah _ rfl (by rfl) rfl ?_;go_simp)
     | (apply Zad _ rfl (by rfl) (fun w' hw'=>by (have x3:=(((Zao.drew w2).trans hw').cell (p:=⟨b2,off2+k,none⟩) (Za0 x2)).trans x2);(have c3:=(((Zao.drew w2).trans hw').cell (p:=⟨g1,1,none⟩) (Za0 c1)).trans c1);go_simp;rfl);go_simp))
    refine Zad (.agg (dA s.dig)) rfl (by rfl) (fun w' hw'=>Zhm 22 _ rfl g1 2 (by go_simp) (fun j v hv=>by have h9:=d2 j v hv;exact (((Zao.drew w2).trans hw').cell (p:=⟨g1,2+j,none⟩) (Za0 h9)).trans h9) Tryz.underlying22 (by kernel_rfl) hl2) ?_
    go_simp
    refine Zac (hK.out _ ?_)
    clear hK K
    refine Zc1 (i:=13) (fuel:=2) (by kernel_rfl) rfl (by rfl) (fun K hK=> ?_)
    go_simp
    refine (hsum _ (Zao.refl _)).mono ?_
    rintro e w4 ⟨rfl,q4⟩
    refine hK _ _ q4 ?_
    clear hK K hsum
    have HQ4:Hid (Below w.heap.size w w4):=Zbp HQ2.out ((Zao.drew w2).trans q4)
    refine Zaz (rs:=[16,17]) (fuel:=0) (by kernel_rfl) (fun c d v a w h=>by cases d<;>exact h) (by kernel_rfl) (Zao.refl _) (fun K hK=> ?_)
    go_simp
    refine Zad (.bool (!decide (dg=s.dig))) rfl (by rfl) (fun w' hw'=>ZpY _ hbz hb2 hlz hl2 _ _ rfl rfl (by go_simp)) ?_
    go_simp
    rw [←HD.out]
    refine Zad (.bool (!ik)) rfl (by rfl) (fun w' hw'=> ?_) ?_
    ·go_simp
    go_simp
    refine Zac (hK.out _ ?_)
    clear hK K d2 x2 r2 c1 V2 q2 q4 hne HD hlz hbz hl2 hb2 q V0
    refine wpAnyH_done (by kernel_rfl) ?_ _
    cases hik:ik
    ·have HN:Hid (areS l R n=false):=HF.out hik
     go_wp2_with fail
     go_ret
     exact ⟨ZaC HN.out.symm,HQ4.out⟩
    ·have HN:Hid (areS l R (k+1)=true):=by show _=_;rw [HAK.out,HS.out,hik]
     go_wp2_with fail
     go_roundw
     case rel=>exact ⟨k+1,by omega,by go_num,HN,HQ4.out⟩
     case measure=>simp [RowKit.intOf];omega
   ·have HN:Hid (areS l R n=false):=HF.out (HSZ.out hsz)
    have hne:((len:Int) != s.size)=true:=by rw [bne_iff_ne];exact hsz
    clear HSD HSZ hsz
    refine Zar (fun w'=>Zao w2.drew w') (by kernel_rfl) ?_
    refine Zaz (rs:=[0,1,2,3,4,5,6,7,8,9,10,11,12,13,14,15,16,17]) (fuel:=0) (by kernel_rfl) (fun c d v a w h=>by cases d<;>exact h) (by kernel_rfl) (Zao.refl _) (fun K hK=> ?_)
    iterate 17 (first
     | (refine Zah _ rfl (by rfl) rfl ?_;go_simp)
     | (refine Zjs rfl (by rfl) ?_;go_simp)
     | (apply Zad _ rfl (by rfl) (fun w' hw'=>by (have x3:=(((Zao.drew w2).trans hw').cell (p:=⟨b2,off2+k,none⟩) (Za0 x2)).trans x2);(have c3:=(((Zao.drew w2).trans hw').cell (p:=⟨g1,1,none⟩) (Za0 c1)).trans c1);go_simp;rfl);go_simp))
    refine Zad (.bool true) rfl (by rfl) (fun w' hw'=> ?_) ?_
    ·go_simp
    go_simp
    refine Zac (hK.out _ ?_)
    clear hK K d2 x2 r2 c1 V2 q2 hne q V0
    refine wpAnyH_done (by kernel_rfl) ?_ _
    have HQ4:Hid (Below w.heap.size w w2.drew):=HQ2.out.drew
    go_wp2_with fail
    go_ret
    exact ⟨ZaC HN.out.symm,HQ4.out⟩
  ·obtain rfl:k=n:=by omega
   have hk0:¬(k:Int)<(k:Int):=by omega
   go_wp2
   go_ret
   exact ⟨ZaC HA.out.symm,q⟩
end Go.Proofs.YtcaloldcihpkfaaGreatDoor.N
