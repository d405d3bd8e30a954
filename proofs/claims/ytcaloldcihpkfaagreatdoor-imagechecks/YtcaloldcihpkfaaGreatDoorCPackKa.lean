/-
 Layer 21, plain: a ring of keys and its bytes.
-/
import Derived.Test.YtcaloldcihpkfaaGreatDoorCPackMa
import Derived.Test.YtcaloldcihpkfaaGreatDoorCPackMb
import Derived.Deep.CutRange
import Derived.Test.YtcaloldcihpkfaaGreatDoorMPackFb
import Derived.Test.YtcaloldcihpkfaaGreatDoorMPackNa
import Derived.Lib.Strings
import Derived.Great.BuildSlice
namespace Go.Proofs.YtcaloldcihpkfaaGreatDoor.N
open Go.RowKit
set_option linter.unusedVariables false
set_option maxRecDepth 8192

structure Ky where
 num:Int
 dig:List Int
 rev:Bool
def ZbT:List Int:=List.replicate 32 0
def ky0:Ky:=⟨0,ZbT,false⟩
structure Ky.Ok (k:Ky):Prop where
 len:k.dig.length=32
 byt:IsB k.dig
theorem Zb1:ky0.Ok:=⟨rfl,fun x hx=>by rw [(List.mem_replicate.1 hx).2];decide⟩
def kyI (l:List Ky) (i:Nat):Ky:=l[i]?.getD ky0
theorem ZkQ {l:List Ky} {i:Nat} (h:i<l.length):kyI l i=l[i]:=by simp [kyI,List.getElem?_eq_getElem h]
theorem Zey {l:List Ky} (h:∀s∈l,s.Ok) (i:Nat):(kyI l i).Ok:=by
 rcases Nat.lt_or_ge i l.length with h1|h1
 ·rw [ZkQ h1];exact h _ (List.getElem_mem h1)
 ·rw [kyI,List.getElem?_eq_none h1];exact Zb1
def Zda (l:List Ky):Nat→Int
 | 0=> -1
 | i+1=>(kyI l i).num
def Zez (l:List Ky) (i:Nat):Bool:=decide (Zda l i<(kyI l i).num∧(kyI l i).num≤2147483647)
def ZbU (l:List Ky) (k:Nat):Bool:=(List.range k).all (Zez l)
theorem ZkR (l:List Ky) (k:Nat):ZbU l (k+1)=(ZbU l k&&Zez l k):=by simp [ZbU,List.range_succ]
theorem ZkS {l:List Ky} {j k:Nat} (h:ZbU l k=true) (hj:j<k):Zez l j=true:=by
 unfold ZbU at h
 exact List.all_eq_true.1 h j (List.mem_range.2 hj)
theorem Zqy {l:List Ky} {j k:Nat} (h:Zez l j=false) (hj:j<k):ZbU l k=false:=by
 cases hk:ZbU l k
 ·rfl
 ·rw [ZkS hk hj] at h;cases h
def mayK (l:List Ky):Bool:=decide (l.length≤8)&&ZbU l l.length
theorem Zh5 {l:List Ky} (h:mayK l=true):l.length≤8∧ZbU l l.length=true:=by
 simpa [mayK] using h
theorem Zh6 {l:List Ky} (h:mayK l=true) {i:Nat} (hi:i<l.length):Zda l i<(kyI l i).num∧(kyI l i).num≤2147483647:=of_decide_eq_true (ZkS (Zh5 h).2 hi)
theorem ZkT {l:List Ky} (h:mayK l=true):∀ {i:Nat},i<l.length→0≤(kyI l i).num∧(kyI l i).num≤2147483647
 | 0,hi=>by have:=Zh6 h hi;have e:Zda l 0= -1:=rfl;omega
 | i+1,hi=>by have:=Zh6 h hi;have e:Zda l (i+1)=(kyI l i).num:=rfl;have:=(ZkT h (i:=i) (by omega)).1;omega
theorem ZeA {l:List Ky} (h:mayK l=true) {i:Nat}:∀ {j:Nat},i<j→j<l.length→(kyI l i).num<(kyI l j).num
 | 0,h1,_=>by omega
 | j+1,h1,h2=>by
  have e:Zda l (j+1)=(kyI l j).num:=rfl
  have h3:=Zh6 h h2
  rcases Nat.lt_or_ge i j with h4|h4
  ·have:=ZeA h h4 (by omega);omega
  ·obtain rfl:i=j:=by omega
   omega
def Zbv (l:List Ky) (x:Int):Option Nat:=(List.range l.length).find? fun i=>decide ((kyI l i).num=x)
theorem Zgp {l:List Ky} {x:Int} {i:Nat} (h:Zbv l x=some i):i<l.length∧(kyI l i).num=x:=by
 have h1:=List.mem_of_find?_eq_some h
 have h2:=List.find?_some h
 exact ⟨List.mem_range.1 h1,of_decide_eq_true h2⟩
theorem Zqz {l:List Ky} {x:Int} (h:Zbv l x=none) {i:Nat} (hi:i<l.length):(kyI l i).num≠x:=by
 have:=List.find?_eq_none.1 h i (List.mem_range.2 hi)
 simpa using this
theorem ZqA {l:List Ky} {x:Int} (hm:mayK l=true) {i:Nat} (hi:i<l.length) (hx:(kyI l i).num=x):Zbv l x=some i:=by
 cases h:Zbv l x with
 | none=>exact absurd hx (Zqz h hi)
 | some j=>
  have h1:=Zgp h
  congr 1
  rcases Nat.lt_or_ge i j with h2|h2
  ·have:=ZeA hm h2 h1.1;omega
  ·rcases Nat.lt_or_ge j i with h3|h3
   ·have:=ZeA hm h3 hi;omega
   ·omega
def fndD (l:List Ky) (x:Int):List Int:=match Zbv l x with|some i=>if (kyI l i).rev then ZbT else (kyI l i).dig|none=>ZbT
def fndC (l:List Ky) (x:Int):Int:=match Zbv l x with|some i=>if (kyI l i).rev then 190 else 0|none=>190
theorem ZkU {l:List Ky} {x:Int} (h:Zbv l x=none):fndD l x=ZbT∧fndC l x=190:=by simp only [fndD,fndC,h,and_self]
theorem Zh7 {l:List Ky} {x:Int} {i:Nat} (h:Zbv l x=some i) (hr:(kyI l i).rev=true):fndD l x=ZbT∧fndC l x=190:=by simp only [fndD,fndC,h,hr,if_true,and_self]
theorem Zh8 {l:List Ky} {x:Int} {i:Nat} (h:Zbv l x=some i) (hr:(kyI l i).rev=false):fndD l x=(kyI l i).dig∧fndC l x=0:=by simp only [fndD,fndC,h,hr];exact ⟨rfl,rfl⟩
theorem Zh9 {l:List Ky} (ho:∀s∈l,s.Ok) (x:Int):(fndD l x).length=32∧IsB (fndD l x):=by
 cases h:Zbv l x with
 | none=>rw [(ZkU h).1];exact ⟨Zb1.len,Zb1.byt⟩
 | some i=>
  cases hr:(kyI l i).rev
  ·rw [(Zh8 h hr).1];exact ⟨(Zey ho i).len,(Zey ho i).byt⟩
  ·rw [(Zh7 h hr).1];exact ⟨Zb1.len,Zb1.byt⟩
def kBit (b:Bool):Int:=if b then 1 else 0
def Zcx (k:Ky):List Int:=four k.num++(k.dig++ [kBit k.rev])
def Zia:List Int:=[114,105,110,103]
def Zgq (n:Nat):List Int:=Zia++four (n:Int)
def ZkV (l:List Ky):List Int:=Zgq l.length++l.flatMap Zcx
theorem ZqB (b:Bool):IsB [kBit b]:=by cases b<;>(unfold IsB kBit;decide)
end Go.Proofs.YtcaloldcihpkfaaGreatDoor.N

/-
 Layer 21: keys in memory.
-/
namespace Go.Proofs.YtcaloldcihpkfaaGreatDoor.N
open Go.RowKit
set_option linter.unusedVariables false
set_option maxRecDepth 8192

def dC (d:List Int):List Value:=d.map (Value.int .u8)
def dA (d:List Int):Array Value:=(dC d).toArray
def kC (k:Ky):List Value:= .int .i64 k.num::(dC k.dig++ [.bool k.rev])
def kA (k:Ky):Array Value:=(kC k).toArray
theorem Zd1 {d:List Int} (h:d.length=32):(dC d).length=32:=by simp [dC,h]
theorem Zcm {d:List Int} (h:d.length=32):(dA d).size=32:=by unfold dA;rw [List.size_toArray];exact Zd1 h
theorem ZkW (d:List Int):∀u∈dC d,u.oneCell'=true:=by
 intro u hu
 obtain ⟨x,_,rfl⟩:=List.mem_map.1 hu
 rfl
theorem Zgr (d:List Int):(dA d).all (·.oneCell')=true:=all_oneCell_toArray (ZkW d)
theorem ZeB {k:Ky} (h:k.Ok):(kC k).length=34:=by simp [kC,dC,h.len]
theorem ZeC {k:Ky} (h:k.Ok):(kA k).size=34:=by unfold kA;rw [List.size_toArray];exact ZeB h
theorem ZqC (k:Ky):∀u∈kC k,u.oneCell'=true:=by
 intro u hu
 simp only [kC,List.mem_cons,List.mem_append,List.not_mem_nil,or_false] at hu
 rcases hu with rfl|h|rfl
 ·rfl
 ·exact ZkW _ u h
 ·rfl
theorem ZkX (k:Ky):(kA k).all (·.oneCell')=true:=all_oneCell_toArray (ZqC k)
theorem ZkY {k:Ky} (h:k.Ok) (j:Nat) (hj:j<32):(kC k)[1+j]? =some (.int .u8 (k.dig[j]?.getD 0)):=by
 have hd:j<k.dig.length:=by rw [h.len];exact hj
 rw [show 1+j=j+1 by omega,kC,List.getElem?_cons_succ,List.getElem?_append_left (by simpa [dC] using hd)]
 simp [dC,List.getElem?_eq_getElem hd]
theorem Zib {k:Ky} (h:k.Ok):(kC k)[33]? =some (.bool k.rev):=by
 rw [show 33=32+1 by rfl,kC,List.getElem?_cons_succ,List.getElem?_append_right (by rw [Zd1 h.len];exact Nat.le_refl _),Zd1 h.len]
 rfl
theorem ZqD {k:Ky} (h:k.Ok):(kC k).set 33 (.bool true)=kC { k with rev:=true }:=by
 rw [show 33=32+1 by rfl,kC,List.set_cons_succ,List.set_append_right _ _ (by rw [Zd1 h.len];exact Nat.le_refl _),Zd1 h.len]
 rfl
section
variable {w:World} {b o:Nat} {k:Ky}
theorem Zic (h:w.rangeAt b o (kC k)):w.cell? ⟨b,o,none⟩=some (.int .i64 k.num):=h 0 _ rfl
theorem ZqE (hk:k.Ok) (h:w.rangeAt b o (kC k)):w.cell? ⟨b,o+33,none⟩=some (.bool k.rev):=h 33 _ (Zib hk)
theorem ZqF (hk:k.Ok) (h:w.rangeAt b o (kC k)):w.rangeAt b (o+1) (dC k.dig):=fun j v hv=>by
 have hj:j<32:=by rw [←Zd1 hk.len];exact (List.getElem?_eq_some_iff.1 hv).1
 have:=h (1+j) _ (ZkY hk j hj)
 rw [show o+1+j=o+(1+j) by omega,this, ←hv]
 have hd:j<k.dig.length:=by rw [hk.len];exact hj
 simp [dC,List.getElem?_eq_getElem hd]
theorem ZqG (hk:k.Ok) (h:w.rangeAt b o (kC k)):Row .u8 w (some ⟨b,o+1,none⟩) 32 32 k.dig:=
 ⟨hk.len,Nat.le_refl _,by unfold maxLen;omega,by simp,fun _=>⟨b,o+1,rfl,Za0 (Zic h),fun i hi=>by
  have:=h (1+i) _ (ZkY hk i hi)
  rw [show o+1+i=o+(1+i) by omega,this]⟩⟩
end
theorem Zid {w:World} {g:Nat} {T:TypeId} {L:List Value} (h:w.heap[g]? =some (.cells L.toArray T (0,0))):w.rangeAt g 0 L:=fun j v hv=>by
 rw [cell_of_row w g (0+j) _ T (0,0) h,Nat.zero_add]
 simpa using hv
structure KRow (w:World) (a:Option Addr) (n cap:Nat) (l:List Ky):Prop where
 hlen:l.length=n
 hcap:n≤cap
 hmax:cap≤maxLen
 hnil:a=none→cap=0
 hcell:0<n→∃b off,a=some ⟨b,off,none⟩∧b<w.heap.size∧∀i,i<n→w.rangeAt b (off+i*34) (kC (kyI l i))
theorem KRow.below {w w':World} {a:Option Addr} {n cap B:Nat} {l:List Ky} (h:KRow w a n cap l) (q:Below B w w') (hB:w.heap.size≤B):KRow w' a n cap l:=by
 refine ⟨h.hlen,h.hcap,h.hmax,h.hnil,fun h0=> ?_⟩
 obtain ⟨b,off,rfl,hb,hc⟩:=h.hcell h0
 exact ⟨b,off,rfl,by have:=q.size;omega,fun i hi=>Zfc (hc i hi) (q.block b (by omega))⟩
theorem Zv2 (w:World):KRow w none 0 0 []:=⟨rfl,Nat.le_refl _,Nat.zero_le _,fun _=>rfl,fun h=>absurd h (by omega)⟩
def kCs (l:List Ky):List Value:=l.flatMap kC
theorem ZkZ:∀ {l:List Ky},(∀s∈l,s.Ok)→(kCs l).length=l.length*34
 | [],_=>rfl
 | s::l,h=>by
  show (kC s++kCs l).length=_
  rw [List.length_append,ZeB (h s (List.mem_cons_self ..)),ZkZ (fun x hx=>h x (List.mem_cons_of_mem _ hx)),List.length_cons]
  omega
theorem Zk0:∀ {l:List Ky},(∀s∈l,s.Ok)→∀i,i<l.length→∀j v,(kC (kyI l i))[j]? =some v→(kCs l)[i*34+j]? =some v
 | [],_,i,hi,_,_,_=>absurd hi (Nat.not_lt_zero _)
 | s::l,h,0,_,j,v,hv=>by
  show (kC s++kCs l)[0*34+j]? =_
  have hv:(kC s)[j]? =some v:=hv
  have hj:=(List.getElem?_eq_some_iff.1 hv).1
  rw [show 0*34+j=j by omega,List.getElem?_append_left hj]
  exact hv
 | s::l,h,i+1,hi,j,v,hv=>by
  show (kC s++kCs l)[(i+1)*34+j]? =_
  have hs:=ZeB (h s (List.mem_cons_self ..))
  rw [List.getElem?_append_right (by omega),hs,show (i+1)*34+j - 34=i*34+j by omega]
  exact Zk0 (fun x hx=>h x (List.mem_cons_of_mem _ hx)) i (by simpa using hi) j v hv
theorem KRow.cells {w:World} {b off n:Nat} {l:List Ky} (ho:∀s∈l,s.Ok) (hl:l.length=n) (hc:∀i,i<n→w.rangeAt b (off+i*34) (kC (kyI l i))):∀j v,(kCs l)[j]? =some v→w.cell? ((⟨b,off,none⟩:Addr).add j)=some v:=by
 intro j v hj
 have hlt:j<l.length*34:=by rw [←ZkZ ho];exact (List.getElem?_eq_some_iff.1 hj).1
 have hi:j/34<l.length:=by omega
 have hk:=ZeB (Zey ho (j/34))
 have hm:j%34<(kC (kyI l (j/34))).length:=by omega
 have h1:=Zk0 ho (j/34) hi (j%34) _ (List.getElem?_eq_getElem hm)
 rw [show j/34*34+j%34=j by omega,hj] at h1
 have h2:=hc (j/34) (by omega) (j%34) _ (List.getElem?_eq_getElem hm)
 rw [Zbc,show off+j=off+j/34*34+j%34 by omega,h2, ←h1]
theorem Tryz.szKy:(Tryz.prog.info? 54).map (·.size)=some 34:=by kernel_rfl
theorem Tryz.szDg:(Tryz.prog.info? 22).map (·.size)=some 32:=by kernel_rfl
theorem Zk1 (w:World):(zeroValue 54).run Tryz.prog w= .ok (.agg (kA ky0)) w:=by kernel_rfl
theorem Zk2 (w:World):(zeroValue 22).run Tryz.prog w= .ok (.agg (dA ZbT)) w:=by kernel_rfl
theorem ZqH:∃i,Tryz.prog.info? 54=some i∧i.zero=some (.agg (kA ky0))∧i.size=34∧i.bytes=48:=by
 have h:(Tryz.prog.info? 54).map (fun i=>(i.zero,i.size,i.bytes))=some (some (.agg (kA ky0)),34,48):=by kernel_rfl
 obtain ⟨i,hi,he⟩:=Option.map_eq_some_iff.1 h
 simp only [Prod.mk.injEq] at he
 exact ⟨i,hi,he.1,he.2.1,he.2.2⟩
end Go.Proofs.YtcaloldcihpkfaaGreatDoor.N

/-
 The code of layer 21 (keys), as it landed: mayBe, lay, mark, number.
-/
namespace Go.Proofs.YtcaloldcihpkfaaGreatDoor.N
open Go.RowKit
set_option linter.unusedVariables false
set_option maxRecDepth 8192

theorem ZqI {l:List Ky} (h:8<l.length):mayK l=false:=by unfold mayK;rw [decide_eq_false (by omega),Bool.false_and]
set_option maxHeartbeats 1600000 in
theorem Zie {a:Option Addr} {n cap:Nat} {l:List Ky} {w:World} (hr:KRow w a n cap l) (ho:∀s∈l,s.Ok):Calls Tryz.prog 88 #[.slice a n cap] w fun e w'=>e= .returned (.bool (mayK l))∧Below w.heap.size w w':=by
 have hm:=hr.hmax
 have hc:=hr.hcap
 unfold maxLen at hm
 by_cases h8:n≤8
 case neg=>
  have HF:Hid (mayK l=false):=ZqI (by rw [hr.hlen];omega)
  have h8':(8:Int)<(n:Int):=by omega
  go_enter Tryz.func88,Tryz.ntmps88
  go_wp2
  go_ret
  exact ⟨ZaC HF.out.symm,Below.refl _ _⟩
 have h8':¬(8:Int)<(n:Int):=by omega
 have HM:Hid (mayK l=ZbU l n):=by show _=_;unfold mayK;rw [hr.hlen,decide_eq_true h8,Bool.true_and]
 go_enter Tryz.func88,Tryz.ntmps88
 go_wp2
 go_loopw [3,11] (fun e i wr=>∃k:Nat,k≤n∧i= .int .i64 (k:Int)∧e= .int .i64 (Zda l k)∧Hid (ZbU l k=true)∧Below w.heap.size w wr) (fun _ i _=>n - (RowKit.intOf i).toNat)
 case atStart=>exact ⟨0,Nat.zero_le _,rfl,rfl,rfl,Below.refl _ _⟩
 case round=>
  obtain ⟨k,hk,rfl,rfl,HO,q⟩:=hrel
  have hr':=hr.below q (Nat.le_refl _)
  by_cases hlt:k<n
  ·obtain ⟨b,off,rfl,hbs,hcell⟩:=hr'.hcell (by omega)
   have hx:=hcell k hlt
   have hs:=Zey ho k
   have HS:Hid (ZbU l (k+1)=decide (Zda l k<(kyI l k).num∧(kyI l k).num≤2147483647)):=by
    show _=_
    rw [ZkR,HO.out,Bool.true_and]
    rfl
   have HF:Hid (ZbU l (k+1)=false→ZbU l n=false):=fun h=>by
    rw [ZkR,HO.out,Bool.true_and] at h
    exact Zqy h hlt
   have HE:Hid (Zda l (k+1)=(kyI l k).num):=rfl
   clear hcell hr'
   generalize kyI l k=s at*
   generalize Zda l k=en at*
   have hlt':(k:Int)<(n:Int):=by omega
   have V0:=Vars.start wr
   go_upto_region 7 with (first
    | (refine wpList_load_mid rfl 54 _ rfl b (off+k*34) rfl (kC s) _ hx Tryz.underlying54 rfl (by rw [ZeB hs];exact Tryz.szKy) ?_)
    | (refine Zai V0 5 54 rfl rfl rfl (kA ky0) Zk1 ?_;intro w1 g1 V1)
    | (refine Zal V1 0 rfl _ (.tmp 14) rfl rfl rfl (kA s) rfl rfl Tryz.szKy (ZeC Zb1) (ZeC hs) (ZkX s) ?_;intro w2 V2))
   have c0:w2.cell? ⟨g1,0,none⟩=some (.int .i64 s.num):=Zag (V2.at 0 rfl) 0
   have q2:=Zbp q V2.bel
   clear V0 V1 V2 q hx
   generalize s.num=x at*
   by_cases h1:x≤en
   ·have HN:Hid (mayK l=false):=by show _=_;rw [HM.out];exact HF.out (by rw [HS.out,decide_eq_false_iff_not];omega)
    clear HS HF HE
    go_wp2_with fail
    go_ret
    exact ⟨ZaC HN.out.symm,q2⟩
   by_cases h2:2147483647<x
   ·have HN:Hid (mayK l=false):=by show _=_;rw [HM.out];exact HF.out (by rw [HS.out,decide_eq_false_iff_not];omega)
    clear HS HF HE
    go_wp2_with fail
    go_ret
    exact ⟨ZaC HN.out.symm,q2⟩
   have HN:Hid (ZbU l (k+1)=true):=by show _=_;rw [HS.out];exact decide_eq_true (by omega)
   clear HS HF
   go_wp2_with fail
   go_roundw
   case rel=>exact ⟨k+1,by omega,by go_num,by rw [HE.out],HN,q2⟩
   case measure=>simp [RowKit.intOf];omega
  ·obtain rfl:k=n:=by omega
   go_wp2
   go_ret
   exact ⟨ZaC (by rw [HM.out,HO.out]),q⟩
set_option maxHeartbeats 1600000 in
theorem Zk3 {B:Nat} {v:Value} {t m:Nat} {D:List Int} {w:World} {x:Int} (hown:Gr B 5 w v t m D) (hB:B≤w.heap.size) (hm:m≤1000) (hx:0≤x∧x≤2147483647):
  Calls Tryz.prog 89 #[v, .int .i64 x] w fun e w'=>∃v',e= .returned v'∧w'.ownsRow B 5 1 v' (m+4) ((D++four x).map (Value.int .u8))∧Below B w w'∧ZaQ 5 w w':=by
 obtain ⟨i0,hi0,hz0,hz1,hz2⟩:=info_parts Tryz.info5
 have HT:Hid ((four x).take 4=four x):=rfl
 go_enter Tryz.func89,Tryz.ntmps89
 go_wp2
 go_loopw [0,1,5] (fun b y i ws=>∃j:Nat,j≤4∧i= .int .i64 (j:Int)∧y= .int .i64 (x/256^j)∧Gr B 5 ws b (t+j) (m+j) (D++(four x).take j)∧Below B w ws∧ZaQ 5 w ws) (fun _ _ i _=>4 - (RowKit.intOf i).toNat)
 case atStart=>exact ⟨0,Nat.zero_le _,rfl,by simp,by simpa using hown,Below.refl _ _,ZaQ.refl _ _⟩
 case round=>
  obtain ⟨j,hj,rfl,rfl,own,q,kp⟩:=hrel
  by_cases hl4:j<4
  ·have HS:Hid ((four x).take (j+1)=(four x).take j++ [x/256^j%256]):=ZkJ x j hl4
   have HD:Hid (x/256^j/256=x/256^(j+1)):=Zhv x j
   have hd0:0≤x/256^j:=Int.ediv_nonneg hx.1 (Int.pow_nonneg (by decide))
   have hd1:x/256^j≤x:=Int.ediv_le_self _ hx.1
   generalize x/256^j=y at*
   generalize (four x).take j=tk at*
   have hj4:(j:Int)<4:=by omega
   obtain ⟨F,hF⟩:∃F,F=D++tk:=⟨_,rfl⟩
   have HF:Hid (D++(four x).take (j+1)=F++ [y%256]):=by show _=_;rw [HS.out,hF];simp only [List.append_assoc]
   rw [←hF] at own
   clear hF HS
   have hsz:B≤wr.heap.size:=Nat.le_trans hB q.size
   have rn:=Zed .u8 wr 5 wr.heap.size rfl [y%256] 1 rfl (by unfold maxLen;omega) #[.int .u8 (y%256)] rfl
   go_wp2_with (at_builtin;refine ZdT _ rfl _ _ 28 rfl B 5 i0 (.int .u8 0) Tryz.underlying28 hi0 hz0 hz1 hz2 rfl rfl (own.alloc _) (some ⟨wr.heap.size,0,none⟩) 1 1 [y%256] rfl rn (by decide) (by omega) (by simp;omega) ?_)
   intro v' w1 own' q' kk'
   replace own':w1.ownsRow B 5 1 v' (m+j+1) ((F++ [y%256]).map (Value.int .u8)):=by rw [List.map_append];exact own'
   rw [←HF.out] at own'
   have qq:=(q.trans ((ZaS wr _).mono hsz)).trans q'
   have kk:=(kp.trans (ZaQ.alloc wr _)).trans kk'
   clear q' kk' rn
   go_wp2
   go_roundw
   case rel=>exact ⟨j+1,by omega,by go_num,by rw [HD.out], .inl own',qq,kk⟩
   case measure=>simp [RowKit.intOf];omega
  ·obtain rfl:j=4:=by omega
   rw [HT.out] at own
   go_wp2
   go_ret
   exact ⟨_,rfl,own.own (by omega),q,kp⟩
theorem ZqJ (b:Bool) (w:World):Calls Tryz.prog 90 #[.bool b] w fun e w'=>e= .returned (.int .u8 (kBit b))∧w=w':=by
 cases b
 ·go_enter Tryz.func90,Tryz.ntmps90
  go_wp2
  go_ret
  exact ⟨rfl,rfl⟩
 ·go_enter Tryz.func90,Tryz.ntmps90
  go_wp2
  go_ret
  exact ⟨rfl,rfl⟩
end Go.Proofs.YtcaloldcihpkfaaGreatDoor.N

/-
 The code of layer 21 (keys), as it landed: key.
-/
namespace Go.Proofs.YtcaloldcihpkfaaGreatDoor.N
open Go.RowKit
set_option linter.unusedVariables false
set_option maxRecDepth 8192

end Go.Proofs.YtcaloldcihpkfaaGreatDoor.N

/-
 The code of layer 21 (keys), as it landed: Bytes.
-/
namespace Go.Proofs.YtcaloldcihpkfaaGreatDoor.N
open Go.RowKit
set_option linter.unusedVariables false
set_option maxRecDepth 8192

theorem ZqK (l:List Ky) (k:Nat) (h:k<l.length):(l.take (k+1)).flatMap Zcx=(l.take k).flatMap Zcx++Zcx (kyI l k):=by
 rw [List.take_add_one,List.getElem?_eq_getElem h,ZkQ h,List.flatMap_append]
 simp only [Option.toList,List.flatMap_cons,List.flatMap_nil,List.append_nil]
section
variable {w:World} {g:Nat} {T:TypeId} {k:Ky}
theorem ZqL (h:w.heap[g]? =some (.cells (kA k) T (0,0))):w.cell? ⟨g,0,none⟩=some (.int .i64 k.num):=Zag h 0
theorem ZqM (hk:k.Ok) (h:w.heap[g]? =some (.cells (kA k) T (0,0))):w.cell? ⟨g,33,none⟩=some (.bool k.rev):=by rw [Zag h 33,kA,List.getElem?_toArray];exact Zib hk
theorem ZqN (hk:k.Ok) (h:w.heap[g]? =some (.cells (kA k) T (0,0))):Row .u8 w (some ⟨g,1,none⟩) 32 32 k.dig:=by
 have:=ZqG hk (Zid h)
 simpa using this
end
set_option maxHeartbeats 1600000 in
theorem ZqO {a:Option Addr} {n cap:Nat} {l:List Ky} {w:World} (hr:KRow w a n cap l) (ho:∀s∈l,s.Ok) (hm:mayK l=false):
  Calls Tryz.prog 42 #[.slice a n cap] w fun e w'=>e= .returned (.tuple #[.slice none 0 0, .int .i64 1])∧Below w.heap.size w w':=by
 have h:=Zie hr ho
 rw [hm] at h
 go_enter Tryz.func42,Tryz.ntmps42
 go_wp2_with fail
 refine h.mono ?_
 rintro e w2 ⟨rfl,q1⟩
 clear h hr hm
 go_wp2_with fail
 go_ret2
 exact ⟨rfl,q1⟩
set_option maxHeartbeats 3200000 in
theorem ZqP {a:Option Addr} {n cap:Nat} {l:List Ky} {w:World} (hr:KRow w a n cap l) (ho:∀s∈l,s.Ok) (hm:mayK l=true):
  Calls Tryz.prog 42 #[.slice a n cap] w fun e w'=>∃u,e= .returned (.tuple #[u, .int .i64 0])∧w'.ownsRow w.heap.size 5 1 u (8+37*n) ((ZkV l).map (Value.int .u8))∧Below w.heap.size w w':=by
 obtain ⟨i0,hi0,hz0,hz1,hz2⟩:=info_parts Tryz.info5
 have HL:Hid (l.length=n):=hr.hlen
 have hn8:n≤8:=by rw [←HL.out];exact (Zh5 hm).1
 have mc:=hr.hcap
 have mm:=hr.hmax
 unfold maxLen at mm
 have HB:Hid (ZkV l=Zgq n++l.flatMap Zcx):=by show _=_;rw [←HL.out];rfl
 have HA:Hid (Zgq n=Zia++four (n:Int)):=rfl
 have HM:Hid (mayK l=true):=hm
 have h:=Zie hr ho
 rw [hm] at h
 go_enter Tryz.func42,Tryz.ntmps42
 go_wp2_with fail
 refine h.mono ?_
 rintro e w2 ⟨rfl,q1⟩
 have kc:=Lib.run_convert_bytes_const (P:=Tryz.prog) w2 28 5 #[.int .u8 114, .int .u8 105, .int .u8 110, .int .u8 103] 4 4 Tryz.underlying28 Tryz.underlying5
 have qm:=ZaS w2 (.cells #[.int .u8 114, .int .u8 105, .int .u8 110, .int .u8 103] 5 (4,5))
 have ro:=Zf9 .u8 w2 5 (4,5) Zia 4 rfl (by unfold maxLen;omega) #[.int .u8 114, .int .u8 105, .int .u8 110, .int .u8 103] rfl
 replace q1:=Zbp q1 qm
 clear h hm qm
 go_wp2_with fail
 clear kc
 generalize w2.alloc (.cells #[.int .u8 114, .int .u8 105, .int .u8 110, .int .u8 103] 5 (4,5))=w3 at*
 refine (Zk3 (B:=w.heap.size) (t:=0) (.inr ⟨rfl,by decide,_,rfl,ro⟩) q1.size (x:=(n:Int)) (by decide) (by omega)).mono ?_
 rintro e w4 ⟨u4,rfl,own4,q4,_⟩
 rw [←HA.out] at own4
 replace q1:=q1.trans q4
 clear q4 ro
 generalize Zgq n=A at*
 go_wp2_with fail
 go_loopw [4,17] (fun u i wr=>∃j:Nat,j≤n∧i= .int .i64 (j:Int)∧wr.ownsRow w.heap.size 5 1 u (8+37*j) ((A++(l.take j).flatMap Zcx).map (Value.int .u8))∧Below w.heap.size w wr) (fun _ i _=>n - (RowKit.intOf i).toNat)
 case atStart=>exact ⟨0,Nat.zero_le _,rfl,by simpa using own4,q1⟩
 case round=>
  clear own4 q1
  obtain ⟨j,hj,rfl,own,q⟩:=hrel
  by_cases hlt:j<n
  ·obtain ⟨b,off,rfl,hbs,hcell⟩:=(hr.below q (Nat.le_refl _)).hcell (by omega)
   have hx:=hcell j hlt
   have hs:=Zey ho j
   have hjl:j<l.length:=by rw [HL.out];exact hlt
   have hb:=ZkT HM.out hjl
   have HT:Hid (A++(l.take (j+1)).flatMap Zcx=(A++(l.take j).flatMap Zcx)++Zcx (kyI l j)):=by show _=_;rw [ZqK l j hjl,List.append_assoc]
   clear hcell hjl
   generalize kyI l j=x at*
   generalize A++(l.take j).flatMap Zcx=D at*
   have HX:Hid (Zcx x=four x.num++(x.dig++ [kBit x.rev])):=rfl
   have hlt':(j:Int)<(n:Int):=by omega
   have V0:=Vars.start wr
   go_wp2_with (first
    | (refine wpList_load_mid rfl 54 _ rfl b (off+j*34) rfl (kC x) _ hx Tryz.underlying54 rfl (by rw [ZeB hs];exact Tryz.szKy) ?_)
    | (refine Zai V0 6 54 rfl rfl rfl (kA ky0) Zk1 ?_;intro w5 g5 V5)
    | (refine Zal V5 0 rfl _ (.tmp 20) rfl rfl rfl (kA x) rfl rfl Tryz.szKy (ZeC Zb1) (ZeC hs) (ZkX x) ?_;intro w6 V6))
   have own6:=(Zcs own V6.bel).drew
   have q6:=(Zbp q V6.bel).drew
   replace V6:=V6.drew
   clear own q hx V5 V0
   refine Zar (fun w'=>w'.heap[g5]? =some (.cells (kA x) 54 (0,0))) (by kernel_rfl) ?_
   refine Zaz (rs:=[0,1,2,4,5]) (fuel:=3) (by kernel_rfl) (fun c d v a w h=>by cases d<;>exact h) (by kernel_rfl) (V6.at 0 rfl) (fun K hK=> ?_)
   refine Zah _ rfl (by rfl) rfl ?_
   go_simp
   refine Zad (.pointer (some ⟨g5,0,none⟩)) rfl (by rfl) (fun w' hw'=> ?_) ?_
   ·go_simp
   go_simp
   refine Zad (.int .i64 x.num) rfl (by rfl) (fun w' hw'=> ?_) ?_
   ·have c0:=ZqL hw'
    go_simp
   go_simp
   refine Zad (.pointer (some ⟨g5,1,none⟩)) rfl (by rfl) (fun w' hw'=> ?_) ?_
   ·go_simp
   go_simp
   refine Zad (.slice (some ⟨g5,1,none⟩) 32 32) rfl (by rfl) (fun w' hw'=>Zfk g5 1 _ rfl rfl) ?_
   go_simp
   refine Zac (hK.out _ ?_)
   clear hK K
   generalize w6.drew=w7 at*
   refine Za3 (i:=3) (fuel:=2) (by kernel_rfl) rfl (by rfl) (fun K hK=> ?_)
   go_simp
   refine (Zk3 (B:=w.heap.size) (t:=0) (.inl own6) q6.size (by omega) hb).mono ?_
   rintro e w9 ⟨u9,rfl,own9,q9,kp9⟩
   have hg9:=kp9 _ _ _ (by decide) (V6.at 0 rfl)
   refine hK _ _ hg9 ?_
   clear hK K V6 own6 kp9
   replace q6:=q6.trans q9
   clear q9
   have rd:=ZqN hs hg9
   refine Za3 (i:=6) (fuel:=1) (by kernel_rfl) rfl (by rfl) (fun K hK=> ?_)
   refine Zj3 _ _ 28 rfl w.heap.size 5 i0 (.int .u8 0) Tryz.underlying28 hi0 hz0 hz1 hz2 rfl rfl own9 (some ⟨g5,1,none⟩) 32 32 x.dig rfl rd (by decide) (by omega) q6.size ?_
   intro v10 w10 own10 q10 kp10
   have hg10:=kp10 _ _ _ (by decide) hg9
   refine hK _ _ hg10 ?_
   clear hK K own9 kp10 rd hg9
   replace q6:=q6.trans q10
   clear q10
   refine Zaz (rs:=[7]) (fuel:=0) (by kernel_rfl) (fun c d v a w h=>by cases d<;>exact h) (by kernel_rfl) hg10 (fun K hK=> ?_)
   go_simp
   refine ZaB _ rfl (by rfl) rfl ?_
   go_simp
   refine Zac (hK.out _ ?_)
   clear hK K
   refine wpAnyH_done (by kernel_rfl) ?_ _
   have c33:=ZqM hs hg10
   have HE:Hid (A++(l.take (j+1)).flatMap Zcx=(D++four x.num++x.dig)++ [kBit x.rev]):=by show _=_;rw [HT.out,HX.out];simp only [List.append_assoc]
   clear HT HX hg10
   generalize D++four x.num++x.dig=E at*
   generalize x.rev=r at*
   have hmk:=ZqJ r w10
   go_wp2_with fail
   refine hmk.mono ?_
   rintro e w' ⟨rfl,rfl⟩
   have hby:=ZqB r (kBit r) (List.mem_singleton.2 rfl)
   clear hmk c33
   generalize kBit r=y at*
   have rn:=Zed .u8 w10 5 w10.heap.size rfl [y] 1 rfl (by unfold maxLen;omega) #[.int .u8 y] rfl
   go_wp2_with (at_builtin;refine ZdT _ rfl _ _ 28 rfl w.heap.size 5 i0 (.int .u8 0) Tryz.underlying28 hi0 hz0 hz1 hz2 rfl rfl (tt:=0) (.inl (own10.alloc _)) (some ⟨w10.heap.size,0,none⟩) 1 1 [y] rfl rn (by decide) (by omega) (by have:=q6.size;simp;omega) ?_)
   intro v' w1 own' q' kk'
   have qq:=(q6.trans ((ZaS w10 _).mono q6.size)).trans q'
   replace own':w1.ownsRow w.heap.size 5 1 v' (8+37*(j+1)) ((E++ [y]).map (Value.int .u8)):=by
    rw [show 8+37*(j+1)=8+37*j+4+32+1 by omega,List.map_append]
    simpa using own'
   rw [←HE.out] at own'
   clear q' kk' rn own10 q6
   go_wp2
   go_roundw
   case rel=>exact ⟨j+1,by omega,by go_num,own',qq⟩
   case measure=>simp [RowKit.intOf];omega
  ·obtain rfl:j=n:=by omega
   rw [List.take_of_length_le (by rw [HL.out];exact Nat.le_refl _), ←HB.out] at own
   go_wp2_with fail
   go_ret2
   exact ⟨_,rfl,own,q⟩
end Go.Proofs.YtcaloldcihpkfaaGreatDoor.N

/-
 Layer 21: lists of keys that grow: one key made, a row of keys appended; slices.Clone, bytes.Equal.
-/
namespace Go.Proofs.YtcaloldcihpkfaaGreatDoor.N
open Go.RowKit
set_option linter.unusedVariables false
set_option maxRecDepth 8192

theorem Zv3 {x y:List Int} (hx:IsB x) (hy:IsB y):((strOfNums x).toList==(strOfNums y).toList)=decide (x=y):=by
 rw [Lib.toList_data,Lib.toList_data]
 by_cases e:x=y
 ·subst e;simp
 ·rw [decide_eq_false e,beq_eq_false_iff_ne]
  exact fun h=>e (Zns hx hy (WideShapes.bytes_inj h))
theorem ZqQ {s:Ky} (h:s.Ok) (w:World):(Instr.buildSlice 39 1 [(0, .agg (kA s))].toArray).run Tryz.prog w= .ok (.slice (some ⟨w.heap.size,0,none⟩) 1 1) (w.alloc (.cells (kA s) 54)):=by
 obtain ⟨i,hi,hz,hs,_⟩:=ZqH
 obtain ⟨r,hr,hsz,hk⟩:=Great.fill_dense (s:=34) (by decide) [.agg (kA s)] 0 ((Array.range (1*34)).map ((Value.agg (kA ky0)).cells[· %(Value.agg (kA ky0)).cells.size]!)) (by
  intro v hv
  rw [List.mem_singleton.1 hv]
  exact ZeC h) (by simp)
 have e:r=kA s:=by
  apply Array.ext_getElem?
  intro k
  rw [hk k]
  have e34:(kA s).size=34:=ZeC h
  by_cases hk34:k<34
  ·rw [if_pos (by simp;omega),show k/34 - 0=0 by omega,Nat.mod_eq_of_lt hk34]
   rfl
  ·rw [if_neg (by simp;omega),Array.getElem?_eq_none (by simp;omega),Array.getElem?_eq_none (by omega)]
 rw [e] at hr
 refine run_buildSlice w _ _ 1 _ (kA s) i (.agg (kA ky0)) Tryz.underlying39 hi hz (by rw [hs];decide) (by rw [hs];decide) ?_
 rw [hs]
 exact hr
end Go.Proofs.YtcaloldcihpkfaaGreatDoor.N
