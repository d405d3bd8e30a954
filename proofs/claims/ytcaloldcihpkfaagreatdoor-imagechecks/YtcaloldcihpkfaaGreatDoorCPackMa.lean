/-
 Layer 9, plain: a head's page, and the numbers that a page says.
-/
import Derived.Test.YtcaloldcihpkfaaGreatDoorMPackA
import Derived.Laws.BitsAllLaws
import Derived.Laws.BitsLemmas
import Derived.Test.YtcaloldcihpkfaaGreatDoorMPackFb
import Derived.Deep.AppendLies
import Derived.WalkMore
import Derived.ArgAppend
import Derived.Lib.SlBytesConst
namespace Go.Proofs.YtcaloldcihpkfaaGreatDoor
open Go.RowKit
set_option linter.unusedVariables false
set_option maxRecDepth 8192

def four (n:Int):List Int:=[n%256,n/256%256,n/65536%256,n/16777216%256]
def Zb6 (z:List Int) (o:Nat):Nat→Int
 | 0=>0
 | k+1=>Zb6 z o k+z[o+k]?.getD 0*256^k
def Zab (z:List Int) (o:Nat):Int:=z[o]?.getD 0+256*z[o+1]?.getD 0+65536*z[o+2]?.getD 0+16777216*z[o+3]?.getD 0
def ZvQ (z:List Int):Nat→Int
 | 0=>0
 | k+1=>256*ZvQ z k+z[3 - k]?.getD 0
theorem Zhv (x:Int) (k:Nat):x/256^k/256=x/256^(k+1):=by
 rw [Int.ediv_ediv_of_nonneg (by exact Int.pow_nonneg (by decide)),Int.pow_succ]
theorem Zhw (n:Int):IsB (four n):=by
 intro x hx
 simp only [four,List.mem_cons,List.not_mem_nil,or_false] at hx
 omega
theorem Ze8 {x y:List Int} (hx:IsB x) (hy:IsB y):IsB (x++y):=fun n hn=>by
 rcases List.mem_append.1 hn with h|h
 ·exact hx n h
 ·exact hy n h
theorem ZjQ {z:List Int} (h:IsB z) (o k:Nat):0≤Zb6 z o k∧Zb6 z o k<256^k:=by
 induction k with
 | zero=>simp [Zb6]
 | succ k ih=>
  have hz:=h.idx (o+k)
  have hp:(0:Int)<256^k:=Int.pow_pos (by decide)
  rw [Int.pow_succ]
  unfold Zb6
  have h1:0*256^k≤z[o+k]?.getD 0*256^k:=Int.mul_le_mul_of_nonneg_right hz.1 (by omega)
  have h2:z[o+k]?.getD 0*256^k≤255*256^k:=Int.mul_le_mul_of_nonneg_right hz.2 (by omega)
  omega
theorem ZjR (z:List Int) (o:Nat):Zb6 z o 4=Zab z o:=by simp [Zb6,Zab];omega
theorem Zop {z:List Int} (h:IsB z) (o:Nat):0≤Zab z o∧Zab z o<4294967296:=by rw [←ZjR];exact ZjQ h o 4
theorem ZvX {z:List Int} (h:IsB z) (k:Nat):0≤ZvQ z k∧ZvQ z k<256^k:=by
 induction k with
 | zero=>simp [ZvQ]
 | succ k ih=>have hz:=h.idx (3 - k);rw [Int.pow_succ];unfold ZvQ;omega
theorem ZvY (z:List Int):ZvQ z 4=Zab z 0:=by simp [ZvQ,Zab];omega
theorem ZvT (z:List Int) (o n:Nat) (hn:4≤n):Zab ((z.drop o).take n) 0=Zab z o:=by
 simp [Zab,List.getElem?_drop,show 0<n by omega,show 1<n by omega,show 2<n by omega,show 3<n by omega]
theorem ZdS (a:Int) (h0:0≤a) (h1:a<4294967296):a%256+256*(a/256%256)+65536*(a/65536%256)+16777216*(a/16777216%256)=a:=by omega
theorem Zoq (n x:Int) (i:Nat) (hi:i≤24) (hn:0≤n) (hn1:n<2^i) (hx0:0≤x) (hx1:x≤255):bits .or .i64 n (x*2^i)=n+x*2^i:=by
 have hp:(0:Int)<2^i:=Int.pow_pos (by decide)
 have hp2:(2:Int)^i≤2^24:=by exact_mod_cast Nat.pow_le_pow_right (n:=2) (by decide) hi
 have h1:0*2^i≤x*2^i:=Int.mul_le_mul_of_nonneg_right hx0 (by omega)
 have h2:x*2^i≤255*2^i:=Int.mul_le_mul_of_nonneg_right hx1 (by omega)
 have hc:bits .or .i64 n (x*2^i)=bits .or .i64 (x*2^i) n:=by simp only [bits,BitVec.or_comm]
 rw [hc,bits_join .i64 62 (by decide) (fun n h0 h1=>by rw [IntKind.wrap_i64];omega) i (x*2^i) n (by omega) (by simp) (by omega) hn hn1 (by omega)]
 omega
theorem Zor (n x:Int) (k:Nat) (hk:k<4) (hn:0≤n) (hn1:n<256^k) (hx0:0≤x) (hx1:x≤255):bits .or .i64 n (wrap64 (x*2^(8*k)))=n+x*256^k:=by
 have e:(256:Int)^k=2^(8*k):=by rw [Int.pow_mul];rfl
 rw [e] at hn1 ⊢
 have hp:(0:Int)<2^(8*k):=Int.pow_pos (by decide)
 have hp2:(2:Int)^(8*k)≤2^24:=by exact_mod_cast Nat.pow_le_pow_right (n:=2) (by decide) (show 8*k≤24 by omega)
 have h1:0*2^(8*k)≤x*2^(8*k):=Int.mul_le_mul_of_nonneg_right hx0 (by omega)
 have h2:x*2^(8*k)≤255*2^(8*k):=Int.mul_le_mul_of_nonneg_right hx1 (by omega)
 have hw:wrap64 (x*2^(8*k))=x*2^(8*k):=by unfold wrap64;omega
 rw [hw,Zoq n x (8*k) (by omega) hn hn1 hx0 hx1]

end Go.Proofs.YtcaloldcihpkfaaGreatDoor

/-
 The document's answer of layer 9 (casemateref09): Four, Number.
-/
namespace Go.Proofs.YtcaloldcihpkfaaGreatDoor
open Go.RowKit
set_option linter.unusedVariables false
set_option maxRecDepth 8192

set_option maxHeartbeats 1600000 in
theorem Zhx (n:Int) (w:World) (h0:0≤n) (h1:n<4294967296):Calls Tryz.prog 30 #[.int .i64 n] w fun e w'=>∃v,e= .returned v∧w'.ownsRow w.heap.size 5 1 v 4 ((four n).map (Value.int .u8))∧Below w.heap.size w w':=by
 obtain ⟨i0,hi0,hz0,hz1,hz2⟩:=info_parts Tryz.info5
 have HT:Hid (∀i,i<4→(four n).take (i+1)=(four n).take i++ [n/256^i%256]):=fun i hi=>by
  rcases (show i=0∨i=1∨i=2∨i=3 by omega) with rfl|rfl|rfl|rfl<;>simp [four]
 have HE:Hid ((four n).take 4=four n):=rfl
 go_enter Tryz.func30,Tryz.ntmps30
 go_wp2
 go_loopw [0,3,4] (fun x v y wr=>∃i:Nat,i≤4∧y= .int .i64 (i:Int)∧x= .int .i64 (n/256^i)∧wr.ownsRow w.heap.size 5 1 v i (((four n).take i).map (Value.int .u8))∧Below w.heap.size w wr) (fun _ _ y _=>4 - (RowKit.intOf y).toNat)
 case atStart=>exact ⟨0,Nat.zero_le _,rfl,by simp,World.ownsRow_nil _ _ _ _,Below.refl _ _⟩
 case round=>
  obtain ⟨i,hi,rfl,rfl,hown,hnx⟩:=hrel
  have hsz:=hnx.size
  by_cases hlt:i<4
  ·have HS:Hid ((four n).take (i+1)=(four n).take i++ [n/256^i%256]):=HT.out i hlt
   have HD:Hid (n/256^i/256=n/256^(i+1)):=Zhv n i
   have hd0:0≤n/256^i:=Int.ediv_nonneg h0 (Int.pow_nonneg (by decide))
   have hd1:n/256^i≤n:=Int.ediv_le_self _ h0
   generalize n/256^i=x at*
   generalize (four n).take i=tk at*
   have hi4:(i:Int)<4:=by omega
   go_wp2_with (at_builtin;refine wpList_append_own _ rfl _ _ 28 rfl w.heap.size 5 i0 (.int .u8 0) 1 1 Tryz.underlying28 hi0 hz0 hz1 hz2 rfl (by decide) _ _ _ rfl (hown.alloc _) ⟨wr.heap.size,0,none⟩ 1 1 [.int .u8 (x%256)] rfl rfl (cell_one_new _ _ _) (by intro u hu;simp at hu;subst hu;rfl) (by unfold maxLen;omega) (by omega) (by simp;omega) ?_)
   intro v' w1 hown' hgrow _
   have RR:=Zb5 hsz hown hnx hown' hgrow
   rw [←HS.out] at RR
   clear hown' hgrow
   go_wp2
   go_roundw
   case rel=>exact ⟨i+1,by omega,by go_num,by rw [HD.out],RR.1,RR.2⟩
   case measure=>simp [RowKit.intOf];omega
  ·obtain rfl:i=4:=by omega
   rw [HE.out] at hown
   go_wp2
   go_ret
   exact ⟨_,rfl,hown,hnx⟩
set_option maxHeartbeats 1600000 in
theorem ZvR (a:Option Addr) (len cap:Nat) (z:List Int) (w:World) (hr:Row .u8 w a len cap z) (hb:IsB z) (h4:4≤len):
  Calls Tryz.prog 60 #[.slice a len cap] w fun e w'=>e= .returned (.int .i64 (Zab z 0))∧w=w':=by
 obtain ⟨b,off,rfl,hbs,hcell⟩:=hr.hcell (by omega)
 have hm:=hr.hmax
 have hcp:=hr.hcap
 unfold maxLen at hm
 have HN:Hid (ZvQ z 4=Zab z 0):=ZvY z
 go_enter Tryz.func60,Tryz.ntmps60
 go_wp2
 go_loop [3,4] (fun n y=>∃k:Nat,k≤4∧y= .int .i64 (3 - (k:Int))∧n= .int .i64 (ZvQ z k)) (fun _ y=>(RowKit.intOf y+1).toNat)
 case atStart=>exact ⟨0,Nat.zero_le _,rfl,rfl⟩
 case round=>
  obtain ⟨k,hk,rfl,rfl⟩:=hrel
  by_cases hlt:k<4
  ·have hc1:=hcell (3 - k) (by omega)
   have hx:=hb.idx (3 - k)
   have hn:=ZvX hb k
   have hp:(256:Int)^k≤256^4:=by exact_mod_cast Nat.pow_le_pow_right (n:=256) (by decide) (show k≤4 by omega)
   have HS:Hid (ZvQ z (k+1)=256*ZvQ z k+z[3 - k]?.getD 0):=rfl
   have hn1:ZvQ z k<4294967296:=Int.lt_of_lt_of_le hn.2 hp
   have hn0:=hn.1
   clear hn hp
   generalize ZvQ z k=nn at*
   generalize z[3 - k]?.getD 0=x at*
   have e3:(3:Int) - (k:Int)=((3 - k:Nat):Int):=by omega
   rw [e3]
   have HK:Hid ((3 - k:Nat)=3 - k):=rfl
   have hk3:3 - k≤3:=by omega
   obtain ⟨kk,hkk⟩:∃kk,kk=3 - k:=⟨_,rfl⟩
   rw [←hkk] at hc1 hk3
   rw [←hkk]
   have HKK:Hid (kk=3 - k):=hkk
   clear hkk e3
   have hk0:(0:Int)≤(kk:Int):=by omega
   go_wp2
   go_round
   case rel=>exact ⟨k+1,by omega,by have:=HKK.out;go_num,by rw [HS.out]⟩
   case measure=>have:=HKK.out;simp [RowKit.intOf]
  ·obtain rfl:k=4:=by omega
   rw [HN.out]
   go_wp2
   go_ret
   exact ⟨rfl,rfl⟩

end Go.Proofs.YtcaloldcihpkfaaGreatDoor

/-
 Layer 20, plain: a manifest and its bytes.
-/
namespace Go.Proofs.YtcaloldcihpkfaaGreatDoor.N
open Go.RowKit
set_option linter.unusedVariables false
set_option maxRecDepth 8192

structure Sg where
 load:Int
 size:Int
 dig:List Int
structure Mf where
 ver:Int
 sec:Int
 key:Int
 ent:Int
 segs:List Sg
def sg0:Sg:=⟨0,0,List.replicate 32 0⟩
structure Sg.Ok (s:Sg):Prop where
 len:s.dig.length=32
 byt:IsB s.dig
def Mf.Ok (m:Mf):Prop:=∀s∈m.segs,s.Ok
theorem Zb7:sg0.Ok:=⟨rfl,fun x hx=>by rw [(List.mem_replicate.1 hx).2];decide⟩
def sgI (l:List Sg) (i:Nat):Sg:=l[i]?.getD sg0
theorem Zf2 {l:List Sg} {i:Nat} (h:i<l.length):sgI l i=l[i]:=by simp [sgI,List.getElem?_eq_getElem h]
theorem ZcP {l:List Sg} (h:∀s∈l,s.Ok) (i:Nat):(sgI l i).Ok:=by
 rcases Nat.lt_or_ge i l.length with h1|h1
 ·rw [Zf2 h1];exact h _ (List.getElem_mem h1)
 ·rw [sgI,List.getElem?_eq_none h1];exact Zb7
def Zbf (n a b:Int):Bool:=decide (a≤n∧n≤b)
theorem Zcq {n a b:Int} (h:Zbf n a b=true):a≤n∧n≤b:=of_decide_eq_true h
theorem ZjS {n a b:Int} (h:Zbf n a b=false):¬(a≤n∧n≤b):=of_decide_eq_false h
abbrev in31 (n:Int):Bool:=Zbf n 0 2147483647
def Zb8 (l:List Sg):Nat→Int
 | 0=>0
 | i+1=>(sgI l i).load+(sgI l i).size
def okAt (l:List Sg) (i:Nat):Bool:=Zbf (sgI l i).size 0 1048576&&Zbf (sgI l i).load (Zb8 l i) (2147483647 - (sgI l i).size)
def okTo (l:List Sg) (k:Nat):Bool:=(List.range k).all (okAt l)
theorem ZjT (l:List Sg):okTo l 0=true:=rfl
theorem Ze9 (l:List Sg) (k:Nat):okTo l (k+1)=(okTo l k&&okAt l k):=by simp [okTo,List.range_succ]
theorem Zhy {l:List Sg} {j k:Nat} (h:okTo l k=true) (hj:j<k):okAt l j=true:=by
 unfold okTo at h
 exact List.all_eq_true.1 h j (List.mem_range.2 hj)
theorem ZjU {l:List Sg} {j k:Nat} (h:okAt l j=false) (hj:j<k):okTo l k=false:=by
 cases hk:okTo l k
 ·rfl
 ·rw [Zhy hk hj] at h;cases h
theorem ZjV {l:List Sg} {i:Nat} (h:okAt l i=true) (he:0≤Zb8 l i):0≤(sgI l i).size∧(sgI l i).size≤1048576∧Zb8 l i≤(sgI l i).load∧(sgI l i).load+(sgI l i).size≤2147483647∧0≤(sgI l i).load:=by
 unfold okAt at h
 rw [Bool.and_eq_true] at h
 have h1:=Zcq h.1
 have h2:=Zcq h.2
 omega
theorem Zf3 {l:List Sg}:∀ {k:Nat},okTo l k=true→0≤Zb8 l k∧Zb8 l k≤2147483647
 | 0,_=>⟨Int.le_refl 0,by show (0:Int)≤2147483647;decide⟩
 | k+1,h=>by
  rw [Ze9,Bool.and_eq_true] at h
  have h1:=ZjV h.2 (Zf3 h.1).1
  show 0≤(sgI l k).load+(sgI l k).size∧(sgI l k).load+(sgI l k).size≤2147483647
  omega
def mayM (m:Mf):Bool:=(in31 m.ver&&(in31 m.sec&&(in31 m.key&&in31 m.ent)))&&(decide (m.segs.length≤8)&&okTo m.segs m.segs.length)
structure MayM (m:Mf):Prop where
 v:0≤m.ver∧m.ver≤2147483647
 s:0≤m.sec∧m.sec≤2147483647
 k:0≤m.key∧m.key≤2147483647
 e:0≤m.ent∧m.ent≤2147483647
 n:m.segs.length≤8
 o:okTo m.segs m.segs.length=true
theorem Zek {m:Mf} (h:mayM m=true):MayM m:=by
 simp only [mayM,Bool.and_eq_true] at h
 exact ⟨Zcq h.1.1,Zcq h.1.2.1,Zcq h.1.2.2.1,Zcq h.1.2.2.2,of_decide_eq_true h.2.1,h.2.2⟩
theorem MayM.seg {m:Mf} (h:MayM m) {i:Nat} (hi:i<m.segs.length):0≤(sgI m.segs i).load∧(sgI m.segs i).load≤2147483647∧0≤(sgI m.segs i).size∧(sgI m.segs i).size≤1048576:=by
 have h1:=Zhy h.o hi
 have h2:okTo m.segs i=true:=by
  unfold okTo
  rw [List.all_eq_true]
  intro j hj
  exact Zhy h.o (Nat.lt_trans (List.mem_range.1 hj) hi)
 have:=ZjV h1 (Zf3 h2).1
 omega

def nums (l:List Int):List Int:=l.flatMap four
def ZaL (s:Sg):List Int:=four s.load++(four s.size++s.dig)
def mani:List Int:=[109,97,110,105]
def Zc5 (m:Mf):List Int:=mani++nums [m.ver,m.sec,m.key,m.ent,(m.segs.length:Nat)]
def Zay (m:Mf):List Int:=Zc5 m++m.segs.flatMap ZaL
theorem ZjW (n:Int):(four n).length=4:=rfl
theorem Zos (l:List Int):IsB (nums l):=fun x hx=>by
 obtain ⟨n,_,h⟩:=List.mem_flatMap.1 hx
 exact Zhw n x h
theorem Zot (m:Mf):(Zc5 m).length=24:=rfl
theorem Zou (m:Mf):IsB (Zc5 m):=Ze8 (by unfold mani IsB;decide) (Zos _)
theorem Zhz {s:Sg} (h:s.Ok):(ZaL s).length=40:=by
 unfold ZaL
 rw [List.length_append,List.length_append,ZjW,ZjW,h.len]
theorem Zov {s:Sg} (h:s.Ok):IsB (ZaL s):=Ze8 (Zhw _) (Ze8 (Zhw _) h.byt)
theorem Zow {l:List Sg} (h:∀s∈l,s.Ok):(l.flatMap ZaL).length=40*l.length:=by
 induction l with
 | nil=>rfl
 | cons s l ih=>
  rw [List.flatMap_cons,List.length_append,Zhz (h s (List.mem_cons_self ..)),ih (fun x hx=>h x (List.mem_cons_of_mem _ hx)),List.length_cons]
  omega
theorem ZjX {m:Mf} (h:m.Ok):(Zay m).length=24+40*m.segs.length:=by
 unfold Zay
 rw [List.length_append,Zot,Zow h]
theorem ZhA {m:Mf} (h:m.Ok):IsB (Zay m):=Ze8 (Zou m) (fun x hx=>by
 obtain ⟨s,hs,h1⟩:=List.mem_flatMap.1 hx
 exact Zov (h s hs) x h1)

def sgAt (z:List Int) (o:Nat):Sg:=⟨Zab z o,Zab z (o+4),(z.drop (o+8)).take 32⟩
def cnt (z:List Int):Nat:=(Zab z 20).toNat
def ZaN (z:List Int) (k:Nat):List Sg:=(List.range k).map fun i=>sgAt z (24+40*i)
def dec (z:List Int):Mf:=⟨Zab z 4,Zab z 8,Zab z 12,Zab z 16,ZaN z (cnt z)⟩
def fits (z:List Int):Bool:=decide (24≤z.length)&&(decide (Zab z 20≤8)&&decide (z.length=24+40*cnt z))
def isMf (z:List Int):Bool:=decide (z.take 4=mani)&&(fits z&&mayM (dec z))
theorem Zf4 (z:List Int) (k:Nat):(ZaN z k).length=k:=by simp [ZaN]
theorem Zox (z:List Int) (k:Nat):ZaN z (k+1)=ZaN z k++ [sgAt z (24+40*k)]:=by simp [ZaN,List.range_succ]
theorem Zdp (z:List Int) (k o:Nat):Zab (z.drop k) o=Zab z (k+o):=by simp [Zab,List.getElem?_drop,Nat.add_assoc]
theorem ZjY (z:List Int) (k o:Nat):sgAt (z.drop k) o=sgAt z (k+o):=by
 simp only [sgAt,Zdp,List.drop_drop,Nat.add_assoc]
theorem Zf5 {z:List Int} (h:fits z=true):24≤z.length∧Zab z 20≤8∧z.length=24+40*cnt z:=by
 simpa [fits] using h
theorem Zf6 {z:List Int} (h:isMf z=true):z.take 4=mani∧fits z=true∧mayM (dec z)=true:=by
 simpa [isMf] using h
theorem Zcr {z:List Int} (h:IsB z) (k:Nat):IsB (z.take k):=fun x hx=>h x (List.mem_of_mem_take hx)
theorem Zck {z:List Int} (h:IsB z) (k:Nat):IsB (z.drop k):=fun x hx=>h x (List.mem_of_mem_drop hx)
theorem ZjZ {z:List Int} (h:IsB z) {o:Nat} (ho:o+40≤z.length):(sgAt z o).Ok:=
 ⟨by show ((z.drop (o+8)).take 32).length=32;rw [List.length_take,List.length_drop];omega,Zcr (Zck h _) _⟩
theorem Zel {z:List Int} (h:IsB z) {k:Nat} (hk:24+40*k≤z.length):∀s∈ZaN z k,s.Ok:=by
 intro s hs
 obtain ⟨i,hi,rfl⟩:=List.mem_map.1 hs
 have:=List.mem_range.1 hi
 exact ZjZ h (by omega)
theorem ZvS {z:List Int} (h:IsB z) {o:Nat} (ho:o+4≤z.length):four (Zab z o)=(z.drop o).take 4:=by
 have h0:=h.idx o
 have h1:=h.idx (o+1)
 have h2:=h.idx (o+2)
 have h3:=h.idx (o+3)
 have e:(z.drop o).take 4=[z[o]?.getD 0,z[o+1]?.getD 0,z[o+2]?.getD 0,z[o+3]?.getD 0]:=by
  have g:∀i (hi:i<z.length),z[i]?.getD 0=z[i]:=fun i hi=>by rw [List.getElem?_eq_getElem hi];rfl
  rw [List.drop_eq_getElem_cons (show o<z.length by omega),List.drop_eq_getElem_cons (show o+1<z.length by omega),List.drop_eq_getElem_cons (show o+1+1<z.length by omega),List.drop_eq_getElem_cons (show o+1+1+1<z.length by omega),
   g o (by omega),g (o+1) (by omega),g (o+2) (by omega),g (o+3) (by omega)]
  rfl
 rw [e]
 unfold four Zab
 congr 1
 ·omega
 ·congr 1
  ·omega
  ·congr 1
   ·omega
   ·congr 1
    omega
theorem ZvZ {z:List Int} (h:IsB z) {o:Nat} (ho:o+40≤z.length):ZaL (sgAt z o)=(z.drop o).take 40:=by
 show four (Zab z o)++(four (Zab z (o+4))++(z.drop (o+8)).take 32)=_
 rw [ZvS h (by omega),ZvS h (by omega),show o+8=o+4+4 by omega, ←List.drop_drop (i:=4) (j:=o+4), ←List.take_add, ←List.drop_drop (i:=4) (j:=o), ←List.take_add]
theorem ZvV {z:List Int} (h:IsB z):∀k:Nat,24+40*k≤z.length→(ZaN z k).flatMap ZaL=(z.drop 24).take (40*k)
 | 0,_=>by simp [ZaN]
 | k+1,hk=>by
  rw [Zox,List.flatMap_append,ZvV h k (by omega),List.flatMap_cons,List.flatMap_nil,List.append_nil,ZvZ h (by omega),
   ←List.drop_drop, ←List.take_add]
  rfl
theorem Zj0 {z:List Int} (h:IsB z):(((Zab z 20).toNat:Nat):Int)=Zab z 20:=Int.toNat_of_nonneg (Zop h 20).1
theorem Zv0 {z:List Int} (h:IsB z) (hf:fits z=true):Zay (dec z)=mani++z.drop 4:=by
 have hf:=Zf5 hf
 have hc:(((dec z).segs.length:Nat):Int)=Zab z 20:=by
  show (((ZaN z (cnt z)).length:Nat):Int)=_
  rw [Zf4]
  exact Zj0 h
 unfold Zay Zc5
 rw [hc]
 show mani++(four (Zab z 4)++(four (Zab z 8)++(four (Zab z 12)++(four (Zab z 16)++(four (Zab z 20)++ [])))))++(ZaN z (cnt z)).flatMap ZaL=_
 rw [ZvV h _ (by omega),ZvS h (by omega),ZvS h (by omega),ZvS h (by omega),ZvS h (by omega),ZvS h (by omega),List.append_nil,List.append_assoc]
 congr 1
 rw [show (z.drop 24).take (40*cnt z)=z.drop 24 from List.take_of_length_le (by rw [List.length_drop];omega)]
 have st:∀k,(z.drop k).take 4++z.drop (k+4)=z.drop k:=fun k=>by rw [←List.drop_drop,List.take_append_drop]
 simp only [List.append_assoc]
 rw [st 20,st 16,st 12,st 8,st 4]
theorem Zv1 {z:List Int} (h:IsB z) (hf:fits z=true):(Zay (dec z)=z)↔z.take 4=mani:=by
 rw [Zv0 h hf]
 constructor
 ·intro e
  rw [←e]
  rfl
 ·intro e
  rw [←e,List.take_append_drop]
theorem Zoy {s:Sg} (h:s.Ok) (h0:0≤s.load∧s.load≤2147483647) (h1:0≤s.size∧s.size≤1048576) (r:List Int):sgAt (ZaL s++r) 0=s:=by
 have e0:Zab (ZaL s++r) 0=s.load:=ZdS s.load (by omega) (by omega)
 have e1:Zab (ZaL s++r) 4=s.size:=ZdS s.size (by omega) (by omega)
 have e2:((ZaL s++r).drop 8).take 32=s.dig:=by
  show (s.dig++r).take 32=_
  rw [←h.len,List.take_left']
  rfl
 show (⟨Zab (ZaL s++r) 0,Zab (ZaL s++r) 4,((ZaL s++r).drop 8).take 32⟩:Sg)=s
 rw [e0,e1,e2]
theorem Zj1:∀(l:List Sg),(∀s∈l,s.Ok)→∀k:Nat,(l.flatMap ZaL).drop (40*k)=(l.drop k).flatMap ZaL
 | [],_,k=>by simp
 | s::l,h,0=>rfl
 | s::l,h,k+1=>by
  rw [List.flatMap_cons,List.drop_append,show 40*(k+1) - (ZaL s).length=40*k by rw [Zhz (h s (List.mem_cons_self ..))];omega,
   List.drop_eq_nil_of_le (by rw [Zhz (h s (List.mem_cons_self ..))];omega),List.nil_append,Zj1 l (fun x hx=>h x (List.mem_cons_of_mem _ hx)) k,List.drop_succ_cons]
theorem Zem {m:Mf} (h:m.Ok) (hm:mayM m=true):dec (Zay m)=m∧isMf (Zay m)=true:=by
 have M:=Zek hm
 have hl:=ZjX h
 have hn:(((m.segs.length:Nat):Int))≤8:=by have:=M.n;omega
 have e1:Zab (Zay m) 4=m.ver:=ZdS m.ver (by have:=M.v;omega) (by have:=M.v;omega)
 have e2:Zab (Zay m) 8=m.sec:=ZdS m.sec (by have:=M.s;omega) (by have:=M.s;omega)
 have e3:Zab (Zay m) 12=m.key:=ZdS m.key (by have:=M.k;omega) (by have:=M.k;omega)
 have e4:Zab (Zay m) 16=m.ent:=ZdS m.ent (by have:=M.e;omega) (by have:=M.e;omega)
 have e5:Zab (Zay m) 20=((m.segs.length:Nat):Int):=ZdS _ (by omega) (by omega)
 have ec:cnt (Zay m)=m.segs.length:=by unfold cnt;rw [e5];rfl
 have es:ZaN (Zay m) m.segs.length=m.segs:=by
  apply List.ext_getElem (Zf4 _ _)
  intro i h1 h2
  have e:(Zay m).drop (24+40*i)=ZaL m.segs[i]++(m.segs.drop (i+1)).flatMap ZaL:=by
   rw [←List.drop_drop]
   show (m.segs.flatMap ZaL).drop (40*i)=_
   rw [Zj1 m.segs h i,List.drop_eq_getElem_cons h2,List.flatMap_cons]
  have e':(ZaN (Zay m) m.segs.length)[i]=sgAt (Zay m) (24+40*i):=by simp [ZaN]
  have b:=M.seg h2
  rw [Zf2 h2] at b
  rw [e',show 24+40*i=(24+40*i)+0 by rfl, ←ZjY,e]
  exact Zoy (h _ (List.getElem_mem h2)) ⟨b.1,b.2.1⟩ b.2.2 _
 have ed:dec (Zay m)=m:=by
  unfold dec
  rw [e1,e2,e3,e4,ec,es]
 refine ⟨ed, ?_⟩
 unfold isMf fits
 rw [ed,hm,hl,e5,ec,decide_eq_true (show (Zay m).take 4=mani from rfl),decide_eq_true (show 24≤24+40*m.segs.length by omega),decide_eq_true hn,decide_eq_true rfl]
 rfl
end Go.Proofs.YtcaloldcihpkfaaGreatDoor.N

/-
 Layer 20: segments and manifests in memory.
-/
namespace Go.Proofs.YtcaloldcihpkfaaGreatDoor.N
open Go.RowKit
set_option linter.unusedVariables false
set_option maxRecDepth 8192

def sC (s:Sg):List Value:= .int .i64 s.load:: .int .i64 s.size::s.dig.map (Value.int .u8)
def sA (s:Sg):Array Value:=(sC s).toArray
theorem ZbK {s:Sg} (h:s.Ok):(sC s).length=34:=by simp [sC,h.len]
theorem Zba {s:Sg} (h:s.Ok):(sA s).size=34:=by unfold sA;rw [List.size_toArray];exact ZbK h
theorem Zf7 (s:Sg):∀u∈sC s,u.oneCell'=true:=by
 intro u hu
 simp only [sC,List.mem_cons,List.mem_map] at hu
 rcases hu with rfl|rfl|⟨x,_,rfl⟩<;>rfl
theorem ZcQ (s:Sg):(sA s).all (·.oneCell')=true:=all_oneCell_toArray (Zf7 s)
theorem sA_0 (s:Sg):(sA s)[0]? =some (.int .i64 s.load):=rfl
theorem sA_1 (s:Sg):(sA s)[1]? =some (.int .i64 s.size):=rfl
theorem Zoz {s:Sg} (h:s.Ok) (j:Nat) (hj:j<32):(sA s)[2+j]? =some (.int .u8 (s.dig[j]?.getD 0)):=by
 have e:2+j=j+1+1:=by omega
 have hd:j<s.dig.length:=by rw [h.len];exact hj
 simp [sA,sC,e,List.getElem?_eq_getElem hd]
section
variable {w w':World} {g:Nat} {T:TypeId} {s:Sg}
theorem Zfa (h:w.heap[g]? =some (.cells (sA s) T (0,0))):w.cell? ⟨g,0,none⟩=some (.int .i64 s.load):=by rw [cell_of_row w g 0 _ T (0,0) h];rfl
theorem Zfb (h:w.heap[g]? =some (.cells (sA s) T (0,0))):w.cell? ⟨g,1,none⟩=some (.int .i64 s.size):=by rw [cell_of_row w g 1 _ T (0,0) h];rfl
theorem Zj2 (ho:s.Ok) (h:w.heap[g]? =some (.cells (sA s) T (0,0))):Row .u8 w (some ⟨g,2,none⟩) 32 32 s.dig:=by
 refine ⟨ho.len,Nat.le_refl _,by unfold maxLen;omega,by simp,fun _=>⟨g,2,rfl,Zat h,fun i hi=> ?_⟩⟩
 rw [cell_of_row w g (2+i) _ T (0,0) h,Zoz ho i hi]
end
structure SegRow (w:World) (a:Option Addr) (n cap:Nat) (l:List Sg):Prop where
 hlen:l.length=n
 hcap:n≤cap
 hmax:cap≤maxLen
 hnil:a=none→cap=0
 hcell:0<n→∃b off,a=some ⟨b,off,none⟩∧b<w.heap.size∧∀i,i<n→w.rangeAt b (off+i*34) (sC (sgI l i))
theorem Zfc {w w':World} {b o:Nat} {cs:List Value} (h:w.rangeAt b o cs) (hb:w'.heap[b]? =w.heap[b]?):w'.rangeAt b o cs:=fun j v hv=>by
 rw [World.cell?_of_block (w:=w) (a:=⟨b,o+j,none⟩) hb]
 exact h j v hv
theorem SegRow.below {w w':World} {a:Option Addr} {n cap B:Nat} {l:List Sg} (h:SegRow w a n cap l) (q:Below B w w') (hB:w.heap.size≤B):SegRow w' a n cap l:=by
 refine ⟨h.hlen,h.hcap,h.hmax,h.hnil,fun h0=> ?_⟩
 obtain ⟨b,off,rfl,hb,hc⟩:=h.hcell h0
 exact ⟨b,off,rfl,by have:=q.size;omega,fun i hi=>Zfc (hc i hi) (q.block b (by omega))⟩
theorem SegRow.same {w w':World} {a:Option Addr} {n cap:Nat} {l:List Sg} (h:SegRow w a n cap l) (hs:w.heap.size≤w'.heap.size) (hb:∀q,a=some q→w'.heap[q.block]? =w.heap[q.block]?):SegRow w' a n cap l:=by
 refine ⟨h.hlen,h.hcap,h.hmax,h.hnil,fun h0=> ?_⟩
 obtain ⟨b,off,rfl,hlt,hc⟩:=h.hcell h0
 exact ⟨b,off,rfl,Nat.lt_of_lt_of_le hlt hs,fun i hi=>Zfc (hc i hi) (hb _ rfl)⟩
theorem ZoA (w:World):SegRow w none 0 0 []:=⟨rfl,Nat.le_refl _,Nat.zero_le _,fun _=>rfl,fun h=>absurd h (by omega)⟩
def sCs (l:List Sg):List Value:=l.flatMap sC
theorem ZhB:∀ {l:List Sg},(∀s∈l,s.Ok)→(sCs l).length=l.length*34
 | [],_=>rfl
 | s::l,h=>by
  show (sC s++sCs l).length=_
  rw [List.length_append,ZbK (h s (List.mem_cons_self ..)),ZhB (fun x hx=>h x (List.mem_cons_of_mem _ hx)),List.length_cons]
  omega
theorem Zf8:∀ {l:List Sg},(∀s∈l,s.Ok)→∀i,i<l.length→∀j v,(sC (sgI l i))[j]? =some v→(sCs l)[i*34+j]? =some v
 | [],_,i,hi,_,_,_=>absurd hi (Nat.not_lt_zero _)
 | s::l,h,0,_,j,v,hv=>by
  show (sC s++sCs l)[0*34+j]? =_
  have hv:(sC s)[j]? =some v:=hv
  have hj:=(List.getElem?_eq_some_iff.1 hv).1
  rw [show 0*34+j=j by omega,List.getElem?_append_left hj]
  exact hv
 | s::l,h,i+1,hi,j,v,hv=>by
  show (sC s++sCs l)[(i+1)*34+j]? =_
  have hs:=ZbK (h s (List.mem_cons_self ..))
  rw [List.getElem?_append_right (by omega),hs,show (i+1)*34+j - 34=i*34+j by omega]
  exact Zf8 (fun x hx=>h x (List.mem_cons_of_mem _ hx)) i (by simpa using hi) j v hv
theorem ZhC {e:TypeId} {w:World} {base:Nat} {v:Value} {n:Nat} {l:List Sg} (hl:l.length=n) (ho:∀s∈l,s.Ok) (h:w.ownsRow base e 34 v n (sCs l)):∃a cap,v= .slice a n cap∧SegRow w a n cap l:=by
 rcases h.2 with ⟨rfl,hn⟩|⟨g,cap,cur,rfl,hg,hh,hnc,hcm,hcs,htake⟩
 ·subst hn
  exact ⟨none,0,rfl,hl,Nat.le_refl _,Nat.zero_le _,fun _=>rfl,fun h0=>absurd h0 (by omega)⟩
 ·refine ⟨_,cap,rfl,hl,hnc,hcm,by simp,fun h0=>⟨g,0,rfl,Zat hh,fun i hi j u hu=> ?_⟩⟩
  have:=h.cells (g:=g) rfl (i*34+j) u (Zf8 ho i (by omega) j u hu)
  rw [Zbc] at this
  rw [show (0+i*34+j)=0+(i*34+j) by omega]
  exact this

def ZaQ (e:TypeId) (w w':World):Prop:=∀(g:Nat) (X:Array Value) (T:TypeId),T≠e→w.heap[g]? =some (.cells X T (0,0))→w'.heap[g]? =some (.cells X T (0,0))
theorem ZaQ.refl (e:TypeId) (w:World):ZaQ e w w:=fun _ _ _ _ h=>h
theorem ZaQ.trans {e:TypeId} {a b c:World} (h:ZaQ e a b) (k:ZaQ e b c):ZaQ e a c:=fun g X T hT hg=>k g X T hT (h g X T hT hg)
theorem ZaQ.below {e:TypeId} {a b:World} (q:Below a.heap.size a b):ZaQ e a b:=fun g X T _ hg=>by rw [q.block g (Zat hg)];exact hg
theorem ZaQ.alloc {e:TypeId} (w:World) (o:Obj):ZaQ e w (w.alloc o):= .below (ZaS w o)
theorem ZaQ.grown {e:TypeId} {w w':World} {B:Nat} {sz:Nat} {v:Value} {n:Nat} {xs:List Value} (h:w.ownsRow B e sz v n xs) (hg:w.grownBy w' v.ownBlock):ZaQ e w w':=fun g X T hT hh=>by
 rw [hg.block g (Zat hh) ?_]
 ·exact hh
 ·intro e1
  rcases h.2 with ⟨rfl,_⟩|⟨g',cap,cur,rfl,_,hh',_⟩
  ·simp [Value.ownBlock] at e1
  ·simp [Value.ownBlock] at e1
   subst e1
   rw [hh] at hh'
   cases hh'
   exact hT rfl
theorem Zag {w:World} {g:Nat} {T:TypeId} {X:Array Value} (h:w.heap[g]? =some (.cells X T (0,0))) (i:Nat):w.cell? ⟨g,i,none⟩=X[i]? :=cell_of_row w g i X T (0,0) h
theorem Vars.put {w0 w:World} {l:List AV} (h:Vars w0 w l) (i:Nat) {g:Nat} {T:TypeId} {X:Array Value} (hi:l[i]? =some ⟨g,T,X⟩) (j:Nat) (v:Value):Vars w0 (w.setCell ⟨g,j,none⟩ v) (l.set i ⟨g,T,X.setIfInBounds j v⟩):=
 h.turn i hi ((Below.refl _ _).setCell (show w0.heap.size≤(⟨g,j,none⟩:Addr).block from h.low _ (List.mem_of_getElem? hi)) _) (heap_setCell_same w g j X T v (h.at i hi)) (fun k hk=>Below.heap_setCell w _ _ k hk)
theorem Tryz.szSg:(Tryz.prog.info? 66).map (·.size)=some 34:=by kernel_rfl
theorem ZcD (w:World):(zeroValue 66).run Tryz.prog w= .ok (.agg (sA sg0)) w:=by kernel_rfl
end Go.Proofs.YtcaloldcihpkfaaGreatDoor.N

/-
 Layer 20: a list of bytes that grows, from a literal's bytes on.
-/
namespace Go.Proofs.YtcaloldcihpkfaaGreatDoor.N
open Go.RowKit
set_option linter.unusedVariables false
set_option maxRecDepth 8192

theorem Zf9 (k:IntKind) (w:World) (e:TypeId) (fr:Nat×Nat) (zs:List Int) (n:Nat) (hn:zs.length=n) (hm:n≤maxLen) (cs:Array Value) (hc:cs=(zs.map (Value.int k)).toArray):
  Row k (w.alloc (.cells cs e fr)) (some ⟨w.heap.size,0,none⟩) n n zs:=by
 subst hc
 refine ⟨hn,Nat.le_refl _,hm,(fun h=>by cases h),fun _=>⟨w.heap.size,0,rfl,by simp,fun i hi=> ?_⟩⟩
 rw [World.cell?_alloc_mark,Nat.zero_add]
 simp [List.getElem?_map,List.getElem?_eq_getElem (show i<zs.length from by omega)]
theorem ZoB {P:Program} {k:IntKind} {w:World} {t ty e:TypeId} {i:TypeInfo} {z:Value} {bytes:Nat} (ht:P.underlying t=some (.slice e)) (hi:P.info? e=some i) (hz:i.zero=some z) (hsize:i.size=1) (hby:i.bytes=bytes) (hzs:z.cells.size=1)
  {a c:Option Addr} {len m cap:Nat} {xs ys:List Int} (rx:Row k w a len len xs) (ry:Row k w c m cap ys) (h0:0<len) (hm:0<m) (h63:len+m≤maxLen) (hb:(len+m)*bytes≤140737488355328):
  ∃v' w',Sem.run P (Builtin.append_ #[t,t] ty #[.slice a len len, .slice c m cap]) w= .ok v' w'∧w'.ownsRow w.heap.size e 1 v' (len+m) ((xs++ys).map (Value.int k))∧Below w.heap.size w w':=by
 obtain ⟨b,off,rfl,_,hcell⟩:=rx.hcell h0
 obtain ⟨b',off',rfl,_,hcell'⟩:=ry.hcell hm
 obtain ⟨v',w',hrun,r1,r2⟩:=run_append_arg_grows (P:=P) w t ty e i z 1 bytes ht hi hz hsize hby hzs (by decide) ⟨b,off,none⟩ len len (xs.map (Value.int k)) (by rw [List.length_map,rx.hlen,Nat.mul_one]) (Zc0 rx.hlen hcell)
  ⟨b',off',none⟩ m cap (ys.map (Value.int k)) (by rw [List.length_map,ry.hlen,Nat.mul_one]) (Zc0 ry.hlen hcell') (by omega) h63 hb
 rw [←List.map_append] at r1
 exact ⟨v',w',hrun,r1,(Below.refl _ _).grown r2 (Nat.le_refl _) (by simp)⟩
theorem ZoC {P:Program} (w:World) {ops:Array Oper} {rest:List Oper} {o:Oper} {a:Act} {Q:Exit→Act→World→Prop} (hgd:o.guard=none) (s x:Operand) (t:TypeId)
  (ho:o.op= .call { callee:= .builtin .append,args:= #[s,x],argTypes:= #[t,t] })
  (e:TypeId) (i:TypeInfo) (z:Value) (bytes:Nat) (ht:P.underlying t=some (.slice e)) (hi:P.info? e=some i) (hz:i.zero=some z) (hsize:i.size=1) (hby:i.bytes=bytes) (hzs:z.cells.size=1)
  (k:IntKind) (sa:Option Addr) (len:Nat) (xs:List Int) (hs:a.eval s= .slice sa len len) (rx:Row k w sa len len xs)
  (sc:Option Addr) (m c:Nat) (ys:List Int) (hx:a.eval x= .slice sc m c) (ry:Row k w sc m c ys) (h0:0<len) (hm:0<m) (h63:len+m≤maxLen) (hb:(len+m)*bytes≤140737488355328)
  (h:∀v' w',w'.ownsRow w.heap.size e 1 v' (len+m) ((xs++ys).map (Value.int k))→Below w.heap.size w w'→wpList P ops Q rest (a.put o.dst v') w'):wpList P ops Q (o::rest) a w:=by
 obtain ⟨v',w',hrun,r1,r2⟩:=ZoB (P:=P) (ty:=o.type) ht hi hz hsize hby hzs rx ry h0 hm h63 hb
 refine wpList_plain hgd fun K hK'=> ?_
 unfold Oper.wp
 simp [execOp,ho,resolve,invoke,builtin,hs,hx,hrun,Result.andThen]
 exact hK' _ _ (h v' w' r1 r2)
theorem Zcs {w w':World} {base:Nat} {e:TypeId} {size:Nat} {v:Value} {n:Nat} {xs:List Value} (h:w.ownsRow base e size v n xs) (hb:Below w.heap.size w w'):w'.ownsRow base e size v n xs:=by
 refine ⟨h.1, ?_⟩
 rcases h.2 with h2|⟨g,cap,cur,hv,hg,hh,r⟩
 ·exact .inl h2
 ·exact .inr ⟨g,cap,cur,hv,hg,by rw [hb.block g (Zat hh)];exact hh,r⟩
def Gr (B:Nat) (e:TypeId) (w:World) (v:Value) (t m:Nat) (D:List Int):Prop:=
 w.ownsRow B e 1 v m (D.map (Value.int .u8))∨(t=0∧0<m∧∃a,v= .slice a m m∧Row .u8 w a m m D)
theorem Gr.own {B:Nat} {e:TypeId} {w:World} {v:Value} {t m:Nat} {D:List Int} (h:Gr B e w v t m D) (ht:0<t):w.ownsRow B e 1 v m (D.map (Value.int .u8)):=by
 rcases h with h|⟨h0,_⟩
 ·exact h
 ·omega
theorem Gr.alloc {B:Nat} {e:TypeId} {w:World} {v:Value} {t m:Nat} {D:List Int} (h:Gr B e w v t m D) (o:Obj):Gr B e (w.alloc o) v t m D:=by
 rcases h with h|⟨h0,hm,a,rfl,r⟩
 ·exact .inl (h.alloc o)
 ·exact .inr ⟨h0,hm,a,rfl,r.below (ZaS w o) (Nat.le_refl _)⟩
theorem ZdT {P:Program} (w:World) {ops:Array Oper} {rest:List Oper} {o:Oper} {a:Act} {Q:Exit→Act→World→Prop} (hgd:o.guard=none) (s x:Operand) (t:TypeId)
  (ho:o.op= .call { callee:= .builtin .append,args:= #[s,x],argTypes:= #[t,t] })
  (B:Nat) (e:TypeId) (i:TypeInfo) (z:Value) (ht:P.underlying t=some (.slice e)) (hi:P.info? e=some i) (hz:i.zero=some z) (hsize:i.size=1) (hby:i.bytes=1) (hzs:z.cells.size=1)
  {v:Value} {tt m:Nat} {D:List Int} (hs:a.eval s=v) (hgr:Gr B e w v tt m D)
  (sc:Option Addr) (n c:Nat) (ys:List Int) (hx:a.eval x= .slice sc n c) (ry:Row .u8 w sc n c ys) (hn:0<n) (hsm:m+n≤1000000) (hB:B≤w.heap.size)
  (h:∀v' w',w'.ownsRow B e 1 v' (m+n) ((D++ys).map (Value.int .u8))→Below B w w'→ZaQ e w w'→wpList P ops Q rest (a.put o.dst v') w'):wpList P ops Q (o::rest) a w:=by
 rcases hgr with own|⟨_,hm,sa,rfl,rx⟩
 ·refine Zdn w hgd s x t ho B e i z 1 ht hi hz hsize hby hzs v m _ hs own .u8 sc n c ys hx ry (by unfold maxLen;omega) (by omega) hB fun v' w' o1 g1=> ?_
  rw [←List.map_append] at o1
  exact h v' w' o1 ((Below.refl _ _).grown g1 hB (fun j hj=>(own.lt j hj).1)) (ZaQ.grown own g1)
 ·refine ZoC w hgd s x t ho e i z 1 ht hi hz hsize hby hzs .u8 sa m D hs rx sc n c ys hx ry hm hn (by unfold maxLen;omega) (by omega) fun v' w' o1 q1=> ?_
  exact h v' w' (ZdN o1 hB) (q1.mono hB) (ZaQ.below q1)
theorem Zj3 {P:Program} {w:World} {o:Oper} {a:Act} {K:Act→World→Prop} {Q:Exit→Act→World→Prop} (s x:Operand) (t:TypeId)
  (ho:o.op= .call { callee:= .builtin .append,args:= #[s,x],argTypes:= #[t,t] })
  (B:Nat) (e:TypeId) (i:TypeInfo) (z:Value) (ht:P.underlying t=some (.slice e)) (hi:P.info? e=some i) (hz:i.zero=some z) (hsize:i.size=1) (hby:i.bytes=1) (hzs:z.cells.size=1)
  {v:Value} {m:Nat} {D:List Int} (hs:a.eval s=v) (own:w.ownsRow B e 1 v m (D.map (Value.int .u8)))
  (sc:Option Addr) (n c:Nat) (ys:List Int) (hx:a.eval x= .slice sc n c) (ry:Row .u8 w sc n c ys) (hn:0<n) (hsm:m+n≤1000000) (hB:B≤w.heap.size)
  (h:∀v' w',w'.ownsRow B e 1 v' (m+n) ((D++ys).map (Value.int .u8))→Below B w w'→ZaQ e w w'→K (a.put o.dst v') w'):o.wp P a w K Q:=by
 obtain ⟨b,off,rfl,hbs,hcell⟩:=ry.hcell hn
 refine wp_append_own w s x t ho B e i z 1 1 ht hi hz hsize hby hzs (by decide) v m _ hs own ⟨b,off,none⟩ n c (ys.map (Value.int .u8)) hx (by rw [List.length_map,ry.hlen,Nat.mul_one]) (Zc0 ry.hlen hcell) (ints_oneCell _ _) (by unfold maxLen;omega) (by omega) hB fun v' w' o1 g1 _=> ?_
 rw [←List.map_append] at o1
 exact h v' w' o1 ((Below.refl _ _).grown g1 hB (fun j hj=>(own.lt j hj).1)) (ZaQ.grown own g1)
end Go.Proofs.YtcaloldcihpkfaaGreatDoor.N
