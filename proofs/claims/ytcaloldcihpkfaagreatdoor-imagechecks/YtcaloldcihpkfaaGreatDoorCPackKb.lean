/-
 The code of layer 21 (keys), as it landed: Parse.
-/
import Derived.Test.YtcaloldcihpkfaaGreatDoorCPackKa
namespace Go.Proofs.YtcaloldcihpkfaaGreatDoor.N
open Go.RowKit
set_option linter.unusedVariables false
set_option maxRecDepth 8192

end Go.Proofs.YtcaloldcihpkfaaGreatDoor.N

/-
 The code of layer 21 (keys), as it landed: the binary search, place.
-/
namespace Go.Proofs.YtcaloldcihpkfaaGreatDoor.N
open Go.RowKit
set_option linter.unusedVariables false
set_option maxRecDepth 8192

structure KBox (w:World) (gr gx:Nat) (a:Option Addr) (n c:Nat) (l:List Ky) (x:Int):Prop where
 ring:w.cell? ⟨gr,0,none⟩=some (.slice a n c)
 num:w.cell? ⟨gx,0,none⟩=some (.int .i64 x)
 row:KRow w a n c l
theorem KBox.below {w w':World} {gr gx:Nat} {a:Option Addr} {n c:Nat} {l:List Ky} {x:Int} (h:KBox w gr gx a n c l x) (q:Below w.heap.size w w'):KBox w' gr gx a n c l x:=
 ⟨by rw [q.cell (Za0 h.ring)];exact h.ring,by rw [q.cell (Za0 h.num)];exact h.num,h.row.below q (Nat.le_refl _)⟩
set_option maxHeartbeats 800000 in
theorem ZuS {w:World} {gr gx:Nat} {a:Option Addr} {n c:Nat} {l:List Ky} {x:Int} (h:KBox w gr gx a n c l x) (i:Nat) (hi:i<n):
  Calls Tryz.prog 95 #[.int .i64 (i:Int), .pointer (some ⟨gr,0,none⟩), .pointer (some ⟨gx,0,none⟩)] w fun e w'=>e= .returned (.bool (decide (x≤(kyI l i).num)))∧Below w.heap.size w w':=by
 obtain ⟨b,off,rfl,hbs,hcell⟩:=h.row.hcell (by omega)
 have hx:=Zic (hcell i hi)
 have hm:=h.row.hmax
 have hc:=h.row.hcap
 have c1:=h.ring
 have c2:=h.num
 unfold maxLen at hm
 have hi':(i:Int)<(n:Int):=by omega
 clear h hcell
 generalize (kyI l i).num=y at*
 go_enter Tryz.func95,Tryz.ntmps95
 go_wp2_with fail
 refine Zar (fun w'=>Below w.heap.size w w') (by kernel_rfl) ?_
 refine Zaz (rs:=[0,1,2,3,4,5,6,7]) (fuel:=0) (by kernel_rfl) (fun c d v a w h=>by cases d<;>exact h) (by kernel_rfl) ((Below.refl _ _).drew) (fun K hK=> ?_)
 refine Zad (.slice (some ⟨b,off,none⟩) n c) rfl (by rfl) (fun w' hw'=> ?_) ?_
 ·have d1:w'.cell? ⟨gr,0,none⟩=some (.slice (some ⟨b,off,none⟩) n c):=by rw [hw'.cell (Za0 c1)];exact c1
  go_simp
 go_simp
 refine Zah _ rfl (by rfl) rfl ?_
 go_simp
 refine Zad (.pointer (some ⟨b,off+i*34,none⟩)) rfl (by rfl) (fun w' hw'=> ?_) ?_
 ·go_simp
 go_simp
 refine Zad (.pointer (some ⟨b,off+i*34,none⟩)) rfl (by rfl) (fun w' hw'=> ?_) ?_
 ·go_simp
 go_simp
 refine Zad (.int .i64 y) rfl (by rfl) (fun w' hw'=> ?_) ?_
 ·have d1:w'.cell? ⟨b,off+i*34,none⟩=some (.int .i64 y):=by rw [hw'.cell (Za0 hx)];exact hx
  go_simp
 go_simp
 refine Zad (.int .i64 x) rfl (by rfl) (fun w' hw'=> ?_) ?_
 ·have d1:w'.cell? ⟨gx,0,none⟩=some (.int .i64 x):=by rw [hw'.cell (Za0 c2)];exact c2
  go_simp
 go_simp
 refine Zad (.bool (decide (x≤y))) rfl (by rfl) (fun w' hw'=> ?_) ?_
 ·go_simp
 go_simp
 refine ZaB _ rfl (by rfl) rfl ?_
 go_simp
 refine Zac (hK.out _ ?_)
 clear hK K
 refine wpAnyH_done (by kernel_rfl) ?_ _
 go_wp2_with fail
 go_ret
 exact ⟨rfl,(Below.refl _ _).drew⟩
structure KPart (l:List Ky) (x:Int) (n lo hi:Nat):Prop where
 lt:∀t,t<lo→(kyI l t).num<x
 ge:∀t,hi≤t→t<n→x≤(kyI l t).num
set_option maxHeartbeats 1600000 in
theorem ZuT {w:World} {gr gx:Nat} {a:Option Addr} {n c:Nat} {l:List Ky} {x:Int} (h:KBox w gr gx a n c l x) (hm:mayK l=true):
  Calls Tryz.prog 94 #[.int .i64 (n:Int), .func (.func 95) #[] #[.pointer (some ⟨gr,0,none⟩), .pointer (some ⟨gx,0,none⟩)]] w fun e w'=>∃p:Nat,p≤n∧e= .returned (.int .i64 (p:Int))∧KPart l x n p p∧Below w.heap.size w w':=by
 have hn8:n≤8:=by rw [←h.row.hlen];exact (Zh5 hm).1
 have HN:Hid (l.length=n):=h.row.hlen
 have HF:Hid (∀w',Below w.heap.size w w'→∀i,i<n→Calls Tryz.prog 95 #[.int .i64 (i:Int), .pointer (some ⟨gr,0,none⟩), .pointer (some ⟨gx,0,none⟩)] w' fun e w''=>e= .returned (.bool (decide (x≤(kyI l i).num)))∧Below w'.heap.size w' w''):=
  fun w' q i hi=>ZuS (h.below q) i hi
 have HM:Hid (mayK l=true):=hm
 have heg:∀args w,Sem.run Tryz.prog (callFunc 95 args) w= .ok (.enter 95 args) w:=fun _ _=>rfl
 clear h hm
 go_enter Tryz.func94,Tryz.ntmps94
 go_wp2_with fail
 go_loopw [5,6] (fun s5 s6 wr=>∃lo hi:Nat,s5= .int .i64 (lo:Int)∧s6= .int .i64 (hi:Int)∧lo≤hi∧hi≤n∧Hid (KPart l x n lo hi)∧Below w.heap.size w wr) (fun s5 s6 _=>(RowKit.intOf s6 - RowKit.intOf s5).toNat)
 case atStart=>exact ⟨0,n,rfl,rfl,Nat.zero_le _,Nat.le_refl _,⟨fun t ht=>absurd ht (Nat.not_lt_zero _),fun t h1 h2=>by omega⟩,Below.refl _ _⟩
 case round=>
  obtain ⟨lo,hi,rfl,rfl,hlh,hin,HP,q⟩:=hrel
  by_cases hlt:lo<hi
  ·have hc:=HF.out wr q ((lo+hi)/2) (by omega)
   have HA:Hid ((kyI l ((lo+hi)/2)).num<x→KPart l x n ((lo+hi)/2+1) hi):=fun h9=>⟨fun t ht=>by
    rcases Nat.lt_or_ge t ((lo+hi)/2) with h1|h1
    ·have:=ZeA HM.out h1 (by rw [HN.out];omega);omega
    ·obtain rfl:t=(lo+hi)/2:=by omega
     exact h9,HP.out.ge⟩
   have HB:Hid (x≤(kyI l ((lo+hi)/2)).num→KPart l x n lo ((lo+hi)/2)):=fun h9=>⟨HP.out.lt,fun t ht htn=>by
    rcases Nat.lt_or_ge ((lo+hi)/2) t with h1|h1
    ·have:=ZeA HM.out h1 (by rw [HN.out];exact htn);omega
    ·obtain rfl:t=(lo+hi)/2:=by omega
     exact h9⟩
   rw [show (((lo+hi)/2:Nat):Int)=((lo:Int)+(hi:Int))/2 by omega] at hc
   by_cases hp:x≤(kyI l ((lo+hi)/2)).num
   ·rw [decide_eq_true hp] at hc
    have HP2:=HB.out hp
    have HP3:Hid (KPart l x n lo ((lo+hi)/2)):=HP2
    clear HA HB HP2 hp HP
    go_wp2_with fail
    refine hc.mono ?_
    rintro e w2 ⟨rfl,q2⟩
    have q3:=Zbp q q2
    clear hc q2
    go_wp2_with fail
    go_roundw
    case rel=>exact ⟨lo,(lo+hi)/2,rfl,by go_num,by omega,by omega,HP3,q3⟩
    case measure=>simp [RowKit.intOf];omega
   ·rw [decide_eq_false hp] at hc
    have HP2:=HA.out (by omega)
    have HP3:Hid (KPart l x n ((lo+hi)/2+1) hi):=HP2
    clear HA HB HP2 hp HP
    go_wp2_with fail
    refine hc.mono ?_
    rintro e w2 ⟨rfl,q2⟩
    have q3:=Zbp q q2
    clear hc q2
    go_wp2_with fail
    go_roundw
    case rel=>exact ⟨(lo+hi)/2+1,hi,by go_num,rfl,by omega,by omega,HP3,q3⟩
    case measure=>simp [RowKit.intOf];omega
  ·obtain rfl:hi=lo:=by omega
   go_wp2_with fail
   go_ret
   exact ⟨hi,hin,rfl,HP.out,q⟩
end Go.Proofs.YtcaloldcihpkfaaGreatDoor.N

/-
 The code of layer 21 (keys), as it landed: place, Find, Revoke.
-/
namespace Go.Proofs.YtcaloldcihpkfaaGreatDoor.N
open Go.RowKit
set_option linter.unusedVariables false
set_option maxRecDepth 8192

def ZuU (l:List Ky) (x:Int) (p e:Int):Prop:=(∃i:Nat,Zbv l x=some i∧p=(i:Int)∧e=0)∨(Zbv l x=none∧p=0∧e=190)
theorem KPart.at {l:List Ky} {x:Int} {n p i:Nat} (hm:mayK l=true) (hl:l.length=n) (h:KPart l x n p p) (hi:i<n) (hx:(kyI l i).num=x):p=i:=by
 rcases Nat.lt_or_ge i p with h1|h1
 ·have:=h.lt i h1;omega
 ·rcases Nat.lt_or_ge p i with h2|h2
  ·have:=h.ge p (Nat.le_refl _) (by omega)
   have:=ZeA hm h2 (by omega)
   omega
  ·omega
set_option maxHeartbeats 3200000 in
theorem ZuV {a:Option Addr} {n c:Nat} {l:List Ky} {x:Int} {w:World} (hr:KRow w a n c l) (ho:∀s∈l,s.Ok) (hm:mayK l=true):
  Calls Tryz.prog 58 #[.slice a n c, .int .i64 x] w fun e w'=>∃p e',e= .returned (.tuple #[.int .i64 p, .int .i64 e'])∧ZuU l x p e'∧Below w.heap.size w w':=by
 have mc:=hr.hcap
 have mm:=hr.hmax
 unfold maxLen at mm
 have HL:Hid (l.length=n):=hr.hlen
 have V:=((Vars.start w).new 39 #[.slice a n c]).new 3 #[.int .i64 x]
 simp only [World.size_alloc] at V
 have B:KBox ((w.alloc (.cells #[.slice a n c] 39)).alloc (.cells #[.int .i64 x] 3)) w.heap.size (w.heap.size+1) a n c l x:=⟨Zag (V.at 1 rfl) 0,Zag (V.at 0 rfl) 0,hr.below V.bel (Nat.le_refl _)⟩
 have q0:=V.bel
 have h:=Zie B.row ho
 rw [hm] at h
 have c1:=B.ring
 have hmf:∀(fn:Fn) (first cap:Array Value) (w:World),(Instr.makeFunc fn first cap).run Tryz.prog w= .ok (.func fn first cap) w:=fun _ _ _ _=>rfl
 go_enter Tryz.func58,Tryz.ntmps58
 go_wp2_with fail
 generalize (w.alloc (.cells #[.slice a n c] 39)).alloc (.cells #[.int .i64 x] 3)=w1 at*
 refine h.mono ?_
 rintro e w2 ⟨rfl,q1⟩
 replace B:=B.below q1
 replace q0:=Zbp q0 q1
 clear h V q1 c1 hr
 have c1:=B.ring
 have hs:=ZuT B hm
 have HM:Hid (mayK l=true):=hm
 clear hm
 go_wp2_with fail
 refine hs.mono ?_
 rintro e w3 ⟨p,hp,rfl,P,q2⟩
 replace B:=B.below q2
 replace q0:=(Zbp q0 q2).drew
 have HP:Hid (KPart l x n p p):=P
 clear hs q2 P c1 hmf
 have c1:=B.ring
 have c2:=B.num
 go_wp2_with fail
 refine Zar (fun w'=>Below w3.heap.size w3 w') (by kernel_rfl) ?_
 by_cases hpn:p<n
 ·obtain ⟨b,off,rfl,hbs,hcell⟩:=B.row.hcell (by omega)
  have hx:=Zic (hcell p hpn)
  have hpn':(p:Int)<(n:Int):=by omega
  have hne:¬(p:Int)=(n:Int):=by omega
  have HX:Hid (((kyI l p).num=x→Zbv l x=some p)∧((kyI l p).num≠x→Zbv l x=none)):=by
   refine ⟨fun h=>ZqA HM.out (by rw [HL.out];exact hpn) h,fun h=> ?_⟩
   cases hk:Zbv l x with
   | none=>rfl
   | some i=>
    have h1:=Zgp hk
    have:=HP.out.at HM.out HL.out (by rw [←HL.out];exact h1.1) h1.2
    subst this
    exact absurd h1.2 h
  clear hcell B HP
  generalize (kyI l p).num=y at*
  obtain ⟨r,hr0⟩:∃r,r=decide (y≠x):=⟨_,rfl⟩
  have HR:Hid (r=decide (y≠x)):=hr0
  clear hr0
  refine Zaz (rs:=[0,1,2,3,4,5,6,7,8,9,10,11,12]) (fuel:=0) (by kernel_rfl) (fun c d v a w h=>by cases d<;>exact h) (by kernel_rfl) ((Below.refl _ _).drew) (fun K hK=> ?_)
  refine Zah _ rfl (by rfl) rfl ?_
  go_simp
  refine Zad (.slice (some ⟨b,off,none⟩) n c) rfl (by rfl) (fun w' hw'=> ?_) ?_
  ·have d1:w'.cell? ⟨w.heap.size,0,none⟩=some (.slice (some ⟨b,off,none⟩) n c):=by rw [hw'.cell (Za0 c1)];exact c1
   go_simp
  go_simp
  refine Zad (.int .i64 (n:Int)) rfl (by rfl) (fun w' hw'=> ?_) ?_
  ·go_simp
  go_simp
  refine Zad (.bool false) rfl (by rfl) (fun w' hw'=> ?_) ?_
  ·go_simp
  go_simp
  refine Zah _ rfl (by rfl) rfl ?_
  go_simp
  refine Zad (.slice (some ⟨b,off,none⟩) n c) rfl (by rfl) (fun w' hw'=> ?_) ?_
  ·have d1:w'.cell? ⟨w.heap.size,0,none⟩=some (.slice (some ⟨b,off,none⟩) n c):=by rw [hw'.cell (Za0 c1)];exact c1
   go_simp
  go_simp
  refine Zah _ rfl (by rfl) rfl ?_
  go_simp
  refine Zad (.pointer (some ⟨b,off+p*34,none⟩)) rfl (by rfl) (fun w' hw'=> ?_) ?_
  ·go_simp
  go_simp
  refine Zad (.pointer (some ⟨b,off+p*34,none⟩)) rfl (by rfl) (fun w' hw'=> ?_) ?_
  ·go_simp
  go_simp
  refine Zad (.int .i64 y) rfl (by rfl) (fun w' hw'=> ?_) ?_
  ·have d1:w'.cell? ⟨b,off+p*34,none⟩=some (.int .i64 y):=by rw [hw'.cell (Za0 hx)];exact hx
   go_simp
  go_simp
  refine Zad (.int .i64 x) rfl (by rfl) (fun w' hw'=> ?_) ?_
  ·have d1:w'.cell? ⟨w.heap.size+1,0,none⟩=some (.int .i64 x):=by rw [hw'.cell (Za0 c2)];exact c2
   go_simp
  go_simp
  refine Zad (.bool r) rfl (by rfl) (fun w' hw'=> ?_) ?_
  ·go_simp
   rw [HR.out]
   by_cases h:y=x<;>simp [h]
  go_simp
  refine Zad (.bool r) rfl (by rfl) (fun w' hw'=> ?_) ?_
  ·go_simp
  go_simp
  refine Zac (hK.out _ ?_)
  clear hK K
  refine wpAnyH_done (by kernel_rfl) ?_ _
  clear c1 c2 hx
  cases r
  ·have HZ:Hid (Zbv l x=some p):=HX.out.1 (by have:=HR.out;simpa using this)
   clear HX HR
   go_wp2_with fail
   go_ret2
   exact ⟨_,_,rfl, .inl ⟨p,HZ.out,rfl,rfl⟩,q0⟩
  ·have HZ:Hid (Zbv l x=none):=HX.out.2 (by have:=HR.out;simpa using this)
   clear HX HR
   go_wp2_with fail
   go_ret2
   exact ⟨_,_,rfl, .inr ⟨HZ.out,rfl,rfl⟩,q0⟩
 ·obtain rfl:p=n:=by omega
  have HZ:Hid (Zbv l x=none):=by
   show _=_
   cases hk:Zbv l x with
   | none=>rfl
   | some i=>
    have h1:=Zgp hk
    have h2:=h1.1
    rw [HL.out] at h2
    have:=HP.out.lt i h2
    omega
  refine Zaz (rs:=[0,1,2,3,4,5,6,7,8,9,10,11,12]) (fuel:=0) (by kernel_rfl) (fun c d v a w h=>by cases d<;>exact h) (by kernel_rfl) ((Below.refl _ _).drew) (fun K hK=> ?_)
  refine Zah _ rfl (by rfl) rfl ?_
  go_simp
  refine Zad (.slice a p c) rfl (by rfl) (fun w' hw'=> ?_) ?_
  ·have d1:w'.cell? ⟨w.heap.size,0,none⟩=some (.slice a p c):=by rw [hw'.cell (Za0 c1)];exact c1
   go_simp
  go_simp
  refine Zad (.int .i64 (p:Int)) rfl (by rfl) (fun w' hw'=> ?_) ?_
  ·go_simp
  go_simp
  refine Zad (.bool true) rfl (by rfl) (fun w' hw'=> ?_) ?_
  ·go_simp
  go_simp
  refine Zah _ rfl (by rfl) rfl ?_
  go_simp
  iterate 7 (refine Zjs rfl (by rfl) ?_;go_simp)
  refine Zad (.bool true) rfl (by rfl) (fun w' hw'=> ?_) ?_
  ·go_simp
  go_simp
  refine Zac (hK.out _ ?_)
  clear hK K
  refine wpAnyH_done (by kernel_rfl) ?_ _
  clear c1 c2 HP B
  go_wp2_with fail
  go_ret2
  exact ⟨_,_,rfl, .inr ⟨HZ.out,rfl,rfl⟩,q0⟩
theorem ZmE:Tryz.prog.built 22 []=some (dA ZbT):=by kernel_rfl
set_option maxHeartbeats 1600000 in
theorem Zux {a:Option Addr} {n c:Nat} {l:List Ky} {x:Int} {w:World} (hr:KRow w a n c l) (ho:∀s∈l,s.Ok) (hm:mayK l=true):
  Calls Tryz.prog 24 #[.slice a n c, .int .i64 x] w fun e w'=>e= .returned (.tuple #[.agg (dA (fndD l x)), .int .i64 (fndC l x)])∧Below w.heap.size w w':=by
 have mc:=hr.hcap
 have mm:=hr.hmax
 unfold maxLen at mm
 have HL:Hid (l.length=n):=hr.hlen
 have V0:=Vars.start w
 go_enter Tryz.func24,Tryz.ntmps24
 go_wp2_with (refine Zai V0 4 22 rfl rfl rfl (dA ZbT) Zk2 ?_;intro w1 g1 V1)
 refine (ZuV (hr.below V1.bel (Nat.le_refl _)) ho hm).mono ?_
 rintro e w2 ⟨p,e',rfl,hp,q2⟩
 have V2:=V1.call q2
 rcases hp with ⟨i,hi,rfl,rfl⟩|⟨hn,rfl,rfl⟩
 ·have h1:=(Zgp hi).1
  rw [HL.out] at h1
  obtain ⟨b,off,rfl,hbs,hcell⟩:=(hr.below V2.bel (Nat.le_refl _)).hcell (by omega)
  have hx:=hcell i h1
  have hk:=Zey ho i
  have hi':(i:Int)<(n:Int):=by omega
  have c33:=ZqE hk hx
  have hd:=ZqF hk hx
  clear hcell hx
  cases hv:(kyI l i).rev
  ·have H:Hid (fndD l x=(kyI l i).dig∧fndC l x=0):=Zh8 hi hv
   rw [hv] at c33
   have hdl:=hk.len
   generalize (kyI l i).dig=d at*
   go_wp2_with (first
    | (refine wpList_load_mid rfl 22 _ rfl b (off+i*34+1) rfl (dC d) _ hd Tryz.underlying22 rfl (by rw [Zd1 hdl];exact Tryz.szDg) ?_)
    | (refine Zal V2 0 rfl _ (.tmp 28) rfl rfl rfl (dA d) rfl rfl Tryz.szDg (Zcm Zb1.len) (Zcm hdl) (Zgr _) ?_;intro w3 V3))
   refine bodyPost_ret (Zcv rfl _ V3 0 rfl rfl Tryz.underlying22 Tryz.szDg (Zcm hdl)) rfl ?_
   exact ⟨by rw [H.out.1,H.out.2];rfl,V3.bel⟩
  ·have H:Hid (fndD l x=ZbT∧fndC l x=190):=Zh7 hi hv
   rw [hv] at c33
   go_wp2_with (first
    | (refine ZaR 23 22 [] (by rfl) rfl rfl (dA ZbT) ZmE ?_)
    | (refine Zal V2 0 rfl _ (.tmp 23) rfl rfl rfl (dA ZbT) rfl rfl Tryz.szDg (Zcm Zb1.len) (Zcm Zb1.len) (Zgr _) ?_;intro w3 V3))
   refine bodyPost_ret (Zcv rfl _ V3 0 rfl rfl Tryz.underlying22 Tryz.szDg (Zcm Zb1.len)) rfl ?_
   exact ⟨by rw [H.out.1,H.out.2];rfl,V3.bel⟩
 ·have H:Hid (fndD l x=ZbT∧fndC l x=190):=ZkU hn
  go_wp2_with (first
   | (refine ZaR 16 22 [] (by rfl) rfl rfl (dA ZbT) ZmE ?_)
   | (refine Zal V2 0 rfl _ (.tmp 16) rfl rfl rfl (dA ZbT) rfl rfl Tryz.szDg (Zcm Zb1.len) (Zcm Zb1.len) (Zgr _) ?_;intro w3 V3))
  refine bodyPost_ret (Zcv rfl _ V3 0 rfl rfl Tryz.underlying22 Tryz.szDg (Zcm Zb1.len)) rfl ?_
  exact ⟨by rw [H.out.1,H.out.2];rfl,V3.bel⟩
end Go.Proofs.YtcaloldcihpkfaaGreatDoor.N

/-
 Layer 21, plain: keys that are revoked one behind the other.
-/
namespace Go.Proofs.YtcaloldcihpkfaaGreatDoor.N
open Go.RowKit
set_option linter.unusedVariables false
set_option maxRecDepth 8192

end Go.Proofs.YtcaloldcihpkfaaGreatDoor.N
