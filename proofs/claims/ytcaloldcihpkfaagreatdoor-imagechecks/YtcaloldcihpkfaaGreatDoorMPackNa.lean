/-
 Layer 15, in plain words: numbers as bytes, the lowest first: sums of products with carries, comparisons, normal bytes, what is left of a division.
-/
import Derived.Test.YtcaloldcihpkfaaGreatDoorMPackA
import Derived.Deep.MidRow
import Derived.Deep.WholeRow
import Derived.Laws.BitsAllLaws
namespace Go.Proofs.YtcaloldcihpkfaaGreatDoor.N
set_option linter.unusedVariables false
set_option maxRecDepth 8192

def vTo (f:Nat→Nat):Nat→Nat
 | 0=>0
 | n+1=>vTo f n+f n*256^n
def dg (l:List Nat) (i:Nat):Nat:=l[i]?.getD 0
def vL (l:List Nat):Nat:=vTo (dg l) l.length

theorem Zbj {l:List Nat} {i:Nat} (h:l.length≤i):dg l i=0:=by unfold dg;rw [List.getElem?_eq_none h];rfl
theorem Zb4 {f g:Nat→Nat} {n:Nat} (h:∀i,i<n→f i=g i):vTo f n=vTo g n:=by
 induction n with
 | zero=>rfl
 | succ n ih=>simp only [vTo];rw [ih (fun i hi=>h i (by omega)),h n (by omega)]
theorem ZcA {f:Nat→Nat} {n:Nat} (h:∀i,i<n→f i<256):vTo f n<256^n:=by
 induction n with
 | zero=>simp [vTo]
 | succ n ih=>
  have h1:=ih (fun i hi=>h i (by omega))
  have h2:f n+1≤256:=h n (by omega)
  have h3:=Nat.mul_le_mul_right (256^n) h2
  simp only [vTo,Nat.pow_succ]
  rw [Nat.add_mul] at h3
  rw [Nat.mul_comm (256^n)]
  omega
theorem Zeb {f:Nat→Nat} {n m:Nat} (hnm:n≤m) (h:∀i,n≤i→f i=0):vTo f m=vTo f n:=by
 induction m with
 | zero=>rw [show n=0 from by omega]
 | succ m ih=>
  rcases Nat.lt_or_ge m n with h1|h1
  ·rw [show n=m+1 from by omega]
  ·simp only [vTo];rw [ih h1,h m h1];omega
theorem ZbG (l:List Nat) (m:Nat) (h:l.length≤m):vTo (dg l) m=vL l:=Zeb h (fun i hi=>Zbj hi)
theorem ZgP {f:Nat→Nat} {n j:Nat} (h:j<n):f j*256^j≤vTo f n:=by
 induction n with
 | zero=>omega
 | succ n ih=>
  simp only [vTo]
  rcases Nat.lt_or_ge j n with h1|h1
  ·have:=ih h1;omega
  ·rw [show j=n from by omega];omega
theorem ZeU (f:Nat→Nat) {n m:Nat} (h:n≤m):vTo f n≤vTo f m:=by
 induction m with
 | zero=>rw [show n=0 from by omega];exact Nat.le_refl _
 | succ m ih=>
  rcases Nat.lt_or_ge m n with h1|h1
  ·rw [show n=m+1 from by omega];exact Nat.le_refl _
  ·have:=ih h1;simp only [vTo];omega
theorem ZeV {f g:Nat→Nat} {n m:Nat} (hnm:n≤m) (h:∀i,n≤i→i<m→f i=g i):vTo f m+vTo g n=vTo g m+vTo f n:=by
 induction m with
 | zero=>rw [show n=0 from by omega];rfl
 | succ m ih=>
  rcases Nat.lt_or_ge m n with h1|h1
  ·rw [show n=m+1 from by omega];omega
  ·have:=ih h1 (fun i h2 h3=>h i h2 (by omega));simp only [vTo];rw [h m h1 (by omega)];omega
theorem ZcB {l:List Nat} {j x:Nat} (hj:j<l.length) (i:Nat):dg (l.set j x) i=if i=j then x else dg l i:=by
 unfold dg
 rw [List.getElem?_set]
 by_cases h:j=i
 ·subst h;simp [hj]
 ·rw [if_neg h,if_neg (fun h'=>h h'.symm)]
theorem ZeW {f g:Nat→Nat} {n j x:Nat} (hj:j<n) (hg:∀i,g i=if i=j then x else f i):vTo g n+f j*256^j=vTo f n+x*256^j:=by
 induction n with
 | zero=>omega
 | succ n ih=>
  simp only [vTo]
  rcases Nat.lt_or_ge j n with h1|h1
  ·have:=ih h1
   rw [hg n,if_neg (by omega)]
   omega
  ·have e:j=n:=by omega
   subst e
   rw [hg j,if_pos rfl,Zb4 (g:=f) (n:=j) (fun i hi=>by rw [hg i,if_neg (by omega)])]
   omega
theorem ZbO {l:List Nat} {j x:Nat} (hj:j<l.length):vL (l.set j x)+dg l j*256^j=vL l+x*256^j:=by
 unfold vL
 rw [List.length_set]
 exact ZeW hj (ZcB hj)

def digL (x n:Nat):List Nat:=(List.range n).map (fun i=>x/256^i%256)
theorem Zap (x n:Nat):(digL x n).length=n:=by simp [digL]
theorem ZgQ (x n:Nat):digL x (n+1)=digL x n++ [x/256^n%256]:=by simp [digL,List.range_succ]
theorem Zbk {x n i:Nat} (h:i<n):dg (digL x n) i=x/256^i%256:=by simp [dg,digL,h]
theorem Zdj (x n:Nat):vL (digL x n)=x%256^n:=by
 unfold vL
 rw [Zap]
 have:∀m,vTo (fun i=>x/256^i%256) m=x%256^m:=by
  intro m
  induction m with
  | zero=>simp [vTo,Nat.mod_one]
  | succ m ih=>simp only [vTo];rw [ih,Nat.pow_succ,Nat.mod_mul,Nat.mul_comm (256^m)]
 rw [←this n]
 exact Zb4 (fun i hi=>Zbk hi)
def Dig (l:List Nat):Prop:=∀x∈l,x<256
theorem Dig.at {l:List Nat} (h:Dig l) (i:Nat):dg l i<256:=by
 unfold dg
 rcases Nat.lt_or_ge i l.length with hi|hi
 ·rw [List.getElem?_eq_getElem hi];exact h _ (List.getElem_mem hi)
 ·rw [List.getElem?_eq_none hi];decide
theorem Dig.set {l:List Nat} (h:Dig l) (j:Nat) {x:Nat} (hx:x<256):Dig (l.set j x):=by
 intro y hy
 rcases List.mem_or_eq_of_mem_set hy with h1|rfl
 ·exact h y h1
 ·exact hx
theorem ZaD (x n:Nat):Dig (digL x n):=by
 intro y hy
 simp only [digL,List.mem_map] at hy
 obtain ⟨i,_,rfl⟩:=hy
 exact Nat.mod_lt _ (by decide)
theorem Dig.vlt {l:List Nat} (h:Dig l) (m:Nat):vTo (dg l) m<256^m:=ZcA (fun i _=>h.at i)
theorem Dig.zero {n:Nat}:Dig (List.replicate n 0):=by
 intro x hx;rw [(List.mem_replicate.1 hx).2];decide
theorem ZcM (n:Nat):vL (List.replicate n 0)=0:=by
 have:∀m,vTo (dg (List.replicate n 0)) m=0:=by
  intro m
  induction m with
  | zero=>rfl
  | succ m ih=>
   simp only [vTo,ih]
   have:dg (List.replicate n 0) m=0:=by
    unfold dg
    rw [List.getElem?_replicate]
    split<;>rfl
   rw [this];omega
 exact this _

structure TimI (a b o out:List Nat) (i k c:Nat):Prop where
 len:out.length=a.length+b.length+1
 dig:Dig out
 clt:c<256
 val:vL out+c*256^(i+k)=vTo (dg a) i*vL b+dg a i*256^i*vTo (dg b) k
theorem TimI.room {a b o out:List Nat} {i k c:Nat} (h:TimI a b o out i k c) (ha:Dig a) (hb:Dig b) (hi:i<a.length) (hk:k<b.length∨0<c):i+k<a.length+b.length+1∧(b.length≤k→k=b.length):=by
 rcases hk with h1|h1
 ·exact ⟨by omega,fun h2=>by omega⟩
 ·have e1:vTo (dg b) k≤vL b:=by
   rcases Nat.lt_or_ge k b.length with h2|h2
   ·exact ZeU _ (Nat.le_of_lt h2)
   ·rw [ZbG b k h2];exact Nat.le_refl _
  have e2:vTo (dg a) i*vL b+dg a i*256^i*vTo (dg b) k≤vTo (dg a) (i+1)*vL b:=by
   simp only [vTo];rw [Nat.add_mul]
   exact Nat.add_le_add_left (Nat.mul_le_mul_left _ e1) _
  have e3:vTo (dg a) (i+1)*vL b<256^(i+1)*256^b.length:=by
   have p1:=ha.vlt (i+1)
   have p2:=hb.vlt b.length
   rcases Nat.eq_zero_or_pos (vL b) with hz|hz
   ·rw [hz];simp [Nat.pow_pos]
   ·exact Nat.lt_of_lt_of_le (Nat.mul_lt_mul_of_pos_right p1 hz) (Nat.mul_le_mul_left _ (Nat.le_of_lt p2))
  rw [←Nat.pow_add] at e3
  have e4:256^(i+k)≤c*256^(i+k):=Nat.le_mul_of_pos_left _ h1
  have e5:=h.val
  have e6:256^(i+k)<256^(i+1+b.length):=by omega
  have:=(Nat.pow_lt_pow_iff_right (a:=256) (by decide)).1 e6
  exact ⟨by omega,fun h2=>by omega⟩
theorem TimI.next {a b o out:List Nat} {i k c x:Nat} (h:TimI a b o out i k c) (ha:Dig a) (hb:Dig b) (hi:i+k<a.length+b.length+1) (hx:x=dg out (i+k)+c+dg a i*dg b k):
  TimI a b o (out.set (i+k) (x%256)) i (k+1) (x/256):=by
 have b1:dg a i≤255:=by have:=ha.at i;omega
 have b2:dg b k≤255:=by have:=hb.at k;omega
 have b3:=Nat.mul_le_mul b1 b2
 have b4:=h.dig.at (i+k)
 have b5:=h.clt
 refine ⟨by rw [List.length_set];exact h.len,h.dig.set _ (Nat.mod_lt _ (by decide)),by omega, ?_⟩
 have hs:=ZbO (l:=out) (j:=i+k) (x:=x%256) (by rw [h.len];exact hi)
 have hv:=h.val
 rw [←Nat.add_assoc i k 1,Nat.pow_succ]
 simp only [vTo]
 have hq:256^(i+k)=256^i*256^k:=Nat.pow_add _ _ _
 have hm:x%256+256*(x/256)=x:=Nat.mod_add_div x 256
 have e1:x/256*(256^(i+k)*256)+x%256*256^(i+k)=x*256^(i+k):=by
  conv=>rhs;rw [←hm,Nat.add_mul]
  rw [Nat.mul_comm (256^(i+k)) 256, ←Nat.mul_assoc,Nat.mul_comm (x/256) 256];omega
 have e2:x*256^(i+k)=dg out (i+k)*256^(i+k)+c*256^(i+k)+dg a i*256^i*(dg b k*256^k):=by
  rw [hx,Nat.add_mul,Nat.add_mul]
  congr 1
  rw [hq,Nat.mul_mul_mul_comm]
 rw [Nat.mul_add]
 omega
theorem TimI.begin {a b out:List Nat} {i:Nat} (hl:out.length=a.length+b.length+1) (hd:Dig out) (hv:vL out=vTo (dg a) i*vL b):TimI a b out out i 0 0:=
 ⟨hl,hd,by decide,by simp [vTo,hv]⟩
theorem TimI.done {a b o out:List Nat} {i k:Nat} (h:TimI a b o out i k 0) (hk:b.length≤k):vL out=vTo (dg a) (i+1)*vL b:=by
 have:=h.val
 rw [ZbG b k hk] at this
 simp only [vTo];rw [Nat.add_mul];omega

theorem Zec {f g:Nat→Nat} {i n:Nat} (hi:i<n) (hf:∀j,f j<256) (hg:∀j,g j<256) (h:∀j,i<j→j<n→f j=g j) (hne:f i≠g i):(g i<f i↔vTo g n<vTo f n):=by
 have e:=ZeV (f:=f) (g:=g) (n:=i+1) (m:=n) (by omega) (fun j h1 h2=>h j (by omega) h2)
 have p1:=ZcA (f:=f) (n:=i) (fun j _=>hf j)
 have p2:=ZcA (f:=g) (n:=i) (fun j _=>hg j)
 simp only [vTo] at e
 constructor
 ·intro h1
  have:=Nat.mul_le_mul_right (256^i) (show g i+1≤f i from h1)
  rw [Nat.add_mul] at this
  omega
 ·intro h1
  rcases Nat.lt_or_ge (g i) (f i) with h2|h2
  ·exact h2
  ·have:=Nat.mul_le_mul_right (256^i) (show f i+1≤g i from by omega)
   rw [Nat.add_mul] at this
   omega
theorem ZgR (l:List Nat) (x:Nat):vL (l++ [x])=vL l+x*256^l.length:=by
 unfold vL
 rw [List.length_append,List.length_singleton]
 simp only [vTo]
 congr 1
 ·exact Zb4 (fun i hi=>by unfold dg;rw [List.getElem?_append_left hi])
 ·unfold dg;simp

def nI (l:List Nat):List Int:=l.map fun n:Nat=>(n:Int)
theorem Zaa (l:List Nat):(nI l).length=l.length:=by simp [nI]
theorem ZbB (l:List Nat) (i:Nat):(nI l)[i]?.getD 0=((dg l i:Nat):Int):=by
 unfold nI dg
 rw [List.getElem?_map]
 cases l[i]? <;>rfl
theorem ZbY (l m:List Nat):nI (l++m)=nI l++nI m:=by simp [nI]
theorem ZcC (l:List Nat) (k:Nat):(nI l).take k=nI (l.take k):=by simp [nI,List.map_take]
theorem ZcN (l:List Nat) (k:Nat):(nI l).drop k=nI (l.drop k):=by simp [nI,List.map_drop]
theorem ZbH (l:List Nat) (k a:Nat):(nI l).set k (a:Int)=nI (l.set k a):=by simp [nI,List.map_set]
theorem Zjj {p q:List Nat} (h:nI p=nI q):p=q:=by
 have h2:=congrArg (List.map Int.toNat) h
 unfold nI at h2
 rw [List.map_map,List.map_map] at h2
 have e:((Int.toNat)∘fun n:Nat=>(n:Int))=id:=by funext n;simp
 simpa [e] using h2
theorem ZbR (n:Nat):0<256^n:=Nat.pow_pos (by decide)
theorem Zb9 {l:List Nat} (h:Dig l) (i:Nat):dg l i=vL l/256^i%256:=by
 rcases Nat.lt_or_ge i l.length with hi|hi
 ·have e:∀m,i<m→vTo (dg l) m/256^i%256=dg l i:=by
   intro m
   induction m with
   | zero=>intro h;omega
   | succ m ih=>
    intro him
    simp only [vTo]
    rcases Nat.lt_or_ge i m with h1|h1
    ·obtain ⟨d,rfl⟩:∃d,m=i+1+d:=⟨m - (i+1),by omega⟩
     rw [show dg l (i+1+d)*256^(i+1+d)=256^i*(256*(dg l (i+1+d)*256^d)) from by
      rw [Nat.pow_add,Nat.pow_add];simp only [Nat.pow_one,Nat.mul_comm,Nat.mul_left_comm,Nat.mul_assoc]]
     rw [Nat.add_mul_div_left _ _ (ZbR i),Nat.add_mul_mod_self_left]
     exact ih h1
    ·obtain rfl:i=m:=by omega
     rw [Nat.mul_comm (dg l i),Nat.add_mul_div_left _ _ (ZbR i),Nat.div_eq_of_lt (h.vlt i),Nat.zero_add]
     exact Nat.mod_eq_of_lt (h.at i)
  exact (e l.length hi).symm
 ·rw [Zbj hi]
  have:vL l<256^i:=Nat.lt_of_lt_of_le (h.vlt l.length) (Nat.pow_le_pow_right (by decide) hi)
  rw [Nat.div_eq_of_lt this]
theorem Zdq {l m:List Nat} (hl:l.length=m.length) (h:∀i,dg l i=dg m i):l=m:=by
 apply List.ext_getElem hl
 intro i h1 h2
 have:=h i
 unfold dg at this
 rw [List.getElem?_eq_getElem h1,List.getElem?_eq_getElem h2] at this
 exact this
theorem Dig.ext {l m:List Nat} (h:Dig l) (h':Dig m) (hl:l.length=m.length) (hv:vL l=vL m):l=m:=
 Zdq hl (fun i=>by rw [Zb9 h,Zb9 h',hv])
theorem Zca {l:List Nat} (h:Dig l):l=digL (vL l) l.length:=by
 refine h.ext (ZaD _ _) (Zap _ _).symm ?_
 rw [Zdj];exact (Nat.mod_eq_of_lt (h.vlt l.length)).symm
theorem Zbg {x n:Nat} (h:x<256^n):vL (digL x n)=x:=by rw [Zdj,Nat.mod_eq_of_lt h]
theorem Zfd (n:Nat):digL 0 n=List.replicate n 0:=by
 rw [Zca (Dig.zero (n:=n)),ZcM,List.length_replicate]

def tlTo (l:List Nat):Nat→Nat
 | 0=>0
 | n+1=>if dg l n=0 then tlTo l n else n+1
def tl (l:List Nat):Nat:=tlTo l l.length
theorem ZoD (l:List Nat) (n:Nat):tlTo l n≤n:=by
 induction n with
 | zero=>exact Nat.le_refl _
 | succ n ih=>simp only [tlTo];split<;>omega
theorem ZoE (l:List Nat) (n:Nat) {i:Nat} (h:tlTo l n≤i) (hi:i<n):dg l i=0:=by
 induction n with
 | zero=>omega
 | succ n ih=>
  simp only [tlTo] at h
  split at h
  ·rcases Nat.lt_or_ge i n with h1|h1
   ·exact ih h h1
   ·rw [show i=n from by omega];assumption
  ·omega
theorem ZoF (l:List Nat) (n:Nat) (h:tlTo l n≠0):dg l (tlTo l n - 1)≠0:=by
 induction n with
 | zero=>exact absurd rfl h
 | succ n ih=>
  simp only [tlTo] at h ⊢
  split
  ·rename_i h0;rw [if_pos h0] at h;exact ih h
  ·rename_i h0;exact h0
theorem Zcb (l:List Nat):tl l≤l.length:=ZoD _ _
def nt (l:List Nat):List Nat:=l.take (tl l)
theorem Zen (l:List Nat):(nt l).length=tl l:=by unfold nt;rw [List.length_take];have:=Zcb l;omega
theorem Zj4 {l:List Nat} {n i:Nat} (h:i<n):dg (l.take n) i=dg l i:=by
 unfold dg;rw [List.getElem?_take,if_pos h]
theorem Zj5 (l:List Nat) (i:Nat):dg (nt l) i=dg l i:=by
 rcases Nat.lt_or_ge i (tl l) with h|h
 ·exact Zj4 h
 ·rw [Zbj (l:=nt l) (by rw [Zen];exact h)]
  rcases Nat.lt_or_ge i l.length with h1|h1
  ·exact (ZoE l l.length h h1).symm
  ·exact (Zbj h1).symm
theorem Dig.nt {l:List Nat} (h:Dig l):Dig (nt l):=fun x hx=>h x (List.mem_of_mem_take hx)
theorem ZcR (l:List Nat):vL (nt l)=vL l:=by
 rw [←ZbG (nt l) l.length (by rw [Zen];exact Zcb l)]
 exact Zb4 (fun i _=>Zj5 l i)
structure Nrm (l:List Nat):Prop where
 dig:Dig l
 top:l.length≠0→dg l (l.length - 1)≠0
theorem Zct {l:List Nat} (h:Dig l):Nrm (nt l):=⟨h.nt,fun h0=>by
 rw [Zen] at h0 ⊢
 rw [Zj5]
 exact ZoF l l.length h0⟩
theorem Nrm.ge {l:List Nat} (h:Nrm l) (n:Nat) (hn:l.length=n+1):256^n≤vL l:=by
 have h1:=h.top (by omega)
 rw [hn,Nat.add_sub_cancel] at h1
 have h2:=ZgP (f:=dg l) (n:=l.length) (j:=n) (by omega)
 exact Nat.le_trans (Nat.le_mul_of_pos_left _ (Nat.pos_of_ne_zero h1)) h2
theorem Dig.vL_lt {l:List Nat} (h:Dig l):vL l<256^l.length:=h.vlt _
theorem Nrm.short {l m:List Nat} (h:Dig l) (h':Nrm m) (hl:l.length<m.length):vL l<vL m:=by
 obtain ⟨n,hn⟩:∃n,m.length=n+1:=⟨m.length - 1,by omega⟩
 exact Nat.lt_of_lt_of_le h.vL_lt (Nat.le_trans (Nat.pow_le_pow_right (by decide) (by omega)) (h'.ge n hn))
theorem Nrm.ext {l m:List Nat} (h:Nrm l) (h':Nrm m) (hv:vL l=vL m):l=m:=by
 rcases Nat.lt_trichotomy l.length m.length with h1|h1|h1
 ·have:=Nrm.short h.dig h' h1;omega
 ·exact h.dig.ext h'.dig h1 hv
 ·have:=Nrm.short h'.dig h h1;omega
theorem ZoG (v:Nat):v<256^v:=Nat.lt_pow_self (by decide)
def nb (v:Nat):List Nat:=nt (digL v v)
theorem Zeo (v:Nat):vL (nb v)=v:=by unfold nb;rw [ZcR,Zbg (ZoG v)]
theorem Zj6 (v:Nat):Nrm (nb v):=Zct (ZaD _ _)
theorem Zga (v:Nat):Dig (nb v):=(Zj6 v).dig
theorem Zj7 {l:List Nat} (h:Nrm l) {v:Nat} (hv:vL l=v):nb v=l:=(Zj6 v).ext h (by rw [Zeo,hv])
theorem ZhD {l:List Nat} (h:Dig l):nt l=nb (vL l):=(Zj7 (Zct h) (ZcR l)).symm
theorem ZhE {v n:Nat} (h:v<256^n):nt (digL v n)=nb v:=by rw [ZhD (ZaD _ _),Zbg h]
theorem ZhF {v n:Nat} (h:v<256^n):(nb v).length≤n:=by
 rw [←ZhE h,Zen]
 have:=Zcb (digL v n)
 rwa [Zap] at this
theorem ZoH:nb 0=[]:=Zj7 ⟨fun x hx=>absurd hx (List.not_mem_nil),fun h=>absurd rfl h⟩ rfl
theorem ZoI {v:Nat}:(nb v).length=0↔v=0:=by
 constructor
 ·intro h;rw [←Zeo v,List.eq_nil_of_length_eq_zero h];rfl
 ·rintro rfl;rw [ZoH];rfl
theorem Zj8 {v n:Nat} (h:v<256^n):tl (digL v n)=(nb v).length:=by rw [←ZhE h,Zen]
theorem Zfe {l:List Nat} (h:Dig l):tl l=(nb (vL l)).length:=by rw [←ZhD h,Zen]

def cmpN (a b:Nat):Int:=if a<b then -1 else if b<a then 1 else 0
theorem ZoJ (a b:Nat): -1≤cmpN a b∧cmpN a b≤1:=by
 unfold cmpN;split
 ·decide
 ·split<;>decide

structure ChgI (l z:List Nat) (t:Int) (off:Nat) (out:List Nat) (k:Nat) (c:Int):Prop where
 len:out.length=l.length
 dig:Dig out
 lo: -255≤c
 hi:c≤255
 same:∀i,off+k≤i→dg out i=dg l i
 val:(vL out:Int)+c*((256^(off+k):Nat):Int)=(vL l:Int)+t*((256^off*vTo (dg z) k:Nat):Int)
theorem ChgI.begin {l z:List Nat} {t:Int} {off:Nat} (h:Dig l):ChgI l z t off l 0 0:=
 ⟨rfl,h,by decide,by decide,fun _ _=>rfl,by simp [vTo]⟩
theorem Zj9 {t:Int} (h1: -255≤t) (h2:t≤255) {x:Nat} (hx:x<256): -65025≤t*(x:Int)∧t*(x:Int)≤65025:=by
 have hx0:(0:Int)≤(x:Int):=by omega
 have a:=Int.mul_le_mul_of_nonneg_right h2 hx0
 have b:=Int.mul_le_mul_of_nonneg_right h1 hx0
 omega
theorem ChgI.next {l z out:List Nat} {t c x:Int} {off k:Nat} (h:ChgI l z t off out k c) (hz:Dig z) (h1: -255≤t) (h2:t≤255) (hi:off+k<l.length) (hx:x=c+(dg out (off+k):Int)+t*(dg z k:Int)):
  ChgI l z t off (out.set (off+k) (x%256).toNat) (k+1) (x/256):=by
 have b1:=Zj9 h1 h2 (hz.at k)
 have b4:=h.dig.at (off+k)
 have b5:=h.lo
 have b6:=h.hi
 have hl:off+k<out.length:=by rw [h.len];exact hi
 refine ⟨by rw [List.length_set];exact h.len,h.dig.set _ (by omega),by omega,by omega,fun i h3=> ?_, ?_⟩
 ·rw [ZcB hl,if_neg (by omega)];exact h.same i (by omega)
 ·have hs:=ZbO (l:=out) (j:=off+k) (x:=(x%256).toNat) hl
  have hv:=h.val
  rw [←Nat.add_assoc off k 1,Nat.pow_succ]
  simp only [vTo]
  have hq:256^(off+k)=256^off*256^k:=Nat.pow_add _ _ _
  have hs':(vL (out.set (off+k) (x%256).toNat):Int)+(dg out (off+k):Int)*((256^(off+k):Nat):Int)=(vL out:Int)+(x%256)*((256^(off+k):Nat):Int):=by
   have:=congrArg (Int.ofNat) hs
   simp only [Int.ofNat_eq_natCast,Int.natCast_add,Int.natCast_mul] at this
   rw [show (((x%256).toNat:Nat):Int)=x%256 from by omega] at this
   exact this
  have e3:t*((256^off*(vTo (dg z) k+dg z k*256^k):Nat):Int)=t*((256^off*vTo (dg z) k:Nat):Int)+t*(dg z k:Int)*((256^(off+k):Nat):Int):=by
   rw [hq,Nat.mul_add,Int.natCast_add,Int.mul_add]
   congr 1
   simp only [Int.natCast_mul,Int.mul_comm,Int.mul_left_comm,Int.mul_assoc]
  rw [e3]
  have e4:((256^(off+k)*256:Nat):Int)=((256^(off+k):Nat):Int)*256:=Int.natCast_mul _ _
  rw [e4]
  generalize ((256^(off+k):Nat):Int)=P at*
  have e5:x%256*P+x/256*(P*256)=x*P:=by
   have:=Int.emod_add_mul_ediv x 256
   rw [show x/256*(P*256)=256*(x/256)*P from by rw [Int.mul_comm P, ←Int.mul_assoc,Int.mul_comm (x/256)], ←Int.add_mul,this]
  have e6:x*P=c*P+(dg out (off+k):Int)*P+t*(dg z k:Int)*P:=by rw [hx,Int.add_mul,Int.add_mul]
  omega
theorem ZoK {l:List Nat} (h:Dig l) {n:Nat} (ht:∀i,n≤i→dg l i=0):vL l<256^n:=by
 rcases Nat.lt_or_ge n l.length with h1|h1
 ·have:=Zeb (f:=dg l) (n:=n) (m:=l.length) (by omega) ht
  unfold vL
  rw [this]
  exact h.vlt n
 ·exact Nat.lt_of_lt_of_le h.vL_lt (Nat.pow_le_pow_right (by decide) h1)
theorem ZoL {l:List Nat} (h:Dig l) {n i:Nat} (hv:vL l<256^n) (hi:n≤i):dg l i=0:=by
 rw [Zb9 h,Nat.div_eq_of_lt (Nat.lt_of_lt_of_le hv (Nat.pow_le_pow_right (by decide) hi))]
theorem ChgI.room {l z out:List Nat} {t c:Int} {off k n V:Nat} (h:ChgI l z t off out k c) (hl:Dig l) (hk:z.length≤k) (hV:(V:Int)=(vL l:Int)+t*((256^off*vL z:Nat):Int)) (h1:vL l<256^(off+n)) (h2:V<256^(off+n)) (hc:c≠0):k<n:=by
 rcases Nat.lt_or_ge k n with h3|h3
 ·exact h3
 ·exfalso
  have hv:=h.val
  rw [ZbG z k hk, ←hV] at hv
  have hp:256^(off+n)≤256^(off+k):=Nat.pow_le_pow_right (by decide) (by omega)
  have ho:vL out<256^(off+k):=ZoK h.dig (fun i hi=>by
   rw [h.same i hi]
   exact ZoL hl h1 (by omega))
  generalize 256^(off+k)=P at*
  rcases Int.lt_or_gt_of_ne hc with h4|h4
  ·have:=Int.mul_le_mul_of_nonneg_right (show c≤ -1 by omega) (show (0:Int)≤(P:Int) by omega)
   omega
  ·have:=Int.mul_le_mul_of_nonneg_right (show (1:Int)≤c by omega) (show (0:Int)≤(P:Int) by omega)
   omega
theorem ChgI.done {l z out:List Nat} {t:Int} {off k V n:Nat} (h:ChgI l z t off out k 0) (hk:z.length≤k) (hn:l.length=n) (hV:(V:Int)=(vL l:Int)+t*((256^off*vL z:Nat):Int)):out=digL V n:=by
 have hv:=h.val
 rw [ZbG z k hk, ←hV] at hv
 have e:vL out=V:=by omega
 rw [Zca h.dig,e,h.len,hn]

theorem ZoM {v n off len:Nat} (h:off+len≤n):((digL v n).drop off).take len=digL (v/256^off) len:=by
 apply Zdq
 ·rw [List.length_take,List.length_drop,Zap,Zap];omega
 ·intro i
  rcases Nat.lt_or_ge i len with h1|h1
  ·rw [Zj4 h1,Zbk h1]
   unfold dg
   rw [List.getElem?_drop]
   show dg (digL v n) (off+i)=_
   rw [Zbk (by omega),Nat.div_div_eq_div_mul,Nat.pow_add]
  ·rw [Zbj (by rw [List.length_take,List.length_drop];omega),Zbj (by rw [Zap];exact h1)]
theorem ZoN (l:List Nat) (o i:Nat):dg (l.drop o) i=dg l (o+i):=by unfold dg;rw [List.getElem?_drop]
theorem Dig.drop {l:List Nat} (h:Dig l) (o:Nat):Dig (l.drop o):=fun x hx=>h x (List.mem_of_mem_drop hx)
theorem Zgb {l:List Nat} (h:Dig l) (o:Nat):vL (l.drop o)=vL l/256^o:=by
 have e:l.drop o=digL (vL l/256^o) (l.length - o):=by
  apply Zdq
  ·rw [List.length_drop,Zap]
  ·intro i
   rw [ZoN,Zb9 h]
   rcases Nat.lt_or_ge i (l.length - o) with h1|h1
   ·rw [Zbk h1,Nat.div_div_eq_div_mul,Nat.pow_add]
   ·rw [←Zb9 h,Zbj (l:=digL _ _) (by rw [Zap];exact h1),Zbj (by omega)]
 rw [e,Zbg]
 rw [Nat.div_lt_iff_lt_mul (ZbR o), ←Nat.pow_add]
 exact Nat.lt_of_lt_of_le h.vL_lt (Nat.pow_le_pow_right (by decide) (by omega))

theorem ZoO {P M L q:Nat} (hL:0<L) (hM:281474976710656≤M/L) (hP:P<256*M) (hq:q=(P/L)/(M/L+1)):q*M≤P∧P<(q+2)*M∧q≤255:=by
 have hp1:=Nat.div_add_mod P L
 have hp2:=Nat.mod_lt P hL
 have hm1:=Nat.div_add_mod M L
 have hm2:=Nat.mod_lt M hL
 have hd1:=Nat.div_add_mod (P/L) (M/L+1)
 have hd2:=Nat.mod_lt (P/L) (Nat.succ_pos (M/L))
 rw [←hq] at hd1
 generalize P/L/(M/L+1)=qq at*
 generalize hA:P/L=A at*
 generalize hB:M/L=B at*
 generalize A%(B+1)=r at*
 generalize P%L=p at*
 generalize M%L=m at*
 -- P = L*A + p, M = L*B + m, A = (B+1)*q + r
 have e1:q*M≤P:=by
  have h1:M≤L*(B+1):=by rw [Nat.mul_add,Nat.mul_one];omega
  have h2:q*M≤q*(L*(B+1)):=Nat.mul_le_mul_left _ h1
  have h3:q*(L*(B+1))=L*((B+1)*q):=by rw [Nat.mul_comm q,Nat.mul_assoc]
  have h4:L*((B+1)*q)≤L*A:=Nat.mul_le_mul_left _ (by omega)
  omega
 have e2:q≤255:=by
  rcases Nat.lt_or_ge q 256 with h|h
  ·omega
  ·have:=Nat.mul_le_mul_right M h;omega
 refine ⟨e1, ?_,e2⟩
 -- P < L*(A+1) ≤ L*((B+1)*q + B + 1) ; (q+2)*M ≥ (q+2)*L*B
 have h1:A+1≤(q+2)*B:=by
  have:(B+1)*q=B*q+q:=by rw [Nat.add_mul,Nat.one_mul]
  have h5:(q+2)*B=B*q+2*B:=by rw [Nat.add_mul,Nat.mul_comm q]
  omega
 have h2:L*(A+1)≤L*((q+2)*B):=Nat.mul_le_mul_left _ h1
 have h3:L*((q+2)*B)=(q+2)*(L*B):=Nat.mul_left_comm _ _ _
 have h4:(q+2)*(L*B)≤(q+2)*M:=Nat.mul_le_mul_left _ (by omega)
 rw [Nat.mul_add,Nat.mul_one] at h2
 omega
theorem ZoP {P M q:Nat} (hP:P<256*M) (hq:q=P/M):q*M≤P∧P<(q+2)*M∧q≤255:=by
 subst hq
 have hM:0<M:=by omega
 have h1:=Nat.div_add_mod P M
 have h2:=Nat.mod_lt P hM
 have h3:P/M<256:=by rw [Nat.div_lt_iff_lt_mul hM];exact hP
 refine ⟨Nat.div_mul_le_self _ _, ?_,by omega⟩
 rw [Nat.add_mul,Nat.mul_comm (P/M)]
 omega
theorem Zka {R M D q:Nat} (hq:q*(M*D)≤R) (hr:R - q*(M*D)<M*D):R - q*(M*D)=R%(M*D):=by
 generalize M*D=N at*
 generalize hx:R - q*N=x at*
 have e:R=x+N*q:=by rw [Nat.mul_comm];omega
 rw [e,Nat.add_mul_mod_self_left,Nat.mod_eq_of_lt hr]
theorem ZoQ (A M K:Nat):A%(M*256^(K+1))%(M*256^K)=A%(M*256^K):=
 Nat.mod_mod_of_dvd _ ⟨256,by rw [Nat.pow_succ,Nat.mul_assoc]⟩
theorem ZoR {a m:List Nat} (ha:Dig a) (hm:Nrm m) (h0:m.length≠0) {K:Nat} (hK:a.length+1≤m.length+K):vL a%(vL m*256^K)=vL a:=by
 apply Nat.mod_eq_of_lt
 obtain ⟨n,hn⟩:∃n,m.length=n+1:=⟨m.length - 1,by omega⟩
 have h1:=hm.ge n hn
 have h2:256^n*256^K≤vL m*256^K:=Nat.mul_le_mul_right _ h1
 rw [←Nat.pow_add] at h2
 exact Nat.lt_of_lt_of_le ha.vL_lt (Nat.le_trans (Nat.pow_le_pow_right (by decide) (by omega)) h2)
end Go.Proofs.YtcaloldcihpkfaaGreatDoor.N

/-
 The code of layer 15 (nums), as it landed: trim, Norm.
-/
namespace Go.Proofs.YtcaloldcihpkfaaGreatDoor.N
open Go.RowKit
set_option linter.unusedVariables false
set_option maxRecDepth 8192

theorem Zbx {B:Nat} {a w:World} (h:Below B a w) (n:Nat):Below B a (w.drewN n):=⟨h.os,h.tape,h.output,h.size,h.block⟩
theorem ZoS {P:Program} {f:FuncId} {args:Array Value} {w:World} {m n:Nat} {v:Value}
  (h:Calls P f args (w.drewN (m+n)) fun e w'=>e= .returned v∧w.drewN (m+n)=w'):Calls P f args (w.drewN (m+n)) fun e w''=>e= .returned v∧∃n,w''=w.drewN (m+n):=
 h.mono fun _ _ ⟨he,hm⟩=>⟨he,n,hm.symm⟩
def Arr (w:World) (g:Nat) (T:TypeId) (k:IntKind) (zs:List Int):Prop:=w.heap[g]? =some (.cells (zs.map (Value.int k)).toArray T (0,0))
theorem Arr.lt {w:World} {g:Nat} {T:TypeId} {k:IntKind} {zs:List Int} (h:Arr w g T k zs):g<w.heap.size:=by
 unfold Arr at h
 rcases Nat.lt_or_ge g w.heap.size with h'|h'
 ·exact h'
 ·rw [Array.getElem?_eq_none h'] at h;simp at h
theorem Arr.cell {w:World} {g:Nat} {T:TypeId} {k:IntKind} {zs:List Int} (h:Arr w g T k zs) (i:Nat) (hi:i<zs.length):w.cell? ⟨g,i,none⟩=some (.int k (zs[i]?.getD 0)):=by
 rw [cell_of_row w g i _ T (0,0) h]
 simp [List.getElem?_map,List.getElem?_eq_getElem hi]
theorem Arr.unfrozen {w:World} {g:Nat} {T:TypeId} {k:IntKind} {zs:List Int} (h:Arr w g T k zs) (i:Nat):w.frozen? ⟨g,i,none⟩=false:=by
 unfold Arr at h;simp [World.frozen?,h]
theorem Arr.below {w w':World} {g B:Nat} {T:TypeId} {k:IntKind} {zs:List Int} (h:Arr w g T k zs) (hb:Below B w w') (hg:g<B):Arr w' g T k zs:=by
 unfold Arr;rw [hb.block g hg];exact h
theorem Arr.own {w:World} {g:Nat} {T:TypeId} {k:IntKind} {zs:List Int} (h:Arr w g T k zs) (hm:zs.length≤maxLen):w.ownsRow g T 1 (.slice (some ⟨g,0,none⟩) zs.length zs.length) zs.length (zs.map (Value.int k)):=
 Zjp h (by simp) (Nat.le_refl _) hm
theorem Arr.set {w:World} {g:Nat} {T:TypeId} {k:IntKind} {zs:List Int} (h:Arr w g T k zs) (hm:zs.length≤maxLen) (i:Nat) (x:Int):Arr (w.setCell ⟨g,i,none⟩ (.int k x)) g T k (zs.set i x):=by
 have h1:=((h.own hm).stored i (.int k x)).1
 rw [←List.map_set] at h1
 exact Ze0 h1
theorem Arr.win {w:World} {g:Nat} {T:TypeId} {k:IntKind} {zs:List Int} (h:Arr w g T k zs) (off len cap:Nat) (hl:off+len≤zs.length) (hc:len≤cap) (hm:cap≤maxLen):Row k w (some ⟨g,off,none⟩) len cap ((zs.drop off).take len):=by
 refine ⟨by rw [List.length_take,List.length_drop];omega,hc,hm,by simp,fun h0=>⟨g,off,rfl,h.lt,fun i hi=> ?_⟩⟩
 rw [h.cell (off+i) (by omega),List.getElem?_take,if_pos hi,List.getElem?_drop]
theorem Zdr {k:IntKind} {w:World} {a:Option Addr} {len cap:Nat} {zs:List Int} (h:Row k w a len cap zs) (n:Nat) (hn:n≤len):Row k w a n cap (zs.take n):=by
 have hl:=h.hlen
 have hc:=h.hcap
 refine ⟨by simp;omega,by omega,h.hmax,h.hnil,fun h0=> ?_⟩
 obtain ⟨b,off,rfl,hbs,hcell⟩:=h.hcell (by omega)
 refine ⟨b,off,rfl,hbs,fun i hi=> ?_⟩
 rw [hcell i (by omega),List.getElem?_take,if_pos hi]
theorem Zep {k:IntKind} {w:World} {b off len cap:Nat} {zs:List Int} (h:Row k w (some ⟨b,off,none⟩) len cap zs) (n:Nat) (hn:n≤len):Row k w (some ⟨b,off+n,none⟩) (len - n) (cap - n) (zs.drop n):=by
 have hl:=h.hlen
 have hc:=h.hcap
 have hm:=h.hmax
 refine ⟨by simp;omega,by omega,by omega,by simp,fun h0=> ?_⟩
 obtain ⟨b',off',he,hbs,hcell⟩:=h.hcell (by omega)
 simp only [Option.some.injEq,Addr.mk.injEq,and_true] at he
 obtain ⟨rfl,rfl⟩:=he
 refine ⟨b,off+n,rfl,hbs,fun i hi=> ?_⟩
 rw [Nat.add_assoc,hcell (n+i) (by omega),List.getElem?_drop]
theorem Zcu {w:World} {a:Option Addr} {len cap:Nat} {z:List Nat} (h:Row .u8 w a len cap (nI z)):Row .u8 w a (tl z) cap (nI (nt z)):=by
 have hl:=h.hlen
 rw [Zaa] at hl
 have:=Zdr h (tl z) (by have:=Zcb z;omega)
 rwa [ZcC] at this
def ZbS (w:World) (z:List Nat) (e:Ending) (w':World):Prop:=
 ∃a cap,e= .returned (.slice a z.length cap)∧Row .u8 w' a z.length cap (nI z)∧Below w.heap.size w w'
def ZhG (w:World) (z:List Nat) (n:Int) (e:Ending) (w':World):Prop:=
 ∃a cap,e= .returned (.tuple #[.slice a z.length cap, .int .i64 n])∧Row .u8 w' a z.length cap (nI z)∧Below w.heap.size w w'
theorem ZhH {P:Program} {k:IntKind} {w0 w:World} {B g n len cap:Nat} {dT elem ty:TypeId} {a:Option Addr} {z:List Int} (hu:P.underlying dT=some (.slice elem)) (hsz:(P.info? elem).map (·.size)=some 1)
  (hg:w.heap[g]? =some (.cells ((List.replicate n (0:Int)).map (Value.int k)).toArray elem (0,0))) (hle:len≤n) (hr:Row k w a len cap z) (hb:Below B w0 w) (hB:B≤g):
  ∃w2,Sem.run P (Builtin.copy_ #[dT,dT] ty #[.slice (some ⟨g,0,none⟩) n n, .slice a len cap]) w= .ok (.int .i64 len) w2∧w2.heap[g]? =some (.cells ((z++List.replicate (n - len) 0).map (Value.int k)).toArray elem (0,0))∧Below B w0 w2:=by
 have hl:=hr.hlen
 by_cases h0:len=0
 ·subst h0
  have hz:z=[]:=List.eq_nil_of_length_eq_zero hl
  refine ⟨w, ?_, ?_,hb⟩
  ·exact run_copy_none (P:=P) w dT dT ty elem _ a n n 0 cap hu hsz (by simp)
  ·rw [hg,hz]
   simp
 ·obtain ⟨b,off,rfl,hbs,hcell⟩:=hr.hcell (by omega)
  have hrun:=run_copy_row (P:=P) w dT dT ty elem g 0 n n ⟨b,off,none⟩ len cap ((List.replicate n (0:Int)).map (Value.int k)).toArray elem (z.map (Value.int k)) hu hsz hg (by rw [List.length_map,hl];exact (Nat.min_eq_left hle).symm) (Zc0 hl hcell) (by simp;omega) (ints_oneCell _ _)
  have e1:((((List.replicate n (0:Int)).map (Value.int k)).toArray.toList.take 0)++z.map (Value.int k)++((List.replicate n (0:Int)).map (Value.int k)).toArray.toList.drop (0+(z.map (Value.int k)).length))=(z++List.replicate (n - len) 0).map (Value.int k):=by
   simp [hl]
  rw [e1] at hrun
  refine ⟨_, ?_,setRow_heap w g _ _ elem _ hg,below_setRow hb hB _⟩
  rw [hrun]
  simp [goInt,hl]
theorem ZhI {z:List Nat} (h:Dig z) (n:Nat):nI z++List.replicate n 0=nI (digL (vL z) (z.length+n)):=by
 have e:z++List.replicate n 0=digL (vL z) (z.length+n):=by
  apply Zdq
  ·rw [List.length_append,List.length_replicate,Zap]
  ·intro i
   rcases Nat.lt_or_ge i z.length with h1|h1
   ·rw [Zbk (by omega), ←Zb9 h]
    unfold dg
    rw [List.getElem?_append_left h1]
   ·have e1:dg (z++List.replicate n 0) i=0:=by
     unfold dg
     rw [List.getElem?_append_right h1,List.getElem?_replicate]
     split<;>rfl
    rw [e1]
    rcases Nat.lt_or_ge i (z.length+n) with h2|h2
    ·rw [Zbk h2, ←Zb9 h,Zbj h1]
    ·rw [Zbj (by rw [Zap];exact h2)]
 rw [←e,ZbY]
 simp [nI]
theorem Zff {w w1:World} {T:TypeId} {n:Nat} (h1:w1.ownsRow w.heap.size T 1 (.slice (some ⟨w.heap.size,0,none⟩) n n) n (madeCells (Value.int IntKind.u8 0).cells (n*1)).toList) (h2:w.grownBy w1 none):
  Arr w1 w.heap.size T .u8 (List.replicate n 0)∧Below w.heap.size w w1:=by
 refine ⟨?_,(Below.refl _ _).grown h2 (Nat.le_refl _) (by simp)⟩
 rw [ZfP] at h1
 exact Ze0 h1
theorem Arr.nb {w w1:World} {g:Nat} {T:TypeId} {v n:Nat} (h:Arr w g T .u8 (nI (digL v n))) (hv:v<256^n) (hn:n≤1000000):Row .u8 w (some ⟨g,0,none⟩) (nb v).length n (nI (nb v)):=by
 have:=Zcu (z:=digL v n) (by
  have:=h.win 0 n n (by rw [Zaa,Zap];omega) (Nat.le_refl _) (by unfold maxLen;omega)
  rwa [List.drop_zero,List.take_of_length_le (by rw [Zaa,Zap];exact Nat.le_refl _)] at this)
 rwa [Zj8 hv,ZhE hv] at this

set_option maxHeartbeats 800000 in
theorem ZcS (z:List Nat) (a:Option Addr) (len cap:Nat) (w:World) (hr:Row .u8 w a len cap (nI z)) (hsm:len≤1000000):
  Calls Tryz.prog 118 #[.slice a len cap] w fun e w'=>e= .returned (.slice a (tl z) cap)∧w=w':=by
 have HL:Hid (z.length=len):=by have:=hr.hlen;rwa [Zaa] at this
 have hm:=hr.hmax
 have hc:=hr.hcap
 unfold maxLen at hm
 go_enter Tryz.func118,Tryz.ntmps118
 go_wp2
 go_loop [3] (fun y=>∃k:Nat,k≤len∧y= .int .i64 (k:Int)∧Hid (tlTo z k=tl z)) (fun y=>(intOf y).toNat)
 case atStart=>exact ⟨len,Nat.le_refl _,rfl,by show _=_;unfold tl;rw [HL.out]⟩
 case round=>
  obtain ⟨k,hk,rfl,HZ⟩:=hrel
  by_cases h0:k=0
  ·subst h0
   have HT:Hid (tl z=0):=HZ.out.symm
   go_wp2
   go_ret
   exact ⟨by rw [HT.out];rfl,rfl⟩
  ·obtain ⟨b,off,rfl,hbs,hcell⟩:=hr.hcell (by omega)
   have hc1:=hcell (k - 1) (by omega)
   rw [ZbB] at hc1
   have HS:Hid (tlTo z k=if dg z (k - 1)=0 then tlTo z (k - 1) else k):=by
    obtain ⟨m,rfl⟩:∃m,k=m+1:=⟨k - 1,by omega⟩
    rfl
   clear hcell
   have e1:((k:Int) - 1).toNat=k - 1:=by omega
   have e2:(0:Int)≤(k:Int) - 1:=by omega
   have e3:(k:Int) - 1<(len:Int):=by omega
   by_cases hv:dg z (k - 1)=0
   ·have HT:Hid (tlTo z (k - 1)=tl z):=by
     show _=_
     rw [←HZ.out,HS.out,if_pos hv]
    have hq:(((dg z (k - 1):Nat):Int)==0)=true:=by simp [hv]
    clear hv HS HZ
    generalize dg z (k - 1)=d at*
    go_wp2
    go_round
    case rel=>exact ⟨k - 1,by omega,by go_num,HT⟩
    case measure=>simp [intOf];omega
   ·have HT:Hid (k=tl z):=by
     show _=_
     rw [←HZ.out,HS.out,if_neg hv]
    have hq:(((dg z (k - 1):Nat):Int)==0)=false:=by simp [hv]
    clear hv HS HZ
    generalize dg z (k - 1)=d at*
    go_wp2
    go_ret
    exact ⟨by rw [←HT.out];rfl,rfl⟩

set_option maxHeartbeats 800000 in
theorem ZoT (z:List Nat) (dz:Dig z) (a:Option Addr) (len cap:Nat) (w:World) (hr:Row .u8 w a len cap (nI z)) (hsm:len≤1000000):
  Calls Tryz.prog 184 #[.slice a len cap] w fun e w'=>e= .returned (.slice (some ⟨w.heap.size,0,none⟩) (nb (vL z)).length (nb (vL z)).length)∧Arr w' w.heap.size 5 .u8 (nI (digL (vL z) (nb (vL z)).length))∧Below w.heap.size w w':=by
 obtain ⟨i0,hi0,hz0,hz1,hz2⟩:=info_parts Tryz.info5
 have hl:=hr.hlen
 rw [Zaa] at hl
 have hr2:=Zcu hr
 rw [Zfe dz,ZhD dz] at hr2
 have hln:(nb (vL z)).length≤1000000:=by rw [←Zfe dz];have:=Zcb z;omega
 have HE:Hid (digL (vL z) (nb (vL z)).length=nb (vL z)):=by
  show _=_
  have:=Zca (Zga (vL z))
  rw [Zeo] at this
  exact this.symm
 have hT:=ZcS z a len cap w hr hsm
 rw [Zfe dz] at hT
 obtain ⟨n,hn⟩:∃n,(nb (vL z)).length=n:=⟨_,rfl⟩
 rw [hn] at hr2 hln hT HE ⊢
 have hmax:n≤maxLen:=by unfold maxLen;omega
 go_enter Tryz.func184,Tryz.ntmps184
 go_wp2_with fail
 refine hT.mono ?_
 rintro e w' ⟨rfl,rfl⟩
 clear hT
 go_wp2_with (at_make;refine wpList_make_full _ rfl _ _ 28 rfl w.heap.size 5 i0 (.int .u8 0) 1 Tryz.underlying28 hi0 hz0 hz1 _ _ _ _ n rfl rfl rfl rfl (by rw [hz2];omega) hmax (Nat.le_refl _) ?_;intro w1 hown1 hgrow1)
 obtain ⟨A1,q1⟩:=Zff hown1 hgrow1
 clear hown1 hgrow1
 obtain ⟨w2,hrun,hg2,q2⟩:=Znq (P:=Tryz.prog) (dT:=28) (elem:=5) (ty:=3) (cap:=cap) (a:=a) Tryz.underlying28 (by kernel_rfl) A1 (by simp) (hr2.below q1 (Nat.le_refl _)) q1 (Nat.le_refl _)
 rw [hrun]
 clear hrun A1 q1 hr2 hr
 have A2:Arr w2 w.heap.size 5 .u8 (nI (digL (vL z) n)):=by rw [HE.out];exact hg2
 clear hg2
 go_wp2
 go_ret
 exact ⟨rfl,A2,q2⟩
theorem ZoU (z:List Nat) (dz:Dig z) (a:Option Addr) (len cap:Nat) (w:World) (hr:Row .u8 w a len cap (nI z)) (hsm:len≤1000000):
  Calls Tryz.prog 184 #[.slice a len cap] w (ZbS w (nb (vL z))):=by
 have hl:=hr.hlen
 rw [Zaa] at hl
 have hln:(nb (vL z)).length≤1000000:=by rw [←Zfe dz];have:=Zcb z;omega
 refine (ZoT z dz a len cap w hr hsm).mono ?_
 rintro e w' ⟨rfl,A,q⟩
 have hlt:vL z<256^(nb (vL z)).length:=by have:=(Zga (vL z)).vL_lt;rwa [Zeo] at this
 exact ⟨_,_,rfl,A.nb (w1:=w) hlt hln,q⟩
end Go.Proofs.YtcaloldcihpkfaaGreatDoor.N

/-
 The code of layer 15 (nums), as it landed: Cmp.
-/
namespace Go.Proofs.YtcaloldcihpkfaaGreatDoor.N
open Go.RowKit
set_option linter.unusedVariables false
set_option maxRecDepth 8192

def cmpI (x y:Int):Int:=if x<y then -1 else if y<x then 1 else 0
theorem Zkb (a b:Nat):cmpI (a:Int) (b:Int)=cmpN a b:=by
 unfold cmpI cmpN
 simp only [Int.ofNat_lt]
theorem ZhJ (x:Int) (w:World):Calls Tryz.prog 159 #[.int .i64 x] w fun e w'=>e= .returned (.bool false)∧w=w':=by
 go_enter Tryz.func159,Tryz.ntmps159
 go_wp2
 go_ret
 exact ⟨ZaC (by simp),rfl⟩
theorem ZoV (x y:Int) (w:World):Calls Tryz.prog 119 #[.int .i64 x, .int .i64 y] w fun e w'=>e= .returned (.int .i64 (cmpI x y))∧w=w':=by
 by_cases h1:x<y
 ·have hc:Hid (cmpI x y= -1):=by show _=_;unfold cmpI;rw [if_pos h1]
  go_enter Tryz.func119,Tryz.ntmps119
  go_wp2_with (go_at_call 159;refine (ZhJ _ _).mono ?_;rintro e w' ⟨rfl,rfl⟩)
  go_ret
  exact ⟨Zbo hc.out.symm,rfl⟩
 ·by_cases h2:y<x
  ·have hc:Hid (cmpI x y=1):=by show _=_;unfold cmpI;rw [if_neg h1,if_pos h2]
   go_enter Tryz.func119,Tryz.ntmps119
   go_wp2_with (go_at_call 159;refine (ZhJ _ _).mono ?_;rintro e w' ⟨rfl,rfl⟩)
   go_ret
   exact ⟨Zbo hc.out.symm,rfl⟩
  ·have hc:Hid (cmpI x y=0):=by show _=_;unfold cmpI;rw [if_neg h1,if_neg h2]
   go_enter Tryz.func119,Tryz.ntmps119
   go_wp2_with (go_at_call 159;refine (ZhJ _ _).mono ?_;rintro e w' ⟨rfl,rfl⟩)
   go_ret
   exact ⟨Zbo hc.out.symm,rfl⟩
theorem ZhK (x:Int) (w:World):Calls Tryz.prog 160 #[.int .u8 x] w fun e w'=>e= .returned (.bool false)∧w=w':=by
 go_enter Tryz.func160,Tryz.ntmps160
 go_wp2
 go_ret
 exact ⟨ZaC (by simp),rfl⟩
theorem ZoW (x y:Int) (w:World):Calls Tryz.prog 120 #[.int .u8 x, .int .u8 y] w fun e w'=>e= .returned (.int .i64 (cmpI x y))∧w=w':=by
 by_cases h1:x<y
 ·have hc:Hid (cmpI x y= -1):=by show _=_;unfold cmpI;rw [if_pos h1]
  go_enter Tryz.func120,Tryz.ntmps120
  go_wp2_with (go_at_call 160;refine (ZhK _ _).mono ?_;rintro e w' ⟨rfl,rfl⟩)
  go_ret
  exact ⟨Zbo hc.out.symm,rfl⟩
 ·by_cases h2:y<x
  ·have hc:Hid (cmpI x y=1):=by show _=_;unfold cmpI;rw [if_neg h1,if_pos h2]
   go_enter Tryz.func120,Tryz.ntmps120
   go_wp2_with (go_at_call 160;refine (ZhK _ _).mono ?_;rintro e w' ⟨rfl,rfl⟩)
   go_ret
   exact ⟨Zbo hc.out.symm,rfl⟩
  ·have hc:Hid (cmpI x y=0):=by show _=_;unfold cmpI;rw [if_neg h1,if_neg h2]
   go_enter Tryz.func120,Tryz.ntmps120
   go_wp2_with (go_at_call 160;refine (ZhK _ _).mono ?_;rintro e w' ⟨rfl,rfl⟩)
   go_ret
   exact ⟨Zbo hc.out.symm,rfl⟩
theorem ZoX {a b:List Nat} (ha:Nrm a) (hb:Nrm b) (h:a.length≠b.length):cmpN a.length b.length=cmpN (vL a) (vL b):=by
 unfold cmpN
 rcases Nat.lt_trichotomy a.length b.length with h1|h1|h1
 ·rw [if_pos h1,if_pos (Nrm.short ha.dig hb h1)]
 ·exact absurd h1 h
 ·have:=Nrm.short hb.dig ha h1
  rw [if_neg (by omega),if_pos h1,if_neg (by omega),if_pos this]
theorem ZoY {a b:List Nat} {n i:Nat} (ha:Dig a) (hb:Dig b) (hla:a.length=n) (hlb:b.length=n) (hi:i<n) (h:∀j,i<j→j<n→dg a j=dg b j) (hne:dg a i≠dg b i):cmpN (dg a i) (dg b i)=cmpN (vL a) (vL b):=by
 have h1:=Zec (f:=dg a) (g:=dg b) hi ha.at hb.at h hne
 have h2:=Zec (f:=dg b) (g:=dg a) hi hb.at ha.at (fun j x y=>(h j x y).symm) (fun e=>hne e.symm)
 rw [ZbG a n (by omega),ZbG b n (by omega)] at h1
 rw [ZbG a n (by omega),ZbG b n (by omega)] at h2
 unfold cmpN
 simp only [h1,h2]
set_option maxHeartbeats 1600000 in
theorem ZoZ (a b:List Nat) (aa ab:Option Addr) (n m ca cb:Nat) (la lb ca' cb':Nat) (w:World) (na:Nrm a) (nb':Nrm b) (ra:Row .u8 w aa n ca (nI a)) (rb:Row .u8 w ab m cb (nI b)) (hn:n≤1000000) (hm:m≤1000000)
  (hTa:Calls Tryz.prog 118 #[.slice aa la ca'] w fun e w'=>e= .returned (.slice aa n ca)∧w=w')
  (hTb:Calls Tryz.prog 118 #[.slice ab lb cb'] w fun e w'=>e= .returned (.slice ab m cb)∧w=w'):
  Calls Tryz.prog 77 #[.slice aa la ca', .slice ab lb cb'] w fun e w'=>e= .returned (.int .i64 (cmpN (vL a) (vL b)))∧Below w.heap.size w w':=by
 have HLa:Hid (a.length=n):=by have:=ra.hlen;rwa [Zaa] at this
 have HLb:Hid (b.length=m):=by have:=rb.hlen;rwa [Zaa] at this
 by_cases hne:n=m
 case neg=>
  have HC:Hid (cmpI (n:Int) (m:Int)=cmpN (vL a) (vL b)):=by
   show _=_
   rw [Zkb, ←HLa.out, ←HLb.out]
   exact ZoX na nb' (by rw [HLa.out,HLb.out];exact hne)
  have hq:((n:Int) != (m:Int))=true:=by simp;omega
  go_enter Tryz.func77,Tryz.ntmps77
  go_wp2_with fail
  refine hTa.mono ?_
  rintro e w' ⟨rfl,rfl⟩
  go_wp2_with fail
  refine hTb.mono ?_
  rintro e w' ⟨rfl,rfl⟩
  go_wp2_with fail
  refine (ZoV _ _ _).mono ?_
  rintro e w' ⟨rfl,rfl⟩
  go_wp2_with fail
  go_ret
  exact ⟨Zbo HC.out,Below.refl _ _⟩
 subst hne
 go_enter Tryz.func77,Tryz.ntmps77
 go_wp2_with fail
 refine hTa.mono ?_
 rintro e w' ⟨rfl,rfl⟩
 go_wp2_with fail
 refine hTb.mono ?_
 rintro e w' ⟨rfl,rfl⟩
 clear hTa hTb
 go_wp2_with fail
 go_loopw [5] (fun y wr=>∃k:Nat,k≤n∧y= .int .i64 ((k:Int) - 1)∧Hid (∀j,k≤j→j<n→dg a j=dg b j)∧Hid (Below w.heap.size w wr)) (fun y _=>(intOf y+1).toNat)
 case atStart=>exact ⟨n,Nat.le_refl _,by go_num,fun j h1 h2=>by omega,Below.refl _ _⟩
 case round=>
  obtain ⟨k,hk,rfl,HE,HB⟩:=hrel
  replace ra:=ra.below HB.out (Nat.le_refl _)
  replace rb:=rb.below HB.out (Nat.le_refl _)
  by_cases h0:k=0
  ·subst h0
   have HF:Hid (cmpN (vL a) (vL b)=0):=by
    show _=_
    have:a=b:=Zdq (by rw [HLa.out,HLb.out]) (fun i=>by
     rcases Nat.lt_or_ge i n with h|h
     ·exact HE.out i (Nat.zero_le _) h
     ·rw [Zbj (by rw [HLa.out];exact h),Zbj (by rw [HLb.out];exact h)])
    rw [this]
    unfold cmpN
    simp
   go_wp2
   go_ret
   exact ⟨Zbo HF.out.symm,HB.out⟩
  ·have hto:((k:Int) - 1).toNat=k - 1:=by omega
   have hk0:(0:Int)≤(k:Int) - 1:=by omega
   have hk1:(k:Int) - 1<(n:Int):=by omega
   obtain ⟨b1,o1,rfl,hb1,hc1⟩:=ra.hcell (by omega)
   have hd1:=hc1 (k - 1) (by omega)
   clear hc1
   rw [ZbB] at hd1
   obtain ⟨b2,o2,rfl,hb2,hc2⟩:=rb.hcell (by omega)
   have hd2:=hc2 (k - 1) (by omega)
   clear hc2
   rw [ZbB] at hd2
   by_cases hxy:dg a (k - 1)=dg b (k - 1)
   ·have HG:Hid (∀j,k - 1≤j→j<n→dg a j=dg b j):=fun j h1 h2=>by
     by_cases e:j=k - 1
     ·rw [e];exact hxy
     ·exact HE.out j (by omega) h2
    rw [hxy] at hd1
    clear HE hxy
    generalize dg b (k - 1)=y at*
    go_wp2_with fail
    go_quiet (fail)
    go_wp2
    go_roundw
    case rel=>exact ⟨k - 1,by omega,by go_num,HG,Zbx HB.out _⟩
    case measure=>simp [intOf];omega
   ·have HG:Hid (cmpI ((dg a (k - 1):Nat):Int) ((dg b (k - 1):Nat):Int)=cmpN (vL a) (vL b)):=by
     show _=_
     rw [Zkb]
     exact ZoY na.dig nb'.dig HLa.out HLb.out (by omega) (fun j h1 h2=>HE.out j (by omega) h2) hxy
    have hq:(((dg a (k - 1):Nat):Int) != ((dg b (k - 1):Nat):Int))=true:=by simp;omega
    clear HE hxy
    generalize dg a (k - 1)=x at*
    generalize dg b (k - 1)=y at*
    go_wp2_with fail
    go_quiet (fail)
    go_wp2_with fail
    go_quiet (first|(go_at_call 120;with_reducible exact ZoS (ZoW _ _ _)))
    go_wp2
    go_ret
    exact ⟨Zbo HG.out,by first|exact Zbx HB.out _|exact Zbx (Zbx HB.out _) _⟩
theorem Zkc (a b:List Nat) (aa ab:Option Addr) (la ca lb cb:Nat) (w:World) (da:Dig a) (db:Dig b) (ra:Row .u8 w aa la ca (nI a)) (rb:Row .u8 w ab lb cb (nI b)) (hla:la≤1000000) (hlb:lb≤1000000):
  Calls Tryz.prog 77 #[.slice aa la ca, .slice ab lb cb] w fun e w'=>e= .returned (.int .i64 (cmpN (vL a) (vL b)))∧Below w.heap.size w w':=by
 have h1:=ra.hlen
 have h2:=rb.hlen
 rw [Zaa] at h1 h2
 rw [←ZcR a, ←ZcR b]
 exact ZoZ (nt a) (nt b) aa ab (tl a) (tl b) ca cb la lb ca cb w (Zct da) (Zct db) (Zcu ra) (Zcu rb) (by have:=Zcb a;omega) (by have:=Zcb b;omega) (ZcS a aa la ca w ra hla) (ZcS b ab lb cb w rb hlb)
end Go.Proofs.YtcaloldcihpkfaaGreatDoor.N

/-
 The code of layer 15 (nums), as it landed: change, word.
-/
namespace Go.Proofs.YtcaloldcihpkfaaGreatDoor.N
open Go.RowKit
set_option linter.unusedVariables false
set_option maxRecDepth 8192

set_option maxHeartbeats 1600000 in
theorem Zfg (U V n off len cap blen bcap:Nat) (t:Int) (z:List Nat) (ba:Option Addr) (T:TypeId) (g:Nat) (w0 w:World) (hA:Arr w g T .u8 (nI (digL U n))) (hr:Row .u8 w0 ba blen bcap (nI z)) (hq:Below g w0 w) (hg:w0.heap.size≤g)
  (dz:Dig z) (h1: -255≤t) (h2:t≤255) (hV:(V:Int)=(U:Int)+t*((256^off*vL z:Nat):Int)) (hU1:U<256^(off+len)) (hV1:V<256^(off+len)) (hbl:blen≤len) (hln:off+len≤n) (hn:n≤1000000):
  Calls Tryz.prog 185 #[.slice (some ⟨g,off,none⟩) len cap, .slice ba blen bcap, .int .i64 t] w fun e w'=>e= .returned (.tuple #[])∧Arr w' g T .u8 (nI (digL V n))∧Below g w w':=by
 have HLz:Hid (z.length=blen):=by have:=hr.hlen;rwa [Zaa] at this
 have hUn:U<256^n:=Nat.lt_of_lt_of_le hU1 (Nat.pow_le_pow_right (by decide) hln)
 have HVU:Hid (vL (digL U n)=U):=Zbg hUn
 have HV:Hid ((V:Int)=(vL (digL U n):Int)+t*((256^off*vL z:Nat):Int)):=by show _=_;rw [HVU.out];exact hV
 have HU1:Hid (vL (digL U n)<256^(off+len)):=by show _<_;rw [HVU.out];exact hU1
 have HV1:Hid (V<256^(off+len)):=hV1
 have HDL:Hid ((digL U n).length=n):=Zap U n
 have HDD:Hid (Dig (digL U n)):=ZaD U n
 clear hV hU1 hV1 hUn HVU
 generalize digL U n=l at*
 go_enter Tryz.func185,Tryz.ntmps185
 go_wp2
 go_loopw [6,12] (fun c y wr=>∃(k:Nat) (cc:Int) (out:List Nat),k≤blen∧y= .int .i64 (k:Int)∧c= .int .i64 cc∧Hid (ChgI l z t off out k cc)∧Hid (Arr wr g T .u8 (nI out))∧Hid (Below g w wr)) (fun _ y _=>blen - (intOf y).toNat)
 case atStart=>exact ⟨0,0,l,Nat.zero_le _,rfl,rfl,ChgI.begin HDD.out,hA,Below.refl _ _⟩
 case round=>
  clear hA
  obtain ⟨k,c,out,hk,rfl,rfl,HC,HA,HB⟩:=hrel
  have hlo:=HC.out.lo
  have hhi:=HC.out.hi
  by_cases hlt:k<blen
  ·have hin:off+k<n:=by omega
   obtain ⟨bB,oB,rfl,hbB,hcB⟩:=(hr.below (hq.trans HB.out) hg).hcell (by omega)
   have hcB1:=hcB k hlt
   clear hcB
   rw [ZbB] at hcB1
   have HOL:Hid (out.length=n):=by show _=_;rw [HC.out.len];exact HDL.out
   have hcell:=HA.out.cell (off+k) (by rw [Zaa,HOL.out];exact hin)
   rw [ZbB] at hcell
   have hfz:=HA.out.unfrozen (off+k)
   have hx2:=HC.out.dig.at (off+k)
   have htb:=Zj9 h1 h2 (dz.at k)
   have hx1:=dz.at k
   have HN:Hid (∀x,x=c+(dg out (off+k):Int)+t*(dg z k:Int)→ChgI l z t off (out.set (off+k) (x%256).toNat) (k+1) (x/256)):=fun x hx=>HC.out.next dz h1 h2 (by rw [HDL.out];exact hin) hx
   have HS:Hid (∀x:Int,Arr (wr.setCell ⟨g,off+k,none⟩ (.int .u8 (x%256))) g T .u8 (nI (out.set (off+k) (x%256).toNat))):=fun x=>by
    have:=HA.out.set (by rw [Zaa,HOL.out];unfold maxLen;omega) (off+k) (((x%256).toNat:Nat):Int)
    rw [ZbH,show (((x%256).toNat:Nat):Int)=x%256 from by omega] at this
    exact this
   generalize dg z k=x1 at*
   generalize dg out (off+k)=x2 at*
   generalize htt:t*(x1:Int)=tb at*
   have HT:Hid (t*(x1:Int)=tb):=htt
   have HN1:=HN.out (c+((x2:Int)+tb)) (by omega)
   have HS1:=HS.out (c+((x2:Int)+tb))
   clear HN HS
   go_wp2
   go_roundw
   case rel=>exact ⟨k+1,(c+((x2:Int)+tb))/256,out.set (off+k) ((c+((x2:Int)+tb))%256).toNat,by omega,by go_num,by go_num,HN1,HS1,HB.out.setCell (Nat.le_refl _) _⟩
   case measure=>simp [intOf];omega
  ·obtain rfl:k=blen:=by omega
   clear hlt hk
   go_wp2
   go_loopw [6,9] (fun c y ws=>∃(j:Nat) (cc:Int) (out:List Nat),k≤j∧j≤len∧y= .int .i64 (j:Int)∧c= .int .i64 cc∧Hid (ChgI l z t off out j cc)∧Hid (Arr ws g T .u8 (nI out))∧Hid (Below g w ws)) (fun _ y _=>len - (intOf y).toNat)
   case atStart=>exact ⟨k,c,out,Nat.le_refl _,hbl,rfl,rfl,HC,HA,HB⟩
   case round=>
    clear HA HB HC hlo hhi
    obtain ⟨j,c,out,hkj,hj,rfl,rfl,HC,HA,HB⟩:=hrel
    have hlo:=HC.out.lo
    have hhi:=HC.out.hi
    by_cases hc:c=0
    ·subst hc
     have HF:Hid (out=digL V n):=HC.out.done (by rw [HLz.out];exact hkj) HDL.out HV.out
     have A:=HA.out
     rw [HF.out] at A
     go_wp2
     go_end0
     exact ⟨rfl,A,HB.out⟩
    ·have hjl:j<len:=HC.out.room HDD.out (by rw [HLz.out];exact hkj) HV.out HU1.out HV1.out hc
     have hin:off+j<n:=by omega
     have HOL:Hid (out.length=n):=by show _=_;rw [HC.out.len];exact HDL.out
     have hcell:=HA.out.cell (off+j) (by rw [Zaa,HOL.out];exact hin)
     rw [ZbB] at hcell
     have hfz:=HA.out.unfrozen (off+j)
     have hx2:=HC.out.dig.at (off+j)
     have HZ0:Hid (dg z j=0):=Zbj (by rw [HLz.out];exact hkj)
     have HN:Hid (∀x,x=c+(dg out (off+j):Int)→ChgI l z t off (out.set (off+j) (x%256).toNat) (j+1) (x/256)):=fun x hx=>HC.out.next dz h1 h2 (by rw [HDL.out];exact hin) (by rw [HZ0.out,hx];simp)
     have HS:Hid (∀x:Int,Arr (wr.setCell ⟨g,off+j,none⟩ (.int .u8 (x%256))) g T .u8 (nI (out.set (off+j) (x%256).toNat))):=fun x=>by
      have:=HA.out.set (by rw [Zaa,HOL.out];unfold maxLen;omega) (off+j) (((x%256).toNat:Nat):Int)
      rw [ZbH,show (((x%256).toNat:Nat):Int)=x%256 from by omega] at this
      exact this
     generalize dg out (off+j)=x2 at*
     have HN1:=HN.out (c+(x2:Int)) rfl
     have HS1:=HS.out (c+(x2:Int))
     have hq0:(c != 0)=true:=by simp;exact hc
     have HC0:Hid (c≠0):=hc
     clear HN HS hc
     go_wp2
     go_roundw
     case rel=>exact ⟨j+1,(c+(x2:Int))/256,out.set (off+j) ((c+(x2:Int))%256).toNat,by omega,by omega,by go_num,by go_num,HN1,HS1,HB.out.setCell (Nat.le_refl _) _⟩
     case measure=>simp [intOf];omega
theorem ZfU (a b:Nat) (hb:b<256):(a*256)|||b=a*256+b:=by
 have:=Nat.two_pow_add_eq_or_of_lt (i:=8) hb a
 rw [Nat.mul_comm, ←this]
theorem Zo0 {z:List Nat} (dz:Dig z) {k:Nat} (hk:0<k):vL (z.drop (k - 1))=vL (z.drop k)*256+dg z (k - 1):=by
 rw [Zgb dz,Zgb dz,Zb9 dz]
 have e:256^k=256^(k - 1)*256:=by rw [←Nat.pow_succ,show (k - 1).succ=k from by omega]
 rw [e, ←Nat.div_div_eq_div_mul]
 omega
set_option maxHeartbeats 800000 in
theorem Zgc (z:List Nat) (a:Option Addr) (len cap:Nat) (w:World) (dz:Dig z) (hr:Row .u8 w a len cap (nI z)) (hl:len≤8):
  Calls Tryz.prog 215 #[.slice a len cap] w fun e w'=>e= .returned (.int .u64 (vL z:Int))∧w=w':=by
 have HL:Hid (z.length=len):=by have:=hr.hlen;rwa [Zaa] at this
 go_enter Tryz.func215,Tryz.ntmps215
 go_wp2
 go_loop [3,4] (fun v y=>∃k:Nat,k≤len∧y= .int .i64 ((k:Int) - 1)∧v= .int .u64 ((vL (z.drop k):Nat):Int)) (fun _ y=>(intOf y+1).toNat)
 case atStart=>exact ⟨len,Nat.le_refl _,by go_num,by rw [List.drop_of_length_le (by rw [HL.out];exact Nat.le_refl _)];rfl⟩
 case round=>
  obtain ⟨k,hk,rfl,rfl⟩:=hrel
  by_cases h0:k=0
  ·subst h0
   rw [List.drop_zero]
   go_wp2
   go_ret
   exact ⟨rfl,rfl⟩
  ·have hto:((k:Int) - 1).toNat=k - 1:=by omega
   have hk0:(0:Int)≤(k:Int) - 1:=by omega
   have hk1:(k:Int) - 1<(len:Int):=by omega
   obtain ⟨b1,o1,rfl,hb1,hc1⟩:=hr.hcell (by omega)
   have hd1:=hc1 (k - 1) (by omega)
   clear hc1
   rw [ZbB] at hd1
   have HU:Hid (vL (z.drop (k - 1))=vL (z.drop k)*256+dg z (k - 1)):=Zo0 dz (by omega)
   have hx:=dz.at (k - 1)
   have hpl:vL (z.drop k)<256^7:=Nat.lt_of_lt_of_le (dz.drop k).vL_lt (Nat.pow_le_pow_right (by decide) (by rw [List.length_drop,HL.out];omega))
   generalize vL (z.drop k)=p at*
   generalize dg z (k - 1)=x at*
   have ho:bits .or .u64 (((p*256:Nat):Int)) (x:Int)=((p*256+x:Nat):Int):=by rw [u64_or_nat _ _ (by omega) (by omega),ZfU p x hx]
   have hp1:(p:Int)*256=((p*256:Nat):Int):=by omega
   have hpl2:p*256+x<18446744073709551616:=by omega
   have hpl3:p*256<18446744073709551616:=by omega
   generalize p*256+x=px at*
   generalize p*256=p256 at*
   go_wp2
   go_round
   case rel=>exact ⟨k - 1,by omega,by go_num,by rw [HU.out]⟩
   case measure=>simp [intOf];omega
end Go.Proofs.YtcaloldcihpkfaaGreatDoor.N

/-
 The code of layer 15 (nums), as it landed: guess, lessen.
-/
namespace Go.Proofs.YtcaloldcihpkfaaGreatDoor.N
open Go.RowKit
set_option linter.unusedVariables false
set_option maxRecDepth 8192

theorem Zo1 {z:List Nat} (nz:Nrm z) {lm:Nat} (hl:z.length=lm) (h7:7<lm):281474976710656≤vL z/256^(lm - 7):=by
 have h1:=nz.ge (lm - 1) (by omega)
 rw [Nat.le_div_iff_mul_le (ZbR _)]
 have e:281474976710656*256^(lm - 7)=256^(lm - 1):=by
  rw [show (281474976710656:Nat)=256^6 from rfl, ←Nat.pow_add]
  congr 1
  omega
 rw [e]
 exact h1
set_option maxHeartbeats 1600000 in
theorem Zo2 (P:Nat) (z:List Nat) (g off cap lm cm:Nat) (ma:Option Addr) (w:World) (nz:Nrm z) (hz0:0<lm) (rp:Row .u8 w (some ⟨g,off,none⟩) (lm+1) cap (nI (digL P (lm+1)))) (rm:Row .u8 w ma lm cm (nI z)) (hP:P<256*vL z) (hl:lm≤1000000):
  Calls Tryz.prog 206 #[.slice (some ⟨g,off,none⟩) (lm+1) cap, .slice ma lm cm] w fun e w'=>∃q:Nat,e= .returned (.int .i64 (q:Int))∧q*vL z≤P∧P<(q+2)*vL z∧q≤255∧w=w':=by
 have HLm:Hid (z.length=lm):=by have:=rm.hlen;rwa [Zaa] at this
 obtain ⟨bM,oM,rfl,hbM,hcM⟩:=rm.hcell hz0
 clear hcM
 have hzl:vL z<256^lm:=by rw [←HLm.out];exact nz.dig.vL_lt
 have hM1:0<vL z:=by
  have h1:=nz.ge (lm - 1) (by rw [HLm.out];omega)
  exact Nat.lt_of_lt_of_le (ZbR _) h1
 have hPl:P<256^(lm+1):=by
  rw [Nat.pow_succ,Nat.mul_comm]
  exact Nat.lt_of_lt_of_le hP (Nat.mul_le_mul_left _ (Nat.le_of_lt hzl))
 have hcp:=rp.hcap
 have hcp2:=rp.hmax
 have hcm:=rm.hcap
 have hcm2:=rm.hmax
 by_cases h7:lm≤7
 ·have HVP:Hid (vL (digL P (lm+1))=P):=Zbg hPl
  have cM:=fun w rm=>Zgc z (some ⟨bM,oM,none⟩) lm cm w nz.dig rm (by omega)
  have cP:=fun w rp=>Zgc (digL P (lm+1)) (some ⟨g,off,none⟩) (lm+1) cap w (ZaD _ _) rp (by omega)
  rw [HVP.out] at cP
  have HQ:Hid (P/vL z*vL z≤P∧P<(P/vL z+2)*vL z∧P/vL z≤255):=ZoP hP rfl
  have hP8:P<18446744073709551616:=Nat.lt_of_lt_of_le hPl (Nat.pow_le_pow_right (n:=256) (j:=8) (by decide) (by omega))
  have hM8:vL z<18446744073709551616:=Nat.lt_of_lt_of_le hzl (Nat.pow_le_pow_right (n:=256) (j:=8) (by decide) (by omega))
  have hq8:P/vL z≤255:=HQ.out.2.2
  clear hPl hzl hP
  generalize vL z=M at*
  have e1:(P:Int)/(M:Int)=((P/M:Nat):Int):=(Int.natCast_ediv P M).symm
  have e1t:(P:Int).tdiv (M:Int)=((P/M:Nat):Int):=by rw [Int.tdiv_eq_ediv_of_nonneg (by omega)];exact e1
  have hM0:(M:Int)≠0:=by omega
  have hmx:(lm:Int) - 7≤0:=by omega
  generalize P/M=q at*
  go_enter Tryz.func206,Tryz.ntmps206
  go_wp2_with fail
  refine (cM _ rm).mono ?_
  rintro e w' ⟨rfl,rfl⟩
  go_wp2_with fail
  refine (cP _ rp).mono ?_
  rintro e w' ⟨rfl,rfl⟩
  go_wp2
  go_ret
  exact ⟨q,rfl,HQ.out.1,HQ.out.2.1,HQ.out.2.2,rfl⟩
 ·obtain ⟨low,hlow⟩:∃low,lm=low+7:=⟨lm - 7,by omega⟩
  have hto:((lm:Int) - 7).toNat=low:=by omega
  have hlo:(lm:Int) - 7=(low:Int):=by omega
  have hlp:0<low:=by omega
  have hll:low≤lm:=by omega
  have hll1:low≤lm+1:=by omega
  have hcml:low≤cm:=by omega
  have hcpl:low≤cap:=by omega
  have HTG:Hid (281474976710656≤vL z/256^low):=by
   have:=Zo1 nz HLm.out (by omega)
   rwa [show lm - 7=low from by omega] at this
  have HVP:Hid (vL ((digL P (lm+1)).drop low)=P/256^low):=by show _=_;rw [Zgb (ZaD _ _),Zbg hPl]
  have HVM:Hid (vL (z.drop low)=vL z/256^low):=Zgb nz.dig low
  have rp2:=Zep rp low (by omega)
  have rm2:=Zep rm low (by omega)
  rw [ZcN] at rp2 rm2
  have e7:lm - low=7:=by omega
  have e8:lm+1 - low=8:=by omega
  rw [e8] at rp2
  rw [e7] at rm2
  have cM:=fun w rm=>Zgc (z.drop low) (some ⟨bM,oM+low,none⟩) 7 (cm - low) w (nz.dig.drop low) rm (by omega)
  have cP:=fun w rp=>Zgc ((digL P (lm+1)).drop low) (some ⟨g,off+low,none⟩) 8 (cap - low) w ((ZaD _ _).drop low) rp (by omega)
  rw [HVP.out] at cP
  rw [HVM.out] at cM
  have HQ:Hid (P/256^low/(vL z/256^low+1)*vL z≤P∧P<(P/256^low/(vL z/256^low+1)+2)*vL z∧P/256^low/(vL z/256^low+1)≤255):=ZoO (ZbR _) HTG.out hP rfl
  have hP8:P/256^low<18446744073709551616:=by
   rw [Nat.div_lt_iff_lt_mul (ZbR _),show (18446744073709551616:Nat)=256^8 from rfl, ←Nat.pow_add,show 8+low=lm+1 from by omega]
   exact hPl
  have hM8:vL z/256^low<72057594037927936:=by
   rw [Nat.div_lt_iff_lt_mul (ZbR _),show (72057594037927936:Nat)=256^7 from rfl, ←Nat.pow_add,show 7+low=lm from by omega]
   exact hzl
  have hq8:=HQ.out.2.2
  clear hPl hzl hP hM1 HTG HVP HVM hlow
  generalize vL z/256^low=B at*
  generalize P/256^low=A at*
  have e1:(A:Int)/((B:Int)+1)=((A/(B+1):Nat):Int):=by rw [show ((B:Int)+1)=((B+1:Nat):Int) from by omega];exact (Int.natCast_ediv A (B+1)).symm
  have e1t:(A:Int).tdiv ((B:Int)+1)=((A/(B+1):Nat):Int):=by rw [Int.tdiv_eq_ediv_of_nonneg (by omega)];exact e1
  have hM0:(B:Int)+1≠0:=by omega
  generalize A/(B+1)=q at*
  go_enter Tryz.func206,Tryz.ntmps206
  go_wp2_with fail
  refine (cM _ rm2).mono ?_
  rintro e w' ⟨rfl,rfl⟩
  go_wp2_with fail
  refine (cP _ rp2).mono ?_
  rintro e w' ⟨rfl,rfl⟩
  go_wp2
  go_ret
  exact ⟨q,rfl,HQ.out.1,HQ.out.2.1,HQ.out.2.2,rfl⟩
theorem Zo3 {R M D q:Nat} (hD:0<D) (h1:q*M≤R/D) (h2:R/D<(q+2)*M):q*(M*D)≤R∧R<(q+2)*(M*D):=by
 have e1:=Nat.mul_le_mul_right D h1
 have e2:=Nat.div_mul_le_self R D
 have e3:=Nat.mul_le_mul_right D (show R/D+1≤(q+2)*M from h2)
 have e4:=Nat.lt_mul_div_succ R hD
 rw [Nat.mul_comm D] at e4
 rw [Nat.mul_assoc] at e1 e3
 omega
theorem Zo4 {a b:Nat}:0≤cmpN a b↔b≤a:=by
 unfold cmpN
 split
 ·omega
 ·split<;>omega
set_option maxHeartbeats 1600000 in
theorem Zo5 (R n off cap lm cm:Nat) (z:List Nat) (ma:Option Addr) (T:TypeId) (g:Nat) (w0 w:World) (hA:Arr w g T .u8 (nI (digL R n))) (rm:Row .u8 w0 ma lm cm (nI z)) (hq:Below g w0 w) (hg:w0.heap.size≤g)
  (nz:Nrm z) (hz0:0<lm) (hR:R<vL z*256^(off+1)) (hln:off+(lm+1)≤n) (hn:n≤1000000) (hc:lm+1≤cap) (hcm:cap≤maxLen):
  Calls Tryz.prog 183 #[.slice (some ⟨g,off,none⟩) (lm+1) cap, .slice ma lm cm] w fun e w'=>e= .returned (.tuple #[])∧Arr w' g T .u8 (nI (digL (R%(vL z*256^off)) n))∧Below g w w':=by
 have HLm:Hid (z.length=lm):=by have:=rm.hlen;rwa [Zaa] at this
 have win:∀(v:Nat) (w:World),Arr w g T .u8 (nI (digL v n))→Row .u8 w (some ⟨g,off,none⟩) (lm+1) cap (nI (digL (v/256^off) (lm+1))):=fun v w h=>by
  have:=h.win off (lm+1) cap (by rw [Zaa,Zap];exact hln) hc hcm
  rwa [ZcN,ZcC,ZoM hln] at this
 have hzl:vL z<256^lm:=by rw [←HLm.out];exact nz.dig.vL_lt
 have hRl:R<256^(off+(lm+1)):=by
  rw [show off+(lm+1)=lm+(off+1) from by omega,Nat.pow_add]
  exact Nat.lt_of_lt_of_le hR (Nat.mul_le_mul_right _ (Nat.le_of_lt hzl))
 have hP:R/256^off<256*vL z:=by
  rw [Nat.div_lt_iff_lt_mul (ZbR _),Nat.mul_comm 256,Nat.mul_assoc,Nat.mul_comm 256, ←Nat.pow_succ]
  exact hR
 have HPL:Hid (∀v,v≤R→vL (digL (v/256^off) (lm+1))=v/256^off):=fun v hv=>by
  apply Zbg
  rw [Nat.div_lt_iff_lt_mul (ZbR _), ←Nat.pow_add,Nat.add_comm (lm+1)]
  omega
 have cG:=Zo2 (R/256^off) z g off cap lm cm ma w nz hz0 (win R w hA) (rm.below hq hg) hP (by omega)
 go_enter Tryz.func183,Tryz.ntmps183
 go_wp2_with fail
 refine cG.mono ?_
 rintro e w' ⟨q,rfl,hq1,hq2,hq3,rfl⟩
 clear cG hP
 obtain ⟨f1,f2⟩:=Zo3 (ZbR off) hq1 hq2
 clear hq1 hq2
 obtain ⟨V,hV⟩:∃V,V=R - q*(vL z*256^off):=⟨_,rfl⟩
 have hV1:V<256^(off+(lm+1)):=by omega
 have hVI:(V:Int)=(R:Int)+(-(q:Int))*((256^off*vL z:Nat):Int):=by
  rw [Int.neg_mul,Nat.mul_comm (256^off), ←Int.natCast_mul]
  omega
 have cC:=Zfg R V n off (lm+1) cap lm cm (-(q:Int)) z ma T g w0 w hA rm hq hg nz.dig (by omega) (by omega) hVI hRl hV1 (by omega) hln hn
 go_wp2_with fail
 refine cC.mono ?_
 rintro e w1 ⟨rfl,A1,q1⟩
 clear cC hA hVI hRl
 have q01:=hq.trans q1
 have cK:=Zkc (digL (V/256^off) (lm+1)) z (some ⟨g,off,none⟩) ma (lm+1) cap lm cm w1 (ZaD _ _) nz.dig (win V w1 A1) (rm.below q01 hg) (by omega) (by omega)
 rw [HPL.out V (by omega)] at cK
 have hDV:vL z≤V/256^off↔vL z*256^off≤V:=Nat.le_div_iff_mul_le (ZbR _)
 have hcg:0≤cmpN (V/256^off) (vL z)↔vL z*256^off≤V:=Zo4.trans hDV
 clear hDV
 have hcl: -1≤cmpN (V/256^off) (vL z)∧cmpN (V/256^off) (vL z)≤1:=by
  unfold cmpN;split
  ·decide
  ·split<;>decide
 generalize cmpN (V/256^off) (vL z)=cc at*
 have hA1:=A1.lt
 go_wp2_with fail
 refine cK.mono ?_
 rintro e w2 ⟨rfl,q2⟩
 clear cK
 have A2:=A1.below q2 hA1
 replace q2:=q1.trans (q2.mono (Nat.le_of_lt hA1))
 have q02:=hq.trans q2
 clear A1 q1 q01
 by_cases hge:vL z*256^off≤V
 ·have hc0:0≤cc:=hcg.2 hge
  have HRE:Hid (R%(vL z*256^off)=V - vL z*256^off):=by
   show _=_
   have e:(q+1)*(vL z*256^off)=q*(vL z*256^off)+vL z*256^off:=by rw [Nat.add_mul,Nat.one_mul]
   have e':(q+2)*(vL z*256^off)=q*(vL z*256^off)+2*(vL z*256^off):=by rw [Nat.add_mul]
   have:=Zka (R:=R) (M:=vL z) (D:=256^off) (q:=q+1) (by omega) (by omega)
   omega
  have hVI:((V - vL z*256^off:Nat):Int)=(V:Int)+(-1)*((256^off*vL z:Nat):Int):=by
   rw [Nat.mul_comm (256^off)]
   omega
  have cC:=Zfg V (V - vL z*256^off) n off (lm+1) cap lm cm (-1) z ma T g w0 w2 A2 rm q02 hg nz.dig (by decide) (by decide) hVI hV1 (by omega) (by omega) hln hn
  rw [←HRE.out] at cC
  clear hge hcg hVI f1 f2 hV hV1
  go_wp2_with fail
  refine cC.mono ?_
  rintro e w3 ⟨rfl,A3,q3⟩
  go_wp2_with fail
  go_end0
  exact ⟨rfl,A3,q2.trans q3⟩
 ·have hc0:¬0≤cc:=fun h=>hge (hcg.1 h)
  have HRE:Hid (V=R%(vL z*256^off)):=by
   show _=_
   have:=Zka (R:=R) (M:=vL z) (D:=256^off) (q:=q) f1 (by omega)
   omega
  rw [HRE.out] at A2
  clear hge hcg f1 f2 hV hV1
  go_wp2_with fail
  go_end0
  exact ⟨rfl,A2,q2⟩
end Go.Proofs.YtcaloldcihpkfaaGreatDoor.N

/-
 The code of layer 15 (nums), as it landed: Add, Sub, Mul.
-/
namespace Go.Proofs.YtcaloldcihpkfaaGreatDoor.N
open Go.RowKit
set_option linter.unusedVariables false
set_option maxRecDepth 8192

theorem Arr.full {w:World} {g:Nat} {T:TypeId} {v n:Nat} (h:Arr w g T .u8 (nI (digL v n))) (hn:n≤1000000):Row .u8 w (some ⟨g,0,none⟩) n n (nI (digL v n)):=by
 have:=h.win 0 n n (by rw [Zaa,Zap];omega) (Nat.le_refl _) (by unfold maxLen;omega)
 rwa [List.drop_zero,List.take_of_length_le (by rw [Zaa,Zap];exact Nat.le_refl _)] at this
theorem ZhL {v n g:Nat} {T:TypeId} {w:World} (h:Arr w g T .u8 (nI (digL v n))) (hv:v<256^n) (hn:n≤1000000):
  Calls Tryz.prog 118 #[.slice (some ⟨g,0,none⟩) n n] w fun e w'=>e= .returned (.slice (some ⟨g,0,none⟩) (nb v).length n)∧w=w':=by
 have:=ZcS (digL v n) (some ⟨g,0,none⟩) n n w (h.full hn) hn
 rwa [Zj8 hv] at this
set_option maxHeartbeats 1600000 in
theorem Zkd (x y:List Nat) (ax ay:Option Addr) (n m cx cy:Nat) (w:World) (nx:Nrm x) (ny:Nrm y) (rx:Row .u8 w ax n cx (nI x)) (ry:Row .u8 w ay m cy (nI y)) (hmn:m≤n) (hn:n≤999999) (F:Bool) (aa ab:Option Addr) (la ca lb cb:Nat)
  (hTa:Calls Tryz.prog 118 #[.slice aa la ca] w fun e w'=>e= .returned (bif F then .slice ay m cy else .slice ax n cx)∧w=w')
  (hTb:Calls Tryz.prog 118 #[.slice ab lb cb] w fun e w'=>e= .returned (bif F then .slice ax n cx else .slice ay m cy)∧w=w') (hF:F=true→m<n):
  Calls Tryz.prog 145 #[.slice aa la ca, .slice ab lb cb] w (ZbS w (nb (vL x+vL y))):=by
 obtain ⟨i0,hi0,hz0,hz1,hz2⟩:=info_parts Tryz.info5
 have HLx:Hid (x.length=n):=by have:=rx.hlen;rwa [Zaa] at this
 have HLy:Hid (y.length=m):=by have:=ry.hlen;rwa [Zaa] at this
 have hmax:n+1≤maxLen:=by unfold maxLen;omega
 have hxl:vL x<256^n:=by rw [←HLx.out];exact nx.dig.vL_lt
 have hyl:vL y<256^n:=by
  refine Nat.lt_of_lt_of_le ny.dig.vL_lt (Nat.pow_le_pow_right (by decide) ?_)
  rw [HLy.out];exact hmn
 have hp:256^(n+1)=256^n*256:=Nat.pow_succ _ _
 have hU:vL x<256^(n+1):=by omega
 have hV:vL x+vL y<256^(n+1):=by omega
 have hVI:((vL x+vL y:Nat):Int)=(vL x:Int)+1*((256^0*vL y:Nat):Int):=by rw [Nat.pow_zero,Nat.one_mul];omega
 have HF0:Hid (nI x++List.replicate (n+1 - n) 0=nI (digL (vL x) (n+1))):=by
  show _=_
  rw [show n+1 - n=1 from by omega,ZhI nx.dig 1,HLx.out]
 have hnm:¬(n:Int)<(m:Int):=by omega
 clear hp hxl hyl
 have fin:∀(K:Value→Value→Prop),True:=fun _=>trivial
 clear fin
 cases F
 ·simp only [cond_false] at hTa hTb
  go_enter Tryz.func145,Tryz.ntmps145
  go_wp2_with fail
  refine hTa.mono ?_
  rintro e w' ⟨rfl,rfl⟩
  go_wp2_with fail
  refine hTb.mono ?_
  rintro e w' ⟨rfl,rfl⟩
  clear hTa hTb
  go_wp2_with (at_make;refine wpList_make_full _ rfl _ _ 28 rfl w.heap.size 5 i0 (.int .u8 0) 1 Tryz.underlying28 hi0 hz0 hz1 _ _ _ _ (n+1) rfl rfl (by omega) (by omega) (by rw [hz2];omega) hmax (Nat.le_refl _) ?_;intro w1 hown1 hgrow1)
  obtain ⟨A1,q1⟩:=Zff hown1 hgrow1
  clear hown1 hgrow1
  obtain ⟨w2,hrun,hg2,q2⟩:=ZhH (P:=Tryz.prog) (dT:=28) (elem:=5) (ty:=3) (cap:=cx) (a:=ax) Tryz.underlying28 (by kernel_rfl) A1 (Nat.le_succ n) (rx.below q1 (Nat.le_refl _)) q1 (Nat.le_refl _)
  rw [hrun]
  clear hrun A1 q1
  rw [HF0.out] at hg2
  have A2:Arr w2 w.heap.size 5 .u8 (nI (digL (vL x) (n+1))):=hg2
  clear hg2
  have cC:=Zfg (vL x) (vL x+vL y) (n+1) 0 (n+1) (n+1) m cy 1 y ay 5 w.heap.size w w2 A2 ry q2 (Nat.le_refl _) ny.dig (by decide) (by decide) hVI (by rw [Nat.zero_add];exact hU) (by rw [Nat.zero_add];exact hV) (by omega) (by omega) (by omega)
  go_wp2_with fail
  refine cC.mono ?_
  rintro e w3 ⟨rfl,A3,q3⟩
  clear cC A2
  replace q3:=q2.trans q3
  go_wp2_with fail
  refine (ZhL A3 hV (by omega)).mono ?_
  rintro e w' ⟨rfl,rfl⟩
  have R:=A3.nb (w1:=w) hV (by omega)
  go_wp2_with fail
  go_ret
  exact ⟨_,_,rfl,R,q3⟩
 ·have hlt:(m:Int)<(n:Int):=by have:=hF rfl;omega
  simp only [cond_true] at hTa hTb
  go_enter Tryz.func145,Tryz.ntmps145
  go_wp2_with fail
  refine hTa.mono ?_
  rintro e w' ⟨rfl,rfl⟩
  go_wp2_with fail
  refine hTb.mono ?_
  rintro e w' ⟨rfl,rfl⟩
  clear hTa hTb
  go_wp2_with (at_make;refine wpList_make_full _ rfl _ _ 28 rfl w.heap.size 5 i0 (.int .u8 0) 1 Tryz.underlying28 hi0 hz0 hz1 _ _ _ _ (n+1) rfl rfl (by omega) (by omega) (by rw [hz2];omega) hmax (Nat.le_refl _) ?_;intro w1 hown1 hgrow1)
  obtain ⟨A1,q1⟩:=Zff hown1 hgrow1
  clear hown1 hgrow1
  obtain ⟨w2,hrun,hg2,q2⟩:=ZhH (P:=Tryz.prog) (dT:=28) (elem:=5) (ty:=3) (cap:=cx) (a:=ax) Tryz.underlying28 (by kernel_rfl) A1 (Nat.le_succ n) (rx.below q1 (Nat.le_refl _)) q1 (Nat.le_refl _)
  rw [hrun]
  clear hrun A1 q1
  rw [HF0.out] at hg2
  have A2:Arr w2 w.heap.size 5 .u8 (nI (digL (vL x) (n+1))):=hg2
  clear hg2
  have cC:=Zfg (vL x) (vL x+vL y) (n+1) 0 (n+1) (n+1) m cy 1 y ay 5 w.heap.size w w2 A2 ry q2 (Nat.le_refl _) ny.dig (by decide) (by decide) hVI (by rw [Nat.zero_add];exact hU) (by rw [Nat.zero_add];exact hV) (by omega) (by omega) (by omega)
  go_wp2_with fail
  refine cC.mono ?_
  rintro e w3 ⟨rfl,A3,q3⟩
  clear cC A2
  replace q3:=q2.trans q3
  go_wp2_with fail
  refine (ZhL A3 hV (by omega)).mono ?_
  rintro e w' ⟨rfl,rfl⟩
  have R:=A3.nb (w1:=w) hV (by omega)
  go_wp2_with fail
  go_ret
  exact ⟨_,_,rfl,R,q3⟩
theorem Zo6 (a b:List Nat) (aa ab:Option Addr) (la ca lb cb:Nat) (w:World) (da:Dig a) (db:Dig b) (ra:Row .u8 w aa la ca (nI a)) (rb:Row .u8 w ab lb cb (nI b)) (hla:la≤100000) (hlb:lb≤100000):
  Calls Tryz.prog 145 #[.slice aa la ca, .slice ab lb cb] w (ZbS w (nb (vL a+vL b))):=by
 have h1:=ra.hlen
 have h2:=rb.hlen
 rw [Zaa] at h1 h2
 have t1:=Zcb a
 have t2:=Zcb b
 have cA:=ZcS a aa la ca w ra (by omega)
 have cB:=ZcS b ab lb cb w rb (by omega)
 rw [←ZcR a, ←ZcR b]
 rcases Nat.lt_or_ge (tl a) (tl b) with h|h
 ·rw [Nat.add_comm]
  exact Zkd (nt b) (nt a) ab aa (tl b) (tl a) cb ca w (Zct db) (Zct da) (Zcu rb) (Zcu ra) (by omega) (by omega) true aa ab la ca lb cb cA cB (fun _=>h)
 ·exact Zkd (nt a) (nt b) aa ab (tl a) (tl b) ca cb w (Zct da) (Zct db) (Zcu ra) (Zcu rb) h (by omega) false aa ab la ca lb cb cA cB (fun h=>absurd h (by decide))
end Go.Proofs.YtcaloldcihpkfaaGreatDoor.N

/-
 The code of layer 15 (nums), as it landed: Mul, Mod.
-/
namespace Go.Proofs.YtcaloldcihpkfaaGreatDoor.N
open Go.RowKit
set_option linter.unusedVariables false
set_option maxRecDepth 8192

theorem Zgd {x y n m:Nat} (hx:x<256^n) (hy:y<256^m):x*y<256^(n+m):=by
 rw [Nat.pow_add]
 rcases Nat.eq_zero_or_pos y with rfl|h
 ·rw [Nat.mul_zero];exact Nat.mul_pos (ZbR _) (ZbR _)
 ·exact Nat.lt_of_lt_of_le (Nat.mul_lt_mul_of_pos_right hx h) (Nat.mul_le_mul_left _ (Nat.le_of_lt hy))
set_option maxHeartbeats 1600000 in
theorem Zo7 (x y:List Nat) (ax ay:Option Addr) (n m cx cy la ca lb cb:Nat) (w:World) (nx:Nrm x) (ny:Nrm y) (rx:Row .u8 w ax n cx (nI x)) (ry:Row .u8 w ay m cy (nI y)) (hn:n≤100000) (hm:m≤100000)
  (hTa:Calls Tryz.prog 118 #[.slice ax la ca] w fun e w'=>e= .returned (.slice ax n cx)∧w=w')
  (hTb:Calls Tryz.prog 118 #[.slice ay lb cb] w fun e w'=>e= .returned (.slice ay m cy)∧w=w'):
  Calls Tryz.prog 143 #[.slice ax la ca, .slice ay lb cb] w (ZbS w (nb (vL x*vL y))):=by
 obtain ⟨i0,hi0,hz0,hz1,hz2⟩:=info_parts Tryz.info5
 have HLx:Hid (x.length=n):=by have:=rx.hlen;rwa [Zaa] at this
 have HLy:Hid (y.length=m):=by have:=ry.hlen;rwa [Zaa] at this
 have hxl:vL x<256^n:=by rw [←HLx.out];exact nx.dig.vL_lt
 have hyl:vL y<256^m:=by rw [←HLy.out];exact ny.dig.vL_lt
 have HV:Hid (vL x*vL y<256^(n+m)):=Zgd hxl hyl
 have HVi:Hid (∀i,i<n→vTo (dg x) (i+1)*vL y<256^(n+m)):=fun i hi=>
  Nat.lt_of_lt_of_le (Zgd (nx.dig.vlt (i+1)) hyl) (Nat.pow_le_pow_right (by decide) (by omega))
 have HUi:Hid (∀i,i≤n→vTo (dg x) i*vL y<256^(n+m)):=fun i hi=>
  Nat.lt_of_lt_of_le (Zgd (nx.dig.vlt i) hyl) (Nat.pow_le_pow_right (by decide) (by omega))
 have HW:Hid (vTo (dg x) n=vL x):=by show _=_;unfold vL;rw [HLx.out]
 have hmax:n+m≤maxLen:=by unfold maxLen;omega
 have hwr:IntKind.i64.wrap ((n:Int)+(m:Int))=((n+m:Nat):Int):=by rw [IntKind.wrap_i64];omega
 clear hxl hyl
 obtain ⟨L,hL⟩:∃L,n+m=L:=⟨_,rfl⟩
 have hLs:(n:Int)+(m:Int)=(L:Int):=by omega
 have hL9:L≤200000:=by omega
 have hnL:n≤L:=by omega
 have hnmL:∀i,i<n→m≤L - i:=fun i hi=>by omega
 rw [hL] at hmax HV HVi HUi hwr
 clear hL
 go_enter Tryz.func143,Tryz.ntmps143
 go_wp2_with fail
 refine hTa.mono ?_
 rintro e w' ⟨rfl,rfl⟩
 go_wp2_with fail
 refine hTb.mono ?_
 rintro e w' ⟨rfl,rfl⟩
 clear hTa hTb
 go_wp2_with (at_make;refine wpList_make_full _ rfl _ _ 28 rfl w.heap.size 5 i0 (.int .u8 0) 1 Tryz.underlying28 hi0 hz0 hz1 _ _ _ _ L rfl rfl (by omega) (by omega) (by rw [hz2];omega) hmax (Nat.le_refl _) ?_;intro w1 hown1 hgrow1)
 obtain ⟨A1,q1⟩:=Zff hown1 hgrow1
 clear hown1 hgrow1
 have A2:Arr w1 w.heap.size 5 .u8 (nI (digL (vTo (dg x) 0*vL y) L)):=by
  simp only [vTo]
  rw [Nat.zero_mul,Zfd]
  simpa [nI] using A1
 clear A1
 go_wp2_with fail
 go_loopw [20] (fun y' wr=>∃i:Nat,i≤n∧y'= .int .i64 (i:Int)∧Hid (Arr wr w.heap.size 5 .u8 (nI (digL (vTo (dg x) i*vL y) L)))∧Hid (Below w.heap.size w wr)) (fun y' _=>n - (intOf y').toNat)
 case atStart=>exact ⟨0,Nat.zero_le _,rfl,A2,q1⟩
 case round=>
  clear A2 q1
  obtain ⟨i,hi,rfl,HA,HB⟩:=hrel
  by_cases hlt:i<n
  ·obtain ⟨bA,oA,rfl,hbA,hcA⟩:=(rx.below HB.out (Nat.le_refl _)).hcell (by omega)
   have hc1:=hcA i hlt
   clear hcA
   rw [ZbB] at hc1
   have hx:=nx.dig.at i
   have hVI:((vTo (dg x) (i+1)*vL y:Nat):Int)=((vTo (dg x) i*vL y:Nat):Int)+((dg x i:Nat):Int)*((256^i*vL y:Nat):Int):=by
    rw [←Int.natCast_mul, ←Int.natCast_add]
    congr 1
    simp only [vTo]
    rw [Nat.add_mul,Nat.mul_assoc]
   have cC:=Zfg (vTo (dg x) i*vL y) (vTo (dg x) (i+1)*vL y) L i (L - i) (L - i) m cy ((dg x i:Nat):Int) y ay 5 w.heap.size w wr HA.out ry HB.out (Nat.le_refl _) ny.dig (by omega) (by omega) hVI (by rw [show i+(L - i)=L from by omega];exact HUi.out i hi) (by rw [show i+(L - i)=L from by omega];exact HVi.out i hlt) (hnmL i hlt) (by omega) (by omega)
   have HN:Hid (vTo (dg x) (i+1)*vL y=vTo (dg x) (i+1)*vL y):=rfl
   clear hVI
   generalize vTo (dg x) i*vL y=U at*
   generalize hVV:vTo (dg x) (i+1)*vL y=V at*
   have HVV:Hid (vTo (dg x) (i+1)*vL y=V):=hVV
   clear hVV
   generalize dg x i=d at*
   have hiL:i≤L:=by omega
   go_wp2_with fail
   refine cC.mono ?_
   rintro e w2 ⟨rfl,A2,q2⟩
   clear cC
   have HA2:Hid (Arr w2 w.heap.size 5 .u8 (nI (digL (vTo (dg x) (i+1)*vL y) L))):=by show Arr _ _ _ _ _;rw [HVV.out];exact A2
   have HB2:Hid (Below w.heap.size w w2):=HB.out.trans q2
   clear A2 q2
   go_wp2_with fail
   go_roundw
   case rel=>exact ⟨i+1,by omega,by go_num,HA2,HB2⟩
   case measure=>simp [intOf];omega
  ·obtain rfl:i=n:=by omega
   have A3:=HA.out
   rw [HW.out] at A3
   have hV:=HV.out
   generalize vL x*vL y=V at*
   go_wp2_with fail
   refine (ZhL A3 hV (by omega)).mono ?_
   rintro e w' ⟨rfl,rfl⟩
   have R:=A3.nb (w1:=w) hV (by omega)
   go_wp2_with fail
   go_ret
   exact ⟨_,_,rfl,R,HB.out⟩
theorem Zo8 (a b:List Nat) (aa ab:Option Addr) (la ca lb cb:Nat) (w:World) (da:Dig a) (db:Dig b) (ra:Row .u8 w aa la ca (nI a)) (rb:Row .u8 w ab lb cb (nI b)) (hla:la≤100000) (hlb:lb≤100000):
  Calls Tryz.prog 143 #[.slice aa la ca, .slice ab lb cb] w (ZbS w (nb (vL a*vL b))):=by
 have h1:=ra.hlen
 have h2:=rb.hlen
 rw [Zaa] at h1 h2
 have t1:=Zcb a
 have t2:=Zcb b
 have cA:=ZcS a aa la ca w ra (by omega)
 have cB:=ZcS b ab lb cb w rb (by omega)
 rw [←ZcR a, ←ZcR b]
 exact Zo7 (nt a) (nt b) aa ab (tl a) (tl b) ca cb la ca lb cb w (Zct da) (Zct db) (Zcu ra) (Zcu rb) (by omega) (by omega) cA cB
set_option maxHeartbeats 1600000 in
theorem Zo9 (x z:List Nat) (ax am:Option Addr) (n lm cx cm la ca lb cb:Nat) (w:World) (nx:Nrm x) (nz:Nrm z) (rx:Row .u8 w ax n cx (nI x)) (rz:Row .u8 w am lm cm (nI z)) (hn:n≤100000) (hm:lm≤100000) (hm0:0<lm)
  (hTa:Calls Tryz.prog 118 #[.slice ax la ca] w fun e w'=>e= .returned (.slice ax n cx)∧w=w')
  (hTb:Calls Tryz.prog 118 #[.slice am lb cb] w fun e w'=>e= .returned (.slice am lm cm)∧w=w'):
  Calls Tryz.prog 141 #[.slice ax la ca, .slice am lb cb] w (ZhG w (nb (vL x%vL z)) 0):=by
 obtain ⟨i0,hi0,hz0,hz1,hz2⟩:=info_parts Tryz.info5
 have HLx:Hid (x.length=n):=by have:=rx.hlen;rwa [Zaa] at this
 have HLz:Hid (z.length=lm):=by have:=rz.hlen;rwa [Zaa] at this
 have hxl:vL x<256^n:=by rw [←HLx.out];exact nx.dig.vL_lt
 have HXL:Hid (vL x<256^(n+1)):=Nat.lt_of_lt_of_le hxl (Nat.pow_le_pow_right (by decide) (by omega))
 have hmax:n+1≤maxLen:=by unfold maxLen;omega
 have HF0:Hid (nI x++List.replicate (n+1 - n) 0=nI (digL (vL x) (n+1))):=by
  show _=_
  rw [show n+1 - n=1 from by omega,ZhI nx.dig 1,HLx.out]
 have HM0:Hid (0<vL z):=by
  have h1:=nz.ge (lm - 1) (by rw [HLz.out];omega)
  exact Nat.lt_of_lt_of_le (ZbR _) h1
 have HXS:Hid (vL x=vL x%(vL z*256^((n:Int) - (lm:Int)+1).toNat)):=(ZoR nx.dig nz (by rw [HLz.out];omega) (K:=((n:Int) - (lm:Int)+1).toNat) (by rw [HLx.out,HLz.out];omega)).symm
 have hwr:IntKind.i64.wrap ((n:Int) - (lm:Int))=(n:Int) - (lm:Int):=by rw [IntKind.wrap_i64];omega
 clear hxl
 go_enter Tryz.func141,Tryz.ntmps141
 go_wp2_with fail
 refine hTa.mono ?_
 rintro e w' ⟨rfl,rfl⟩
 go_wp2_with fail
 refine hTb.mono ?_
 rintro e w' ⟨rfl,rfl⟩
 clear hTa hTb
 go_wp2_with (at_make;refine wpList_make_full _ rfl _ _ 28 rfl w.heap.size 5 i0 (.int .u8 0) 1 Tryz.underlying28 hi0 hz0 hz1 _ _ _ _ (n+1) rfl rfl (by omega) (by omega) (by rw [hz2];omega) hmax (Nat.le_refl _) ?_;intro w1 hown1 hgrow1)
 obtain ⟨A1,q1⟩:=Zff hown1 hgrow1
 clear hown1 hgrow1
 obtain ⟨w2,hrun,hg2,q2⟩:=ZhH (P:=Tryz.prog) (dT:=28) (elem:=5) (ty:=3) (cap:=cx) (a:=ax) Tryz.underlying28 (by kernel_rfl) A1 (Nat.le_succ n) (rx.below q1 (Nat.le_refl _)) q1 (Nat.le_refl _)
 rw [hrun]
 clear hrun A1 q1
 rw [HF0.out] at hg2
 have HA2:Hid (Arr w2 w.heap.size 5 .u8 (nI (digL (vL x%(vL z*256^((n:Int) - (lm:Int)+1).toNat)) (n+1)))):=by
  show Arr _ _ _ _ _
  rw [←HXS.out]
  exact hg2
 clear hg2 HF0
 go_wp2_with fail
 go_loopw [7] (fun y wr=>∃v:Int,y= .int .i64 v∧ -1000000≤v∧v+(lm:Int)≤(n:Int)∧Hid (Arr wr w.heap.size 5 .u8 (nI (digL (vL x%(vL z*256^(v+1).toNat)) (n+1))))∧Hid (Below w.heap.size w wr)) (fun y _=>(intOf y+1).toNat)
 case atStart=>exact ⟨(n:Int) - (lm:Int),by go_num,by omega,by omega,HA2,q2⟩
 case round=>
  clear HA2 q2 HXS hwr
  obtain ⟨v,rfl,hv1,hv2,HA,HB⟩:=hrel
  by_cases hv0:0≤v
  ·obtain ⟨k,rfl⟩:∃k:Nat,v=(k:Int):=⟨v.toNat,by omega⟩
   have hkn:k+(lm+1)≤n+1:=by omega
   have A:=HA.out
   rw [show ((k:Int)+1).toNat=k+1 from by omega] at A
   have HRE:=ZoQ (vL x) (vL z) k
   have hR:vL x%(vL z*256^(k+1))<vL z*256^(k+1):=Nat.mod_lt _ (Nat.mul_pos HM0.out (ZbR _))
   have cL:=Zo5 (vL x%(vL z*256^(k+1))) (n+1) k (n+1 - k) lm cm z am 5 w.heap.size w wr A rz HB.out (Nat.le_refl _) nz hm0 hR hkn (by omega) (by omega) (by omega)
   rw [HRE] at cL
   clear HRE hR HA A
   have HX1:Hid (∀w2,Arr w2 w.heap.size 5 .u8 (nI (digL (vL x%(vL z*256^k)) (n+1)))→Arr w2 w.heap.size 5 .u8 (nI (digL (vL x%(vL z*256^((k:Int) - 1+1).toNat)) (n+1)))):=fun w2 h=>by
    rw [show ((k:Int) - 1+1).toNat=k from by omega]
    exact h
   have s1:(k:Int)+(lm:Int)+1≤(n:Int)+1:=by omega
   have s2:((k:Int)+(lm:Int)+1).toNat=k+lm+1:=by omega
   have s3:k+lm+1 - k=lm+1:=by omega
   have s4:(k:Int)≤(k:Int)+(lm:Int)+1:=by omega
   generalize vL x%(vL z*256^k)=R at*
   go_wp2_with fail
   refine cL.mono ?_
   rintro e w3 ⟨rfl,A3,q3⟩
   have HA3:Hid (Arr w3 w.heap.size 5 .u8 (nI (digL (vL x%(vL z*256^((k:Int) - 1+1).toNat)) (n+1)))):=HX1.out w3 A3
   have HB3:Hid (Below w.heap.size w w3):=HB.out.trans q3
   clear cL A3 q3 HX1 s1 s2 s3 s4
   go_wp2_with fail
   go_roundw
   case rel=>exact ⟨(k:Int) - 1,by go_num,by omega,by omega,HA3,HB3⟩
   case measure=>simp [intOf]<;>omega
  ·have A:=HA.out
   rw [show (v+1).toNat=0 from by omega,Nat.pow_zero,Nat.mul_one] at A
   have hRl:vL x%vL z<256^(n+1):=Nat.lt_of_le_of_lt (Nat.mod_le _ _) HXL.out
   generalize vL x%vL z=R at*
   have cN:=ZoU (digL R (n+1)) (ZaD _ _) (some ⟨w.heap.size,0,none⟩) (n+1) (n+1) wr (A.full (by omega)) (by omega)
   rw [Zbg hRl] at cN
   clear HA
   go_wp2_with fail
   refine cN.mono ?_
   rintro e w3 ⟨a3,c3,rfl,r3,q3⟩
   have HB3:=HB.out.trans (q3.mono HB.out.size)
   go_wp2_with fail
   go_ret2
   exact ⟨_,_,rfl,r3,HB3⟩
theorem Zpa (a b:List Nat) (aa ab:Option Addr) (la ca lb cb:Nat) (w:World) (da:Dig a) (db:Dig b) (ra:Row .u8 w aa la ca (nI a)) (rb:Row .u8 w ab lb cb (nI b)) (hla:la≤100000) (hlb:lb≤100000) (h0:vL b≠0):
  Calls Tryz.prog 141 #[.slice aa la ca, .slice ab lb cb] w (ZhG w (nb (vL a%vL b)) 0):=by
 have h1:=ra.hlen
 have h2:=rb.hlen
 rw [Zaa] at h1 h2
 have t1:=Zcb a
 have t2:=Zcb b
 have cA:=ZcS a aa la ca w ra (by omega)
 have cB:=ZcS b ab lb cb w rb (by omega)
 have t0:0<tl b:=by
  rw [Zfe db]
  rcases Nat.eq_zero_or_pos (nb (vL b)).length with h|h
  ·exact absurd (ZoI.1 h) h0
  ·exact h
 rw [←ZcR a, ←ZcR b]
 exact Zo9 (nt a) (nt b) aa ab (tl a) (tl b) ca cb la ca lb cb w (Zct da) (Zct db) (Zcu ra) (Zcu rb) (by omega) (by omega) t0 cA cB
end Go.Proofs.YtcaloldcihpkfaaGreatDoor.N
