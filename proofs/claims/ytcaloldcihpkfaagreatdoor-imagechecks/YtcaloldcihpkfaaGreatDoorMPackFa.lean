/-
 Numbers as words of 64 bits, the lowest first, in plain words: digits, sums of products with carries.
-/
import Derived.Test.YtcaloldcihpkfaaGreatDoorMPackNa
namespace Go.Proofs.YtcaloldcihpkfaaGreatDoor.W
set_option linter.unusedVariables false
set_option maxRecDepth 8192

def vTo (f:Nat→Nat):Nat→Nat
 | 0=>0
 | n+1=>vTo f n+f n*18446744073709551616^n
def dg (l:List Nat) (i:Nat):Nat:=l[i]?.getD 0
def vL (l:List Nat):Nat:=vTo (dg l) l.length

theorem Zbj {l:List Nat} {i:Nat} (h:l.length≤i):dg l i=0:=by unfold dg;rw [List.getElem?_eq_none h];rfl
theorem Zb4 {f g:Nat→Nat} {n:Nat} (h:∀i,i<n→f i=g i):vTo f n=vTo g n:=by
 induction n with
 | zero=>rfl
 | succ n ih=>simp only [vTo];rw [ih (fun i hi=>h i (by omega)),h n (by omega)]
theorem ZcA {f:Nat→Nat} {n:Nat} (h:∀i,i<n→f i<18446744073709551616):vTo f n<18446744073709551616^n:=by
 induction n with
 | zero=>simp [vTo]
 | succ n ih=>
  have h1:=ih (fun i hi=>h i (by omega))
  have h2:f n+1≤18446744073709551616:=h n (by omega)
  have h3:=Nat.mul_le_mul_right (18446744073709551616^n) h2
  simp only [vTo,Nat.pow_succ]
  rw [Nat.add_mul] at h3
  rw [Nat.mul_comm (18446744073709551616^n)]
  omega
theorem Zeb {f:Nat→Nat} {n m:Nat} (hnm:n≤m) (h:∀i,n≤i→f i=0):vTo f m=vTo f n:=by
 induction m with
 | zero=>rw [show n=0 from by omega]
 | succ m ih=>
  rcases Nat.lt_or_ge m n with h1|h1
  ·rw [show n=m+1 from by omega]
  ·simp only [vTo];rw [ih h1,h m h1];omega
theorem ZbG (l:List Nat) (m:Nat) (h:l.length≤m):vTo (dg l) m=vL l:=Zeb h (fun i hi=>Zbj hi)
theorem ZgP {f:Nat→Nat} {n j:Nat} (h:j<n):f j*18446744073709551616^j≤vTo f n:=by
 induction n with
 | zero=>omega
 | succ n ih=>
  simp only [vTo]
  rcases Nat.lt_or_ge j n with h1|h1
  ·have:=ih h1;omega
  ·rw [show j=n from by omega];omega
theorem ZeU (f:Nat→Nat) {n m:Nat} (h:n≤m):vTo f n≤vTo f m:=by
 induction m with
 | zero=>rw [show n=0 from by omega];exact Nat.le_refl _
 | succ m ih=>
  rcases Nat.lt_or_ge m n with h1|h1
  ·rw [show n=m+1 from by omega];exact Nat.le_refl _
  ·have:=ih h1;simp only [vTo];omega
theorem ZeV {f g:Nat→Nat} {n m:Nat} (hnm:n≤m) (h:∀i,n≤i→i<m→f i=g i):vTo f m+vTo g n=vTo g m+vTo f n:=by
 induction m with
 | zero=>rw [show n=0 from by omega];rfl
 | succ m ih=>
  rcases Nat.lt_or_ge m n with h1|h1
  ·rw [show n=m+1 from by omega];omega
  ·have:=ih h1 (fun i h2 h3=>h i h2 (by omega));simp only [vTo];rw [h m h1 (by omega)];omega
theorem ZcB {l:List Nat} {j x:Nat} (hj:j<l.length) (i:Nat):dg (l.set j x) i=if i=j then x else dg l i:=by
 unfold dg
 rw [List.getElem?_set]
 by_cases h:j=i
 ·subst h;simp [hj]
 ·rw [if_neg h,if_neg (fun h'=>h h'.symm)]
theorem ZeW {f g:Nat→Nat} {n j x:Nat} (hj:j<n) (hg:∀i,g i=if i=j then x else f i):vTo g n+f j*18446744073709551616^j=vTo f n+x*18446744073709551616^j:=by
 induction n with
 | zero=>omega
 | succ n ih=>
  simp only [vTo]
  rcases Nat.lt_or_ge j n with h1|h1
  ·have:=ih h1
   rw [hg n,if_neg (by omega)]
   omega
  ·have e:j=n:=by omega
   subst e
   rw [hg j,if_pos rfl,Zb4 (g:=f) (n:=j) (fun i hi=>by rw [hg i,if_neg (by omega)])]
   omega
theorem ZbO {l:List Nat} {j x:Nat} (hj:j<l.length):vL (l.set j x)+dg l j*18446744073709551616^j=vL l+x*18446744073709551616^j:=by
 unfold vL
 rw [List.length_set]
 exact ZeW hj (ZcB hj)

def digL (x n:Nat):List Nat:=(List.range n).map (fun i=>x/18446744073709551616^i%18446744073709551616)
theorem Zap (x n:Nat):(digL x n).length=n:=by simp [digL]
theorem ZgQ (x n:Nat):digL x (n+1)=digL x n++ [x/18446744073709551616^n%18446744073709551616]:=by simp [digL,List.range_succ]
theorem Zbk {x n i:Nat} (h:i<n):dg (digL x n) i=x/18446744073709551616^i%18446744073709551616:=by simp [dg,digL,h]
theorem Zdj (x n:Nat):vL (digL x n)=x%18446744073709551616^n:=by
 unfold vL
 rw [Zap]
 have:∀m,vTo (fun i=>x/18446744073709551616^i%18446744073709551616) m=x%18446744073709551616^m:=by
  intro m
  induction m with
  | zero=>simp [vTo,Nat.mod_one]
  | succ m ih=>simp only [vTo];rw [ih,Nat.pow_succ,Nat.mod_mul,Nat.mul_comm (18446744073709551616^m)]
 rw [←this n]
 exact Zb4 (fun i hi=>Zbk hi)
def Dig (l:List Nat):Prop:=∀x∈l,x<18446744073709551616
theorem Dig.at {l:List Nat} (h:Dig l) (i:Nat):dg l i<18446744073709551616:=by
 unfold dg
 rcases Nat.lt_or_ge i l.length with hi|hi
 ·rw [List.getElem?_eq_getElem hi];exact h _ (List.getElem_mem hi)
 ·rw [List.getElem?_eq_none hi];decide
theorem Dig.set {l:List Nat} (h:Dig l) (j:Nat) {x:Nat} (hx:x<18446744073709551616):Dig (l.set j x):=by
 intro y hy
 rcases List.mem_or_eq_of_mem_set hy with h1|rfl
 ·exact h y h1
 ·exact hx
theorem ZaD (x n:Nat):Dig (digL x n):=by
 intro y hy
 simp only [digL,List.mem_map] at hy
 obtain ⟨i,_,rfl⟩:=hy
 exact Nat.mod_lt _ (by decide)
theorem Dig.vlt {l:List Nat} (h:Dig l) (m:Nat):vTo (dg l) m<18446744073709551616^m:=ZcA (fun i _=>h.at i)
theorem Dig.zero {n:Nat}:Dig (List.replicate n 0):=by
 intro x hx;rw [(List.mem_replicate.1 hx).2];decide
theorem ZcM (n:Nat):vL (List.replicate n 0)=0:=by
 have:∀m,vTo (dg (List.replicate n 0)) m=0:=by
  intro m
  induction m with
  | zero=>rfl
  | succ m ih=>
   simp only [vTo,ih]
   have:dg (List.replicate n 0) m=0:=by
    unfold dg
    rw [List.getElem?_replicate]
    split<;>rfl
   rw [this];omega
 exact this _

structure TimI (a b o out:List Nat) (i k c:Nat):Prop where
 len:out.length=a.length+b.length+1
 dig:Dig out
 clt:c<18446744073709551616
 val:vL out+c*18446744073709551616^(i+k)=vTo (dg a) i*vL b+dg a i*18446744073709551616^i*vTo (dg b) k
theorem TimI.room {a b o out:List Nat} {i k c:Nat} (h:TimI a b o out i k c) (ha:Dig a) (hb:Dig b) (hi:i<a.length) (hk:k<b.length∨0<c):i+k<a.length+b.length+1∧(b.length≤k→k=b.length):=by
 rcases hk with h1|h1
 ·exact ⟨by omega,fun h2=>by omega⟩
 ·have e1:vTo (dg b) k≤vL b:=by
   rcases Nat.lt_or_ge k b.length with h2|h2
   ·exact ZeU _ (Nat.le_of_lt h2)
   ·rw [ZbG b k h2];exact Nat.le_refl _
  have e2:vTo (dg a) i*vL b+dg a i*18446744073709551616^i*vTo (dg b) k≤vTo (dg a) (i+1)*vL b:=by
   simp only [vTo];rw [Nat.add_mul]
   exact Nat.add_le_add_left (Nat.mul_le_mul_left _ e1) _
  have e3:vTo (dg a) (i+1)*vL b<18446744073709551616^(i+1)*18446744073709551616^b.length:=by
   have p1:=ha.vlt (i+1)
   have p2:=hb.vlt b.length
   rcases Nat.eq_zero_or_pos (vL b) with hz|hz
   ·rw [hz];simp [Nat.pow_pos]
   ·exact Nat.lt_of_lt_of_le (Nat.mul_lt_mul_of_pos_right p1 hz) (Nat.mul_le_mul_left _ (Nat.le_of_lt p2))
  rw [←Nat.pow_add] at e3
  have e4:18446744073709551616^(i+k)≤c*18446744073709551616^(i+k):=Nat.le_mul_of_pos_left _ h1
  have e5:=h.val
  have e6:18446744073709551616^(i+k)<18446744073709551616^(i+1+b.length):=by omega
  have:=(Nat.pow_lt_pow_iff_right (a:=18446744073709551616) (by decide)).1 e6
  exact ⟨by omega,fun h2=>by omega⟩
theorem TimI.next {a b o out:List Nat} {i k c x:Nat} (h:TimI a b o out i k c) (ha:Dig a) (hb:Dig b) (hi:i+k<a.length+b.length+1) (hx:x=dg out (i+k)+c+dg a i*dg b k):
  TimI a b o (out.set (i+k) (x%18446744073709551616)) i (k+1) (x/18446744073709551616):=by
 have b1:dg a i≤18446744073709551615:=by have:=ha.at i;omega
 have b2:dg b k≤18446744073709551615:=by have:=hb.at k;omega
 have b3:=Nat.mul_le_mul b1 b2
 have b4:=h.dig.at (i+k)
 have b5:=h.clt
 refine ⟨by rw [List.length_set];exact h.len,h.dig.set _ (Nat.mod_lt _ (by decide)),by omega, ?_⟩
 have hs:=ZbO (l:=out) (j:=i+k) (x:=x%18446744073709551616) (by rw [h.len];exact hi)
 have hv:=h.val
 rw [←Nat.add_assoc i k 1,Nat.pow_succ]
 simp only [vTo]
 have hq:18446744073709551616^(i+k)=18446744073709551616^i*18446744073709551616^k:=Nat.pow_add _ _ _
 have hm:x%18446744073709551616+18446744073709551616*(x/18446744073709551616)=x:=Nat.mod_add_div x 18446744073709551616
 have e1:x/18446744073709551616*(18446744073709551616^(i+k)*18446744073709551616)+x%18446744073709551616*18446744073709551616^(i+k)=x*18446744073709551616^(i+k):=by
  conv=>rhs;rw [←hm,Nat.add_mul]
  rw [Nat.mul_comm (18446744073709551616^(i+k)) 18446744073709551616, ←Nat.mul_assoc,Nat.mul_comm (x/18446744073709551616) 18446744073709551616];omega
 have e2:x*18446744073709551616^(i+k)=dg out (i+k)*18446744073709551616^(i+k)+c*18446744073709551616^(i+k)+dg a i*18446744073709551616^i*(dg b k*18446744073709551616^k):=by
  rw [hx,Nat.add_mul,Nat.add_mul]
  congr 1
  rw [hq,Nat.mul_mul_mul_comm]
 rw [Nat.mul_add]
 omega
theorem TimI.begin {a b out:List Nat} {i:Nat} (hl:out.length=a.length+b.length+1) (hd:Dig out) (hv:vL out=vTo (dg a) i*vL b):TimI a b out out i 0 0:=
 ⟨hl,hd,by decide,by simp [vTo,hv]⟩
theorem TimI.done {a b o out:List Nat} {i k:Nat} (h:TimI a b o out i k 0) (hk:b.length≤k):vL out=vTo (dg a) (i+1)*vL b:=by
 have:=h.val
 rw [ZbG b k hk] at this
 simp only [vTo];rw [Nat.add_mul];omega

theorem Zec {f g:Nat→Nat} {i n:Nat} (hi:i<n) (hf:∀j,f j<18446744073709551616) (hg:∀j,g j<18446744073709551616) (h:∀j,i<j→j<n→f j=g j) (hne:f i≠g i):(g i<f i↔vTo g n<vTo f n):=by
 have e:=ZeV (f:=f) (g:=g) (n:=i+1) (m:=n) (by omega) (fun j h1 h2=>h j (by omega) h2)
 have p1:=ZcA (f:=f) (n:=i) (fun j _=>hf j)
 have p2:=ZcA (f:=g) (n:=i) (fun j _=>hg j)
 simp only [vTo] at e
 constructor
 ·intro h1
  have:=Nat.mul_le_mul_right (18446744073709551616^i) (show g i+1≤f i from h1)
  rw [Nat.add_mul] at this
  omega
 ·intro h1
  rcases Nat.lt_or_ge (g i) (f i) with h2|h2
  ·exact h2
  ·have:=Nat.mul_le_mul_right (18446744073709551616^i) (show f i+1≤g i from by omega)
   rw [Nat.add_mul] at this
   omega
theorem ZgR (l:List Nat) (x:Nat):vL (l++ [x])=vL l+x*18446744073709551616^l.length:=by
 unfold vL
 rw [List.length_append,List.length_singleton]
 simp only [vTo]
 congr 1
 ·exact Zb4 (fun i hi=>by unfold dg;rw [List.getElem?_append_left hi])
 ·unfold dg;simp

theorem Zk4 (n:Nat):0<18446744073709551616^n:=Nat.pow_pos (by decide)
theorem Zb9 {l:List Nat} (h:Dig l) (i:Nat):dg l i=vL l/18446744073709551616^i%18446744073709551616:=by
 rcases Nat.lt_or_ge i l.length with hi|hi
 ·have e:∀m,i<m→vTo (dg l) m/18446744073709551616^i%18446744073709551616=dg l i:=by
   intro m
   induction m with
   | zero=>intro h;omega
   | succ m ih=>
    intro him
    simp only [vTo]
    rcases Nat.lt_or_ge i m with h1|h1
    ·obtain ⟨d,rfl⟩:∃d,m=i+1+d:=⟨m - (i+1),by omega⟩
     rw [show dg l (i+1+d)*18446744073709551616^(i+1+d)=18446744073709551616^i*(18446744073709551616*(dg l (i+1+d)*18446744073709551616^d)) from by
      rw [Nat.pow_add,Nat.pow_add];simp only [Nat.pow_one,Nat.mul_comm,Nat.mul_left_comm,Nat.mul_assoc]]
     rw [Nat.add_mul_div_left _ _ (Zk4 i),Nat.add_mul_mod_self_left]
     exact ih h1
    ·obtain rfl:i=m:=by omega
     rw [Nat.mul_comm (dg l i),Nat.add_mul_div_left _ _ (Zk4 i),Nat.div_eq_of_lt (h.vlt i),Nat.zero_add]
     exact Nat.mod_eq_of_lt (h.at i)
  exact (e l.length hi).symm
 ·rw [Zbj hi]
  have:vL l<18446744073709551616^i:=Nat.lt_of_lt_of_le (h.vlt l.length) (Nat.pow_le_pow_right (by decide) hi)
  rw [Nat.div_eq_of_lt this]
theorem Zdq {l m:List Nat} (hl:l.length=m.length) (h:∀i,dg l i=dg m i):l=m:=by
 apply List.ext_getElem hl
 intro i h1 h2
 have:=h i
 unfold dg at this
 rw [List.getElem?_eq_getElem h1,List.getElem?_eq_getElem h2] at this
 exact this
theorem Dig.ext {l m:List Nat} (h:Dig l) (h':Dig m) (hl:l.length=m.length) (hv:vL l=vL m):l=m:=
 Zdq hl (fun i=>by rw [Zb9 h,Zb9 h',hv])
theorem Zca {l:List Nat} (h:Dig l):l=digL (vL l) l.length:=by
 refine h.ext (ZaD _ _) (Zap _ _).symm ?_
 rw [Zdj];exact (Nat.mod_eq_of_lt (h.vlt l.length)).symm
theorem Zbg {x n:Nat} (h:x<18446744073709551616^n):vL (digL x n)=x:=by rw [Zdj,Nat.mod_eq_of_lt h]
theorem Zfd (n:Nat):digL 0 n=List.replicate n 0:=by
 rw [Zca (Dig.zero (n:=n)),ZcM,List.length_replicate]


theorem Dig.vL_lt {l:List Nat} (h:Dig l):vL l<18446744073709551616^l.length:=h.vlt _
theorem Zif (x k:Nat):x/18446744073709551616*(18446744073709551616^k*18446744073709551616)+x%18446744073709551616*18446744073709551616^k=x*18446744073709551616^k:=by
 have hm:x%18446744073709551616+18446744073709551616*(x/18446744073709551616)=x:=Nat.mod_add_div x 18446744073709551616
 conv=>rhs;rw [←hm,Nat.add_mul]
 rw [Nat.mul_comm (18446744073709551616^k) 18446744073709551616, ←Nat.mul_assoc,Nat.mul_comm (x/18446744073709551616) 18446744073709551616];omega
theorem Zig {b:List Nat} (h:b.length=4):vTo (dg b) 4=vL b:=by unfold vL;rw [h]
structure PlusI (a b m:List Nat) (k c:Nat):Prop where
 len:m.length=4
 dig:Dig m
 cl:c≤1
 val:vL m+c*18446744073709551616^k=vL a+vTo (dg b) k
theorem PlusI.start {a:List Nat} (b:List Nat) (h:a.length=4) (hd:Dig a):PlusI a b a 0 0:=⟨h,hd,Nat.zero_le _,by simp only [vTo,Nat.zero_mul,Nat.add_zero]⟩
theorem PlusI.next {a b m:List Nat} {k c x:Nat} (h:PlusI a b m k c) (hb:Dig b) (hk:k<4) (hx:x=dg m k+dg b k+c):PlusI a b (m.set k (x%18446744073709551616)) (k+1) (x/18446744073709551616):=by
 have b1:=h.dig.at k
 have b2:=hb.at k
 have b3:=h.cl
 refine ⟨by rw [List.length_set];exact h.len,h.dig.set _ (Nat.mod_lt _ (by decide)),by omega, ?_⟩
 have hs:=ZbO (l:=m) (j:=k) (x:=x%18446744073709551616) (by rw [h.len];exact hk)
 have hv:=h.val
 have e1:=Zif x k
 have e2:x*18446744073709551616^k=dg m k*18446744073709551616^k+dg b k*18446744073709551616^k+c*18446744073709551616^k:=by rw [hx,Nat.add_mul,Nat.add_mul]
 rw [Nat.pow_succ]
 simp only [vTo]
 omega
theorem PlusI.done {a b m:List Nat} {c:Nat} (h:PlusI a b m 4 c) (hb:b.length=4) (hs:vL a+vL b<18446744073709551616^4):m=digL (vL a+vL b) 4:=by
 have hv:=h.val
 rw [Zig hb] at hv
 have hc:c=0:=by
  rcases Nat.eq_zero_or_pos c with h1|h1
  ·exact h1
  ·have:=Nat.le_mul_of_pos_left (18446744073709551616^4) h1
   omega
 subst hc
 refine h.dig.ext (ZaD _ _) (by rw [h.len,Zap]) ?_
 rw [Zbg hs]
 omega
structure MinusI (a b m:List Nat) (k c:Nat):Prop where
 len:m.length=4
 dig:Dig m
 cl:c≤1
 val:vL m+vTo (dg b) k=vL a+c*18446744073709551616^k
theorem MinusI.start {a:List Nat} (b:List Nat) (h:a.length=4) (hd:Dig a):MinusI a b a 0 0:=⟨h,hd,Nat.zero_le _,by simp only [vTo,Nat.zero_mul,Nat.add_zero]⟩
theorem MinusI.next {a b m:List Nat} {k c x d:Nat} (h:MinusI a b m k c) (hk:k<4) (hx9:x<18446744073709551616) (hd:d≤1) (hx:x+dg b k+c=dg m k+18446744073709551616*d):MinusI a b (m.set k x) (k+1) d:=by
 refine ⟨by rw [List.length_set];exact h.len,h.dig.set _ hx9,hd, ?_⟩
 have hs:=ZbO (l:=m) (j:=k) (x:=x) (by rw [h.len];exact hk)
 have hv:=h.val
 have e:=congrArg (fun y=>y*18446744073709551616^k) hx
 simp only [Nat.add_mul] at e
 rw [Nat.pow_succ,show d*(18446744073709551616^k*18446744073709551616)=18446744073709551616*d*18446744073709551616^k from by rw [Nat.mul_comm (18446744073709551616^k) 18446744073709551616, ←Nat.mul_assoc,Nat.mul_comm d 18446744073709551616]]
 simp only [vTo]
 omega
theorem MinusI.done {a b m:List Nat} {c:Nat} (h:MinusI a b m 4 c) (ha:vL a<18446744073709551616^4) (hb:b.length=4) (hb2:vL b<18446744073709551616^4):(c==1)=decide (vL a<vL b)∧m=digL ((vL a+18446744073709551616^4 - vL b)%18446744073709551616^4) 4:=by
 have hv:=h.val
 have hm:=h.dig.vL_lt
 rw [h.len] at hm
 rw [Zig hb] at hv
 have hcl:=h.cl
 have hm2:m=digL (vL m) 4:=by have:=Zca h.dig;rwa [h.len] at this
 generalize vL m=v at*
 subst hm2
 rcases (show c=0∨c=1 by omega) with rfl|rfl
 ·refine ⟨(decide_eq_false (by omega)).symm, ?_⟩
  rw [show vL a+18446744073709551616^4 - vL b=v+18446744073709551616^4 from by omega,Nat.add_mod_right,Nat.mod_eq_of_lt hm]
 ·refine ⟨(decide_eq_true (by omega)).symm, ?_⟩
  rw [show vL a+18446744073709551616^4 - vL b=v from by omega,Nat.mod_eq_of_lt hm]
theorem ZpC {x y n m k:Nat} (hk:n+m=k) (h1:x<18446744073709551616^n) (h2:y<18446744073709551616^m):x*y<18446744073709551616^k:=by
 rw [←hk,Nat.pow_add];exact Nat.mul_lt_mul_of_lt_of_lt h1 h2
structure MulI (a b m:List Nat) (i k c:Nat):Prop where
 len:m.length=8
 dig:Dig m
 cl:c<18446744073709551616
 val:vL m+c*18446744073709551616^(i+k)=vTo (dg a) i*vL b+dg a i*18446744073709551616^i*vTo (dg b) k
 top:∀j,i+4≤j→dg m j=0
theorem MulI.next {a b m:List Nat} {i k c x:Nat} (h:MulI a b m i k c) (ha:Dig a) (hb:Dig b) (hi:i<4) (hk:k<4) (hx:x=dg a i*dg b k+dg m (i+k)+c):MulI a b (m.set (i+k) (x%18446744073709551616)) i (k+1) (x/18446744073709551616):=by
 have b1:dg a i≤18446744073709551616 - 1:=by have:=ha.at i;omega
 have b2:dg b k≤18446744073709551616 - 1:=by have:=hb.at k;omega
 have b3:=Nat.mul_le_mul b1 b2
 have b4:=h.dig.at (i+k)
 have b5:=h.cl
 refine ⟨by rw [List.length_set];exact h.len,h.dig.set _ (Nat.mod_lt _ (by decide)),by omega, ?_,fun j hj=> ?_⟩
 ·have hs:=ZbO (l:=m) (j:=i+k) (x:=x%18446744073709551616) (by rw [h.len];omega)
  have hv:=h.val
  have e1:=Zif x (i+k)
  have e2:x*18446744073709551616^(i+k)=dg a i*18446744073709551616^i*(dg b k*18446744073709551616^k)+dg m (i+k)*18446744073709551616^(i+k)+c*18446744073709551616^(i+k):=by
   rw [hx,Nat.add_mul,Nat.add_mul,Nat.pow_add,Nat.mul_mul_mul_comm]
  rw [←Nat.add_assoc i k 1,Nat.pow_succ]
  simp only [vTo]
  rw [Nat.mul_add]
  omega
 ·rw [ZcB (by rw [h.len];omega),if_neg (by omega)]
  exact h.top j hj
theorem MulI.line {a b m:List Nat} {i c:Nat} (h:MulI a b m i 4 c) (hb:b.length=4) (hi:i<4):MulI a b (m.set (i+4) c) (i+1) 0 0:=by
 refine ⟨by rw [List.length_set];exact h.len,h.dig.set _ h.cl,by decide, ?_,fun j hj=> ?_⟩
 ·have hs:=ZbO (l:=m) (j:=i+4) (x:=c) (by rw [h.len];omega)
  have hv:=h.val
  rw [h.top (i+4) (Nat.le_refl _)] at hs
  rw [Zig hb] at hv
  simp only [vTo,Nat.mul_zero,Nat.zero_mul,Nat.add_zero,Nat.add_mul] at hs ⊢
  omega
 ·rw [ZcB (by rw [h.len];omega),if_neg (by omega)]
  exact h.top j (by omega)
theorem MulI.start (a b:List Nat):MulI a b (List.replicate 8 0) 0 0 0:=by
 refine ⟨rfl,Dig.zero,by decide,by rw [ZcM];simp only [vTo,Nat.zero_mul,Nat.mul_zero,Nat.add_zero],fun j hj=> ?_⟩
 unfold dg
 rw [List.getElem?_replicate]
 split<;>rfl
theorem MulI.done {a b m:List Nat} {n:Nat} (h:MulI a b m n 0 0) (ha:a.length=n) (hl:m.length=8) (hs:vL a*vL b<18446744073709551616^8):m=digL (vL a*vL b) 8:=by
 have hv:=h.val
 have e:vTo (dg a) n=vL a:=by unfold vL;rw [ha]
 rw [e] at hv
 simp only [vTo,Nat.mul_zero,Nat.zero_mul,Nat.add_zero] at hv
 rw [←hv] at hs ⊢
 have:=Zca h.dig
 rwa [hl] at this
structure FoldI (l m:List Nat) (k c:Nat):Prop where
 len:m.length=4
 dig:Dig m
 cl:c≤38
 val:vL m+c*18446744073709551616^k=38*vTo (fun j=>dg l (j+4)) k+vTo (dg l) k
 top:∀j,k≤j→dg m j=0
theorem FoldI.start (l:List Nat):FoldI l (List.replicate 4 0) 0 0:=by
 refine ⟨rfl,Dig.zero,by decide,by rw [ZcM];simp only [vTo,Nat.zero_mul,Nat.mul_zero,Nat.add_zero],fun j hj=> ?_⟩
 unfold dg
 rw [List.getElem?_replicate]
 split<;>rfl
theorem FoldI.next {l m:List Nat} {k c x:Nat} (h:FoldI l m k c) (hl:Dig l) (hk:k<4) (hx:x=dg l (k+4)*38+dg l k+c):FoldI l (m.set k (x%18446744073709551616)) (k+1) (x/18446744073709551616):=by
 have b1:=hl.at (k+4)
 have b2:=hl.at k
 have b3:=h.cl
 refine ⟨by rw [List.length_set];exact h.len,h.dig.set _ (Nat.mod_lt _ (by decide)),by omega, ?_,fun j hj=> ?_⟩
 ·have hs:=ZbO (l:=m) (j:=k) (x:=x%18446744073709551616) (by rw [h.len];exact hk)
  rw [h.top k (Nat.le_refl _)] at hs
  have hv:=h.val
  have e1:=Zif x k
  have e2:x*18446744073709551616^k=38*(dg l (k+4)*18446744073709551616^k)+dg l k*18446744073709551616^k+c*18446744073709551616^k:=by
   rw [hx,Nat.add_mul,Nat.add_mul,Nat.mul_right_comm,Nat.mul_comm _ 38]
  rw [Nat.pow_succ]
  simp only [vTo,Nat.mul_add]
  omega
 ·rw [ZcB (by rw [h.len];exact hk),if_neg (by omega)]
  exact h.top j (by omega)
theorem ZqR (l:List Nat) (m n:Nat):vTo (dg l) m+18446744073709551616^m*vTo (fun j=>dg l (j+m)) n=vTo (dg l) (n+m):=by
 induction n with
 | zero=>rw [Nat.zero_add];simp only [vTo,Nat.mul_zero,Nat.add_zero]
 | succ n ih=>
  rw [show n+1+m=(n+m)+1 from by omega]
  have e1:vTo (dg l) (n+m+1)=vTo (dg l) (n+m)+dg l (n+m)*18446744073709551616^(n+m):=rfl
  have e2:vTo (fun j=>dg l (j+m)) (n+1)=vTo (fun j=>dg l (j+m)) n+dg l (n+m)*18446744073709551616^n:=rfl
  rw [e1,e2, ←ih,Nat.mul_add,Nat.pow_add 18446744073709551616 n m,Nat.mul_left_comm (18446744073709551616^m),Nat.mul_comm (18446744073709551616^m) (18446744073709551616^n),Nat.add_assoc]
theorem FoldI.done {l m:List Nat} {n k c:Nat} (h:FoldI l m n c) (hn:n=4) (hk:n+n=k) (hl:l.length=k) (hd:Dig l):∃hi lo,vL l=lo+18446744073709551616^n*hi∧lo<18446744073709551616^n∧vL m+c*18446744073709551616^n=38*hi+lo:=by
 refine ⟨vTo (fun j=>dg l (j+n)) n,vTo (dg l) n, ?_,hd.vlt n, ?_⟩
 ·rw [ZqR l n n,hk]
  unfold vL;rw [hl]
 ·rw [h.val,hn]
theorem ZqS {m:List Nat} (h:Dig m) {q v:Nat} (hv:vL m<18446744073709551616^q*v):dg m q<v:=by
 rw [Zb9 h]
 exact Nat.lt_of_le_of_lt (Nat.mod_le _ _) (Nat.div_lt_of_lt_mul hv)
theorem Zih (k:Nat):256^k=18446744073709551616^(k/8)*256^(k%8):=by
 rw [show 18446744073709551616=256^8 from by decide, ←Nat.pow_mul, ←Nat.pow_add]
 congr 1
 omega
theorem ZpA {m:List Nat} (hl:m.length=4) (h:Dig m):dg m 3/9223372036854775808=vL m/2^255∧m.set 3 (dg m 3%9223372036854775808)=digL (vL m%2^255) 4:=by
 have hs:=ZbO (l:=m) (j:=3) (x:=dg m 3%9223372036854775808) (by rw [hl];decide)
 have hd:=h.at 3
 have hv:=h.vL_lt
 rw [hl] at hv
 have e:dg m 3=vL m/18446744073709551616^3:=by
  rw [Zb9 h,Nat.mod_eq_of_lt]
  exact Nat.div_lt_of_lt_mul (by rw [show 18446744073709551616^3*18446744073709551616=18446744073709551616^4 from by decide];exact hv)
 have e2:=Nat.div_add_mod (vL m) (18446744073709551616^3)
 have e3:vL m%18446744073709551616^3<18446744073709551616^3:=Nat.mod_lt _ (by decide)
 rw [←e] at e2
 generalize vL m=v at*
 generalize dg m 3=d at*
 have k1:d/9223372036854775808=v/2^255:=by omega
 refine ⟨k1, ?_⟩
 have hdig:Dig (m.set 3 (d%9223372036854775808)):=h.set _ (by omega)
 have hl2:(m.set 3 (d%9223372036854775808)).length=4:=by rw [List.length_set];exact hl
 refine hdig.ext (ZaD _ _) (by rw [hl2,Zap]) ?_
 rw [Zbg (by omega)]
 omega
theorem Zpw {m:List Nat} {a k x:Nat} (hl:m.length=4) (h:Dig m) (hv:vL m=a%256^k) (hk:k<32) (hx:x=a/256^k%256):
  dg m (k/8)<256^(k%8)∧x*256^(k%8)<18446744073709551616∧dg m (k/8)|||x*256^(k%8)=dg m (k/8)+x*256^(k%8)∧dg m (k/8)+x*256^(k%8)<18446744073709551616∧
   vL (m.set (k/8) (dg m (k/8)+x*256^(k%8)))=a%256^(k+1):=by
 have hp:0<256^k:=Nat.pow_pos (by decide)
 have h1:dg m (k/8)<256^(k%8):=ZqS h (by rw [←Zih,hv];exact Nat.mod_lt _ hp)
 have hx9:x<256:=by rw [hx];exact Nat.mod_lt _ (by decide)
 have h2:(x+1)*256^(k%8)≤256^8:=by
  have e1:(x+1)*256^(k%8)≤256*256^(k%8):=Nat.mul_le_mul_right _ hx9
  have e2:256*256^(k%8)=256^(k%8+1):=by rw [Nat.pow_succ,Nat.mul_comm]
  have e3:256^(k%8+1)≤256^8:=Nat.pow_le_pow_right (by decide) (by omega)
  omega
 rw [Nat.add_mul,Nat.one_mul,show (256:Nat)^8=18446744073709551616 from by decide] at h2
 refine ⟨h1,by omega, ?_,by omega, ?_⟩
 ·rw [Nat.or_comm,show (256:Nat)^(k%8)=2^(8*(k%8)) from by rw [Nat.pow_mul],Nat.mul_comm, ←Nat.two_pow_add_eq_or_of_lt (by rw [Nat.pow_mul];exact h1)]
  omega
 ·have hs:=ZbO (l:=m) (j:=k/8) (x:=dg m (k/8)+x*256^(k%8)) (by rw [hl];omega)
  rw [Nat.add_mul,Nat.mul_assoc,Nat.mul_comm (256^(k%8)), ←Zih,hv] at hs
  rw [Nat.pow_succ,Nat.mod_mul, ←hx,Nat.mul_comm (256^k)]
  omega
theorem Zpx (a k:Nat):a/18446744073709551616^(k/8)%18446744073709551616/256^(k%8)%256=a/256^k%256:=by
 have hk:k%8<8:=Nat.mod_lt _ (by decide)
 rw [Zih k, ←Nat.div_div_eq_div_mul]
 generalize a/18446744073709551616^(k/8)=b
 have e:18446744073709551616=256^(k%8)*(256*256^(7 - k%8)):=by
  rw [show 256*256^(7 - k%8)=256^(8 - k%8) from by rw [show 8 - k%8=(7 - k%8)+1 from by omega,Nat.pow_succ,Nat.mul_comm], ←Nat.pow_add,show k%8+(8 - k%8)=8 from by omega]
 rw [e,Nat.mod_mul_right_div_self,Nat.mod_mul_right_mod]
theorem ZqT (n i:Nat):n/18446744073709551616^(i/64)%18446744073709551616/2^(i%64)%2=n/2^i%2:=by
 have hk:i%64<64:=Nat.mod_lt _ (by decide)
 have e0:2^i=18446744073709551616^(i/64)*2^(i%64):=by
  rw [show 18446744073709551616=2^64 from by decide, ←Nat.pow_mul, ←Nat.pow_add]
  congr 1
  omega
 rw [e0, ←Nat.div_div_eq_div_mul]
 generalize n/18446744073709551616^(i/64)=b
 have e:18446744073709551616=2^(i%64)*(2*2^(63 - i%64)):=by
  rw [show 2*2^(63 - i%64)=2^(64 - i%64) from by rw [show 64 - i%64=(63 - i%64)+1 from by omega,Nat.pow_succ,Nat.mul_comm], ←Nat.pow_add,show i%64+(64 - i%64)=64 from by omega]
 rw [e,Nat.mod_mul_right_div_self,Nat.mod_mul_right_mod]
end Go.Proofs.YtcaloldcihpkfaaGreatDoor.W

/-
  Layer 16, in plain words: p = 2^255 - 19 is prime, and 2 is a root of all: each number from 1 to p - 1 is a power of 2 (taken round p). By a chain of numbers whose predecessors are known as products, reckoned by the kernel.
-/
namespace Go.Proofs.YtcaloldcihpkfaaGreatDoor.N
set_option linter.unusedVariables false
set_option maxRecDepth 8192

def Prm (q:Nat):Prop:=1<q∧∀d,d∣q→d=1∨d=q

theorem ZqU (m:Nat):∀f:Nat→Nat,(∀i,i<m→f i<m)→(∀i j,i<m→j<m→f i=f j→i=j)→∀y,y<m→∃i,i<m∧f i=y:=by
  induction m with
  | zero=>intro f _ _ y hy;omega
  | succ m ih=>
    intro f hf hi y hy
    have hc:=hf m (by omega)
    have hne:∀i,i<m→f i≠f m:=fun i h e=>by have:=hi i m (by omega) (by omega) e;omega
    obtain ⟨g,hg⟩:∃g:Nat→Nat,∀i,g i=if f i=m then f m else f i:=⟨_,fun _=>rfl⟩
    have h1:∀i,i<m→g i<m:=fun i h=>by
      rw [hg]
      have a:=hf i (by omega)
      have b:=hne i h
      split<;>omega
    have h2:∀i j,i<m→j<m→g i=g j→i=j:=fun i j h h' e=>by
      rw [hg,hg] at e
      have a:=hne i h
      have b:=hne j h'
      split at e
      · split at e
        · exact hi i j (by omega) (by omega) (by omega)
        · exact absurd e.symm b
      · split at e
        · exact absurd e a
        · exact hi i j (by omega) (by omega) e
    by_cases e:y=f m
    · exact ⟨m,by omega,e.symm⟩
    · by_cases ym:y=m
      · obtain ⟨i,h3,h4⟩:=ih g h1 h2 (f m) (by omega)
        rw [hg] at h4
        split at h4
        · rename_i h5;exact ⟨i,by omega,by omega⟩
        · exact absurd h4 (hne i h3)
      · obtain ⟨i,h3,h4⟩:=ih g h1 h2 y (by omega)
        rw [hg] at h4
        split at h4
        · exact absurd h4.symm e
        · exact ⟨i,by omega,h4⟩
theorem ZqV (P:Nat→Prop):∀n,P n→∃k,P k∧∀j,j<k→¬P j:=by
  intro n
  induction n using Nat.strongRecOn with
  | ind n ih=>
    intro h
    by_cases e:∃j,j<n∧P j
    · obtain ⟨j,h1,h2⟩:=e;exact ih j h1 h2
    · exact ⟨n,h,fun j h1 h2=>e ⟨j,h1,h2⟩⟩
theorem ZqW:∀(fs:List Nat) (c:Nat),(∀q∈fs,Prm q)→c≠1→c∣fs.prod→∃q,q∈fs∧q∣c:=by
  intro fs
  induction fs with
  | nil=>intro c _ h1 h2;simp at h2;exact absurd h2 h1
  | cons q fs ih=>
    intro c hp h1 h2
    rw [List.prod_cons] at h2
    rcases (hp q List.mem_cons_self).2 (Nat.gcd c q) (Nat.gcd_dvd_right c q) with h|h
    · have h3:c∣fs.prod:=Nat.Coprime.dvd_of_dvd_mul_left h h2
      obtain ⟨r,h4,h5⟩:=ih c (fun x hx=>hp x (List.mem_cons_of_mem _ hx)) h1 h3
      exact ⟨r,List.mem_cons_of_mem _ h4,h5⟩
    · exact ⟨q,List.mem_cons_self,by rw [←h];exact Nat.gcd_dvd_left c q⟩
theorem Zd2 {g n d:Nat} (k:Nat) (h:g^d%n=1) (hn:1<n):g^(d*k)%n=1:=by
  rw [Nat.pow_mul,Nat.pow_mod,h,Nat.one_pow,Nat.mod_eq_of_lt hn]
structure Gen (n g:Nat):Prop where
  one:1<n
  full:g^(n - 1)%n=1
  first:∀d,0<d→d<n - 1→g^d%n≠1
theorem Gen.of {n g:Nat} (fs:List Nat) (hn:1<n) (hp:∀q∈fs,Prm q) (hf:fs.prod=n - 1) (h1:g^(n - 1)%n=1) (h2:∀q∈fs,g^((n - 1)/q)%n≠1):Gen n g:=by
  refine ⟨hn,h1, ?_⟩
  obtain ⟨d,⟨hd0,hd1⟩,hmin⟩:=ZqV (fun d=>0<d∧g^d%n=1) (n - 1) ⟨by omega,h1⟩
  have hdv:(n - 1)%d=0:=by
    rcases Nat.eq_zero_or_pos ((n - 1)%d) with h|h
    · exact h
    · exfalso
      refine hmin _ (Nat.mod_lt _ hd0) ⟨h, ?_⟩
      have e:=Nat.div_add_mod (n - 1) d
      have h3:=h1
      rw [←e,Nat.pow_add,Nat.mul_mod,Zd2 _ hd1 hn,Nat.one_mul,Nat.mod_mod] at h3
      exact h3
  obtain ⟨c,hc⟩:=Nat.dvd_of_mod_eq_zero hdv
  have hc1:c=1:=by
    by_cases e:c=1
    · exact e
    · exfalso
      obtain ⟨q,hq,hqc⟩:=ZqW fs c hp e ⟨d,by rw [hf,hc,Nat.mul_comm]⟩
      obtain ⟨b,rfl⟩:=hqc
      have hq0:0<q:=by have:=(hp q hq).1;omega
      refine h2 q hq ?_
      rw [hc,show d*(q*b)=q*(d*b) from Nat.mul_left_comm _ _ _,Nat.mul_div_cancel_left _ hq0]
      exact Zd2 _ hd1 hn
  intro k hk0 hk1 hk
  exact hmin k (by rw [hc,hc1] at hk1;omega) ⟨hk0,hk⟩
theorem Gen.ne_zero {n g:Nat} (h:Gen n g) (k:Nat):g^k%n≠0:=by
  intro e
  have hn:=h.one
  have h1:g^((n - 1)*(k+1))%n=1:=Zd2 _ h.full hn
  have e2:(n - 1)*(k+1)=k+((n - 1)*(k+1) - k):=by
    have:k+1≤(n - 1)*(k+1):=Nat.le_mul_of_pos_left _ (by omega)
    omega
  rw [e2,Nat.pow_add,Nat.mul_mod,e,Nat.zero_mul,Nat.zero_mod] at h1
  exact absurd h1 (by decide)
theorem Gen.cancel {n g:Nat} (h:Gen n g) (k d:Nat) (e:g^k%n=g^(k+d)%n):g^d%n=1:=by
  have hn:=h.one
  -- times g to the power that lacks
  have e2:(n - 1)*(k+1)=k+((n - 1)*(k+1) - k):=by
    have:k+1≤(n - 1)*(k+1):=Nat.le_mul_of_pos_left _ (by omega)
    omega
  generalize hm:(n - 1)*(k+1) - k=m at e2
  have h1:g^(k+m)%n=1:=by rw [←e2];exact Zd2 _ h.full hn
  have h2:g^(k+d+m)%n=1:=by
    rw [Nat.pow_add,Nat.mul_mod, ←e, ←Nat.mul_mod, ←Nat.pow_add,h1]
  rw [show k+d+m=(k+m)+d from by omega,Nat.pow_add,Nat.mul_mod,h1,Nat.one_mul,Nat.mod_mod] at h2
  exact h2
theorem Gen.inj {n g:Nat} (h:Gen n g) (i j:Nat) (hi:i<n - 1) (hj:j<n - 1) (e:g^i%n=g^j%n):i=j:=by
  rcases Nat.lt_trichotomy i j with h1|h1|h1
  · exfalso
    exact h.first (j - i) (by omega) (by omega) (h.cancel i (j - i) (by rw [show i+(j - i)=j from by omega];exact e))
  · exact h1
  · exfalso
    exact h.first (i - j) (by omega) (by omega) (h.cancel j (i - j) (by rw [show j+(i - j)=i from by omega];exact e.symm))
theorem Gen.all {n g:Nat} (h:Gen n g) (y:Nat) (h0:0<y) (hy:y<n):∃k,k<n - 1∧g^k%n=y:=by
  have hn:=h.one
  have hlt:∀i,g^i%n<n:=fun i=>Nat.mod_lt _ (by omega)
  obtain ⟨i,h1,h2⟩:=ZqU (n - 1) (fun i=>g^i%n - 1) (fun i _=>by have:=hlt i;have:=h.ne_zero i;show _ - 1<_;omega)
    (fun i j hi hj e=>h.inj i j hi hj (by have a:=h.ne_zero i;have b:=h.ne_zero j;have e':g^i%n - 1=g^j%n - 1:=e;omega)) (y - 1) (by omega)
  have h2':g^i%n - 1=y - 1:=h2
  have:=h.ne_zero i
  exact ⟨i,h1,by omega⟩
theorem Gen.mul_ne {n g:Nat} (h:Gen n g) {a b:Nat} (ha:a%n≠0) (hb:b%n≠0):a*b%n≠0:=by
  have hn:=h.one
  obtain ⟨i,_,hi⟩:=h.all (a%n) (Nat.pos_of_ne_zero ha) (Nat.mod_lt _ (by omega))
  obtain ⟨j,_,hj⟩:=h.all (b%n) (Nat.pos_of_ne_zero hb) (Nat.mod_lt _ (by omega))
  rw [Nat.mul_mod, ←hi, ←hj, ←Nat.mul_mod, ←Nat.pow_add]
  exact h.ne_zero _
theorem Gen.prm {n g:Nat} (h:Gen n g):Prm n:=by
  have hn:=h.one
  refine ⟨hn,fun d hd=> ?_⟩
  obtain ⟨e,he⟩:=hd
  have hd0:0<d:=Nat.pos_of_ne_zero (by rintro rfl;rw [Nat.zero_mul] at he;omega)
  have he0:0<e:=Nat.pos_of_ne_zero (by rintro rfl;rw [Nat.mul_zero] at he;omega)
  by_cases h1:d=1
  · exact .inl h1
  · right
    by_cases h2:e=1
    · rw [he,h2,Nat.mul_one]
    · exfalso
      have a1:d*2≤d*e:=Nat.mul_le_mul_left _ (by omega)
      have a2:2*e≤d*e:=Nat.mul_le_mul_right _ (by omega)
      refine h.mul_ne (a:=d) (b:=e) ?_ ?_ (by rw [←he,Nat.mod_self])
      · rw [Nat.mod_eq_of_lt (by omega)];omega
      · rw [Nat.mod_eq_of_lt (by omega)];omega
theorem Zbb {q:Nat} (h1:1<q) (h2:q<70225) (h:(List.range 263).all (fun i=>decide (q%(i+2)≠0)||decide (q≤i+2))=true):Prm q:=by
  refine ⟨h1,fun d hd=> ?_⟩
  obtain ⟨e,he⟩:=hd
  have key:∀x,2≤x→x<265→q%x=0→q≤x:=fun x hx hx2 hq=>by
    have:=List.all_eq_true.1 h (x - 2) (List.mem_range.2 (by omega))
    rw [show x - 2+2=x from by omega] at this
    simp only [Bool.or_eq_true,decide_eq_true_eq] at this
    rcases this with h|h
    · exact absurd hq h
    · exact h
  have hd0:0<d:=Nat.pos_of_ne_zero (by rintro rfl;rw [Nat.zero_mul] at he;omega)
  have he0:0<e:=Nat.pos_of_ne_zero (by rintro rfl;rw [Nat.mul_zero] at he;omega)
  by_cases hd1:d=1
  · exact .inl hd1
  · right
    by_cases he1:e=1
    · rw [he,he1,Nat.mul_one]
    · have a1:d*2≤d*e:=Nat.mul_le_mul_left _ (by omega)
      have a2:2*e≤d*e:=Nat.mul_le_mul_right _ (by omega)
      rcases Nat.lt_or_ge d 265 with hd2|hd2
      · have:=key d (by omega) hd2 (by rw [he,Nat.mul_mod_right])
        omega
      · rcases Nat.lt_or_ge e 265 with he2|he2
        · have:=key e (by omega) he2 (by rw [he,Nat.mul_mod_left])
          omega
        · have:=Nat.mul_le_mul hd2 he2
          omega
def pwM (n:Nat):Nat→Nat→Nat→Nat
  | 0,_,_=>1%n
  | f+1,g,e=>bif Nat.beq (e%2) 1 then g*pwM n f (g*g%n) (e/2)%n else pwM n f (g*g%n) (e/2)
theorem ZeD (n:Nat) (f:Nat):∀g e,e<2^f→pwM n f g e=g^e%n:=by
  induction f with
  | zero=>intro g e h;rw [show e=0 from by simpa using h];rfl
  | succ f ih=>
    intro g e h
    have h2:e/2<2^f:=by rw [Nat.pow_succ] at h;omega
    have e1:(g*g%n)^(e/2)%n=g^(2*(e/2))%n:=by
      rw [←Nat.pow_mod,Nat.pow_mul,show g^2=g*g from by rw [Nat.pow_succ,Nat.pow_one]]
    simp only [pwM]
    rw [ih _ _ h2,e1]
    by_cases ho:e%2=1
    · rw [show Nat.beq (e%2) 1=true from by rw [ho];rfl,cond_true,Nat.mul_mod,Nat.mod_mod, ←Nat.mul_mod, ←Nat.pow_succ']
      congr 2
      omega
    · rw [show Nat.beq (e % 2) 1 = false from by have : e % 2 = 0 := by omega
                                                 rw [this];rfl,cond_false]
      congr 2
      omega
def Zk5 (n g:Nat) (fs:List Nat):Bool:=
  Nat.beq fs.prod (n - 1)&&Nat.blt (n - 1) (2^256)&&Nat.beq (pwM n 256 g (n - 1)) 1&&fs.all (fun q=> !Nat.beq (pwM n 256 g ((n - 1)/q)) 1)
theorem Zcn {n g:Nat} (fs:List Nat) (hn:1<n) (hp:∀q∈fs,Prm q) (h:Zk5 n g fs=true):Gen n g:=by
  simp only [Zk5,Bool.and_eq_true] at h
  obtain ⟨⟨⟨h1,h2⟩,h3⟩,h4⟩:=h
  have h2':n - 1<2^256:=Nat.lt_of_succ_le (Nat.le_of_ble_eq_true h2)
  refine Gen.of fs hn hp (Nat.eq_of_beq_eq_true h1) ?_ (fun q hq=> ?_)
  · have:=Nat.eq_of_beq_eq_true h3
    rwa [ZeD n 256 g _ h2'] at this
  · have h5:=List.all_eq_true.1 h4 q hq
    rw [ZeD n 256 g _ (Nat.lt_of_le_of_lt (Nat.div_le_self _ _) h2')] at h5
    intro e
    rw [e] at h5
    exact absurd h5 (by decide)
theorem prm2:Prm 2:=Zbb (by decide) (by decide) (by decide+kernel)
theorem prm3:Prm 3:=Zbb (by decide) (by decide) (by decide+kernel)
theorem prm5:Prm 5:=Zbb (by decide) (by decide) (by decide+kernel)
theorem prm7:Prm 7:=Zbb (by decide) (by decide) (by decide+kernel)
theorem ZqX:Prm 13:=Zbb (by decide) (by decide) (by decide+kernel)
theorem ZqY:Prm 19:=Zbb (by decide) (by decide) (by decide+kernel)
theorem ZqZ:Prm 31:=Zbb (by decide) (by decide) (by decide+kernel)
theorem Zq0:Prm 43:=Zbb (by decide) (by decide) (by decide+kernel)
theorem Zk6:Prm 47:=Zbb (by decide) (by decide) (by decide+kernel)
theorem Zq1:Prm 97:=Zbb (by decide) (by decide) (by decide+kernel)
theorem Zq2:Prm 103:=Zbb (by decide) (by decide) (by decide+kernel)
theorem Zq3:Prm 107:=Zbb (by decide) (by decide) (by decide+kernel)
theorem Zq4:Prm 127:=Zbb (by decide) (by decide) (by decide+kernel)
theorem Zq5:Prm 131:=Zbb (by decide) (by decide) (by decide+kernel)
theorem Zq6:Prm 223:=Zbb (by decide) (by decide) (by decide+kernel)
theorem Zq7:Prm 353:=Zbb (by decide) (by decide) (by decide+kernel)
theorem Zq8:Prm 419:=Zbb (by decide) (by decide) (by decide+kernel)
theorem Zq9:Prm 991:=Zbb (by decide) (by decide) (by decide+kernel)
theorem Zra:Prm 1723:=Zbb (by decide) (by decide) (by decide+kernel)
theorem Zrb:Prm 2437:=Zbb (by decide) (by decide) (by decide+kernel)
theorem Zrc:Prm 3727:=Zbb (by decide) (by decide) (by decide+kernel)
theorem Zrd:Prm 4153:=Zbb (by decide) (by decide) (by decide+kernel)
theorem Zre:Prm 37853:=Zbb (by decide) (by decide) (by decide+kernel)
theorem Zrf:Prm 57467:=Zbb (by decide) (by decide) (by decide+kernel)
theorem Zrg:Prm 65147:=Zbb (by decide) (by decide) (by decide+kernel)
theorem Zrh:Gen 75707 2:=by
  refine Zcn [2,37853] (by decide) ?_ (by decide+kernel)
  intro q hq
  simp only [List.mem_cons,List.not_mem_nil,or_false] at hq
  rcases hq with rfl|rfl
  · exact prm2
  · exact Zre
theorem Zri:Prm 75707:=Zrh.prm
theorem Zrj:Gen 132049 26:=by
  refine Zcn [2,2,2,2,3,3,7,131] (by decide) ?_ (by decide+kernel)
  intro q hq
  simp only [List.mem_cons,List.not_mem_nil,or_false] at hq
  rcases hq with rfl|rfl|rfl|rfl|rfl|rfl|rfl|rfl
  · exact prm2
  · exact prm2
  · exact prm2
  · exact prm2
  · exact prm3
  · exact prm3
  · exact prm7
  · exact Zq5
theorem Zrk:Prm 132049:=Zrj.prm
theorem Zrl:Gen 430751 17:=by
  refine Zcn [2,5,5,5,1723] (by decide) ?_ (by decide+kernel)
  intro q hq
  simp only [List.mem_cons,List.not_mem_nil,or_false] at hq
  rcases hq with rfl|rfl|rfl|rfl|rfl
  · exact prm2
  · exact prm5
  · exact prm5
  · exact prm5
  · exact Zra
theorem Zrm:Prm 430751:=Zrl.prm
theorem Zrn:Gen 569003 2:=by
  refine Zcn [2,7,97,419] (by decide) ?_ (by decide+kernel)
  intro q hq
  simp only [List.mem_cons,List.not_mem_nil,or_false] at hq
  rcases hq with rfl|rfl|rfl|rfl
  · exact prm2
  · exact prm7
  · exact Zq1
  · exact Zq8
theorem Zro:Prm 569003:=Zrn.prm
theorem Zrp:Gen 1923133 2:=by
  refine Zcn [2,2,3,43,3727] (by decide) ?_ (by decide+kernel)
  intro q hq
  simp only [List.mem_cons,List.not_mem_nil,or_false] at hq
  rcases hq with rfl|rfl|rfl|rfl|rfl
  · exact prm2
  · exact prm2
  · exact prm3
  · exact Zq0
  · exact Zrc
theorem Zrq:Prm 1923133:=Zrp.prm
theorem Zrr:Gen 8574133 2:=by
  refine Zcn [2,2,3,7,103,991] (by decide) ?_ (by decide+kernel)
  intro q hq
  simp only [List.mem_cons,List.not_mem_nil,or_false] at hq
  rcases hq with rfl|rfl|rfl|rfl|rfl|rfl
  · exact prm2
  · exact prm2
  · exact prm3
  · exact prm7
  · exact Zq2
  · exact Zq9
theorem Zrs:Prm 8574133:=Zrr.prm
theorem Zrt:Gen 2773320623 5:=by
  refine Zcn [2,2437,569003] (by decide) ?_ (by decide+kernel)
  intro q hq
  simp only [List.mem_cons,List.not_mem_nil,or_false] at hq
  rcases hq with rfl|rfl|rfl
  · exact prm2
  · exact Zrb
  · exact Zro
theorem Zru:Prm 2773320623:=Zrt.prm
theorem Zrv:Gen 72106336199 7:=by
  refine Zcn [2,13,2773320623] (by decide) ?_ (by decide+kernel)
  intro q hq
  simp only [List.mem_cons,List.not_mem_nil,or_false] at hq
  rcases hq with rfl|rfl|rfl
  · exact prm2
  · exact ZqX
  · exact Zru
theorem Zrw:Prm 72106336199:=Zrv.prm
theorem Zrx:Gen 1919519569386763 2:=by
  refine Zcn [2,3,7,19,47,47,127,8574133] (by decide) ?_ (by decide+kernel)
  intro q hq
  simp only [List.mem_cons,List.not_mem_nil,or_false] at hq
  rcases hq with rfl|rfl|rfl|rfl|rfl|rfl|rfl|rfl
  · exact prm2
  · exact prm3
  · exact prm7
  · exact ZqY
  · exact Zk6
  · exact Zk6
  · exact Zq4
  · exact Zrs
theorem Zry:Prm 1919519569386763:=Zrx.prm
theorem Zrz:Gen 31757755568855353 10:=by
  refine Zcn [2,2,2,3,31,107,223,4153,430751] (by decide) ?_ (by decide+kernel)
  intro q hq
  simp only [List.mem_cons,List.not_mem_nil,or_false] at hq
  rcases hq with rfl|rfl|rfl|rfl|rfl|rfl|rfl|rfl|rfl
  · exact prm2
  · exact prm2
  · exact prm2
  · exact prm3
  · exact ZqZ
  · exact Zq3
  · exact Zq6
  · exact Zrd
  · exact Zrm
theorem ZrA:Prm 31757755568855353:=Zrz.prm
theorem ZrB:Gen 75445702479781427272750846543864801 7:=by
  refine Zcn [2,2,2,2,2,3,3,5,5,75707,72106336199,1919519569386763] (by decide) ?_ (by decide+kernel)
  intro q hq
  simp only [List.mem_cons,List.not_mem_nil,or_false] at hq
  rcases hq with rfl|rfl|rfl|rfl|rfl|rfl|rfl|rfl|rfl|rfl|rfl|rfl
  · exact prm2
  · exact prm2
  · exact prm2
  · exact prm2
  · exact prm2
  · exact prm3
  · exact prm3
  · exact prm5
  · exact prm5
  · exact Zri
  · exact Zrw
  · exact Zry
theorem ZrC:Prm 75445702479781427272750846543864801:=ZrB.prm
theorem ZrD:Gen 74058212732561358302231226437062788676166966415465897661863160754340907 2:=by
  refine Zcn [2,3,353,57467,132049,1923133,31757755568855353,75445702479781427272750846543864801] (by decide) ?_ (by decide+kernel)
  intro q hq
  simp only [List.mem_cons,List.not_mem_nil,or_false] at hq
  rcases hq with rfl|rfl|rfl|rfl|rfl|rfl|rfl|rfl
  · exact prm2
  · exact prm3
  · exact Zq7
  · exact Zrf
  · exact Zrk
  · exact Zrq
  · exact ZrA
  · exact ZrC
theorem ZrE:Prm 74058212732561358302231226437062788676166966415465897661863160754340907:=ZrD.prm
theorem ZrF:Gen 57896044618658097711785492504343953926634992332820282019728792003956564819949 2:=by
  refine Zcn [2,2,3,65147,74058212732561358302231226437062788676166966415465897661863160754340907] (by decide) ?_ (by decide+kernel)
  intro q hq
  simp only [List.mem_cons,List.not_mem_nil,or_false] at hq
  rcases hq with rfl|rfl|rfl|rfl|rfl
  · exact prm2
  · exact prm2
  · exact prm3
  · exact Zrg
  · exact ZrE
def fP:Nat:=57896044618658097711785492504343953926634992332820282019728792003956564819949
theorem ZhX:fP=2^255 - 19:=by decide
theorem genP:Gen fP 2:=ZrF
end Go.Proofs.YtcaloldcihpkfaaGreatDoor.N

/-
 Layer 16, in plain words: numbers taken round p = 2^255 - 19: inverses, products that are 0, squares and their roots.
-/
namespace Go.Proofs.YtcaloldcihpkfaaGreatDoor.N
set_option linter.unusedVariables false
set_option maxRecDepth 8192

theorem Zk7:0<fP:=by decide
theorem Zfn:1<fP:=by decide
theorem Zii:fP%2=1:=by decide
theorem ZrG:fP<2^255:=by decide
theorem ZcI (a:Nat):a%fP<fP:=Nat.mod_lt _ Zk7
theorem Zdz (a k:Nat):(a%fP)^k%fP=a^k%fP:=(Nat.pow_mod a k fP).symm
theorem Zgs (a:Nat) (h:a%fP≠0):∃k,k<fP - 1∧2^k%fP=a%fP:=genP.all (a%fP) (Nat.pos_of_ne_zero h) (ZcI a)
theorem Zk8 (a:Nat) (h:a%fP≠0):a^(fP - 1)%fP=1:=by
 obtain ⟨k,_,hk⟩:=Zgs a h
 rw [←Zdz, ←hk,Zdz, ←Nat.pow_mul,Nat.mul_comm]
 exact Zd2 k genP.full Zfn
theorem Zk9 (a:Nat) (h:a%fP≠0):a*(a^(fP - 2)%fP)%fP=1:=by
 rw [Nat.mul_mod,Nat.mod_mod, ←Nat.mul_mod, ←Nat.pow_succ',show (fP - 2).succ=fP - 1 from by decide]
 exact Zk8 a h
theorem Zgt (a b:Nat):a*b%fP=0↔a%fP=0∨b%fP=0:=by
 constructor
 ·intro h
  by_cases ha:a%fP=0
  ·exact .inl ha
  ·by_cases hb:b%fP=0
   ·exact .inr hb
   ·exact absurd h (genP.mul_ne ha hb)
 ·rintro (h|h)
  ·rw [Nat.mul_mod,h,Nat.zero_mul,Nat.zero_mod]
  ·rw [Nat.mul_mod,h,Nat.mul_zero,Nat.zero_mod]
theorem Zla {x y:Nat} (hx:x<fP) (hy:y<fP) (h:x*x%fP=y*y%fP):x=y∨x+y=fP:=by
 have key:∀u v,u≤v→v<fP→u*u%fP=v*v%fP→u=v∨u+v=fP:=fun u v huv hv e=>by
  have h1:(v+u)*(v - u)%fP=0:=by
   have h2:v*v - u*u=(v+u)*(v - u):=by
    obtain ⟨d,rfl⟩:∃d,v=u+d:=⟨v - u,by omega⟩
    rw [show u+d - u=d from by omega,Nat.add_mul (u+d) u d,Nat.add_mul u d (u+d),Nat.mul_add u u d,Nat.mul_add d u d,Nat.add_mul u d d,Nat.mul_comm d u]
    omega
   rw [←h2]
   exact Nat.sub_mod_eq_zero_of_mod_eq e.symm
  rcases (Zgt _ _).1 h1 with h2|h2
  ·have h3:v+u<2*fP:=by omega
   rcases Nat.lt_or_ge (v+u) fP with h4|h4
   ·rw [Nat.mod_eq_of_lt h4] at h2;left;omega
   ·rw [Nat.mod_eq_sub_mod h4,Nat.mod_eq_of_lt (by omega)] at h2;right;omega
  ·rw [Nat.mod_eq_of_lt (by omega)] at h2;left;omega
 rcases Nat.le_total x y with h1|h1
 ·exact key x y h1 hy h
 ·rcases key y x h1 hx h.symm with h2|h2
  ·exact .inl h2.symm
  ·right;omega
theorem ZrH {x:Nat} (hx:x≤fP):(fP - x)*(fP - x)%fP=x*x%fP:=by
 have e:(fP - x)*(fP - x)+2*x*fP=x*x+fP*fP:=by
  obtain ⟨d,hd⟩:∃d,fP=x+d:=⟨fP - x,by omega⟩
  rw [hd,show x+d - x=d from by omega,Nat.mul_add (2*x),Nat.add_mul x d (x+d),Nat.mul_add x x d,Nat.mul_add d x d,Nat.mul_comm d x,Nat.mul_assoc 2 x x,Nat.mul_assoc 2 x d]
  omega
 have e2:=congrArg (· %fP) e
 simp only [Nat.add_mul_mod_self_right] at e2
 exact e2
def Zco (a:Nat):Prop:=∃r,r*r%fP=a%fP
theorem Zij {a k:Nat} (h:2^k%fP=a%fP) (hk:k%2=0):Zco a:=by
 refine ⟨2^(k/2), ?_⟩
 rw [←Nat.pow_add,show k/2+k/2=k from by omega,h]
theorem Zlb {a k:Nat} (h:2^k%fP=a%fP) (hk:k<fP - 1) (hr:Zco a):k%2=0:=by
 obtain ⟨r,hr⟩:=hr
 have hr0:r%fP≠0:=by
  intro e
  have:a%fP=0:=by rw [←hr];exact (Zgt _ _).2 (.inl e)
  exact genP.ne_zero k (by rw [h,this])
 obtain ⟨j,hj,hjr⟩:=Zgs r hr0
 have h1:2^(j+j)%fP=2^k%fP:=by
  rw [h, ←hr,Nat.pow_add,Nat.mul_mod,hjr, ←Nat.mul_mod]
 -- the exponents are like, up to p - 1, which is even
 have h2:2^((j+j)%(fP - 1))%fP=2^(j+j)%fP:=by
  have e:=Nat.div_add_mod (j+j) (fP - 1)
  conv=>rhs;rw [←e,Nat.pow_add,Nat.mul_mod,Zd2 _ genP.full Zfn,Nat.one_mul,Nat.mod_mod]
 have h3:=genP.inj ((j+j)%(fP - 1)) k (Nat.mod_lt _ (by decide)) hk (by rw [h2,h1])
 have h4:(fP - 1)%2=0:=by decide
 have h5:(j+j)%(fP - 1)%2=(j+j)%2:=Nat.mod_mod_of_dvd _ (Nat.dvd_of_mod_eq_zero h4)
 omega
theorem ZrI {a:Nat} (h:a%fP≠0):Zco a↔¬Zco (2*a):=by
 obtain ⟨k,hk,hka⟩:=Zgs a h
 have h2:2^(k+1)%fP=2*a%fP:=by rw [Nat.pow_succ',Nat.mul_mod,hka, ←Nat.mul_mod]
 have hP:(fP - 1)%2=0:=by decide
 constructor
 ·intro hr hr2
  have e1:=Zlb hka hk hr
  rcases Nat.lt_or_ge (k+1) (fP - 1) with h3|h3
  ·have:=Zlb h2 h3 hr2;omega
  ·omega
 ·intro hn
  by_cases e:k%2=0
  ·exact Zij hka e
  ·exact absurd (Zij h2 (by omega)) hn
theorem ZrJ {a:Nat} (h:a%fP≠0) (hr:Zco a):a^((fP - 1)/2)%fP=1:=by
 obtain ⟨r,hr⟩:=hr
 have hr0:r%fP≠0:=by
  intro e
  exact h (by rw [←hr];exact (Zgt _ _).2 (.inl e))
 rw [←Zdz, ←hr,Zdz,show r*r=r^2 from by rw [Nat.pow_succ,Nat.pow_one], ←Nat.pow_mul,show 2*((fP - 1)/2)=fP - 1 from by decide]
 exact Zk8 r hr0
def fI:Nat:=2^253 - 5
theorem ZrK:pwM fP 256 2 fI*pwM fP 256 2 fI%fP=fP - 1:=by decide+kernel
theorem ZrL:pwM fP 256 2 fI=2^fI%fP:=ZeD fP 256 2 fI (by decide)
theorem ZrM {x y:Nat} (hx:x<fP) (hy:y<fP) (ex:x%2=0) (ey:y%2=0) (h:x*x%fP=y*y%fP):x=y:=by
 rcases Zla hx hy h with h1|h1
 ·exact h1
 ·have:=Zii;omega
end Go.Proofs.YtcaloldcihpkfaaGreatDoor.N
