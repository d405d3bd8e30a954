/-
 Layer 17, in plain words: the curve's points: divisors are never 0, sums are on the curve, hang on no order and no grouping.
-/
import Derived.Test.YtcaloldcihpkfaaGreatDoorMPackFa
import Derived.Test.YtcaloldcihpkfaaGreatDoorMPackNa
namespace Go.Proofs.YtcaloldcihpkfaaGreatDoor.N
set_option linter.unusedVariables false
set_option maxRecDepth 8192

instance neZeroP:NeZero fP:=⟨by decide⟩
abbrev Fp:=Fin fP
theorem ZcV (a b:Fp):(a*b).val=a.val*b.val%fP:=Fin.val_mul a b
theorem ZrN (a b:Fp):(a+b).val=(a.val+b.val)%fP:=Fin.val_add a b
theorem ZrO:(0:Fp).val=0:=rfl
theorem Zlc {a b:Fp} (h:a*b=0):a=0∨b=0:=by
 have h1:=congrArg Fin.val h
 rw [ZcV,ZrO] at h1
 rcases (Zgt _ _).1 h1 with h2|h2
 ·left;apply Fin.ext;rw [Nat.mod_eq_of_lt a.isLt] at h2;exact h2
 ·right;apply Fin.ext;rw [Nat.mod_eq_of_lt b.isLt] at h2;exact h2
theorem ZaZ {a b:Fp} (ha:a≠0) (hb:b≠0):a*b≠0:=fun h=>(Zlc h).elim ha hb
theorem Zd3 {a b c:Fp} (h:a≠0) (e:a*b=a*c):b=c:=by
 have h1:a*(b - c)=0:=by grind
 rcases Zlc h1 with h2|h2
 ·exact absurd h2 h
 ·grind
def dN:Nat:=37095705934669439343138083508754565189542113879843219016388785533085940283555
theorem Zld:dN<fP:=by decide
def cD:Fp:=⟨dN,Zld⟩
theorem ZrP:pwM fP 256 dN ((fP - 1)/2)=fP - 1:=by decide+kernel
theorem ZrQ:¬Zco dN:=fun h=>by
 have h1:=ZrJ (by decide) h
 rw [←ZeD fP 256 dN ((fP - 1)/2) (by decide),ZrP] at h1
 exact absurd h1 (by decide)
theorem Zik {u v:Fp} (hv:v≠0):u*u≠cD*(v*v):=fun h=>by
 have hv1:v.val%fP≠0:=by
  rw [Nat.mod_eq_of_lt v.isLt]
  exact fun e=>hv (Fin.ext e)
 -- u divided by v
 have hi:=Zk9 v.val hv1
 generalize v.val^(fP - 2)%fP=i at hi
 apply ZrQ
 refine ⟨u.val*i, ?_⟩
 have h1:=congrArg Fin.val h
 rw [ZcV,ZcV,ZcV] at h1
 have h2:cD.val=dN:=rfl
 rw [h2] at h1
 have e1:u.val*i*(u.val*i)=(u.val*u.val)*(i*i):=by rw [Nat.mul_mul_mul_comm]
 rw [e1,Nat.mul_mod,h1,Nat.mul_mod dN,Nat.mod_mod, ←Nat.mul_mod dN, ←Nat.mul_mod,Nat.mul_assoc,Nat.mul_mul_mul_comm v.val v.val i i,Nat.mul_mod,Nat.mul_mod (v.val*i) (v.val*i),hi]
 rw [Nat.one_mul,Nat.mod_eq_of_lt Zfn,Nat.mul_one,Nat.mod_mod]
def cI:Fp:=⟨pwM fP 256 2 fI,by rw [ZrL];exact ZcI _⟩
theorem Zil:cI*cI= -1:=by
 apply Fin.ext
 rw [ZcV]
 show pwM fP 256 2 fI*pwM fP 256 2 fI%fP=_
 rw [ZrK]
 decide
structure Pt where
 x:Fp
 y:Fp
theorem Pt.ext {p q:Pt} (h1:p.x=q.x) (h2:p.y=q.y):p=q:=by cases p;cases q;cases h1;cases h2;rfl
def OnC (p:Pt):Prop:=p.y*p.y - p.x*p.x=1+cD*p.x*p.x*p.y*p.y
def tee (p q:Pt):Fp:=cD*p.x*q.x*p.y*q.y
theorem ZeE:(1:Fp)≠0:=by decide
theorem ZrR:(2:Fp)≠0:=by decide
theorem ZrS (d i x1 y1 x2 y2 e:Fp) (hi:i*i= -1) (e1:y1*y1 - x1*x1=1+d*x1*x1*y1*y1) (e2:y2*y2 - x2*x2=1+d*x2*x2*y2*y2) (he:d*x1*x2*y1*y2=e) (hee:e*e=1):
  (y1+e*i*x1)*(y1+e*i*x1)=d*((x1*y1*(y2+i*x2))*(x1*y1*(y2+i*x2)))∧(y1 - e*i*x1)*(y1 - e*i*x1)=d*((x1*y1*(y2 - i*x2))*(x1*y1*(y2 - i*x2))):=by
 constructor<;>grind
theorem Zle {p q:Pt} (hp:OnC p) (hq:OnC q):tee p q*tee p q≠1:=fun h=>by
 have g:=ZrS cD cI p.x p.y q.x q.y (tee p q) Zil hp hq rfl h
 have hx:p.x≠0:=fun e=>ZeE (by rw [←h];unfold tee;rw [e];grind)
 have hy:p.y≠0:=fun e=>ZeE (by rw [←h];unfold tee;rw [e];grind)
 have hqx:q.x≠0:=fun e=>ZeE (by rw [←h];unfold tee;rw [e];grind)
 have hxy:=ZaZ hx hy
 have hI:cI≠0:=fun e=>ZeE (by have:=Zil;rw [e] at this;grind)
 by_cases h1:q.y+cI*q.x=0
 ·by_cases h2:q.y - cI*q.x=0
  ·have h3:2*(cI*q.x)=0:=by grind
   exact ZaZ ZrR (ZaZ hI hqx) h3
  ·exact Zik (ZaZ hxy h2) g.2
 ·exact Zik (ZaZ hxy h1) g.1
theorem Zdb {p q:Pt} (hp:OnC p) (hq:OnC q):1+tee p q≠0:=fun h=>Zle hp hq (by grind)
theorem Zdc {p q:Pt} (hp:OnC p) (hq:OnC q):1 - tee p q≠0:=fun h=>Zle hp hq (by grind)
structure SumIs (p q r:Pt):Prop where
 x:r.x*(1+tee p q)=p.x*q.y+p.y*q.x
 y:r.y*(1 - tee p q)=p.y*q.y+p.x*q.x
theorem ZrT {p q r s:Pt} (hp:OnC p) (hq:OnC q) (h1:SumIs p q r) (h2:SumIs p q s):r=s:=
 Pt.ext (Zd3 (Zdb hp hq) (by have:=h1.x;have:=h2.x;grind)) (Zd3 (Zdc hp hq) (by have:=h1.y;have:=h2.y;grind))
theorem ZrU {p q r:Pt} (h:SumIs p q r):SumIs q p r:=by
 have h1:=h.x
 have h2:=h.y
 constructor<;>(unfold tee at*;grind)
theorem ZrV (d x1 y1 x2 y2:Fp) (e1:y1*y1 - x1*x1=1+d*x1*x1*y1*y1) (e2:y2*y2 - x2*x2=1+d*x2*x2*y2*y2):
  (y1*y2+x1*x2)*(y1*y2+x1*x2)*(1+d*x1*x2*y1*y2)*(1+d*x1*x2*y1*y2) - (x1*y2+y1*x2)*(x1*y2+y1*x2)*(1 - d*x1*x2*y1*y2)*(1 - d*x1*x2*y1*y2)=(1+d*x1*x2*y1*y2)*(1+d*x1*x2*y1*y2)*(1 - d*x1*x2*y1*y2)*(1 - d*x1*x2*y1*y2)+d*(x1*y2+y1*x2)*(x1*y2+y1*x2)*(y1*y2+x1*x2)*(y1*y2+x1*x2):=by grind
theorem ZrW (d X Y a b A B:Fp) (hX:X*a=A) (hY:Y*b=B) (h:B*B*a*a - A*A*b*b=a*a*b*b+d*A*A*B*B):(a*a*b*b)*(Y*Y - X*X)=(a*a*b*b)*(1+d*X*X*Y*Y):=by
 subst hX hY
 grind
theorem Zim {p q r:Pt} (hp:OnC p) (hq:OnC q) (h:SumIs p q r):OnC r:=by
 have g:=ZrV cD p.x p.y q.x q.y hp hq
 have h1:=Zdb hp hq
 have h2:=Zdc hp hq
 exact Zd3 (ZaZ (ZaZ (ZaZ h1 h1) h2) h2) (ZrW cD r.x r.y _ _ _ _ h.x h.y g)
theorem ZrX (d x1 y1 x2 y2 x3 y3:Fp) (e1:y1*y1 - x1*x1=1+d*x1*x1*y1*y1) (e2:y2*y2 - x2*x2=1+d*x2*x2*y2*y2) (e3:y3*y3 - x3*x3=1+d*x3*x3*y3*y3):
  ((x1*y2+y1*x2)*(1 - d*x1*x2*y1*y2)*y3+(y1*y2+x1*x2)*(1+d*x1*x2*y1*y2)*x3)*((1+d*x2*x3*y2*y3)*(1 - d*x2*x3*y2*y3)+d*(x2*y3+y2*x3)*(y2*y3+x2*x3)*x1*y1)
   =(x1*(y2*y3+x2*x3)*(1+d*x2*x3*y2*y3)+y1*(x2*y3+y2*x3)*(1 - d*x2*x3*y2*y3))*((1+d*x1*x2*y1*y2)*(1 - d*x1*x2*y1*y2)+d*(x1*y2+y1*x2)*(y1*y2+x1*x2)*x3*y3):=by grind
theorem ZrY (d x1 y1 x2 y2 x3 y3:Fp) (e1:y1*y1 - x1*x1=1+d*x1*x1*y1*y1) (e2:y2*y2 - x2*x2=1+d*x2*x2*y2*y2) (e3:y3*y3 - x3*x3=1+d*x3*x3*y3*y3):
  ((y1*y2+x1*x2)*(1+d*x1*x2*y1*y2)*y3+(x1*y2+y1*x2)*(1 - d*x1*x2*y1*y2)*x3)*((1+d*x2*x3*y2*y3)*(1 - d*x2*x3*y2*y3) - d*(x2*y3+y2*x3)*(y2*y3+x2*x3)*x1*y1)
   =(y1*(y2*y3+x2*x3)*(1+d*x2*x3*y2*y3)+x1*(x2*y3+y2*x3)*(1 - d*x2*x3*y2*y3))*((1+d*x1*x2*y1*y2)*(1 - d*x1*x2*y1*y2) - d*(x1*y2+y1*x2)*(y1*y2+x1*x2)*x3*y3):=by grind
end Go.Proofs.YtcaloldcihpkfaaGreatDoor.N

/-
 Layer 17, in plain words: points are a group; so many times a point.
-/
namespace Go.Proofs.YtcaloldcihpkfaaGreatDoor.N
set_option linter.unusedVariables false
set_option maxRecDepth 8192

theorem Zlf {X U V X' U' V':Fp} (h:X*U=V) (h':X'*U'=V') (hc:V*U'=V'*U):(U*U')*X=(U*U')*X':=by
 subst h h'
 grind
theorem ZrZ (d ax ay rx ry a b A B X:Fp) (hx:ax*a=A) (hy:ay*b=B) (h:X*(1+d*ax*rx*ay*ry)=ax*ry+ay*rx):X*(a*b*(1+d*ax*rx*ay*ry))=A*b*ry+B*a*rx∧a*b*(1+d*ax*rx*ay*ry)=a*b+d*A*B*rx*ry:=by
 subst hx hy
 constructor<;>grind
theorem Zr0 (d ax ay rx ry a b A B Y:Fp) (hx:ax*a=A) (hy:ay*b=B) (h:Y*(1 - d*ax*rx*ay*ry)=ay*ry+ax*rx):Y*(a*b*(1 - d*ax*rx*ay*ry))=B*a*ry+A*b*rx∧a*b*(1 - d*ax*rx*ay*ry)=a*b - d*A*B*rx*ry:=by
 subst hx hy
 constructor<;>grind
theorem Zr1 (d px py cx cy a b A B X:Fp) (hx:cx*a=A) (hy:cy*b=B) (h:X*(1+d*px*cx*py*cy)=px*cy+py*cx):X*(a*b*(1+d*px*cx*py*cy))=px*B*a+py*A*b∧a*b*(1+d*px*cx*py*cy)=a*b+d*A*B*px*py:=by
 subst hx hy
 constructor<;>grind
theorem Zr2 (d px py cx cy a b A B Y:Fp) (hx:cx*a=A) (hy:cy*b=B) (h:Y*(1 - d*px*cx*py*cy)=py*cy+px*cx):Y*(a*b*(1 - d*px*cx*py*cy))=py*B*a+px*A*b∧a*b*(1 - d*px*cx*py*cy)=a*b - d*A*B*px*py:=by
 subst hx hy
 constructor<;>grind
theorem Zr3 {p q r a b c e:Pt} (hp:OnC p) (hq:OnC q) (hr:OnC r) (h1:SumIs p q a) (h2:SumIs a r b) (h3:SumIs q r c) (h4:SumIs p c e):b=e:=by
 have ha:=Zim hp hq h1
 have hc:=Zim hq hr h3
 have n1:=Zdb hp hq
 have n2:=Zdc hp hq
 have n3:=Zdb hq hr
 have n4:=Zdc hq hr
 have gx:=ZrX cD p.x p.y q.x q.y r.x r.y hp hq hr
 have gy:=ZrY cD p.x p.y q.x q.y r.x r.y hp hq hr
 have lx:=ZrZ cD a.x a.y r.x r.y _ _ _ _ b.x h1.x h1.y h2.x
 have ly:=Zr0 cD a.x a.y r.x r.y _ _ _ _ b.y h1.x h1.y h2.y
 have rx:=Zr1 cD p.x p.y c.x c.y _ _ _ _ e.x h3.x h3.y h4.x
 have ry:=Zr2 cD p.x p.y c.x c.y _ _ _ _ e.y h3.x h3.y h4.y
 have ux:(1+tee p q)*(1 - tee p q)*(1+tee a r)≠0:=ZaZ (ZaZ n1 n2) (Zdb ha hr)
 have uy:(1+tee p q)*(1 - tee p q)*(1 - tee a r)≠0:=ZaZ (ZaZ n1 n2) (Zdc ha hr)
 have vx:(1+tee q r)*(1 - tee q r)*(1+tee p c)≠0:=ZaZ (ZaZ n3 n4) (Zdb hp hc)
 have vy:(1+tee q r)*(1 - tee q r)*(1 - tee p c)≠0:=ZaZ (ZaZ n3 n4) (Zdc hp hc)
 refine Pt.ext (Zd3 (ZaZ ux vx) (Zlf lx.1 rx.1 ?_)) (Zd3 (ZaZ uy vy) (Zlf ly.1 ry.1 ?_))
 ·have l2:(1+tee p q)*(1 - tee p q)*(1+tee a r)=_:=lx.2
  have r2:(1+tee q r)*(1 - tee q r)*(1+tee p c)=_:=rx.2
  rw [l2,r2]
  exact gx
 ·have l2:(1+tee p q)*(1 - tee p q)*(1 - tee a r)=_:=ly.2
  have r2:(1+tee q r)*(1 - tee q r)*(1 - tee p c)=_:=ry.2
  rw [l2,r2]
  exact gy
def finv (a:Fp):Fp:=⟨pwM fP 256 a.val (fP - 2)%fP,ZcI _⟩
theorem ZeF {a:Fp} (h:a≠0):a*finv a=1:=by
 apply Fin.ext
 rw [ZcV]
 show a.val*(pwM fP 256 a.val (fP - 2)%fP)%fP=_
 rw [ZeD fP 256 a.val (fP - 2) (by decide),Nat.mod_mod,Zk9 a.val (by rw [Nat.mod_eq_of_lt a.isLt];exact fun e=>h (Fin.ext e))]
 rfl
def psum (p q:Pt):Pt:=⟨(p.x*q.y+p.y*q.x)*finv (1+tee p q),(p.y*q.y+p.x*q.x)*finv (1 - tee p q)⟩
theorem Zin {A a i:Fp} (h:a*i=1):A*i*a=A:=by grind
theorem Zdd {p q:Pt} (hp:OnC p) (hq:OnC q):SumIs p q (psum p q):=
 ⟨Zin (ZeF (Zdb hp hq)),Zin (ZeF (Zdc hp hq))⟩
theorem Zio {p q:Pt} (hp:OnC p) (hq:OnC q):OnC (psum p q):=Zim hp hq (Zdd hp hq)
theorem Zlg {p q r:Pt} (hp:OnC p) (hq:OnC q) (h:SumIs p q r):r=psum p q:=ZrT hp hq h (Zdd hp hq)
theorem Zlh {p q:Pt} (hp:OnC p) (hq:OnC q):psum p q=psum q p:=Zlg hq hp (ZrU (Zdd hp hq))
theorem Zr4 {p q r:Pt} (hp:OnC p) (hq:OnC q) (hr:OnC r):psum (psum p q) r=psum p (psum q r):=
 Zr3 hp hq hr (Zdd hp hq) (Zdd (Zio hp hq) hr) (Zdd hq hr) (Zdd hp (Zio hq hr))
def Zcp:Pt:=⟨0,1⟩
def pneg (p:Pt):Pt:=⟨-p.x,p.y⟩
theorem Zgu:OnC Zcp:=by unfold OnC Zcp;grind
theorem Zr5 {p:Pt} (h:OnC p):OnC (pneg p):=by unfold OnC pneg at*;grind
theorem Zip {p:Pt} (h:OnC p):psum p Zcp=p:=by
 refine (Zlg h Zgu ⟨?_, ?_⟩).symm<;>(unfold tee Zcp;grind)
def Zau:Nat→Pt→Pt
 | 0,_=>Zcp
 | n+1,p=>psum (Zau n p) p
theorem Zb2 {p:Pt} (h:OnC p) (n:Nat):OnC (Zau n p):=by
 induction n with
 | zero=>exact Zgu
 | succ n ih=>exact Zio ih h
theorem Zgv {p:Pt} (h:OnC p) (m n:Nat):Zau (m+n) p=psum (Zau m p) (Zau n p):=by
 induction n with
 | zero=>exact (Zip (Zb2 h m)).symm
 | succ n ih=>
  show psum (Zau (m+n) p) p=psum (Zau m p) (psum (Zau n p) p)
  rw [ih,Zr4 (Zb2 h m) (Zb2 h n) h]
theorem Zli {p:Pt} (h:OnC p) (m n:Nat):Zau (m*n) p=Zau n (Zau m p):=by
 induction n with
 | zero=>rfl
 | succ n ih=>
  rw [Nat.mul_succ,Zgv h,ih]
  rfl
theorem Zr6 (n:Nat):Zau n Zcp=Zcp:=by
 induction n with
 | zero=>rfl
 | succ n ih=>
  show psum (Zau n Zcp) Zcp=Zcp
  rw [ih,Zip Zgu]
end Go.Proofs.YtcaloldcihpkfaaGreatDoor.N

/-
 Layer 17, in plain words: which x makes a point of y; the base; what a sum undoes.
-/
namespace Go.Proofs.YtcaloldcihpkfaaGreatDoor.N
set_option linter.unusedVariables false
set_option maxRecDepth 8192

theorem Zr7:(-1:Fp)+1=0:=by decide
theorem Zr8 (i d y:Fp) (hi:i*i= -1) (h:1+d*y*y=0):i*i=d*(y*y):=by
 have h1:i*i+1=0:=by rw [hi];exact Zr7
 have h2:i*i+1=d*(y*y)+1:=by rw [h1, ←h];grind
 grind
theorem Zlj (y:Fp):1+cD*y*y≠0:=fun h=>by
 have h3:1+cD*(0:Fp)*0=1:=by rw [Fin.mul_zero,Fin.add_zero]
 have hy:y≠0:=fun e=>ZeE (by rw [e,h3] at h;exact h)
 exact Zik (u:=cI) (v:=y) hy (Zr8 cI cD y Zil h)
theorem Zr9 (x y:Fp):OnC ⟨x,y⟩↔x*x*(1+cD*y*y)=y*y - 1:=by
 unfold OnC
 constructor
 ·intro h;show x*x*(1+cD*y*y)=y*y - 1;have h1:y*y - x*x=1+cD*x*x*y*y:=h;grind
 ·intro h;show y*y - x*x=1+cD*x*x*y*y;grind
theorem Zsa {x y s:Fp} (hs:s*(1+cD*y*y)=y*y - 1):OnC ⟨x,y⟩↔x*x=s:=by
 rw [Zr9]
 constructor
 ·intro h;exact Zd3 (Zlj y) (by grind)
 ·intro h;rw [h];exact hs
def Zgw:Nat:=15112221349535400772501151409588531511454012693041857206046113283949847762202
def Zgx:Nat:=46316835694926478169428394003475163141307993866256225615783033603165251855960
theorem Zlk:Zgw<fP:=by decide
theorem Ziq:Zgx<fP:=by decide
theorem Zsb:Zgw%2=0:=by decide
def ZaA:Pt:=⟨⟨Zgw,Zlk⟩,⟨Zgx,Ziq⟩⟩
theorem ZbV:OnC ZaA:=by unfold OnC ZaA;decide+kernel
end Go.Proofs.YtcaloldcihpkfaaGreatDoor.N

/-
 Layer 17, in plain words: numbers taken round as Fp; points with a third number: their sum, doubled, so many times.
-/
namespace Go.Proofs.YtcaloldcihpkfaaGreatDoor.N
set_option linter.unusedVariables false
set_option maxRecDepth 8192

theorem Zll (a b:Fp):(a - b).val=(a.val+(fP - b.val))%fP:=by
 rw [Fin.sub_def,Nat.add_comm]
theorem Zsc (a:Fp):(finv a).val=a.val^(fP - 2)%fP:=by
 show pwM fP 256 a.val (fP - 2)%fP=_
 rw [ZeD fP 256 a.val (fP - 2) (by decide),Nat.mod_mod]
theorem Zir {a:Fp} (h:a≠0):a.val≠0:=fun e=>h (Fin.ext e)
structure T3 where
 x:Fp
 y:Fp
 z:Fp
def Zcf (p q:T3):T3:=
 ⟨p.z*q.z*(p.x*q.y+p.y*q.x)*(p.z*q.z*(p.z*q.z) - cD*(p.x*q.x*(p.y*q.y))),
  p.z*q.z*(p.y*q.y+p.x*q.x)*(p.z*q.z*(p.z*q.z)+cD*(p.x*q.x*(p.y*q.y))),
  (p.z*q.z*(p.z*q.z)+cD*(p.x*q.x*(p.y*q.y)))*(p.z*q.z*(p.z*q.z) - cD*(p.x*q.x*(p.y*q.y)))⟩
def dbl3 (p:T3):T3:=
 ⟨(p.x*p.y+p.x*p.y)*(p.z*p.z+p.z*p.z - (p.y*p.y - p.x*p.x)),(p.y*p.y+p.x*p.x)*(p.y*p.y - p.x*p.x),(p.y*p.y - p.x*p.x)*(p.z*p.z+p.z*p.z - (p.y*p.y - p.x*p.x))⟩
def Zbh (o:T3) (b:Bool) (p:T3):T3:=if b then Zcf (dbl3 o) p else dbl3 o
def Zis:T3:=⟨0,1,1⟩
def run3 (p:T3) (v T:Nat):Nat→T3
 | 0=>Zis
 | j+1=>Zbh (run3 p v T j) (decide (v/2^(T - (j+1))%2=1)) p
structure Stands (t:T3) (p:Pt):Prop where
 z:t.z≠0
 x:t.x=p.x*t.z
 y:t.y=p.y*t.z
theorem Zsd (d x1 y1 z1 x2 y2 z2 rx ry:Fp) (hx:rx*(1+d*x1*x2*y1*y2)=x1*y2+y1*x2) (hy:ry*(1 - d*x1*x2*y1*y2)=y1*y2+x1*x2):
  (z1*z2*(z1*z2)+d*((x1*z1)*(x2*z2)*((y1*z1)*(y2*z2)))=z1*z2*(z1*z2)*(1+d*x1*x2*y1*y2))∧
  (z1*z2*(z1*z2) - d*((x1*z1)*(x2*z2)*((y1*z1)*(y2*z2)))=z1*z2*(z1*z2)*(1 - d*x1*x2*y1*y2))∧
  z1*z2*((x1*z1)*(y2*z2)+(y1*z1)*(x2*z2))*(z1*z2*(z1*z2) - d*((x1*z1)*(x2*z2)*((y1*z1)*(y2*z2))))=rx*((z1*z2*(z1*z2)+d*((x1*z1)*(x2*z2)*((y1*z1)*(y2*z2))))*(z1*z2*(z1*z2) - d*((x1*z1)*(x2*z2)*((y1*z1)*(y2*z2)))))∧
  z1*z2*((y1*z1)*(y2*z2)+(x1*z1)*(x2*z2))*(z1*z2*(z1*z2)+d*((x1*z1)*(x2*z2)*((y1*z1)*(y2*z2))))=ry*((z1*z2*(z1*z2)+d*((x1*z1)*(x2*z2)*((y1*z1)*(y2*z2))))*(z1*z2*(z1*z2) - d*((x1*z1)*(x2*z2)*((y1*z1)*(y2*z2))))):=by
 have e1:z1*z2*(z1*z2)+d*((x1*z1)*(x2*z2)*((y1*z1)*(y2*z2)))=z1*z2*(z1*z2)*(1+d*x1*x2*y1*y2):=by grind
 have e2:z1*z2*(z1*z2) - d*((x1*z1)*(x2*z2)*((y1*z1)*(y2*z2)))=z1*z2*(z1*z2)*(1 - d*x1*x2*y1*y2):=by grind
 refine ⟨e1,e2, ?_, ?_⟩
 ·rw [e1,e2];grind
 ·rw [e1,e2];grind
theorem Stands.plus {s t:T3} {p q:Pt} (hs:Stands s p) (ht:Stands t q) (hp:OnC p) (hq:OnC q):Stands (Zcf s t) (psum p q):=by
 have h:=Zdd hp hq
 have g:=Zsd cD p.x p.y s.z q.x q.y t.z (psum p q).x (psum p q).y h.x h.y
 have n1:=Zdb hp hq
 have n2:=Zdc hp hq
 have hz:=ZaZ hs.z ht.z
 have e:Zcf s t=Zcf ⟨p.x*s.z,p.y*s.z,s.z⟩ ⟨q.x*t.z,q.y*t.z,t.z⟩:=by
  have h1:s=⟨p.x*s.z,p.y*s.z,s.z⟩:=by rw [←hs.x, ←hs.y]
  have h2:t=⟨q.x*t.z,q.y*t.z,t.z⟩:=by rw [←ht.x, ←ht.y]
  rw [←h1, ←h2]
 rw [e]
 refine ⟨?_,g.2.2.1,g.2.2.2⟩
 show (_:Fp)*_≠0
 rw [g.1,g.2.1]
 exact ZaZ (ZaZ (ZaZ hz hz) n1) (ZaZ (ZaZ hz hz) n2)
theorem Zse (d x y z rx ry:Fp) (hc:y*y - x*x=1+d*x*x*y*y) (hx:rx*(1+d*x*x*y*y)=x*y+y*x) (hy:ry*(1 - d*x*x*y*y)=y*y+x*x):
  (y*z*(y*z) - x*z*(x*z)=z*z*(1+d*x*x*y*y))∧(z*z+z*z - (y*z*(y*z) - x*z*(x*z))=z*z*(1 - d*x*x*y*y))∧
  (x*z*(y*z)+x*z*(y*z))*(z*z+z*z - (y*z*(y*z) - x*z*(x*z)))=rx*((y*z*(y*z) - x*z*(x*z))*(z*z+z*z - (y*z*(y*z) - x*z*(x*z))))∧
  (y*z*(y*z)+x*z*(x*z))*(y*z*(y*z) - x*z*(x*z))=ry*((y*z*(y*z) - x*z*(x*z))*(z*z+z*z - (y*z*(y*z) - x*z*(x*z)))):=by
 have e1:y*z*(y*z) - x*z*(x*z)=z*z*(1+d*x*x*y*y):=by grind
 have e2:z*z+z*z - z*z*(1+d*x*x*y*y)=z*z*(1 - d*x*x*y*y):=by grind
 refine ⟨e1,by rw [e1,e2], ?_, ?_⟩
 ·rw [e1,e2];grind
 ·rw [e1,e2];grind
theorem Stands.dbl {s:T3} {p:Pt} (hs:Stands s p) (hp:OnC p):Stands (dbl3 s) (psum p p):=by
 have h:=Zdd hp hp
 have g:=Zse cD p.x p.y s.z (psum p p).x (psum p p).y hp h.x h.y
 have n1:=Zdb hp hp
 have n2:=Zdc hp hp
 have hz:=ZaZ hs.z hs.z
 have e:dbl3 s=dbl3 ⟨p.x*s.z,p.y*s.z,s.z⟩:=by
  have h1:s=⟨p.x*s.z,p.y*s.z,s.z⟩:=by rw [←hs.x, ←hs.y]
  rw [←h1]
 rw [e]
 refine ⟨?_,g.2.2.1,g.2.2.2⟩
 show (p.y*s.z*(p.y*s.z) - p.x*s.z*(p.x*s.z))*(s.z*s.z+s.z*s.z - (p.y*s.z*(p.y*s.z) - p.x*s.z*(p.x*s.z)))≠0
 rw [g.2.1,g.1]
 exact ZaZ (ZaZ hz n1) (ZaZ hz n2)
theorem Zlm (a:Fp):a*1=a:=by grind
theorem Stands.one (p:Pt):Stands ⟨p.x,p.y,1⟩ p:=⟨ZeE,(Zlm _).symm,(Zlm _).symm⟩
theorem Stands.zero:Stands Zis Zcp:=Stands.one Zcp
theorem Stands.run {s:T3} {p:Pt} (hs:Stands s p) (hp:OnC p) (v T:Nat) (hv:v<2^T):∀j,j≤T→Stands (run3 s v T j) (Zau (v/2^(T - j)) p)
 | 0,_=>by
  rw [Nat.sub_zero,Nat.div_eq_of_lt hv]
  exact Stands.zero
 | j+1,hj=>by
  have ih:=Stands.run hs hp v T hv j (by omega)
  have hn:v/2^(T - (j+1))=2*(v/2^(T - j))+v/2^(T - (j+1))%2:=by
   have:T - j=T - (j+1)+1:=by omega
   rw [this,Nat.pow_succ, ←Nat.div_div_eq_div_mul]
   omega
  have h2:=ih.dbl (Zb2 hp _)
  rw [←Zgv hp] at h2
  show Stands (Zbh (run3 s v T j) (decide (v/2^(T - (j+1))%2=1)) s) _
  generalize v/2^(T - j)=m at*
  rcases Nat.mod_two_eq_zero_or_one (v/2^(T - (j+1))) with h|h
  ·rw [h] at hn
   rw [h,hn,Nat.add_zero,Nat.two_mul]
   exact h2
  ·rw [h] at hn
   rw [h,hn,Nat.two_mul]
   exact h2.plus hs (Zb2 hp _) hp
theorem Stands.all {s:T3} {p:Pt} (hs:Stands s p) (hp:OnC p) (v T:Nat) (hv:v<2^T):Stands (run3 s v T T) (Zau v p):=by
 have:=hs.run hp v T hv T (Nat.le_refl _)
 rwa [Nat.sub_self,Nat.pow_zero,Nat.div_one] at this
theorem Zln (x z i:Fp) (h:z*i=1):x*z*(1*i)=x:=by grind
theorem Stands.div {s:T3} {p:Pt} (hs:Stands s p):s.x*(1*finv s.z)=p.x∧s.y*(1*finv s.z)=p.y:=by
 have h:=ZeF hs.z
 exact ⟨by rw [hs.x];exact Zln _ _ _ h,by rw [hs.y];exact Zln _ _ _ h⟩
end Go.Proofs.YtcaloldcihpkfaaGreatDoor.N

/-
 Layer 18, in plain words: the order; a byte of 32 that is set; a clamped number.
-/
namespace Go.Proofs.YtcaloldcihpkfaaGreatDoor.N
set_option linter.unusedVariables false
set_option maxRecDepth 8192

def oL:Nat:=7237005577332262213973186563042994240857116359379907606001950938285454250989
theorem Zlo:0<oL:=by decide
theorem Zlp:oL<2^253:=by decide
theorem Zd4:oL<2^256:=Nat.lt_trans Zlp (by decide)
theorem Zlq (v:Nat):v%oL<oL:=Nat.mod_lt _ Zlo
theorem Zit (v:Nat):v%oL<2^256:=Nat.lt_trans (Zlq v) Zd4
def setN (v j x:Nat):Nat:=vL ((digL v 32).set j x)
theorem Zfo (v j:Nat) {x:Nat} (hx:x<256):(digL v 32).set j x=digL (setN v j x) 32:=by
 have h:=Zca ((ZaD v 32).set j hx)
 rwa [List.length_set,Zap] at h
theorem Zsf (v j:Nat) {x:Nat} (hx:x<256):setN v j x<2^256:=by
 have h:=((ZaD v 32).set j hx).vL_lt
 rw [List.length_set,Zap] at h
 exact Nat.lt_of_lt_of_le h (by decide)
theorem Zlr (v:Nat) {j x:Nat} (i:Nat) (hi:i<32) (hj:j<32) (hx:x<256):setN v j x/256^i%256=if i=j then x else v/256^i%256:=by
 rw [←Zbk (x:=setN v j x) hi, ←Zfo v j hx,ZcB (by rw [Zap];exact hj),Zbk hi]
theorem Zsg (v j:Nat) {x y:Nat} (hx:x<256) (hy:y<256):setN (setN v j x) j y=setN v j y:=by
 unfold setN
 rw [show vL ((digL v 32).set j x)=setN v j x from rfl, ←Zfo v j hx,List.set_set]
def lowB (x:Nat):Nat:=x - x%8
def topB (x:Nat):Nat:=x%64+64
theorem Zsh {x:Nat} (h:x<256):lowB x<256:=by unfold lowB;omega
theorem Ziu (x:Nat):topB x<256:=by unfold topB;omega
def Zfp (v:Nat):Nat:=setN (setN v 0 (lowB (v/256^0%256))) 31 (topB (v/256^31%256))
theorem Zls (n:Nat):n%256<256:=Nat.mod_lt _ (by decide)
theorem Zsi (v:Nat):Zfp v<2^256:=Zsf _ _ (Ziu _)
end Go.Proofs.YtcaloldcihpkfaaGreatDoor.N

/-
 Layer 18, in plain words: so many times the base as the order is the zero point; the base scaled by what is left.
-/
namespace Go.Proofs.YtcaloldcihpkfaaGreatDoor.N
set_option linter.unusedVariables false
set_option maxRecDepth 8192

def Zfq:T3:=⟨⟨Zgw,Zlk⟩,⟨Zgx,Ziq⟩,1⟩
theorem Zsj:(run3 Zfq oL 253 253).x=0∧(run3 Zfq oL 253 253).y=(run3 Zfq oL 253 253).z:=by decide+kernel
theorem Zsk:Zau oL ZaA=Zcp:=by
 have h:=Stands.all (Stands.one ZaA) ZbV oL 253 Zlp
 have e:(⟨ZaA.x,ZaA.y,1⟩:T3)=Zfq:=rfl
 rw [e] at h
 obtain ⟨h1,h2⟩:=Zsj
 have h3:=h.div
 have h4:=ZeF h.z
 rw [h1,h2] at h3
 generalize run3 Zfq oL 253 253=t at*
 apply Pt.ext
 ·rw [←h3.1];show (0:Fp)*_=0;grind
 ·rw [←h3.2];show _=(1:Fp);grind
theorem Zsl (v:Nat):Zau (v%oL) ZaA=Zau v ZaA:=by
 have e:v=oL*(v/oL)+v%oL:=(Nat.div_add_mod v oL).symm
 have h1:Zau v ZaA=psum (Zau (oL*(v/oL)) ZaA) (Zau (v%oL) ZaA):=by
  rw [←Zgv ZbV]
  exact congrArg (fun n=>Zau n ZaA) e
 rw [h1,Zli ZbV,Zsk,Zr6,Zlh Zgu (Zb2 ZbV _),Zip (Zb2 ZbV _)]
end Go.Proofs.YtcaloldcihpkfaaGreatDoor.N
