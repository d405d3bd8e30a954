/-
 Layer 17, in plain words: the curve's points: divisors are never 0, sums are on the curve, hang on no order and no grouping.
-/
import Derived.Test.YtcaloldcihpkfaaGreatDoorDPackFa
import Derived.Test.YtcaloldcihpkfaaGreatDoorDPackNa
namespace Go.Proofs.YtcaloldcihpkfaaGreatDoor.N
set_option linter.unusedVariables false
set_option maxRecDepth 8192

instance neZeroP:NeZero fP:=⟨by decide⟩
abbrev Fp:=Fin fP
theorem ZcH (a b:Fp):(a*b).val=a.val*b.val%fP:=Fin.val_mul a b
theorem Zrg (a b:Fp):(a+b).val=(a.val+b.val)%fP:=Fin.val_add a b
theorem Zrh:(0:Fp).val=0:=rfl
theorem ZkK {a b:Fp} (h:a*b=0):a=0∨b=0:=by
 have h1:=congrArg Fin.val h
 rw [ZcH,Zrh] at h1
 rcases (ZfZ _ _).1 h1 with h2|h2
 ·left;apply Fin.ext;rw [Nat.mod_eq_of_lt a.isLt] at h2;exact h2
 ·right;apply Fin.ext;rw [Nat.mod_eq_of_lt b.isLt] at h2;exact h2
theorem ZaT {a b:Fp} (ha:a≠0) (hb:b≠0):a*b≠0:=fun h=>(ZkK h).elim ha hb
theorem ZdL {a b c:Fp} (h:a≠0) (e:a*b=a*c):b=c:=by
 have h1:a*(b - c)=0:=by grind
 rcases ZkK h1 with h2|h2
 ·exact absurd h2 h
 ·grind
def dN:Nat:=37095705934669439343138083508754565189542113879843219016388785533085940283555
theorem ZkL:dN<fP:=by decide
def cD:Fp:=⟨dN,ZkL⟩
theorem Zri:pwM fP 256 dN ((fP - 1)/2)=fP - 1:=by decide+kernel
theorem Zrj:¬Zcb dN:=fun h=>by
 have h1:=Zrc (by decide) h
 rw [←Zeg fP 256 dN ((fP - 1)/2) (by decide),Zri] at h1
 exact absurd h1 (by decide)
theorem Zh3 {u v:Fp} (hv:v≠0):u*u≠cD*(v*v):=fun h=>by
 have hv1:v.val%fP≠0:=by
  rw [Nat.mod_eq_of_lt v.isLt]
  exact fun e=>hv (Fin.ext e)
 -- u divided by v
 have hi:=ZkH v.val hv1
 generalize v.val^(fP - 2)%fP=i at hi
 apply Zrj
 refine ⟨u.val*i, ?_⟩
 have h1:=congrArg Fin.val h
 rw [ZcH,ZcH,ZcH] at h1
 have h2:cD.val=dN:=rfl
 rw [h2] at h1
 have e1:u.val*i*(u.val*i)=(u.val*u.val)*(i*i):=by rw [Nat.mul_mul_mul_comm]
 rw [e1,Nat.mul_mod,h1,Nat.mul_mod dN,Nat.mod_mod, ←Nat.mul_mod dN, ←Nat.mul_mod,Nat.mul_assoc,Nat.mul_mul_mul_comm v.val v.val i i,Nat.mul_mod,Nat.mul_mod (v.val*i) (v.val*i),hi]
 rw [Nat.one_mul,Nat.mod_eq_of_lt ZeU,Nat.mul_one,Nat.mod_mod]
def cI:Fp:=⟨pwM fP 256 2 fI,by rw [Zre];exact Zcu _⟩
theorem Zh4:cI*cI= -1:=by
 apply Fin.ext
 rw [ZcH]
 show pwM fP 256 2 fI*pwM fP 256 2 fI%fP=_
 rw [Zrd]
 decide
structure Pt where
 x:Fp
 y:Fp
theorem Pt.ext {p q:Pt} (h1:p.x=q.x) (h2:p.y=q.y):p=q:=by cases p;cases q;cases h1;cases h2;rfl
def OnC (p:Pt):Prop:=p.y*p.y - p.x*p.x=1+cD*p.x*p.x*p.y*p.y
def tee (p q:Pt):Fp:=cD*p.x*q.x*p.y*q.y
theorem Zeh:(1:Fp)≠0:=by decide
theorem Zrk:(2:Fp)≠0:=by decide
theorem Zrl (d i x1 y1 x2 y2 e:Fp) (hi:i*i= -1) (e1:y1*y1 - x1*x1=1+d*x1*x1*y1*y1) (e2:y2*y2 - x2*x2=1+d*x2*x2*y2*y2) (he:d*x1*x2*y1*y2=e) (hee:e*e=1):
  (y1+e*i*x1)*(y1+e*i*x1)=d*((x1*y1*(y2+i*x2))*(x1*y1*(y2+i*x2)))∧(y1 - e*i*x1)*(y1 - e*i*x1)=d*((x1*y1*(y2 - i*x2))*(x1*y1*(y2 - i*x2))):=by
 constructor<;>grind
theorem ZkM {p q:Pt} (hp:OnC p) (hq:OnC q):tee p q*tee p q≠1:=fun h=>by
 have g:=Zrl cD cI p.x p.y q.x q.y (tee p q) Zh4 hp hq rfl h
 have hx:p.x≠0:=fun e=>Zeh (by rw [←h];unfold tee;rw [e];grind)
 have hy:p.y≠0:=fun e=>Zeh (by rw [←h];unfold tee;rw [e];grind)
 have hqx:q.x≠0:=fun e=>Zeh (by rw [←h];unfold tee;rw [e];grind)
 have hxy:=ZaT hx hy
 have hI:cI≠0:=fun e=>Zeh (by have:=Zh4;rw [e] at this;grind)
 by_cases h1:q.y+cI*q.x=0
 ·by_cases h2:q.y - cI*q.x=0
  ·have h3:2*(cI*q.x)=0:=by grind
   exact ZaT Zrk (ZaT hI hqx) h3
  ·exact Zh3 (ZaT hxy h2) g.2
 ·exact Zh3 (ZaT hxy h1) g.1
theorem ZcX {p q:Pt} (hp:OnC p) (hq:OnC q):1+tee p q≠0:=fun h=>ZkM hp hq (by grind)
theorem ZcY {p q:Pt} (hp:OnC p) (hq:OnC q):1 - tee p q≠0:=fun h=>ZkM hp hq (by grind)
structure SumIs (p q r:Pt):Prop where
 x:r.x*(1+tee p q)=p.x*q.y+p.y*q.x
 y:r.y*(1 - tee p q)=p.y*q.y+p.x*q.x
theorem Zrm {p q r s:Pt} (hp:OnC p) (hq:OnC q) (h1:SumIs p q r) (h2:SumIs p q s):r=s:=
 Pt.ext (ZdL (ZcX hp hq) (by have:=h1.x;have:=h2.x;grind)) (ZdL (ZcY hp hq) (by have:=h1.y;have:=h2.y;grind))
theorem Zrn {p q r:Pt} (h:SumIs p q r):SumIs q p r:=by
 have h1:=h.x
 have h2:=h.y
 constructor<;>(unfold tee at*;grind)
theorem Zro (d x1 y1 x2 y2:Fp) (e1:y1*y1 - x1*x1=1+d*x1*x1*y1*y1) (e2:y2*y2 - x2*x2=1+d*x2*x2*y2*y2):
  (y1*y2+x1*x2)*(y1*y2+x1*x2)*(1+d*x1*x2*y1*y2)*(1+d*x1*x2*y1*y2) - (x1*y2+y1*x2)*(x1*y2+y1*x2)*(1 - d*x1*x2*y1*y2)*(1 - d*x1*x2*y1*y2)=(1+d*x1*x2*y1*y2)*(1+d*x1*x2*y1*y2)*(1 - d*x1*x2*y1*y2)*(1 - d*x1*x2*y1*y2)+d*(x1*y2+y1*x2)*(x1*y2+y1*x2)*(y1*y2+x1*x2)*(y1*y2+x1*x2):=by grind
theorem Zrp (d X Y a b A B:Fp) (hX:X*a=A) (hY:Y*b=B) (h:B*B*a*a - A*A*b*b=a*a*b*b+d*A*A*B*B):(a*a*b*b)*(Y*Y - X*X)=(a*a*b*b)*(1+d*X*X*Y*Y):=by
 subst hX hY
 grind
theorem Zh5 {p q r:Pt} (hp:OnC p) (hq:OnC q) (h:SumIs p q r):OnC r:=by
 have g:=Zro cD p.x p.y q.x q.y hp hq
 have h1:=ZcX hp hq
 have h2:=ZcY hp hq
 exact ZdL (ZaT (ZaT (ZaT h1 h1) h2) h2) (Zrp cD r.x r.y _ _ _ _ h.x h.y g)
theorem Zrq (d x1 y1 x2 y2 x3 y3:Fp) (e1:y1*y1 - x1*x1=1+d*x1*x1*y1*y1) (e2:y2*y2 - x2*x2=1+d*x2*x2*y2*y2) (e3:y3*y3 - x3*x3=1+d*x3*x3*y3*y3):
  ((x1*y2+y1*x2)*(1 - d*x1*x2*y1*y2)*y3+(y1*y2+x1*x2)*(1+d*x1*x2*y1*y2)*x3)*((1+d*x2*x3*y2*y3)*(1 - d*x2*x3*y2*y3)+d*(x2*y3+y2*x3)*(y2*y3+x2*x3)*x1*y1)
   =(x1*(y2*y3+x2*x3)*(1+d*x2*x3*y2*y3)+y1*(x2*y3+y2*x3)*(1 - d*x2*x3*y2*y3))*((1+d*x1*x2*y1*y2)*(1 - d*x1*x2*y1*y2)+d*(x1*y2+y1*x2)*(y1*y2+x1*x2)*x3*y3):=by grind
theorem Zrr (d x1 y1 x2 y2 x3 y3:Fp) (e1:y1*y1 - x1*x1=1+d*x1*x1*y1*y1) (e2:y2*y2 - x2*x2=1+d*x2*x2*y2*y2) (e3:y3*y3 - x3*x3=1+d*x3*x3*y3*y3):
  ((y1*y2+x1*x2)*(1+d*x1*x2*y1*y2)*y3+(x1*y2+y1*x2)*(1 - d*x1*x2*y1*y2)*x3)*((1+d*x2*x3*y2*y3)*(1 - d*x2*x3*y2*y3) - d*(x2*y3+y2*x3)*(y2*y3+x2*x3)*x1*y1)
   =(y1*(y2*y3+x2*x3)*(1+d*x2*x3*y2*y3)+x1*(x2*y3+y2*x3)*(1 - d*x2*x3*y2*y3))*((1+d*x1*x2*y1*y2)*(1 - d*x1*x2*y1*y2) - d*(x1*y2+y1*x2)*(y1*y2+x1*x2)*x3*y3):=by grind
end Go.Proofs.YtcaloldcihpkfaaGreatDoor.N

/-
 Layer 17, in plain words: points are a group; so many times a point.
-/
namespace Go.Proofs.YtcaloldcihpkfaaGreatDoor.N
set_option linter.unusedVariables false
set_option maxRecDepth 8192

theorem ZkN {X U V X' U' V':Fp} (h:X*U=V) (h':X'*U'=V') (hc:V*U'=V'*U):(U*U')*X=(U*U')*X':=by
 subst h h'
 grind
theorem Zrs (d ax ay rx ry a b A B X:Fp) (hx:ax*a=A) (hy:ay*b=B) (h:X*(1+d*ax*rx*ay*ry)=ax*ry+ay*rx):X*(a*b*(1+d*ax*rx*ay*ry))=A*b*ry+B*a*rx∧a*b*(1+d*ax*rx*ay*ry)=a*b+d*A*B*rx*ry:=by
 subst hx hy
 constructor<;>grind
theorem Zrt (d ax ay rx ry a b A B Y:Fp) (hx:ax*a=A) (hy:ay*b=B) (h:Y*(1 - d*ax*rx*ay*ry)=ay*ry+ax*rx):Y*(a*b*(1 - d*ax*rx*ay*ry))=B*a*ry+A*b*rx∧a*b*(1 - d*ax*rx*ay*ry)=a*b - d*A*B*rx*ry:=by
 subst hx hy
 constructor<;>grind
theorem Zru (d px py cx cy a b A B X:Fp) (hx:cx*a=A) (hy:cy*b=B) (h:X*(1+d*px*cx*py*cy)=px*cy+py*cx):X*(a*b*(1+d*px*cx*py*cy))=px*B*a+py*A*b∧a*b*(1+d*px*cx*py*cy)=a*b+d*A*B*px*py:=by
 subst hx hy
 constructor<;>grind
theorem Zrv (d px py cx cy a b A B Y:Fp) (hx:cx*a=A) (hy:cy*b=B) (h:Y*(1 - d*px*cx*py*cy)=py*cy+px*cx):Y*(a*b*(1 - d*px*cx*py*cy))=py*B*a+px*A*b∧a*b*(1 - d*px*cx*py*cy)=a*b - d*A*B*px*py:=by
 subst hx hy
 constructor<;>grind
theorem Zrw {p q r a b c e:Pt} (hp:OnC p) (hq:OnC q) (hr:OnC r) (h1:SumIs p q a) (h2:SumIs a r b) (h3:SumIs q r c) (h4:SumIs p c e):b=e:=by
 have ha:=Zh5 hp hq h1
 have hc:=Zh5 hq hr h3
 have n1:=ZcX hp hq
 have n2:=ZcY hp hq
 have n3:=ZcX hq hr
 have n4:=ZcY hq hr
 have gx:=Zrq cD p.x p.y q.x q.y r.x r.y hp hq hr
 have gy:=Zrr cD p.x p.y q.x q.y r.x r.y hp hq hr
 have lx:=Zrs cD a.x a.y r.x r.y _ _ _ _ b.x h1.x h1.y h2.x
 have ly:=Zrt cD a.x a.y r.x r.y _ _ _ _ b.y h1.x h1.y h2.y
 have rx:=Zru cD p.x p.y c.x c.y _ _ _ _ e.x h3.x h3.y h4.x
 have ry:=Zrv cD p.x p.y c.x c.y _ _ _ _ e.y h3.x h3.y h4.y
 have ux:(1+tee p q)*(1 - tee p q)*(1+tee a r)≠0:=ZaT (ZaT n1 n2) (ZcX ha hr)
 have uy:(1+tee p q)*(1 - tee p q)*(1 - tee a r)≠0:=ZaT (ZaT n1 n2) (ZcY ha hr)
 have vx:(1+tee q r)*(1 - tee q r)*(1+tee p c)≠0:=ZaT (ZaT n3 n4) (ZcX hp hc)
 have vy:(1+tee q r)*(1 - tee q r)*(1 - tee p c)≠0:=ZaT (ZaT n3 n4) (ZcY hp hc)
 refine Pt.ext (ZdL (ZaT ux vx) (ZkN lx.1 rx.1 ?_)) (ZdL (ZaT uy vy) (ZkN ly.1 ry.1 ?_))
 ·have l2:(1+tee p q)*(1 - tee p q)*(1+tee a r)=_:=lx.2
  have r2:(1+tee q r)*(1 - tee q r)*(1+tee p c)=_:=rx.2
  rw [l2,r2]
  exact gx
 ·have l2:(1+tee p q)*(1 - tee p q)*(1 - tee a r)=_:=ly.2
  have r2:(1+tee q r)*(1 - tee q r)*(1 - tee p c)=_:=ry.2
  rw [l2,r2]
  exact gy
def finv (a:Fp):Fp:=⟨pwM fP 256 a.val (fP - 2)%fP,Zcu _⟩
theorem Zei {a:Fp} (h:a≠0):a*finv a=1:=by
 apply Fin.ext
 rw [ZcH]
 show a.val*(pwM fP 256 a.val (fP - 2)%fP)%fP=_
 rw [Zeg fP 256 a.val (fP - 2) (by decide),Nat.mod_mod,ZkH a.val (by rw [Nat.mod_eq_of_lt a.isLt];exact fun e=>h (Fin.ext e))]
 rfl
def psum (p q:Pt):Pt:=⟨(p.x*q.y+p.y*q.x)*finv (1+tee p q),(p.y*q.y+p.x*q.x)*finv (1 - tee p q)⟩
theorem Zh6 {A a i:Fp} (h:a*i=1):A*i*a=A:=by grind
theorem ZcZ {p q:Pt} (hp:OnC p) (hq:OnC q):SumIs p q (psum p q):=
 ⟨Zh6 (Zei (ZcX hp hq)),Zh6 (Zei (ZcY hp hq))⟩
theorem Zh7 {p q:Pt} (hp:OnC p) (hq:OnC q):OnC (psum p q):=Zh5 hp hq (ZcZ hp hq)
theorem ZkO {p q r:Pt} (hp:OnC p) (hq:OnC q) (h:SumIs p q r):r=psum p q:=Zrm hp hq h (ZcZ hp hq)
theorem ZkP {p q:Pt} (hp:OnC p) (hq:OnC q):psum p q=psum q p:=ZkO hq hp (Zrn (ZcZ hp hq))
theorem Zrx {p q r:Pt} (hp:OnC p) (hq:OnC q) (hr:OnC r):psum (psum p q) r=psum p (psum q r):=
 Zrw hp hq hr (ZcZ hp hq) (ZcZ (Zh7 hp hq) hr) (ZcZ hq hr) (ZcZ hp (Zh7 hq hr))
def Zcc:Pt:=⟨0,1⟩
def pneg (p:Pt):Pt:=⟨-p.x,p.y⟩
theorem Zf0:OnC Zcc:=by unfold OnC Zcc;grind
theorem Zry {p:Pt} (h:OnC p):OnC (pneg p):=by unfold OnC pneg at*;grind
theorem Zh8 {p:Pt} (h:OnC p):psum p Zcc=p:=by
 refine (ZkO h Zf0 ⟨?_, ?_⟩).symm<;>(unfold tee Zcc;grind)
def Zaq:Nat→Pt→Pt
 | 0,_=>Zcc
 | n+1,p=>psum (Zaq n p) p
theorem ZbV {p:Pt} (h:OnC p) (n:Nat):OnC (Zaq n p):=by
 induction n with
 | zero=>exact Zf0
 | succ n ih=>exact Zh7 ih h
theorem Zf1 {p:Pt} (h:OnC p) (m n:Nat):Zaq (m+n) p=psum (Zaq m p) (Zaq n p):=by
 induction n with
 | zero=>exact (Zh8 (ZbV h m)).symm
 | succ n ih=>
  show psum (Zaq (m+n) p) p=psum (Zaq m p) (psum (Zaq n p) p)
  rw [ih,Zrx (ZbV h m) (ZbV h n) h]
theorem ZkQ {p:Pt} (h:OnC p) (m n:Nat):Zaq (m*n) p=Zaq n (Zaq m p):=by
 induction n with
 | zero=>rfl
 | succ n ih=>
  rw [Nat.mul_succ,Zf1 h,ih]
  rfl
theorem Zrz (n:Nat):Zaq n Zcc=Zcc:=by
 induction n with
 | zero=>rfl
 | succ n ih=>
  show psum (Zaq n Zcc) Zcc=Zcc
  rw [ih,Zh8 Zf0]
end Go.Proofs.YtcaloldcihpkfaaGreatDoor.N

/-
 Layer 17, in plain words: which x makes a point of y; the base; what a sum undoes.
-/
namespace Go.Proofs.YtcaloldcihpkfaaGreatDoor.N
set_option linter.unusedVariables false
set_option maxRecDepth 8192

theorem ZrA:(-1:Fp)+1=0:=by decide
theorem ZrB (i d y:Fp) (hi:i*i= -1) (h:1+d*y*y=0):i*i=d*(y*y):=by
 have h1:i*i+1=0:=by rw [hi];exact ZrA
 have h2:i*i+1=d*(y*y)+1:=by rw [h1, ←h];grind
 grind
theorem ZkR (y:Fp):1+cD*y*y≠0:=fun h=>by
 have h3:1+cD*(0:Fp)*0=1:=by rw [Fin.mul_zero,Fin.add_zero]
 have hy:y≠0:=fun e=>Zeh (by rw [e,h3] at h;exact h)
 exact Zh3 (u:=cI) (v:=y) hy (ZrB cI cD y Zh4 h)
theorem ZrC (x y:Fp):OnC ⟨x,y⟩↔x*x*(1+cD*y*y)=y*y - 1:=by
 unfold OnC
 constructor
 ·intro h;show x*x*(1+cD*y*y)=y*y - 1;have h1:y*y - x*x=1+cD*x*x*y*y:=h;grind
 ·intro h;show y*y - x*x=1+cD*x*x*y*y;grind
theorem ZrD {x y s:Fp} (hs:s*(1+cD*y*y)=y*y - 1):OnC ⟨x,y⟩↔x*x=s:=by
 rw [ZrC]
 constructor
 ·intro h;exact ZdL (ZkR y) (by grind)
 ·intro h;rw [h];exact hs
def Zf2:Nat:=15112221349535400772501151409588531511454012693041857206046113283949847762202
def Zf3:Nat:=46316835694926478169428394003475163141307993866256225615783033603165251855960
theorem ZkS:Zf2<fP:=by decide
theorem Zh9:Zf3<fP:=by decide
theorem ZrE:Zf2%2=0:=by decide
def Zax:Pt:=⟨⟨Zf2,ZkS⟩,⟨Zf3,Zh9⟩⟩
theorem ZbK:OnC Zax:=by unfold OnC Zax;decide+kernel
end Go.Proofs.YtcaloldcihpkfaaGreatDoor.N

/-
 Layer 17, in plain words: numbers taken round as Fp; points with a third number: their sum, doubled, so many times.
-/
namespace Go.Proofs.YtcaloldcihpkfaaGreatDoor.N
set_option linter.unusedVariables false
set_option maxRecDepth 8192

theorem ZkT (a b:Fp):(a - b).val=(a.val+(fP - b.val))%fP:=by
 rw [Fin.sub_def,Nat.add_comm]
theorem ZrF (a:Fp):(finv a).val=a.val^(fP - 2)%fP:=by
 show pwM fP 256 a.val (fP - 2)%fP=_
 rw [Zeg fP 256 a.val (fP - 2) (by decide),Nat.mod_mod]
theorem Zia {a:Fp} (h:a≠0):a.val≠0:=fun e=>h (Fin.ext e)
structure T3 where
 x:Fp
 y:Fp
 z:Fp
def Zb2 (p q:T3):T3:=
 ⟨p.z*q.z*(p.x*q.y+p.y*q.x)*(p.z*q.z*(p.z*q.z) - cD*(p.x*q.x*(p.y*q.y))),
  p.z*q.z*(p.y*q.y+p.x*q.x)*(p.z*q.z*(p.z*q.z)+cD*(p.x*q.x*(p.y*q.y))),
  (p.z*q.z*(p.z*q.z)+cD*(p.x*q.x*(p.y*q.y)))*(p.z*q.z*(p.z*q.z) - cD*(p.x*q.x*(p.y*q.y)))⟩
def dbl3 (p:T3):T3:=
 ⟨(p.x*p.y+p.x*p.y)*(p.z*p.z+p.z*p.z - (p.y*p.y - p.x*p.x)),(p.y*p.y+p.x*p.x)*(p.y*p.y - p.x*p.x),(p.y*p.y - p.x*p.x)*(p.z*p.z+p.z*p.z - (p.y*p.y - p.x*p.x))⟩
def Zbb (o:T3) (b:Bool) (p:T3):T3:=if b then Zb2 (dbl3 o) p else dbl3 o
def Zib:T3:=⟨0,1,1⟩
def run3 (p:T3) (v T:Nat):Nat→T3
 | 0=>Zib
 | j+1=>Zbb (run3 p v T j) (decide (v/2^(T - (j+1))%2=1)) p
structure Stands (t:T3) (p:Pt):Prop where
 z:t.z≠0
 x:t.x=p.x*t.z
 y:t.y=p.y*t.z
theorem ZrG (d x1 y1 z1 x2 y2 z2 rx ry:Fp) (hx:rx*(1+d*x1*x2*y1*y2)=x1*y2+y1*x2) (hy:ry*(1 - d*x1*x2*y1*y2)=y1*y2+x1*x2):
  (z1*z2*(z1*z2)+d*((x1*z1)*(x2*z2)*((y1*z1)*(y2*z2)))=z1*z2*(z1*z2)*(1+d*x1*x2*y1*y2))∧
  (z1*z2*(z1*z2) - d*((x1*z1)*(x2*z2)*((y1*z1)*(y2*z2)))=z1*z2*(z1*z2)*(1 - d*x1*x2*y1*y2))∧
  z1*z2*((x1*z1)*(y2*z2)+(y1*z1)*(x2*z2))*(z1*z2*(z1*z2) - d*((x1*z1)*(x2*z2)*((y1*z1)*(y2*z2))))=rx*((z1*z2*(z1*z2)+d*((x1*z1)*(x2*z2)*((y1*z1)*(y2*z2))))*(z1*z2*(z1*z2) - d*((x1*z1)*(x2*z2)*((y1*z1)*(y2*z2)))))∧
  z1*z2*((y1*z1)*(y2*z2)+(x1*z1)*(x2*z2))*(z1*z2*(z1*z2)+d*((x1*z1)*(x2*z2)*((y1*z1)*(y2*z2))))=ry*((z1*z2*(z1*z2)+d*((x1*z1)*(x2*z2)*((y1*z1)*(y2*z2))))*(z1*z2*(z1*z2) - d*((x1*z1)*(x2*z2)*((y1*z1)*(y2*z2))))):=by
 have e1:z1*z2*(z1*z2)+d*((x1*z1)*(x2*z2)*((y1*z1)*(y2*z2)))=z1*z2*(z1*z2)*(1+d*x1*x2*y1*y2):=by grind
 have e2:z1*z2*(z1*z2) - d*((x1*z1)*(x2*z2)*((y1*z1)*(y2*z2)))=z1*z2*(z1*z2)*(1 - d*x1*x2*y1*y2):=by grind
 refine ⟨e1,e2, ?_, ?_⟩
 ·rw [e1,e2];grind
 ·rw [e1,e2];grind
theorem Stands.plus {s t:T3} {p q:Pt} (hs:Stands s p) (ht:Stands t q) (hp:OnC p) (hq:OnC q):Stands (Zb2 s t) (psum p q):=by
 have h:=ZcZ hp hq
 have g:=ZrG cD p.x p.y s.z q.x q.y t.z (psum p q).x (psum p q).y h.x h.y
 have n1:=ZcX hp hq
 have n2:=ZcY hp hq
 have hz:=ZaT hs.z ht.z
 have e:Zb2 s t=Zb2 ⟨p.x*s.z,p.y*s.z,s.z⟩ ⟨q.x*t.z,q.y*t.z,t.z⟩:=by
  have h1:s=⟨p.x*s.z,p.y*s.z,s.z⟩:=by rw [←hs.x, ←hs.y]
  have h2:t=⟨q.x*t.z,q.y*t.z,t.z⟩:=by rw [←ht.x, ←ht.y]
  rw [←h1, ←h2]
 rw [e]
 refine ⟨?_,g.2.2.1,g.2.2.2⟩
 show (_:Fp)*_≠0
 rw [g.1,g.2.1]
 exact ZaT (ZaT (ZaT hz hz) n1) (ZaT (ZaT hz hz) n2)
theorem ZrH (d x y z rx ry:Fp) (hc:y*y - x*x=1+d*x*x*y*y) (hx:rx*(1+d*x*x*y*y)=x*y+y*x) (hy:ry*(1 - d*x*x*y*y)=y*y+x*x):
  (y*z*(y*z) - x*z*(x*z)=z*z*(1+d*x*x*y*y))∧(z*z+z*z - (y*z*(y*z) - x*z*(x*z))=z*z*(1 - d*x*x*y*y))∧
  (x*z*(y*z)+x*z*(y*z))*(z*z+z*z - (y*z*(y*z) - x*z*(x*z)))=rx*((y*z*(y*z) - x*z*(x*z))*(z*z+z*z - (y*z*(y*z) - x*z*(x*z))))∧
  (y*z*(y*z)+x*z*(x*z))*(y*z*(y*z) - x*z*(x*z))=ry*((y*z*(y*z) - x*z*(x*z))*(z*z+z*z - (y*z*(y*z) - x*z*(x*z)))):=by
 have e1:y*z*(y*z) - x*z*(x*z)=z*z*(1+d*x*x*y*y):=by grind
 have e2:z*z+z*z - z*z*(1+d*x*x*y*y)=z*z*(1 - d*x*x*y*y):=by grind
 refine ⟨e1,by rw [e1,e2], ?_, ?_⟩
 ·rw [e1,e2];grind
 ·rw [e1,e2];grind
theorem Stands.dbl {s:T3} {p:Pt} (hs:Stands s p) (hp:OnC p):Stands (dbl3 s) (psum p p):=by
 have h:=ZcZ hp hp
 have g:=ZrH cD p.x p.y s.z (psum p p).x (psum p p).y hp h.x h.y
 have n1:=ZcX hp hp
 have n2:=ZcY hp hp
 have hz:=ZaT hs.z hs.z
 have e:dbl3 s=dbl3 ⟨p.x*s.z,p.y*s.z,s.z⟩:=by
  have h1:s=⟨p.x*s.z,p.y*s.z,s.z⟩:=by rw [←hs.x, ←hs.y]
  rw [←h1]
 rw [e]
 refine ⟨?_,g.2.2.1,g.2.2.2⟩
 show (p.y*s.z*(p.y*s.z) - p.x*s.z*(p.x*s.z))*(s.z*s.z+s.z*s.z - (p.y*s.z*(p.y*s.z) - p.x*s.z*(p.x*s.z)))≠0
 rw [g.2.1,g.1]
 exact ZaT (ZaT hz n1) (ZaT hz n2)
theorem ZkU (a:Fp):a*1=a:=by grind
theorem Stands.one (p:Pt):Stands ⟨p.x,p.y,1⟩ p:=⟨Zeh,(ZkU _).symm,(ZkU _).symm⟩
theorem Stands.zero:Stands Zib Zcc:=Stands.one Zcc
theorem Stands.run {s:T3} {p:Pt} (hs:Stands s p) (hp:OnC p) (v T:Nat) (hv:v<2^T):∀j,j≤T→Stands (run3 s v T j) (Zaq (v/2^(T - j)) p)
 | 0,_=>by
  rw [Nat.sub_zero,Nat.div_eq_of_lt hv]
  exact Stands.zero
 | j+1,hj=>by
  have ih:=Stands.run hs hp v T hv j (by omega)
  have hn:v/2^(T - (j+1))=2*(v/2^(T - j))+v/2^(T - (j+1))%2:=by
   have:T - j=T - (j+1)+1:=by omega
   rw [this,Nat.pow_succ, ←Nat.div_div_eq_div_mul]
   omega
  have h2:=ih.dbl (ZbV hp _)
  rw [←Zf1 hp] at h2
  show Stands (Zbb (run3 s v T j) (decide (v/2^(T - (j+1))%2=1)) s) _
  generalize v/2^(T - j)=m at*
  rcases Nat.mod_two_eq_zero_or_one (v/2^(T - (j+1))) with h|h
  ·rw [h] at hn
   rw [h,hn,Nat.add_zero,Nat.two_mul]
   exact h2
  ·rw [h] at hn
   rw [h,hn,Nat.two_mul]
   exact h2.plus hs (ZbV hp _) hp
theorem Stands.all {s:T3} {p:Pt} (hs:Stands s p) (hp:OnC p) (v T:Nat) (hv:v<2^T):Stands (run3 s v T T) (Zaq v p):=by
 have:=hs.run hp v T hv T (Nat.le_refl _)
 rwa [Nat.sub_self,Nat.pow_zero,Nat.div_one] at this
theorem ZkV (x z i:Fp) (h:z*i=1):x*z*(1*i)=x:=by grind
theorem Stands.div {s:T3} {p:Pt} (hs:Stands s p):s.x*(1*finv s.z)=p.x∧s.y*(1*finv s.z)=p.y:=by
 have h:=Zei hs.z
 exact ⟨by rw [hs.x];exact ZkV _ _ _ h,by rw [hs.y];exact ZkV _ _ _ h⟩
end Go.Proofs.YtcaloldcihpkfaaGreatDoor.N

/-
 Layer 18, in plain words: the order; a byte of 32 that is set; a clamped number.
-/
namespace Go.Proofs.YtcaloldcihpkfaaGreatDoor.N
set_option linter.unusedVariables false
set_option maxRecDepth 8192

def oL:Nat:=7237005577332262213973186563042994240857116359379907606001950938285454250989
theorem ZkW:0<oL:=by decide
theorem ZkX:oL<2^253:=by decide
theorem ZdM:oL<2^256:=Nat.lt_trans ZkX (by decide)
theorem ZkY (v:Nat):v%oL<oL:=Nat.mod_lt _ ZkW
theorem Zic (v:Nat):v%oL<2^256:=Nat.lt_trans (ZkY v) ZdM
def setN (v j x:Nat):Nat:=vL ((digL v 32).set j x)
theorem ZeV (v j:Nat) {x:Nat} (hx:x<256):(digL v 32).set j x=digL (setN v j x) 32:=by
 have h:=ZbY ((Zay v 32).set j hx)
 rwa [List.length_set,Zal] at h
theorem ZrI (v j:Nat) {x:Nat} (hx:x<256):setN v j x<2^256:=by
 have h:=((Zay v 32).set j hx).vL_lt
 rw [List.length_set,Zal] at h
 exact Nat.lt_of_lt_of_le h (by decide)
theorem ZkZ (v:Nat) {j x:Nat} (i:Nat) (hi:i<32) (hj:j<32) (hx:x<256):setN v j x/256^i%256=if i=j then x else v/256^i%256:=by
 rw [←Zbd (x:=setN v j x) hi, ←ZeV v j hx,Zcy (by rw [Zal];exact hj),Zbd hi]
theorem ZrJ (v j:Nat) {x y:Nat} (hx:x<256) (hy:y<256):setN (setN v j x) j y=setN v j y:=by
 unfold setN
 rw [show vL ((digL v 32).set j x)=setN v j x from rfl, ←ZeV v j hx,List.set_set]
def lowB (x:Nat):Nat:=x - x%8
def topB (x:Nat):Nat:=x%64+64
theorem ZrK {x:Nat} (h:x<256):lowB x<256:=by unfold lowB;omega
theorem Zid (x:Nat):topB x<256:=by unfold topB;omega
def ZeW (v:Nat):Nat:=setN (setN v 0 (lowB (v/256^0%256))) 31 (topB (v/256^31%256))
theorem Zk0 (n:Nat):n%256<256:=Nat.mod_lt _ (by decide)
theorem ZrL (v:Nat):ZeW v<2^256:=ZrI _ _ (Zid _)
end Go.Proofs.YtcaloldcihpkfaaGreatDoor.N

/-
 Layer 18, in plain words: so many times the base as the order is the zero point; the base scaled by what is left.
-/
namespace Go.Proofs.YtcaloldcihpkfaaGreatDoor.N
set_option linter.unusedVariables false
set_option maxRecDepth 8192

def ZeX:T3:=⟨⟨Zf2,ZkS⟩,⟨Zf3,Zh9⟩,1⟩
theorem ZrM:(run3 ZeX oL 253 253).x=0∧(run3 ZeX oL 253 253).y=(run3 ZeX oL 253 253).z:=by decide+kernel
theorem ZrN:Zaq oL Zax=Zcc:=by
 have h:=Stands.all (Stands.one Zax) ZbK oL 253 ZkX
 have e:(⟨Zax.x,Zax.y,1⟩:T3)=ZeX:=rfl
 rw [e] at h
 obtain ⟨h1,h2⟩:=ZrM
 have h3:=h.div
 have h4:=Zei h.z
 rw [h1,h2] at h3
 generalize run3 ZeX oL 253 253=t at*
 apply Pt.ext
 ·rw [←h3.1];show (0:Fp)*_=0;grind
 ·rw [←h3.2];show _=(1:Fp);grind
theorem ZrO (v:Nat):Zaq (v%oL) Zax=Zaq v Zax:=by
 have e:v=oL*(v/oL)+v%oL:=(Nat.div_add_mod v oL).symm
 have h1:Zaq v Zax=psum (Zaq (oL*(v/oL)) Zax) (Zaq (v%oL) Zax):=by
  rw [←Zf1 ZbK]
  exact congrArg (fun n=>Zaq n Zax) e
 rw [h1,ZkQ ZbK,ZrN,Zrz,ZkP Zf0 (ZbV ZbK _),Zh8 (ZbV ZbK _)]
end Go.Proofs.YtcaloldcihpkfaaGreatDoor.N
