/-
 Layer 17, in plain words: points as numbers, packed and unpacked.
-/
import Derived.Test.YtcaloldcihpkfaaGreatDoorMPackCa
import Derived.Test.YtcaloldcihpkfaaGreatDoorMPackFd
import Derived.Test.YtcaloldcihpkfaaGreatDoorMPackFb
import Derived.Great.FillDense
import Derived.Laws.StructEq
namespace Go.Proofs.YtcaloldcihpkfaaGreatDoor.N
set_option linter.unusedVariables false
set_option maxRecDepth 8192

theorem ZsI (p:Pt):OnC p↔p.y*p.y - p.x*p.x=1+cD*(p.x*p.x*(p.y*p.y)):=by
 have e:1+cD*(p.x*p.x*(p.y*p.y))=1+cD*p.x*p.x*p.y*p.y:=by
  generalize cD=d
  grind
 unfold OnC
 rw [e]
theorem ZlF (a:Fp):0 - a= -a:=by grind
theorem ZsJ {a:Fp} (h:a≠0):(-a).val=fP - a.val:=by
 rw [←ZlF,Zll]
 have h1:=Zir h
 have h2:=a.isLt
 show (0+(fP - a.val))%fP=_
 rw [Nat.zero_add,Nat.mod_eq_of_lt (by omega)]
theorem ZiA {a:Fp} (h:a≠0):(-a).val%2=1 - a.val%2:=by
 rw [ZsJ h]
 have:=Zii
 have h2:=a.isLt
 omega
theorem ZsK {a:Fp} (h:a≠0): -a≠0:=fun e=>h (by
 have:a= - (-a):=by grind
 rw [this,e];grind)
theorem ZsL (a:Fp): -(-a)=a:=by grind
theorem ZiB {x y:Fp} (h:OnC ⟨x,y⟩):OnC ⟨-x,y⟩:=Zr5 h
def ySq (y:Fp):Fp:=(y*y - 1)*finv (1+cD*(y*y))
theorem ZlG (y:Fp):1+cD*(y*y)≠0:=by
 have e:1+cD*(y*y)=1+cD*y*y:=by
  generalize cD=d
  grind
 rw [e]
 exact Zlj y
theorem ZiC {x y:Fp}:OnC ⟨x,y⟩↔x*x=ySq y:=by
 refine Zsa ?_
 have e:1+cD*y*y=1+cD*(y*y):=by
  generalize cD=d
  grind
 rw [e]
 exact Zin (ZeF (ZlG y))
theorem ZlH (y:Fp):Zco (ySq y).val↔∃x,OnC ⟨x,y⟩:=by
 constructor
 ·rintro ⟨r,hr⟩
  refine ⟨⟨r%fP,ZcI _⟩,ZiC.2 (Fin.ext ?_)⟩
  rw [ZcV]
  show r%fP*(r%fP)%fP=_
  rw [←Nat.mul_mod,hr,Nat.mod_eq_of_lt (ySq y).isLt]
 ·rintro ⟨x,hx⟩
  exact ⟨x.val,by rw [←ZcV,ZiC.1 hx,Nat.mod_eq_of_lt (ySq y).isLt]⟩
theorem ZsM {x y:Fp} (h:OnC ⟨x,y⟩) (he:x.val%2=0):rtN (ySq y).val*rtN (ySq y).val%fP=(ySq y).val∧evN (rtN (ySq y).val)=x.val:=by
 refine ⟨(ZlB (ySq y).isLt).2 ((ZlH y).2 ⟨x,h⟩), ?_⟩
 rw [ZsH x.isLt (by rw [←ZcV,ZiC.1 h]),Zfr,if_neg (by omega)]
theorem ZsN {x y:Fp} (h:OnC ⟨x,y⟩):∃u:Fp,OnC ⟨u,y⟩∧u.val%2=0∧(u=x∨u= -x):=by
 rcases Nat.mod_two_eq_zero_or_one x.val with h1|h1
 ·exact ⟨x,h,h1, .inl rfl⟩
 ·have hx:x≠0:=fun e=>by rw [e] at h1;exact absurd h1 (by decide)
  exact ⟨-x,ZiB h,by rw [ZiA hx,h1], .inr rfl⟩
theorem ZiD:fP<2^255:=ZrG
theorem Zgz:(2:Nat)^256=2*2^255:=by rw [←Nat.pow_succ']
def Zaw (p:Pt):Nat:=p.y.val+2^255*(p.x.val%2)
theorem ZeG (p:Pt):Zaw p<2^256:=by
 unfold Zaw
 have h1:=p.y.isLt
 have h2:=ZiD
 have h3:=Zgz
 have h4:p.x.val%2<2:=Nat.mod_lt _ (by decide)
 generalize (2:Nat)^255=A at*
 generalize (2:Nat)^256=B at*
 rcases (show p.x.val%2=0∨p.x.val%2=1 by omega) with h|h<;>rw [h]<;>omega
theorem ZsO (p:Pt):Zaw p%2^255=p.y.val∧Zaw p/2^255=p.x.val%2:=by
 unfold Zaw
 have h1:p.y.val<2^255:=Nat.lt_trans p.y.isLt ZiD
 exact ⟨by rw [Nat.add_mul_mod_self_left,Nat.mod_eq_of_lt h1],by rw [Nat.add_mul_div_left _ _ (Nat.two_pow_pos 255),Nat.div_eq_of_lt h1,Nat.zero_add]⟩
theorem ZsP:(4:Fp)*finv 5=⟨Zgx,Ziq⟩:=by
 have h5:(5:Fp)≠0:=by decide
 refine Zd3 h5 ?_
 have h1:(5:Fp)*(4*finv 5)=4:=by
  have:=ZeF h5
  generalize finv 5=i at*
  grind
 rw [h1]
 decide+kernel
end Go.Proofs.YtcaloldcihpkfaaGreatDoor.N

/-
 Structs of arrays by value, in variables: a point's two numbers, a point with a third one: parts that are loaded, builds, '=='; the curve's number in its variable; regions in which several variables are made in any order.
-/
namespace Go.Proofs.YtcaloldcihpkfaaGreatDoor.N
open Go.RowKit
set_option linter.unusedVariables false
set_option maxRecDepth 8192

def pA (x y:Nat):Array Value:=bA x++bA y
def tA (x y z:Nat):Array Value:=bA x++(bA y++bA z)
theorem ZlI (x y:Nat):pA x y=bA x++bA y:=rfl
theorem ZiE (x y z:Nat):tA x y z=bA x++(bA y++bA z):=rfl
theorem Zak (x y:Nat):(pA x y).size=64:=by rw [ZlI,Array.size_append,Zaf,Zaf]
theorem ZaI (x y z:Nat):(tA x y z).size=96:=by rw [ZiE,Array.size_append,Array.size_append,Zaf,Zaf,Zaf]
theorem ZiF {X Y:Array Value} (h1:X.all (·.oneCell')=true) (h2:Y.all (·.oneCell')=true):(X++Y).all (·.oneCell')=true:=by
 rw [Array.all_eq_true_iff_forall_mem] at*
 intro v hv
 rcases Array.mem_append.1 hv with h|h
 ·exact h1 v h
 ·exact h2 v h
theorem Za6 (x y:Nat):(pA x y).all (·.oneCell')=true:=ZiF (Zdv x) (Zdv y)
theorem ZcJ (x y z:Nat):(tA x y z).all (·.oneCell')=true:=ZiF (Zdv x) (ZiF (Zdv y) (Zdv z))
theorem ZiG (X Y:Array Value) (n k:Nat) (h:X.size=n):(X++Y)[k]? =if k<n then X[k]? else Y[k - n]? :=by
 subst h
 rw [Array.getElem?_append]
theorem Zd5 (x y k:Nat):(pA x y)[k]? =if k<32 then (bA x)[k]? else (bA y)[k - 32]? :=ZiG _ _ 32 k (Zaf x)
theorem Zfu (x y z k:Nat):(tA x y z)[k]? =if k<32 then (bA x)[k]? else if k<64 then (bA y)[k - 32]? else (bA z)[k - 64]? :=by
 rw [ZiE,ZiG _ _ 32 k (Zaf x),ZiG _ _ 32 (k - 32) (Zaf y)]
 by_cases h1:k<32
 ·rw [if_pos h1,if_pos h1]
 ·rw [if_neg h1,if_neg h1]
  by_cases h2:k<64
  ·rw [if_pos h2,if_pos (by omega)]
  ·rw [if_neg h2,if_neg (by omega),show k - 32 - 32=k - 64 by omega]
def Part (X:Array Value) (o:Nat) (Y:Array Value):Prop:=∀j v,Y[j]? =some v→X[o+j]? =some v
theorem ZiH {a j:Nat} {v:Value} (h:(bA a)[j]? =some v):j<32:=by
 have:=(Array.getElem?_eq_some_iff.1 h).1
 rwa [Zaf] at this
theorem ZeH (x y:Nat):Part (pA x y) 0 (bA x):=fun j v h=>by rw [Zd5,Nat.zero_add,if_pos (ZiH h)];exact h
theorem ZdB (x y:Nat):Part (pA x y) 32 (bA y):=fun j v h=>by rw [Zd5,if_neg (by omega),show 32+j - 32=j by omega];exact h
theorem ZdC (x y z:Nat):Part (tA x y z) 0 (bA x):=fun j v h=>by rw [Zfu,Nat.zero_add,if_pos (ZiH h)];exact h
theorem ZdD (x y z:Nat):Part (tA x y z) 32 (bA y):=fun j v h=>by have:=ZiH h;rw [Zfu,if_neg (by omega),if_pos (by omega),show 32+j - 32=j by omega];exact h
theorem Zfv (x y z:Nat):Part (tA x y z) 64 (bA z):=fun j v h=>by rw [Zfu,if_neg (by omega),if_neg (by omega),show 64+j - 64=j by omega];exact h
attribute [irreducible] pA tA
section
variable {P:Program} {ops:Array Oper} {rest:List Oper} {o:Oper} {a:Act} {w w0:World} {Q:Exit→Act→World→Prop} {K:Act→World→Prop} {l:List AV}
theorem ZaT (V:Vars w0 w l) (i:Nat) {g:Nat} {T:TypeId} {X:Array Value} (hi:l[i]? =some ⟨g,T,X⟩) (off:Nat) {Y:Array Value} (hp:Part X off Y) (x:Operand) {T':TypeId} (ho:o.op= .load T' x) (hx:a.eval x= .pointer (some ⟨g,off,none⟩))
  {m:Nat} {e:TypeId} (hu:P.underlying T'=some (.array m e)) {n:Nat} (hn:(P.info? T').map (·.size)=some n) (hY:Y.size=n):(execOp a.eval o).run P w= .ok (.value (.agg Y)) w:=by
 have hr:w.rangeAt g off Y.toList:=fun j v hv=>by
  rw [cell_of_row w g (off+j) X T (0,0) (V.at i hi)]
  exact hp j v (by simpa using hv)
 unfold execOp
 simp only [ho,hx,Instr.loadAt,Instr.sureAddr,Sem.run_bind,Sem.run_pure,Result.andThen_ok,run_loadVar_mid w g off T' Y.toList _ hr hu rfl (by rw [hn,Array.length_toList,hY])]
theorem Zbn (V:Vars w0 w l) (i:Nat) {g:Nat} {T:TypeId} {X:Array Value} (hi:l[i]? =some ⟨g,T,X⟩) (x:Operand) (ho:o.op= .load T x) (hx:a.eval x= .pointer (some ⟨g,0,none⟩))
  {fs:Array Field} (hu:P.underlying T=some (.struct fs)) {n:Nat} (hn:(P.info? T).map (·.size)=some n) (hX:X.size=n):(execOp a.eval o).run P w= .ok (.value (.agg X)) w:=by
 unfold execOp
 simp only [ho,hx,Instr.loadAt,Instr.sureAddr,Sem.run_bind,Sem.run_pure,Result.andThen_ok,run_loadVar_row w g T T X (0,0) _ (V.at i hi) hu rfl (by rw [hn,hX])]
theorem ZcK {fn:Func} {p:Tmp} {T:TypeId} (h:fn.results= #[.cell p T]) (tmps:Array Value) (V:Vars w0 w l) (i:Nat) {g:Nat} {X:Array Value} (hi:l[i]? =some ⟨g,T,X⟩) (hp:tmps.getD p undef= .pointer (some ⟨g,0,none⟩))
  {fs:Array Field} (hu:P.underlying T=some (.struct fs)) {n:Nat} (hn:(P.info? T).map (·.size)=some n) (hX:X.size=n):(results fn tmps).run P w= .ok (.agg X) w:=
 results_cell_row h tmps w g T X (0,0) _ hp (V.at i hi) hu rfl (by rw [hn,hX])
theorem Zdg {fn:Func} {p u:Tmp} {T:TypeId} (h:fn.results= #[.cell p T, .tmp u]) (tmps:Array Value) (V:Vars w0 w l) (i:Nat) {g:Nat} {X:Array Value} (hi:l[i]? =some ⟨g,T,X⟩) (hp:tmps.getD p undef= .pointer (some ⟨g,0,none⟩))
  {fs:Array Field} (hu:P.underlying T=some (.struct fs)) {n:Nat} (hn:(P.info? T).map (·.size)=some n) (hX:X.size=n):(results fn tmps).run P w= .ok (.tuple #[.agg X,tmps.getD u undef]) w:=by
 have hl':=run_loadVar_row (P:=P) w g T T X (0,0) _ (V.at i hi) hu rfl (by rw [hn,hX])
 rw [results_cell_tmp h,hp]
 simp [asAddr,Result.andThen,hl']
theorem ZgA {T':TypeId} {X Y:Array Value} {off:Nat} (hp:Part X off Y) {m:Nat} {e:TypeId} (hu:P.underlying T'=some (.array m e)) {n:Nat} (hn:(P.info? T').map (·.size)=some n) (hY:Y.size=n) (hX:off+n≤X.size):(part T' X off).run P w= .ok (.agg Y) w:=by
 obtain ⟨inf,hq,hs⟩:=Option.map_eq_some_iff.1 hn
 have e:X.extract off (off+n)=Y:=by
  apply Array.ext (by simp;omega)
  intro j h1 h2
  have:=hp j _ (Array.getElem?_eq_getElem h2)
  rw [Array.getElem_extract]
  exact (Array.getElem?_eq_some_iff.1 this).2
 simp [part,isAgg,run_underlying hu,sizeOf,typeInfo,hq,hs,e]
end
theorem ZeI (pl:Nat→Option (Nat×Nat)) (i off n:Nat) (c cells:Array Value) (rest:List (Nat×Value)) (hp:pl i=some (off,n)) (hn:c.size=n) (hle:off+n≤cells.size):
  ∃cs,Instr.fill pl cells ((i, .agg c)::rest)=Instr.fill pl cs rest∧cs.size=cells.size∧∀k,cs[k]? =if off≤k∧k<off+n then c[k - off]? else cells[k]? :=by
 obtain ⟨g1,g2⟩:=Great.foldl_set off c.toList 0 cells
 have c0:(Value.agg c).cells=c:=rfl
 have l1:c.toList.length=n:=by simpa using hn
 refine ⟨(c.toList.zipIdx 0).foldl (fun cs (x:Value×Nat)=>cs.setIfInBounds (off+x.2) x.1) cells, ?_,g1,fun k=> ?_⟩
 ·rw [Instr.fill]
  simp only [hp,c0,hn]
  rw [if_neg (by simp;omega)]
  congr 1
  rw [←Array.foldl_toList,Array.toList_zipIdx]
 ·rw [g2 k,l1]
  by_cases h:off≤k∧k<off+n
  ·rw [if_pos h,if_pos (by omega)]
   simp
  ·rw [if_neg h,if_neg (by omega)]
theorem ZiI (k:IntKind) (l m:List Nat):arr k l++arr k m=arr k (l++m):=by simp [arr,nI]
theorem ZlJ:pA 0 0=arr .u8 (List.replicate 64 0):=by rw [ZlI,Zgh,ZiI,List.replicate_append_replicate]
theorem ZlK:tA 0 0 0=arr .u8 (List.replicate 96 0):=by rw [ZiE,Zgh,ZiI,ZiI,List.replicate_append_replicate,List.replicate_append_replicate]
theorem ZeJ {a k:Nat} (h:32≤k):(bA a)[k]? =none:=Array.getElem?_eq_none (by rw [Zaf];exact h)
def ZeK:Array (Nat×Nat):= #[(0,32),(32,32)]
def Zfw:Array (Nat×Nat):= #[(0,32),(32,32),(64,32)]
theorem ZsQ (x y:Nat):Instr.fill (ZeK[·]?) (pA 0 0) [(0, .agg (bA x)),(1, .agg (bA y))]=some (pA x y):=by
 obtain ⟨c1,e1,s1,g1⟩:=ZeI (ZeK[·]?) 0 0 32 (bA x) (pA 0 0) [(1, .agg (bA y))] rfl (Zaf x) (by rw [Zak];decide)
 obtain ⟨c2,e2,s2,g2⟩:=ZeI (ZeK[·]?) 1 32 32 (bA y) c1 [] rfl (Zaf y) (by rw [s1,Zak];decide)
 rw [e1,e2,Instr.fill,Option.some_inj]
 apply Array.ext_getElem?
 intro k
 rw [g2 k,g1 k,Zd5,Zd5]
 by_cases h1:k<32
 ·rw [if_neg (by omega),if_pos (by omega),if_pos h1,Nat.sub_zero]
 ·rw [if_neg h1]
  by_cases h2:k<64
  ·rw [if_pos (by omega),if_neg h1]
  ·rw [if_neg (by omega),if_neg (by omega),if_neg h1,ZeJ (by omega),ZeJ (by omega)]
theorem ZsR (y:Nat):Instr.fill (ZeK[·]?) (pA 0 0) [(1, .agg (bA y))]=some (pA 0 y):=by
 obtain ⟨c2,e2,s2,g2⟩:=ZeI (ZeK[·]?) 1 32 32 (bA y) (pA 0 0) [] rfl (Zaf y) (by rw [Zak];decide)
 rw [e2,Instr.fill,Option.some_inj]
 apply Array.ext_getElem?
 intro k
 rw [g2 k,Zd5,Zd5]
 by_cases h1:k<32
 ·rw [if_neg (by omega),if_pos h1,if_pos h1]
 ·rw [if_neg h1,if_neg h1]
  by_cases h2:k<64
  ·rw [if_pos (by omega)]
  ·rw [if_neg (by omega),ZeJ (by omega),ZeJ (by omega)]
theorem ZsS (x y z:Nat):Instr.fill (Zfw[·]?) (tA 0 0 0) [(0, .agg (bA x)),(1, .agg (bA y)),(2, .agg (bA z))]=some (tA x y z):=by
 obtain ⟨c1,e1,s1,g1⟩:=ZeI (Zfw[·]?) 0 0 32 (bA x) (tA 0 0 0) [(1, .agg (bA y)),(2, .agg (bA z))] rfl (Zaf x) (by rw [ZaI];decide)
 obtain ⟨c2,e2,s2,g2⟩:=ZeI (Zfw[·]?) 1 32 32 (bA y) c1 [(2, .agg (bA z))] rfl (Zaf y) (by rw [s1,ZaI];decide)
 obtain ⟨c3,e3,s3,g3⟩:=ZeI (Zfw[·]?) 2 64 32 (bA z) c2 [] rfl (Zaf z) (by rw [s2,s1,ZaI];decide)
 rw [e1,e2,e3,Instr.fill,Option.some_inj]
 apply Array.ext_getElem?
 intro k
 rw [g3 k,g2 k,g1 k,Zfu,Zfu]
 by_cases h1:k<32
 ·rw [if_neg (by omega),if_neg (by omega),if_pos (by omega),if_pos h1,Nat.sub_zero]
 ·rw [if_neg h1]
  by_cases h2:k<64
  ·rw [if_neg (by omega),if_pos (by omega),if_pos h2,if_neg h1]
  ·rw [if_neg h2]
   by_cases h3:k<96
   ·rw [if_pos (by omega),if_neg h1,if_neg h2]
   ·rw [if_neg (by omega),if_neg (by omega),if_neg (by omega),if_neg h1,if_neg h2,ZeJ (by omega),ZeJ (by omega)]
section
variable {P:Program} {ops:Array Oper} {Q:Exit→Act→World→Prop} {md:Region.Mode} {S:World→Prop}
end
theorem Tryz.szP:(Tryz.prog.info? 76).map (·.size)=some 64:=by kernel_rfl
theorem Za7 (w:World):(zeroValue 76).run Tryz.prog w= .ok (.agg (pA 0 0)) w:=by rw [ZlJ];kernel_rfl
theorem ZiJ (parts:List (Nat×Value)):Tryz.prog.built 76 parts=Instr.fill (ZeK[·]?) (pA 0 0) parts:=by rw [ZlJ];kernel_rfl
theorem ZgB (x y:Nat):Tryz.prog.built 76 [(0, .agg (bA x)),(1, .agg (bA y))]=some (pA x y):=by rw [ZiJ,ZsQ]
theorem ZsT (y:Nat):Tryz.prog.built 76 [(1, .agg (bA y))]=some (pA 0 y):=by rw [ZiJ,ZsR]
theorem Zfx:Tryz.prog.built 76 []=some (pA 0 0):=by rw [ZiJ,Instr.fill]
theorem ZlL (D p q:Nat) (hD:2≤D) (hp:p<2^256) (hq:q<2^256) (w:World):(Op.equalIn D 22 (.agg (bA p)) (.agg (bA q))).run Tryz.prog w= .ok (decide (p=q)) w:=by
 obtain ⟨d,rfl⟩:∃d,D=d+2:=⟨D - 2,by omega⟩
 rw [ZbE,ZbE,ZhN Tryz.underlying22 Tryz.underlying5 Tryz.sz8 _ _ (Zap _ _) (Zap _ _),Zlt hp hq]
theorem ZsU {P:Program} {D T:Nat} {X Y x y x' y':Array Value} {f g:Field} {b0 b1:Bool} {w:World} (hf:f.name≠ "_") (hg:g.name≠ "_") (p0:(part f.type X f.offset).run P w= .ok (.agg x) w) (p1:(part g.type X g.offset).run P w= .ok (.agg y) w)
  (r0:(part f.type Y f.offset).run P w= .ok (.agg x') w) (r1:(part g.type Y g.offset).run P w= .ok (.agg y') w) (e0:(Op.equalIn D f.type (.agg x) (.agg x')).run P w= .ok b0 w) (e1:(Op.equalIn D g.type (.agg y) (.agg y')).run P w= .ok b1 w):
  (Op.eqFields D X Y [f,g]).run P w= .ok (b0&&b1) w:=by
 cases b0<;>cases b1<;>simp [Op.eqFields,hf,hg,p0,p1,r0,r1,e0,e1]
theorem ZsV (x y x' y':Nat) (hx:x<2^256) (hy:y<2^256) (hx':x'<2^256) (hy':y'<2^256) (w:World):(Op.equalIn 10000 76 (.agg (pA x y)) (.agg (pA x' y'))).run Tryz.prog w= .ok (decide (x=x')&&decide (y=y')) w:=by
 obtain ⟨fs,hfs⟩:∃fs,Tryz.prog.underlying 76=some (.struct fs):=⟨_,Tryz.underlying76⟩
 have hf:Tryz.prog.fieldsOf 76=fs:=by unfold Program.fieldsOf;rw [hfs]
 rw [run_equalIn_agg (d:=9999) w _ _ _ (by rw [hf];exact hfs) (by kernel_rfl),hf]
 rw [Tryz.underlying76] at hfs
 cases hfs
 have p0:=ZgA (P:=Tryz.prog) (w:=w) (ZeH x y) Tryz.underlying22 Tryz.szB (Zaf _) (by rw [Zak];decide)
 have p1:=ZgA (P:=Tryz.prog) (w:=w) (ZdB x y) Tryz.underlying22 Tryz.szB (Zaf _) (by rw [Zak];decide)
 have r0:=ZgA (P:=Tryz.prog) (w:=w) (ZeH x' y') Tryz.underlying22 Tryz.szB (Zaf _) (by rw [Zak];decide)
 have r1:=ZgA (P:=Tryz.prog) (w:=w) (ZdB x' y') Tryz.underlying22 Tryz.szB (Zaf _) (by rw [Zak];decide)
 exact ZsU (T:=0) (by decide) (by decide) p0 p1 r0 r1 (ZlL 9999 x x' (by decide) hx hx' w) (ZlL 9999 y y' (by decide) hy hy' w)
theorem ZlM {a:Act} {o:Oper} {w:World} {T':TypeId} (u v:Operand) (ho:o.op= .binOp .neq 76 u v T') (b:Bool) (x y x' y':Nat) (hb:(decide (x=x')&&decide (y=y'))= !b) (hu:a.eval u= .agg (pA x y)) (hv:a.eval v= .agg (pA x' y')) (hx:(x<2^256∧y<2^256)) (hx':(x'<2^256∧y'<2^256)):(execOp a.eval o).run Tryz.prog w= .ok (.value (.bool b)) w:=by
 unfold execOp
 simp only [ho,hu,hv,Sem.run_bind,Sem.run_pure,run_eqGuard_agg w .neq _ u v _ _ (show Tryz.prog.eqGuardType Tryz.prog.depth 76=false by kernel_rfl),Result.andThen_ok,run_neq_struct,ZsV x y x' y' hx.1 hx.2 hx'.1 hx'.2 w,hb,Bool.not_not]
def DAt (w:World):Prop:=∃T fr,w.heap[0]? =some (.cells (bA dN) T fr)
theorem DAt.below {w w':World} {B:Nat} (h:DAt w) (q:Below B w w') (hB:w.heap.size≤B):DAt w':=by
 obtain ⟨T,fr,h⟩:=h
 exact ⟨T,fr,by rw [q.block _ (Nat.lt_of_lt_of_le (Array.getElem?_eq_some_iff.1 h).1 hB)];exact h⟩
theorem DAt.of {w w':World} {l:List AV} (h:DAt w) (V:Vars w w' l):DAt w':=h.below V.bel (Nat.le_refl _)
theorem ZiK {a:Act} {o:Oper} {w:World} (h:DAt w) (x:Operand) (ho:o.op= .load 22 x) (hx:a.eval x= .pointer (some ⟨0,0,none⟩)):(execOp a.eval o).run Tryz.prog w= .ok (.value (.agg (bA dN))) w:=by
 obtain ⟨T,fr,h⟩:=h
 unfold execOp
 simp only [ho,hx,Instr.loadAt,Instr.sureAddr,Sem.run_bind,Sem.run_pure,Result.andThen_ok,run_loadVar_row w _ T 22 (bA dN) fr _ h Tryz.underlying22 rfl (by rw [Tryz.szB,Zaf])]
theorem Tryz.szT:(Tryz.prog.info? 117).map (·.size)=some 96:=by kernel_rfl
theorem Zdh (w:World):(zeroValue 117).run Tryz.prog w= .ok (.agg (tA 0 0 0)) w:=by rw [ZlK];kernel_rfl
theorem ZsW (parts:List (Nat×Value)):Tryz.prog.built 117 parts=Instr.fill (Zfw[·]?) (tA 0 0 0) parts:=by rw [ZlK];kernel_rfl
theorem ZiL (x y z:Nat):Tryz.prog.built 117 [(0, .agg (bA x)),(1, .agg (bA y)),(2, .agg (bA z))]=some (tA x y z):=by rw [ZsW,ZsS]
end Go.Proofs.YtcaloldcihpkfaaGreatDoor.N

/-
 Bytes of numbers in variables: one is read, one is written.
-/
namespace Go.Proofs.YtcaloldcihpkfaaGreatDoor.N
open Go.RowKit
set_option linter.unusedVariables false
set_option maxRecDepth 8192

theorem ZsX (x y j:Nat) (hj:j<32):(pA x y)[j]? =some (.int .u8 ((x/256^j%256:Nat):Int)):=by rw [Zd5,if_pos hj,Zc8 x j hj]
theorem b255:(256:Nat)^31*128=2^255:=by decide
theorem ZsY {y:Nat} (hy:y<2^255):y/256^31%256<128∧(digL y 32).set 31 (y/256^31%256+128)=digL (y+2^255) 32:=by
 have h0:y<2^256:=Nat.lt_trans hy (by rw [Zgz];have:=Nat.two_pow_pos 255;omega)
 have h1:y/256^31<128:=Nat.div_lt_of_lt_mul (by rw [b255];exact hy)
 have h2:y/256^31%256=y/256^31:=Nat.mod_eq_of_lt (by omega)
 refine ⟨by omega, ?_⟩
 rw [h2,Zky h0 (by omega)]
 congr 1
 have h3:=Nat.div_add_mod y (256^31)
 rw [←b255,Nat.add_mul]
 rw [Nat.mul_comm] at h3
 generalize 256^31=A at*
 generalize y/A=q at*
 rw [Nat.mul_comm A 128]
 generalize q*A=m at*
 generalize 128*A=n at*
 omega
theorem ZlN {b:Nat} (hb:b<2^256):(digL b 32).set 31 (b/256^31%256%128)=digL (b%2^255) 32:=by
 have h1:b/256^31<256:=Nat.div_lt_of_lt_mul (by rw [show 256^31*256=2^256 by decide];exact hb)
 have h2:b/256^31%256=b/256^31:=Nat.mod_eq_of_lt h1
 rw [h2,Zky hb (by omega)]
 congr 1
 rw [←b255,Nat.mod_mul,Nat.mul_comm (256^31)]
theorem ZsZ {b:Nat} (hb:b<2^256):b/256^31%256/128=b/2^255:=by
 have h1:b/256^31<256:=Nat.div_lt_of_lt_mul (by rw [show 256^31*256=2^256 by decide];exact hb)
 rw [Nat.mod_eq_of_lt h1,Nat.div_div_eq_div_mul,b255]
end Go.Proofs.YtcaloldcihpkfaaGreatDoor.N

/-
 The code of layer 17 (curve): add, sub, mul, div, third, Zero, divided.
-/
namespace Go.Proofs.YtcaloldcihpkfaaGreatDoor.N
open Go.RowKit
set_option linter.unusedVariables false
set_option maxRecDepth 8192

set_option maxHeartbeats 800000 in
theorem ZdE (a b:Fp) (w:World):Calls Tryz.prog 116 #[.agg (bA a.val), .agg (bA b.val)] w fun e w'=>e= .returned (.agg (bA (a+b).val))∧Below w.heap.size w w':=by
 have HF:Hid (∀w,Rt Tryz.prog 156 #[.agg (bA a.val), .agg (bA b.val)] (.tuple #[.agg (bA ((a+b).val)), .int .i64 0]) w):=fun w=>by have:=Zss a.val b.val w a.isLt b.isLt;rwa [←ZrN] at this
 generalize (a+b).val=r at*
 generalize a.val=x at*
 generalize b.val=y at*
 have V0:=Vars.start w
 go_enter Tryz.func116,Tryz.ntmps116
 go_wp2_with (first
  | (refine Zaj V0 2 22 _ rfl rfl rfl (bA x) rfl ?_;intro w1 g2 V3)
  | (refine Zaj V3 3 22 _ rfl rfl rfl (bA y) rfl ?_;intro w4 g5 V6)
  | (refine zA V6 4 rfl rfl rfl ?_;intro w7 g8 V9)
  | (refine zD V9 2 rfl 8 _ rfl rfl rfl rfl ?_)
  | (refine zD V9 1 rfl 9 _ rfl rfl rfl rfl ?_))
 refine (HF.out w7).mono ?_
 rintro e w10 ⟨rfl,q12⟩
 have V11:=V9.call q12
 clear q12 V9
 go_wp2_with (first
  | (refine zA V11 5 rfl rfl rfl ?_;intro w13 g14 V15)
  | (refine zL V15 0 rfl _ (.tmp 11) rfl rfl rfl r rfl rfl ?_;intro w16 V17)
  | (refine zD V17 0 rfl 13 _ rfl rfl rfl rfl ?_)
  | (refine zL V17 1 rfl _ (.tmp 13) rfl rfl rfl r rfl rfl ?_;intro w18 V19))
 exact bodyPost_ret (ZaW rfl _ V19 1 rfl rfl Tryz.underlying22 Tryz.szB (Zaf _)) rfl ⟨rfl,V19.bel⟩
set_option maxHeartbeats 800000 in
theorem ZeL (a b:Fp) (w:World):Calls Tryz.prog 75 #[.agg (bA a.val), .agg (bA b.val)] w fun e w'=>e= .returned (.agg (bA (a - b).val))∧Below w.heap.size w w':=by
 have HF:Hid (∀w,Rt Tryz.prog 117 #[.agg (bA a.val), .agg (bA b.val)] (.tuple #[.agg (bA ((a - b).val)), .int .i64 0]) w):=fun w=>by have:=Zst a.val b.val w a.isLt b.isLt;rwa [←Zll] at this
 generalize (a - b).val=r at*
 generalize a.val=x at*
 generalize b.val=y at*
 have V0:=Vars.start w
 go_enter Tryz.func75,Tryz.ntmps75
 go_wp2_with (first
  | (refine Zaj V0 2 22 _ rfl rfl rfl (bA x) rfl ?_;intro w1 g2 V3)
  | (refine Zaj V3 3 22 _ rfl rfl rfl (bA y) rfl ?_;intro w4 g5 V6)
  | (refine zA V6 4 rfl rfl rfl ?_;intro w7 g8 V9)
  | (refine zD V9 2 rfl 8 _ rfl rfl rfl rfl ?_)
  | (refine zD V9 1 rfl 9 _ rfl rfl rfl rfl ?_))
 refine (HF.out w7).mono ?_
 rintro e w10 ⟨rfl,q12⟩
 have V11:=V9.call q12
 clear q12 V9
 go_wp2_with (first
  | (refine zA V11 5 rfl rfl rfl ?_;intro w13 g14 V15)
  | (refine zL V15 0 rfl _ (.tmp 11) rfl rfl rfl r rfl rfl ?_;intro w16 V17)
  | (refine zD V17 0 rfl 13 _ rfl rfl rfl rfl ?_)
  | (refine zL V17 1 rfl _ (.tmp 13) rfl rfl rfl r rfl rfl ?_;intro w18 V19))
 exact bodyPost_ret (ZaW rfl _ V19 1 rfl rfl Tryz.underlying22 Tryz.szB (Zaf _)) rfl ⟨rfl,V19.bel⟩
set_option maxHeartbeats 800000 in
theorem ZaY (a b:Fp) (w:World):Calls Tryz.prog 114 #[.agg (bA a.val), .agg (bA b.val)] w fun e w'=>e= .returned (.agg (bA (a*b).val))∧Below w.heap.size w w':=by
 have HF:Hid (∀w,Rt Tryz.prog 151 #[.agg (bA a.val), .agg (bA b.val)] (.tuple #[.agg (bA ((a*b).val)), .int .i64 0]) w):=fun w=>by have:=Zsu a.val b.val w a.isLt b.isLt;rwa [←ZcV] at this
 generalize (a*b).val=r at*
 generalize a.val=x at*
 generalize b.val=y at*
 have V0:=Vars.start w
 go_enter Tryz.func114,Tryz.ntmps114
 go_wp2_with (first
  | (refine Zaj V0 2 22 _ rfl rfl rfl (bA x) rfl ?_;intro w1 g2 V3)
  | (refine Zaj V3 3 22 _ rfl rfl rfl (bA y) rfl ?_;intro w4 g5 V6)
  | (refine zA V6 4 rfl rfl rfl ?_;intro w7 g8 V9)
  | (refine zD V9 2 rfl 8 _ rfl rfl rfl rfl ?_)
  | (refine zD V9 1 rfl 9 _ rfl rfl rfl rfl ?_))
 refine (HF.out w7).mono ?_
 rintro e w10 ⟨rfl,q12⟩
 have V11:=V9.call q12
 clear q12 V9
 go_wp2_with (first
  | (refine zA V11 5 rfl rfl rfl ?_;intro w13 g14 V15)
  | (refine zL V15 0 rfl _ (.tmp 11) rfl rfl rfl r rfl rfl ?_;intro w16 V17)
  | (refine zD V17 0 rfl 13 _ rfl rfl rfl rfl ?_)
  | (refine zL V17 1 rfl _ (.tmp 13) rfl rfl rfl r rfl rfl ?_;intro w18 V19))
 exact bodyPost_ret (ZaW rfl _ V19 1 rfl rfl Tryz.underlying22 Tryz.szB (Zaf _)) rfl ⟨rfl,V19.bel⟩
set_option maxHeartbeats 800000 in
theorem ZiM (a b:Fp) (hb:b≠0) (w:World):Calls Tryz.prog 85 #[.agg (bA a.val), .agg (bA b.val)] w fun e w'=>e= .returned (.agg (bA (a*finv b).val))∧Below w.heap.size w w':=by
 have HI:Hid (∀w,Rt Tryz.prog 127 #[.agg (bA b.val)] (.tuple #[.agg (bA ((finv b).val)), .int .i64 0]) w):=fun w=>by have:=Zsv b.val w b.isLt (Zir hb);rwa [←Zsc] at this
 have HM:Hid (∀w,Rt Tryz.prog 114 #[.agg (bA a.val), .agg (bA ((finv b).val))] (.agg (bA ((a*finv b).val))) w):=fun w=>ZaY _ _ w
 clear hb
 generalize (a*finv b).val=r at*
 generalize (finv b).val=i at*
 generalize a.val=x at*
 generalize b.val=y at*
 have V0:=Vars.start w
 go_enter Tryz.func85,Tryz.ntmps85
 go_wp2_with (first
  | (refine Zaj V0 2 22 _ rfl rfl rfl (bA x) rfl ?_;intro w1 g2 V3)
  | (refine Zaj V3 3 22 _ rfl rfl rfl (bA y) rfl ?_;intro w4 g5 V6)
  | (refine zA V6 4 rfl rfl rfl ?_;intro w7 g8 V9)
  | (refine zD V9 1 rfl 8 _ rfl rfl rfl rfl ?_))
 refine (HI.out w7).mono ?_
 rintro e w10 ⟨rfl,q12⟩
 have V11:=V9.call q12
 clear q12 V9
 go_wp2_with (first
  | (refine zA V11 5 rfl rfl rfl ?_;intro w13 g14 V15)
  | (refine zL V15 0 rfl _ (.tmp 10) rfl rfl rfl i rfl rfl ?_;intro w16 V17)
  | (refine zD V17 3 rfl 12 _ rfl rfl rfl rfl ?_)
  | (refine zD V17 0 rfl 13 _ rfl rfl rfl rfl ?_))
 refine (HM.out w16).mono ?_
 rintro e w18 ⟨rfl,q20⟩
 have V19:=V17.call q20
 clear q20 V17
 go_wp2_with (refine zL V19 1 rfl _ (.tmp 14) rfl rfl rfl r rfl rfl ?_;intro w21 V22)
 exact bodyPost_ret (ZaW rfl _ V22 1 rfl rfl Tryz.underlying22 Tryz.szB (Zaf _)) rfl ⟨rfl,V22.bel⟩
set_option maxHeartbeats 800000 in
theorem ZgC (x y:Nat) (w:World):Calls Tryz.prog 81 #[.agg (pA x y)] w fun e w'=>e= .returned (.agg (tA x y 1))∧Below w.heap.size w w':=by
 have V0:=Vars.start w
 go_enter Tryz.func81,Tryz.ntmps81
 go_wp2_with (first
  | (refine Zaj V0 1 76 _ rfl rfl rfl (pA x y) rfl ?_;intro w1 g2 V3)
  | (refine Zai V3 2 117 rfl rfl rfl (tA 0 0 0) Zdh ?_;intro w4 g5 V6)
  | (refine Zax rfl (ZaT V6 1 rfl 0 (ZeH _ _) _ rfl rfl Tryz.underlying22 Tryz.szB (Zaf _)) ?_)
  | (refine Zax rfl (ZaT V6 1 rfl 32 (ZdB _ _) _ rfl rfl Tryz.underlying22 Tryz.szB (Zaf _)) ?_)
  | (refine ZaR 7 22 _ rfl rfl rfl (bA 1) (Zdw 1 (by decide)) ?_)
  | (refine ZaR 8 117 _ rfl rfl rfl (tA x y 1) (ZiL _ _ _) ?_)
  | (refine Zal V6 0 rfl _ (.tmp 8) rfl rfl rfl (tA x y 1) rfl rfl Tryz.szT (ZaI _ _ _) (ZaI _ _ _) (ZcJ _ _ _) ?_;intro w7 V8))
 exact bodyPost_ret (ZcK rfl _ V8 0 rfl rfl Tryz.underlying117 Tryz.szT (ZaI _ _ _)) rfl ⟨rfl,V8.bel⟩
set_option maxHeartbeats 800000 in
theorem Zs0 (w:World):Calls Tryz.prog 168 #[] w fun e w'=>e= .returned (.agg (pA 0 1))∧Below w.heap.size w w':=by
 have V0:=Vars.start w
 go_enter Tryz.func168,Tryz.ntmps168
 go_wp2_with (first
  | (refine Zai V0 0 76 rfl rfl rfl (pA 0 0) Za7 ?_;intro w1 g2 V3)
  | (refine ZaR 1 22 _ rfl rfl rfl (bA 1) (Zdw 1 (by decide)) ?_)
  | (refine ZaR 2 76 _ rfl rfl rfl (pA 0 1) (ZsT _) ?_)
  | (refine Zal V3 0 rfl _ (.tmp 2) rfl rfl rfl (pA 0 1) rfl rfl Tryz.szP (Zak _ _) (Zak _ _) (Za6 _ _) ?_;intro w4 V5))
 exact bodyPost_ret (ZcK rfl _ V5 0 rfl rfl Tryz.underlying76 Tryz.szP (Zak _ _)) rfl ⟨rfl,V5.bel⟩
set_option maxHeartbeats 1600000 in
theorem ZlO (t:T3) (p:Pt) (ht:Stands t p) (w:World):Calls Tryz.prog 83 #[.agg (tA t.x.val t.y.val t.z.val)] w fun e w'=>e= .returned (.agg (pA p.x.val p.y.val))∧Below w.heap.size w w':=by
 have h1:=ht.div
 have hz:=ht.z
 have HD:Hid (∀w,Rt Tryz.prog 85 #[.agg (bA 1), .agg (bA t.z.val)] (.agg (bA ((1*finv t.z).val))) w):=fun w=>ZiM 1 t.z hz w
 have HX:Hid (∀w,Rt Tryz.prog 114 #[.agg (bA t.x.val), .agg (bA ((1*finv t.z).val))] (.agg (bA p.x.val)) w):=fun w=>by have:=ZaY t.x (1*finv t.z) w;rwa [h1.1] at this
 have HY:Hid (∀w,Rt Tryz.prog 114 #[.agg (bA t.y.val), .agg (bA ((1*finv t.z).val))] (.agg (bA p.y.val)) w):=fun w=>by have:=ZaY t.y (1*finv t.z) w;rwa [h1.2] at this
 clear ht h1 hz
 generalize (1*finv t.z).val=i at*
 generalize t.x.val=x at*
 generalize t.y.val=y at*
 generalize t.z.val=z at*
 generalize p.x.val=u at*
 generalize p.y.val=v at*
 have V0:=Vars.start w
 go_enter Tryz.func83,Tryz.ntmps83
 go_wp2_with (first
  | (refine Zaj V0 1 117 _ rfl rfl rfl (tA x y z) rfl ?_;intro w1 g2 V3)
  | (refine Zai V3 2 76 rfl rfl rfl (pA 0 0) Za7 ?_;intro w4 g5 V6)
  | (refine ZaR 4 22 _ rfl rfl rfl (bA 1) (Zdw 1 (by decide)) ?_)
  | (refine Zax rfl (ZaT V6 1 rfl 64 (Zfv _ _ _) _ rfl rfl Tryz.underlying22 Tryz.szB (Zaf _)) ?_))
 refine (HD.out w4).mono ?_
 rintro e w7 ⟨rfl,q9⟩
 have V8:=V6.call q9
 clear q9 V6
 go_wp2_with (first
  | (refine zA V8 3 rfl rfl rfl ?_;intro w10 g11 V12)
  | (refine zL V12 0 rfl _ (.tmp 7) rfl rfl rfl i rfl rfl ?_;intro w13 V14))
 refine Zar (fun w'=>Vars w w' [⟨g11,22,bA i⟩,⟨g2,117,tA x y z⟩]) (by kernel_rfl) ?_
 have V15:=V14.drew
 refine zR [0,1,2,4,5,6] 4 (by kernel_rfl) (fun _ _ _ _ _ h=>h) ((V15.del 1)) fun K hK=> ?_
 refine zC (.pointer (some ⟨g2,0,none⟩)) rfl (by rfl) (fun w' hw'=> ?_) ?_
 ·go_simp
 go_simp
 refine zC (.agg (bA x)) rfl (by rfl) (fun w' hw'=>ZaT hw' 1 rfl 0 (ZdC _ _ _) _ rfl rfl Tryz.underlying22 Tryz.szB (Zaf _)) ?_
 go_simp
 refine zC (.agg (bA i)) rfl (by rfl) (fun w' hw'=>zB hw' 0 rfl _ rfl rfl) ?_
 go_simp
 refine zC (.pointer (some ⟨g2,32,none⟩)) rfl (by rfl) (fun w' hw'=> ?_) ?_
 ·go_simp
 go_simp
 refine zC (.agg (bA y)) rfl (by rfl) (fun w' hw'=>ZaT hw' 1 rfl 32 (ZdD _ _ _) _ rfl rfl Tryz.underlying22 Tryz.szB (Zaf _)) ?_
 go_simp
 refine zC (.agg (bA i)) rfl (by rfl) (fun w' hw'=>zB hw' 0 rfl _ rfl rfl) ?_
 go_simp
 refine Zac (hK.out _ ?_)
 clear hK K
 refine zO 3 3 (by kernel_rfl) rfl (by rfl) fun K hK=> ?_
 go_simp
 refine (HX.out w13.drew).mono ?_
 rintro e w16 ⟨rfl,q18⟩
 have V17:=V15.call q18
 refine hK _ _ ((V17.del 1)) ?_
 clear hK K q18
 refine zO 7 2 (by kernel_rfl) rfl (by rfl) fun K hK=> ?_
 go_simp
 refine (HY.out w16).mono ?_
 rintro e w19 ⟨rfl,q21⟩
 have V20:=V17.call q21
 refine hK _ _ ((V20.del 1)) ?_
 clear hK K q21
 refine zR [8] 1 (by kernel_rfl) (fun _ _ _ _ _ h=>h) ((V20.del 1)) fun K hK=> ?_
 go_simp
 refine zC (.agg (pA u v)) rfl (by rfl) (fun w' hw'=> ?_) ?_
 ·refine ZcT 76 _ rfl (pA u v) ?_
  exact (ZgB _ _)
 go_simp
 refine Zac (hK.out _ ?_)
 clear hK K
 refine zO 9 0 (by kernel_rfl) rfl (by rfl) fun K hK=> ?_
 refine ZbD V20 1 rfl _ _ rfl rfl (pA u v) rfl rfl Tryz.szP (Zak _ _) (Zak _ _) (Za6 _ _) (fun w22 V23=> ?_)
 refine hK _ _ ((V23.del 1)) ?_
 clear hK K
 refine wpAnyH_done (by kernel_rfl) ?_ _
 go_wp2_with fail
 exact bodyPost_ret (ZcK rfl _ V23 1 rfl rfl Tryz.underlying76 Tryz.szP (Zak _ _)) rfl ⟨rfl,V23.bel⟩
end Go.Proofs.YtcaloldcihpkfaaGreatDoor.N
