/-
 Layer 16: arrays of 32 bytes that came in.
-/
import Derived.Deep.Slices
import Derived.ProofKit
import Derived.OpenShut
import Derived.Test.YtcaloldcihpkfaaGreatDoorMPackFb
import Derived.Test.YtcaloldcihpkfaaGreatDoorRows
import Derived.LaidMore
import Derived.MakeChecks
import Derived.Stop.Joined
import Derived.Test.YtcaloldcihpkfaaGreatDoorMPackSs
import Derived.Test.YtcaloldcihpkfaaGreatDoorMPackCb
import Derived.Test.YtcaloldcihpkfaaGreatDoorMPackMa
import Derived.Test.YtcaloldcihpkfaaGreatDoorMPackIa
namespace Go.Proofs.YtcaloldcihpkfaaGreatDoor.N
open Go.RowKit Go.Maps Go.ChangeShapes
set_option linter.unusedVariables false
set_option maxRecDepth 8192

theorem ZmU {n:Int} (h:(Lit.int .u8 n).wf=true):0≤n∧n≤255:=by
 simp [Lit.wf,IntKind.min,IntKind.max,IntKind.signed,IntKind.bits] at h
 omega
def ZcL:Value→Nat
 | .int _ z=>z.toNat
 | _=>0
theorem ZvE {H:Type} {enc:TypeId×Value→H} {P:Program} {w:World} {base:Nat} {spare:Nat→Bool} {held:Bool} {r:Reach} {b0:Nat} {t e:TypeId} {v:Value} {d:DataW H} {p:List MemPlace}
  (ht:P.underlying t=some (.array 32 e)) (hC:P.cellsOf t=32) (he:P.underlying e=some (.int .u8)) (hce:P.cellsOf e=1)
  (hv:Value.okWide P w r b0 t v) (h:DataW.Trod enc P w base spare held t v d p):∃a:Nat,a<2^256∧v= .agg (bA a):=by
 simp only [Value.okWide,ht] at hv
 obtain ⟨cs,rfl,hsz,_⟩:=hv
 rw [hC] at hsz
 obtain ⟨fuel,hf⟩:=h
 obtain ⟨xs,m,_,hx,_,hlen,hfi⟩:=DataW.trod_array ht hf
 have g:∀i,i<32→∃n:Nat,n<256∧cs.toList[i]? =some (.int .u8 (n:Int)):=by
  intro i hi
  have h1:=hfi i hi
  have hil:i<cs.toList.length:=by simp;omega
  have e1:(((Value.agg cs).cells.toList.drop (i*P.cellsOf e)).take (P.cellsOf e))=[cs.toList[i]]:=by
   rw [hce,Nat.mul_one]
   show (cs.toList.drop i).take 1=_
   rw [List.take_one,List.head?_drop,List.getElem?_eq_getElem hil]
   rfl
  rw [e1,List.getElem?_eq_getElem (show i<xs.length by omega)] at h1
  obtain ⟨n,en,_,wn⟩:=DataW.trod_int he h1
  have hb:=ZmU wn
  refine ⟨n.toNat,by omega, ?_⟩
  rw [List.getElem?_eq_getElem hil]
  simp only [List.cons.injEq,and_true] at en
  rw [en]
  congr 2
  omega
 have hl:(cs.toList.map ZcL).length=32:=by simp;omega
 have hd:Dig (cs.toList.map ZcL):=by
  intro x hx
  obtain ⟨y,hy,rfl⟩:=List.mem_map.1 hx
  obtain ⟨i,hi,rfl⟩:=List.mem_iff_getElem.1 hy
  obtain ⟨n,hn,en⟩:=g i (by simp at hi;omega)
  rw [List.getElem?_eq_getElem hi] at en
  simp only [Option.some.injEq] at en
  rw [en]
  simpa [ZcL] using hn
 have hv2:=hd.vL_lt
 rw [hl,b256] at hv2
 refine ⟨vL (cs.toList.map ZcL),hv2, ?_⟩
 have e2:=Zca hd
 rw [hl] at e2
 rw [ZbE, ←e2]
 congr 1
 apply Array.toList_inj.1
 apply List.ext_getElem?
 intro i
 rcases Nat.lt_or_ge i 32 with hi|hi
 ·obtain ⟨n,hn,en⟩:=g i hi
  rw [en]
  simp [arr,nI,en,ZcL]
 ·rw [List.getElem?_eq_none (by simp;omega),List.getElem?_eq_none (by simp [arr,nI];omega)]
end Go.Proofs.YtcaloldcihpkfaaGreatDoor.N

/-
 Arrays of 32 bytes that came in; listed variables of 32 bytes, as the rows list them.
-/
namespace Go.Proofs.YtcaloldcihpkfaaGreatDoor.N
open Go.RowKit Go.Maps Go.ChangeShapes
set_option linter.unusedVariables false
set_option maxRecDepth 8192

theorem ZvF {H:Type} {enc:TypeId×Value→H} {P:Program} {w:World} {base:Nat} {spare:Nat→Bool} {held:Bool} {fuel:Nat} {t e:TypeId} {cs:List Value} {x:DataW H×List MemPlace}
  (ht:P.underlying t=some (.array 32 e)) (hC:P.cellsOf t=32) (he:P.underlying e=some (.int .u8)) (hce:P.cellsOf e=1)
  (hf:DataW.trod enc P w base spare held fuel t cs=some x):∃a:Nat,a<2^256∧cs=(bA a).toList∧x.1= .agg ((digL a 32).map fun (n:Nat)=> .lit (.int .u8 (n:Int))):=by
 obtain ⟨xs,m,_,hx,hcl,hlen,hfi⟩:=DataW.trod_array ht hf
 rw [hC] at hcl
 have g:∀i,i<32→∃n:Nat,n<256∧cs[i]? =some (.int .u8 (n:Int))∧(xs[i]?).map (·.1)=some (.lit (.int .u8 (n:Int))):=by
  intro i hi
  have h1:=hfi i hi
  have hil:i<cs.length:=by omega
  have e1:((cs.drop (i*P.cellsOf e)).take (P.cellsOf e))=[cs[i]]:=by
   rw [hce,Nat.mul_one,List.take_one,List.head?_drop,List.getElem?_eq_getElem hil]
   rfl
  rw [e1,List.getElem?_eq_getElem (show i<xs.length by omega)] at h1
  obtain ⟨n,en,hd,wn⟩:=DataW.trod_int he h1
  have hb:=ZmU wn
  have e3:((n.toNat:Nat):Int)=n:=by omega
  refine ⟨n.toNat,by omega, ?_, ?_⟩
  ·rw [List.getElem?_eq_getElem hil]
   simp only [List.cons.injEq,and_true] at en
   rw [en,e3]
  ·rw [List.getElem?_eq_getElem (show i<xs.length by omega),hd,e3]
   rfl
 have hl:(cs.map ZcL).length=32:=by rw [List.length_map];exact hcl
 have hn:∀i,i<32→∃n:Nat,n<256∧(cs.map ZcL)[i]? =some n∧cs[i]? =some (.int .u8 (n:Int))∧(xs[i]?).map (·.1)=some (.lit (.int .u8 (n:Int))):=by
  intro i hi
  obtain ⟨n,h1,h2,h3⟩:=g i hi
  exact ⟨n,h1,by rw [List.getElem?_map,h2];simp [ZcL],h2,h3⟩
 have hd:Dig (cs.map ZcL):=by
  intro y hy
  obtain ⟨i,hi,rfl⟩:=List.mem_iff_getElem.1 hy
  obtain ⟨n,h1,h2,_⟩:=hn i (by omega)
  rw [List.getElem?_eq_getElem hi] at h2
  rw [Option.some.inj h2]
  exact h1
 have hv2:=hd.vL_lt
 rw [hl,b256] at hv2
 have e2:=Zca hd
 rw [hl] at e2
 refine ⟨vL (cs.map ZcL),hv2, ?_, ?_⟩
 ·rw [ZbE, ←e2]
  apply List.ext_getElem?
  intro i
  rcases Nat.lt_or_ge i 32 with hi|hi
  ·obtain ⟨n,h1,h2,h3,_⟩:=hn i hi
   rw [h3]
   simp only [arr,nI,List.map_map,List.getElem?_map,List.toList_toArray] at h2 ⊢
   rw [h3]
   simp [ZcL]
  ·rw [List.getElem?_eq_none (by omega),List.getElem?_eq_none (by simp [arr,nI];omega)]
 ·rw [←e2,hx]
  show DataW.agg _=DataW.agg _
  congr 1
  apply List.ext_getElem?
  intro i
  rcases Nat.lt_or_ge i 32 with hi|hi
  ·obtain ⟨n,h1,h2,h3,h4⟩:=hn i hi
   rw [List.getElem?_map,h4,List.getElem?_map,h2]
   rfl
  ·rw [List.getElem?_eq_none (by simp;omega),List.getElem?_eq_none (by simp;omega)]
def datB (v:Nat):DataW Unit:= .agg ((digL v 32).map fun (n:Nat)=> .lit (.int .u8 (n:Int)))
theorem ZvG {a v:Nat} (ha:a<2^256) (hv:v<2^256) (h:(DataW.agg ((digL a 32).map fun (n:Nat)=> .lit (.int .u8 (n:Int))):DataW Unit)=datB v):a=v:=by
 have h1:=DataW.agg.inj h
 have h2:digL a 32=digL v 32:=by
  apply List.ext_getElem?
  intro i
  have h3:=congrArg (·[i]?) h1
  simp only [List.getElem?_map] at h3
  cases e1:(digL a 32)[i]? <;>cases e2:(digL v 32)[i]? <;>(try rw [e1,e2] at h3)<;>simp at h3
  congr 1
  omega
 exact Zkt ha hv h2
theorem cB32:Tryz.prog.cellsOf 22=32:=by kernel_rfl
theorem cU8:Tryz.prog.cellsOf 5=1:=by kernel_rfl
theorem ZmV {n:String} {g v:Nat} {D:DataW Unit} {rest:List (String×DataW Unit)} {ps:List MemPlace} {W:World} (hg:Tryz.prog.globalNamed n=some g) (ht:(Tryz.prog.globals[g]?).map (·.type)=some 22) (hv:v<2^256) (hD:D=datB v)
  (h:DataW.LaidVars Tryz.prog W ((n,D)::rest) ps):(∃T fr,W.heap[g]? =some (.cells (bA v) T fr))∧∃q,DataW.LaidVars Tryz.prog W rest q:=by
 obtain ⟨g0,t0,cs0,f0,p0,q0,hg0,ht0,hv0,hd0,hq,_⟩:=h
 obtain rfl:=Option.some.inj (hg.symm.trans hg0)
 obtain rfl:=Option.some.inj (ht.symm.trans ht0)
 refine ⟨?_,q0,hq⟩
 obtain ⟨a,ha,hcs,hx⟩:=ZvF Tryz.underlying22 cB32 Tryz.underlying5 cU8 hd0
 obtain rfl:a=v:=ZvG ha hv (hx.symm.trans hD)
 have hcs2:cs0=bA a:=Array.toList_inj.1 hcs
 subst hcs2
 simp only [World.var?,hg,Option.bind_some] at hv0
 split at hv0
 ·rename_i cs T fr hh
  obtain rfl:=Option.some.inj hv0
  exact ⟨T,fr,hh⟩
 ·cases hv0
end Go.Proofs.YtcaloldcihpkfaaGreatDoor.N

/-
 Layer 18: the order in its variable as the row lists it.
-/
namespace Go.Proofs.YtcaloldcihpkfaaGreatDoor.N
open Go.RowKit Go.Maps Go.ChangeShapes
set_option linter.unusedVariables false
set_option maxRecDepth 8192

theorem ZvH {rest:List (String×DataW Unit)} {ps:List MemPlace} {W:World} (h:DataW.LaidVars Tryz.prog W (("casemate/scalar.order",Rows.laid_casemate_scalar_order)::rest) ps):OAt W∧∃q,DataW.LaidVars Tryz.prog W rest q:=
 ZmV (g:=1) (v:=oL) (by kernel_rfl) (by kernel_rfl) Zd4 (by
  have h:digL oL 32=[237,211,245,92,26,99,18,88,214,156,247,162,222,249,222,20,0,0,0,0,0,0,0,0,0,0,0,0,0,0,0,16]:=by decide+kernel
  unfold datB
  rw [h]
  rfl) h
end Go.Proofs.YtcaloldcihpkfaaGreatDoor.N

/-
 Layer 17: points that came in; the curve's number in its variable as the row lists it.
-/
namespace Go.Proofs.YtcaloldcihpkfaaGreatDoor.N
open Go.RowKit Go.Maps Go.ChangeShapes
set_option linter.unusedVariables false
set_option maxRecDepth 8192

theorem ZvI {rest:List (String×DataW Unit)} {ps:List MemPlace} {W:World} (h:DataW.LaidVars Tryz.prog W (("casemate/curve.d",Rows.laid_casemate_curve_d)::rest) ps):DAt W∧∃q,DataW.LaidVars Tryz.prog W rest q:=
 ZmV (g:=0) (v:=dN) (by kernel_rfl) (by kernel_rfl) (Za1 Zld) (by
  have h:digL dN 32=[163,120,89,19,202,77,235,117,171,216,65,65,77,10,112,0,152,232,121,119,121,64,199,140,115,254,111,43,238,108,3,82]:=by decide+kernel
  unfold datB
  rw [h]
  rfl) h
end Go.Proofs.YtcaloldcihpkfaaGreatDoor.N

/-
 Layer 20: a manifest that came in.
-/
namespace Go.Proofs.YtcaloldcihpkfaaGreatDoor.N
open Go.RowKit Go.Maps Go.ChangeShapes
set_option linter.unusedVariables false
set_option maxRecDepth 8192

def ZmW:Value→Int
 | .int _ z=>z
 | _=>0
theorem ZmX {n:Int} (h:(Lit.int .u8 n).wf=true):0≤n∧n≤255:=by
 simp [Lit.wf,IntKind.min,IntKind.max,IntKind.signed,IntKind.bits] at h
 omega
theorem ZvJ {H:Type} {enc:TypeId×Value→H} {P:Program} {w:World} {base:Nat} {spare:Nat→Bool} {held:Bool} {fuel:Nat} {t e:TypeId} {cs:List Value} {x:DataW H×List MemPlace}
  (ht:P.underlying t=some (.array 32 e)) (hC:P.cellsOf t=32) (he:P.underlying e=some (.int .u8)) (hce:P.cellsOf e=1)
  (hf:DataW.trod enc P w base spare held fuel t cs=some x):∃d:List Int,d.length=32∧IsB d∧cs=d.map (Value.int .u8):=by
 obtain ⟨xs,m,_,hx,hcl,hlen,hfi⟩:=DataW.trod_array ht hf
 rw [hC] at hcl
 have g:∀i,i<32→∃n:Int,(0≤n∧n≤255)∧cs[i]? =some (.int .u8 n):=by
  intro i hi
  have h1:=hfi i hi
  have hil:i<cs.length:=by omega
  have e1:((cs.drop (i*P.cellsOf e)).take (P.cellsOf e))=[cs[i]]:=by
   rw [hce,Nat.mul_one,List.take_one,List.head?_drop,List.getElem?_eq_getElem hil]
   rfl
  rw [e1,List.getElem?_eq_getElem (show i<xs.length by omega)] at h1
  obtain ⟨n,en,hd,wn⟩:=DataW.trod_int he h1
  refine ⟨n,ZmX wn, ?_⟩
  rw [List.getElem?_eq_getElem hil]
  simp only [List.cons.injEq,and_true] at en
  rw [en]
 refine ⟨cs.map ZmW,by rw [List.length_map];exact hcl,fun y hy=> ?_, ?_⟩
 ·obtain ⟨v,hv,rfl⟩:=List.mem_map.1 hy
  obtain ⟨i,hi,rfl⟩:=List.mem_iff_getElem.1 hv
  obtain ⟨n,hn,e2⟩:=g i (by omega)
  rw [List.getElem?_eq_getElem hi] at e2
  simp only [Option.some.injEq] at e2
  rw [e2]
  exact hn
 ·apply List.ext_getElem?
  intro i
  rcases Nat.lt_or_ge i 32 with hi|hi
  ·obtain ⟨n,_,e2⟩:=g i hi
   rw [e2]
   simp [e2,ZmW]
  ·rw [List.getElem?_eq_none (by omega),List.getElem?_eq_none (by simp;omega)]
theorem cSg:Tryz.prog.cellsOf 66=34:=by kernel_rfl
theorem cMf:Tryz.prog.cellsOf 25=5:=by kernel_rfl
theorem cI20:Tryz.prog.cellsOf 3=1:=by kernel_rfl
theorem cU20:Tryz.prog.cellsOf 5=1:=by kernel_rfl
theorem cD20:Tryz.prog.cellsOf 22=32:=by kernel_rfl
theorem cS20:Tryz.prog.cellsOf 23=1:=by kernel_rfl
theorem ZvK {H:Type} {enc:TypeId×Value→H} {w:World} {base:Nat} {spare:Nat→Bool} {held:Bool} {fuel:Nat} {cs:List Value} {x:DataW H×List MemPlace} (hl:cs.length=34)
  (hf:DataW.trod enc Tryz.prog w base spare held fuel 66 cs=some x):∃s:Sg,s.Ok∧cs=sC s:=by
 obtain ⟨xs,k,hk,hxy,_,hxl,hfi⟩:=DataW.trod_struct Tryz.underlying66 hf
 have g0:=hfi 0 _ rfl
 have g1:=hfi 1 _ rfl
 have g2:=hfi 2 _ rfl
 match cs,hl with
 | v0::v1::rest,hl=>
  have e3:rest.take 32=rest:=List.take_of_length_le (by simp at hl;omega)
  match xs,hxl with
  | [y0,y1,y2],_=>
   simp [cI20,cD20,e3] at g0 g1 g2
   obtain ⟨n0,e0,_,_⟩:=DataW.trod_int Tryz.underlying3 g0
   obtain ⟨n1,e1,_,_⟩:=DataW.trod_int Tryz.underlying3 g1
   obtain ⟨d,hd1,hd2,e2⟩:=ZvJ Tryz.underlying22 cD20 Tryz.underlying5 cU20 g2
   simp at e0 e1
   subst e0 e1
   refine ⟨⟨n0,n1,d⟩,⟨hd1,hd2⟩, ?_⟩
   rw [e2]
   rfl
theorem ZvL {H:Type} {enc:TypeId×Value→H} {w:World} {base:Nat} {held:Bool} {fuel:Nat} {c:Value} {x:DataW H×List MemPlace}
  (h:DataW.trod enc Tryz.prog w base (fun _=>true) held fuel 23 [c]=some x):∃a n cap l,c= .slice a n cap∧SegRow w a n cap l∧∀s∈l,s.Ok:=by
 rcases Deep.open_slice Tryz.underlying23 h with ⟨hcs,_⟩|⟨ad,l,cc,m,n,D,Pl,hcs,hb,hl,hm,hmm,_,hx⟩
 ·simp at hcs
  subst hcs
  exact ⟨none,0,0,[],rfl,ZoA w,fun s hs=>by cases hs⟩
 ·simp at hcs
  subst hcs
  simp only [if_true] at hmm
  subst hmm
  have hspot:0<l→ad.spot=none:=fun h0=>by
   obtain ⟨cs',h1,_⟩:=hx 0 (by omega)
   rw [cSg] at h1
   obtain ⟨_,hlen,hcell⟩:=World.cells?_some h1
   have hc0:=hcell 0 (by omega)
   match cs',hlen with
   | v0::_,_=>
    have hh:w.cell? ad=some v0:=by simpa [Addr.add] using hc0
    exact World.cell?_spot hh
  have each:∀i,i<l→∃s:Sg,∃b off,ad=⟨b,off,none⟩∧b<w.heap.size∧s.Ok∧w.rangeAt b (off+i*34) (sC s):=by
   intro i hi
   obtain ⟨cs',h1,h2⟩:=hx i (by omega)
   rw [cSg] at h1
   obtain ⟨_,hlen,hcell⟩:=World.cells?_some h1
   obtain ⟨s,hs,rfl⟩:=ZvK hlen h2
   obtain ⟨b,off,spot⟩:=ad
   have hsp:spot=none:=hspot (by omega)
   subst hsp
   have hc:w.rangeAt b (off+i*34) (sC s):=fun j v hv=>by
    have hj:j<34:=by rw [←ZbK hs];exact (List.getElem?_eq_some_iff.1 hv).1
    have h3:=hcell j hj
    rw [Zbc,Zbc] at h3
    rw [h3,hv]
   exact ⟨s,b,off,rfl,Za0 (hc 0 _ rfl),hs,hc⟩
  letI:Inhabited Sg:=⟨sg0⟩
  obtain ⟨f,hf⟩:=Deep.choose_lt (α:=Sg) (n:=l) (p:=fun i s=>∃b off,ad=⟨b,off,none⟩∧b<w.heap.size∧s.Ok∧w.rangeAt b (off+i*34) (sC s)) each
  refine ⟨some ad,l,m,(List.range l).map f,rfl,⟨by simp,hl,hm,by simp,fun h0=> ?_⟩,fun s hs=> ?_⟩
  ·obtain ⟨b,off,e,hb,_⟩:=hf 0 h0
   refine ⟨b,off,by rw [e],hb,fun i hi=> ?_⟩
   obtain ⟨b',off',e',_,_,hF⟩:=hf i hi
   rw [e] at e'
   cases e'
   have:sgI ((List.range l).map f) i=f i:=by simp [sgI,hi]
   rw [this]
   exact hF
  ·obtain ⟨i,hi,rfl⟩:=List.mem_map.1 hs
   obtain ⟨_,_,_,_,h3,_⟩:=hf i (List.mem_range.1 hi)
   exact h3
theorem ZvM {H:Type} {enc:TypeId×Value→H} {w:World} {base:Nat} {held:Bool} {r:Reach} {b0:Nat} {v:Value} {d:DataW H} {p:List MemPlace}
  (hv:Value.okWide Tryz.prog w r b0 25 v) (h:DataW.Trod enc Tryz.prog w base (fun _=>true) held 25 v d p):
  ∃x y z u a n cap l,v= .agg #[.int .i64 x, .int .i64 y, .int .i64 z, .int .i64 u, .slice a n cap]∧SegRow w a n cap l∧∀s∈l,s.Ok:=by
 obtain ⟨cs,rfl,hsz⟩:=WideShapes.okWide_struct Tryz.underlying25 hv
 obtain ⟨lc⟩:=cs
 have hl:lc.length=5:=hsz.trans cMf
 match lc,hl with
 | [c0,c1,c2,c3,c4],_=>
  obtain ⟨fuel,hf⟩:=h
  obtain ⟨xs,k,hk,hxy,_,hxl,hfi⟩:=DataW.trod_struct Tryz.underlying25 hf
  have g0:=hfi 0 _ rfl
  have g1:=hfi 1 _ rfl
  have g2:=hfi 2 _ rfl
  have g3:=hfi 3 _ rfl
  have g4:=hfi 4 _ rfl
  match xs,hxl with
  | [y0,y1,y2,y3,y4],_=>
  simp [cI20,cS20,Value.cells] at g0 g1 g2 g3 g4
  obtain ⟨n0,e0,_,_⟩:=DataW.trod_int Tryz.underlying3 g0
  obtain ⟨n1,e1,_,_⟩:=DataW.trod_int Tryz.underlying3 g1
  obtain ⟨n2,e2,_,_⟩:=DataW.trod_int Tryz.underlying3 g2
  obtain ⟨n3,e3,_,_⟩:=DataW.trod_int Tryz.underlying3 g3
  simp at e0 e1 e2 e3
  subst e0 e1 e2 e3
  obtain ⟨a,n,cap,l,rfl,hr,ho⟩:=ZvL g4
  exact ⟨n0,n1,n2,n3,a,n,cap,l,rfl,hr,ho⟩
end Go.Proofs.YtcaloldcihpkfaaGreatDoor.N

/-
 Layer 23: slices of byte slices that came in.
-/
namespace Go.Proofs.YtcaloldcihpkfaaGreatDoor.N
open Go.RowKit Go.Maps Go.ChangeShapes
set_option linter.unusedVariables false
set_option maxRecDepth 8192

theorem ZvN:Tryz.prog.cellsOf 5=1:=by kernel_rfl
theorem ZvO:Tryz.prog.cellsOf 28=1:=by kernel_rfl
theorem ZvP {H:Type} {enc:TypeId×Value→H} {w:World} {base:Nat} {held:Bool} {fuel:Nat} {a:Option Addr} {len cap:Nat} {x:DataW H×List MemPlace}
  (h:DataW.trod enc Tryz.prog w base (fun _=>true) held fuel 26 [.slice a len cap]=some x):∃R,B.PartsAt w a len cap R:=by
 rcases Deep.open_slice1 Tryz.underlying26 ZvO h with ⟨hcs,_⟩|⟨ad,l,c,m,n,V,D,Pl,hcs,hb,hl,hm,hmm,_,hx⟩
 ·simp at hcs
  obtain ⟨rfl,rfl,rfl⟩:=hcs
  exact ⟨fun _=>default,⟨Nat.le_refl _,Nat.zero_le _,fun h=>absurd h (by omega)⟩⟩
 ·simp at hcs
  obtain ⟨rfl,rfl,rfl⟩:=hcs
  simp only [if_true] at hmm
  subst hmm
  have hspot:0<len→ad.spot=none:=fun h0=>by
   have h1:=(hx 0 (by omega)).1
   simpa [Addr.add] using World.cell?_spot h1
  have each:∀i,i<len→∃f:B.PartV,∃b off,ad=⟨b,off,none⟩∧b<w.heap.size∧w.cell? ⟨b,off+i,none⟩=some (.slice f.at_ f.len f.cap)∧Row .u8 w f.at_ f.len f.cap (nI f.num)∧∀x∈f.num,x<256:=by
   intro i hi
   obtain ⟨h1,h2⟩:=hx i (by omega)
   obtain ⟨b,off,sp⟩:=ad
   have hsp':sp=none:=hspot (by omega)
   subst hsp'
   have hb':=Za0 h1
   rw [Zbc] at h1 hb'
   obtain ⟨a',l',c',z',hV,w'⟩:∃(a':Option Addr) (l' c':Nat) (zs:List Int),V i= .slice a' l' c'∧((a'=none∧l'=0∧c'=0∧zs=[])∨∃x,a'=some x∧l'≤c'∧c'≤maxLen∧zs.length=c'∧(∀i,i<zs.length→w.cell? (x.add i)=some (.int .u8 (zs.getD i 0)))∧∀n∈zs,(Lit.int .u8 n).wf=true):=by
    rcases open_ints Tryz.underlying28 Tryz.underlying5 ZvN h2 with ⟨hcs,_⟩|⟨x,l,c,zs,hcs,_,hl,hm,hz,_,hcell,hwz⟩
    ·simp at hcs
     exact ⟨none,0,0,[],hcs, .inl ⟨rfl,rfl,rfl,rfl⟩⟩
    ·simp at hcs
     exact ⟨some x,l,c,zs,hcs, .inr ⟨_,rfl,hl,hm,by simpa using hz,hcell,hwz⟩⟩
   have r0:=Znr w'
   have hB:IsB (z'.take l'):=fun n hn=>ZmX (r0.2 n hn)
   have q0:=r0.1
   rw [←Zdx hB] at q0
   rw [hV] at h1
   exact ⟨⟨a',l',c',(z'.take l').map Int.toNat⟩,b,off,rfl,hb',h1,q0,Zdy hB⟩
  obtain ⟨g,hg⟩:=Deep.choose_lt (α:=B.PartV) (n:=len) (p:=fun i f=>∃b off,ad=⟨b,off,none⟩∧b<w.heap.size∧w.cell? ⟨b,off+i,none⟩=some (.slice f.at_ f.len f.cap)∧Row .u8 w f.at_ f.len f.cap (nI f.num)∧∀x∈f.num,x<256) each
  refine ⟨g,⟨hl,hm,fun h0=> ?_⟩⟩
  obtain ⟨b,off,e,hb,_⟩:=hg 0 h0
  refine ⟨b,off,by rw [e],hb,fun i hi=> ?_⟩
  obtain ⟨b',off',e',_,hF⟩:=hg i hi
  rw [e] at e'
  cases e'
  exact hF
end Go.Proofs.YtcaloldcihpkfaaGreatDoor.N
