/-
 Layer 16: arrays of 32 bytes that came in.
-/
import Derived.Deep.Slices
import Derived.ProofKit
import Derived.OpenShut
import Derived.Test.YtcaloldcihpkfaaGreatDoorMPackFb
import Derived.Test.YtcaloldcihpkfaaGreatDoorRows
import Derived.LaidMore
import Derived.MakeChecks
import Derived.Stop.Joined
import Derived.Test.YtcaloldcihpkfaaGreatDoorMPackSs
import Derived.Test.YtcaloldcihpkfaaGreatDoorMPackCb
import Derived.Test.YtcaloldcihpkfaaGreatDoorCPackMa
import Derived.Test.YtcaloldcihpkfaaGreatDoorCPackIa
namespace Go.Proofs.YtcaloldcihpkfaaGreatDoor.N
open Go.RowKit Go.Maps Go.ChangeShapes
set_option linter.unusedVariables false
set_option maxRecDepth 8192

theorem ZmU {n:Int} (h:(Lit.int .u8 n).wf=true):0≤n∧n≤255:=by
 simp [Lit.wf,IntKind.min,IntKind.max,IntKind.signed,IntKind.bits] at h
 omega
def ZcL:Value→Nat
 | .int _ z=>z.toNat
 | _=>0
end Go.Proofs.YtcaloldcihpkfaaGreatDoor.N

/-
 Arrays of 32 bytes that came in; listed variables of 32 bytes, as the rows list them.
-/
namespace Go.Proofs.YtcaloldcihpkfaaGreatDoor.N
open Go.RowKit Go.Maps Go.ChangeShapes
set_option linter.unusedVariables false
set_option maxRecDepth 8192

theorem ZvF {H:Type} {enc:TypeId×Value→H} {P:Program} {w:World} {base:Nat} {spare:Nat→Bool} {held:Bool} {fuel:Nat} {t e:TypeId} {cs:List Value} {x:DataW H×List MemPlace}
  (ht:P.underlying t=some (.array 32 e)) (hC:P.cellsOf t=32) (he:P.underlying e=some (.int .u8)) (hce:P.cellsOf e=1)
  (hf:DataW.trod enc P w base spare held fuel t cs=some x):∃a:Nat,a<2^256∧cs=(bA a).toList∧x.1= .agg ((digL a 32).map fun (n:Nat)=> .lit (.int .u8 (n:Int))):=by
 obtain ⟨xs,m,_,hx,hcl,hlen,hfi⟩:=DataW.trod_array ht hf
 rw [hC] at hcl
 have g:∀i,i<32→∃n:Nat,n<256∧cs[i]? =some (.int .u8 (n:Int))∧(xs[i]?).map (·.1)=some (.lit (.int .u8 (n:Int))):=by
  intro i hi
  have h1:=hfi i hi
  have hil:i<cs.length:=by omega
  have e1:((cs.drop (i*P.cellsOf e)).take (P.cellsOf e))=[cs[i]]:=by
   rw [hce,Nat.mul_one,List.take_one,List.head?_drop,List.getElem?_eq_getElem hil]
   rfl
  rw [e1,List.getElem?_eq_getElem (show i<xs.length by omega)] at h1
  obtain ⟨n,en,hd,wn⟩:=DataW.trod_int he h1
  have hb:=ZmU wn
  have e3:((n.toNat:Nat):Int)=n:=by omega
  refine ⟨n.toNat,by omega, ?_, ?_⟩
  ·rw [List.getElem?_eq_getElem hil]
   simp only [List.cons.injEq,and_true] at en
   rw [en,e3]
  ·rw [List.getElem?_eq_getElem (show i<xs.length by omega),hd,e3]
   rfl
 have hl:(cs.map ZcL).length=32:=by rw [List.length_map];exact hcl
 have hn:∀i,i<32→∃n:Nat,n<256∧(cs.map ZcL)[i]? =some n∧cs[i]? =some (.int .u8 (n:Int))∧(xs[i]?).map (·.1)=some (.lit (.int .u8 (n:Int))):=by
  intro i hi
  obtain ⟨n,h1,h2,h3⟩:=g i hi
  exact ⟨n,h1,by rw [List.getElem?_map,h2];simp [ZcL],h2,h3⟩
 have hd:Dig (cs.map ZcL):=by
  intro y hy
  obtain ⟨i,hi,rfl⟩:=List.mem_iff_getElem.1 hy
  obtain ⟨n,h1,h2,_⟩:=hn i (by omega)
  rw [List.getElem?_eq_getElem hi] at h2
  rw [Option.some.inj h2]
  exact h1
 have hv2:=hd.vL_lt
 rw [hl,b256] at hv2
 have e2:=Zca hd
 rw [hl] at e2
 refine ⟨vL (cs.map ZcL),hv2, ?_, ?_⟩
 ·rw [ZbE, ←e2]
  apply List.ext_getElem?
  intro i
  rcases Nat.lt_or_ge i 32 with hi|hi
  ·obtain ⟨n,h1,h2,h3,_⟩:=hn i hi
   rw [h3]
   simp only [arr,nI,List.map_map,List.getElem?_map,List.toList_toArray] at h2 ⊢
   rw [h3]
   simp [ZcL]
  ·rw [List.getElem?_eq_none (by omega),List.getElem?_eq_none (by simp [arr,nI];omega)]
 ·rw [←e2,hx]
  show DataW.agg _=DataW.agg _
  congr 1
  apply List.ext_getElem?
  intro i
  rcases Nat.lt_or_ge i 32 with hi|hi
  ·obtain ⟨n,h1,h2,h3,h4⟩:=hn i hi
   rw [List.getElem?_map,h4,List.getElem?_map,h2]
   rfl
  ·rw [List.getElem?_eq_none (by simp;omega),List.getElem?_eq_none (by simp;omega)]
def datB (v:Nat):DataW Unit:= .agg ((digL v 32).map fun (n:Nat)=> .lit (.int .u8 (n:Int)))
theorem ZvG {a v:Nat} (ha:a<2^256) (hv:v<2^256) (h:(DataW.agg ((digL a 32).map fun (n:Nat)=> .lit (.int .u8 (n:Int))):DataW Unit)=datB v):a=v:=by
 have h1:=DataW.agg.inj h
 have h2:digL a 32=digL v 32:=by
  apply List.ext_getElem?
  intro i
  have h3:=congrArg (·[i]?) h1
  simp only [List.getElem?_map] at h3
  cases e1:(digL a 32)[i]? <;>cases e2:(digL v 32)[i]? <;>(try rw [e1,e2] at h3)<;>simp at h3
  congr 1
  omega
 exact Zkt ha hv h2
theorem cB32:Tryz.prog.cellsOf 22=32:=by kernel_rfl
theorem cU8:Tryz.prog.cellsOf 5=1:=by kernel_rfl
theorem ZmV {n:String} {g v:Nat} {D:DataW Unit} {rest:List (String×DataW Unit)} {ps:List MemPlace} {W:World} (hg:Tryz.prog.globalNamed n=some g) (ht:(Tryz.prog.globals[g]?).map (·.type)=some 22) (hv:v<2^256) (hD:D=datB v)
  (h:DataW.LaidVars Tryz.prog W ((n,D)::rest) ps):(∃T fr,W.heap[g]? =some (.cells (bA v) T fr))∧∃q,DataW.LaidVars Tryz.prog W rest q:=by
 obtain ⟨g0,t0,cs0,f0,p0,q0,hg0,ht0,hv0,hd0,hq,_⟩:=h
 obtain rfl:=Option.some.inj (hg.symm.trans hg0)
 obtain rfl:=Option.some.inj (ht.symm.trans ht0)
 refine ⟨?_,q0,hq⟩
 obtain ⟨a,ha,hcs,hx⟩:=ZvF Tryz.underlying22 cB32 Tryz.underlying5 cU8 hd0
 obtain rfl:a=v:=ZvG ha hv (hx.symm.trans hD)
 have hcs2:cs0=bA a:=Array.toList_inj.1 hcs
 subst hcs2
 simp only [World.var?,hg,Option.bind_some] at hv0
 split at hv0
 ·rename_i cs T fr hh
  obtain rfl:=Option.some.inj hv0
  exact ⟨T,fr,hh⟩
 ·cases hv0
end Go.Proofs.YtcaloldcihpkfaaGreatDoor.N

/-
 Layer 18: the order in its variable as the row lists it.
-/
namespace Go.Proofs.YtcaloldcihpkfaaGreatDoor.N
open Go.RowKit Go.Maps Go.ChangeShapes
set_option linter.unusedVariables false
set_option maxRecDepth 8192

theorem ZvH {rest:List (String×DataW Unit)} {ps:List MemPlace} {W:World} (h:DataW.LaidVars Tryz.prog W (("casemate/scalar.order",Rows.laid_casemate_scalar_order)::rest) ps):OAt W∧∃q,DataW.LaidVars Tryz.prog W rest q:=
 ZmV (g:=1) (v:=oL) (by kernel_rfl) (by kernel_rfl) Zd4 (by
  have h:digL oL 32=[237,211,245,92,26,99,18,88,214,156,247,162,222,249,222,20,0,0,0,0,0,0,0,0,0,0,0,0,0,0,0,16]:=by decide+kernel
  unfold datB
  rw [h]
  rfl) h
end Go.Proofs.YtcaloldcihpkfaaGreatDoor.N

/-
 Layer 17: points that came in; the curve's number in its variable as the row lists it.
-/
namespace Go.Proofs.YtcaloldcihpkfaaGreatDoor.N
open Go.RowKit Go.Maps Go.ChangeShapes
set_option linter.unusedVariables false
set_option maxRecDepth 8192

theorem ZvI {rest:List (String×DataW Unit)} {ps:List MemPlace} {W:World} (h:DataW.LaidVars Tryz.prog W (("casemate/curve.d",Rows.laid_casemate_curve_d)::rest) ps):DAt W∧∃q,DataW.LaidVars Tryz.prog W rest q:=
 ZmV (g:=0) (v:=dN) (by kernel_rfl) (by kernel_rfl) (Za1 Zld) (by
  have h:digL dN 32=[163,120,89,19,202,77,235,117,171,216,65,65,77,10,112,0,152,232,121,119,121,64,199,140,115,254,111,43,238,108,3,82]:=by decide+kernel
  unfold datB
  rw [h]
  rfl) h
end Go.Proofs.YtcaloldcihpkfaaGreatDoor.N

/-
 Layer 20: a manifest that came in.
-/
namespace Go.Proofs.YtcaloldcihpkfaaGreatDoor.N
open Go.RowKit Go.Maps Go.ChangeShapes
set_option linter.unusedVariables false
set_option maxRecDepth 8192

def ZmW:Value→Int
 | .int _ z=>z
 | _=>0
theorem ZmX {n:Int} (h:(Lit.int .u8 n).wf=true):0≤n∧n≤255:=by
 simp [Lit.wf,IntKind.min,IntKind.max,IntKind.signed,IntKind.bits] at h
 omega
theorem ZvJ {H:Type} {enc:TypeId×Value→H} {P:Program} {w:World} {base:Nat} {spare:Nat→Bool} {held:Bool} {fuel:Nat} {t e:TypeId} {cs:List Value} {x:DataW H×List MemPlace}
  (ht:P.underlying t=some (.array 32 e)) (hC:P.cellsOf t=32) (he:P.underlying e=some (.int .u8)) (hce:P.cellsOf e=1)
  (hf:DataW.trod enc P w base spare held fuel t cs=some x):∃d:List Int,d.length=32∧IsB d∧cs=d.map (Value.int .u8):=by
 obtain ⟨xs,m,_,hx,hcl,hlen,hfi⟩:=DataW.trod_array ht hf
 rw [hC] at hcl
 have g:∀i,i<32→∃n:Int,(0≤n∧n≤255)∧cs[i]? =some (.int .u8 n):=by
  intro i hi
  have h1:=hfi i hi
  have hil:i<cs.length:=by omega
  have e1:((cs.drop (i*P.cellsOf e)).take (P.cellsOf e))=[cs[i]]:=by
   rw [hce,Nat.mul_one,List.take_one,List.head?_drop,List.getElem?_eq_getElem hil]
   rfl
  rw [e1,List.getElem?_eq_getElem (show i<xs.length by omega)] at h1
  obtain ⟨n,en,hd,wn⟩:=DataW.trod_int he h1
  refine ⟨n,ZmX wn, ?_⟩
  rw [List.getElem?_eq_getElem hil]
  simp only [List.cons.injEq,and_true] at en
  rw [en]
 refine ⟨cs.map ZmW,by rw [List.length_map];exact hcl,fun y hy=> ?_, ?_⟩
 ·obtain ⟨v,hv,rfl⟩:=List.mem_map.1 hy
  obtain ⟨i,hi,rfl⟩:=List.mem_iff_getElem.1 hv
  obtain ⟨n,hn,e2⟩:=g i (by omega)
  rw [List.getElem?_eq_getElem hi] at e2
  simp only [Option.some.injEq] at e2
  rw [e2]
  exact hn
 ·apply List.ext_getElem?
  intro i
  rcases Nat.lt_or_ge i 32 with hi|hi
  ·obtain ⟨n,_,e2⟩:=g i hi
   rw [e2]
   simp [e2,ZmW]
  ·rw [List.getElem?_eq_none (by omega),List.getElem?_eq_none (by simp;omega)]
end Go.Proofs.YtcaloldcihpkfaaGreatDoor.N

/-
 Layer 23: slices of byte slices that came in.
-/
namespace Go.Proofs.YtcaloldcihpkfaaGreatDoor.N
open Go.RowKit Go.Maps Go.ChangeShapes
set_option linter.unusedVariables false
set_option maxRecDepth 8192

theorem ZvN:Tryz.prog.cellsOf 5=1:=by kernel_rfl
theorem ZvO:Tryz.prog.cellsOf 28=1:=by kernel_rfl
theorem ZvP {H:Type} {enc:TypeId×Value→H} {w:World} {base:Nat} {held:Bool} {fuel:Nat} {a:Option Addr} {len cap:Nat} {x:DataW H×List MemPlace}
  (h:DataW.trod enc Tryz.prog w base (fun _=>true) held fuel 26 [.slice a len cap]=some x):∃R,B.PartsAt w a len cap R:=by
 rcases Deep.open_slice1 Tryz.underlying26 ZvO h with ⟨hcs,_⟩|⟨ad,l,c,m,n,V,D,Pl,hcs,hb,hl,hm,hmm,_,hx⟩
 ·simp at hcs
  obtain ⟨rfl,rfl,rfl⟩:=hcs
  exact ⟨fun _=>default,⟨Nat.le_refl _,Nat.zero_le _,fun h=>absurd h (by omega)⟩⟩
 ·simp at hcs
  obtain ⟨rfl,rfl,rfl⟩:=hcs
  simp only [if_true] at hmm
  subst hmm
  have hspot:0<len→ad.spot=none:=fun h0=>by
   have h1:=(hx 0 (by omega)).1
   simpa [Addr.add] using World.cell?_spot h1
  have each:∀i,i<len→∃f:B.PartV,∃b off,ad=⟨b,off,none⟩∧b<w.heap.size∧w.cell? ⟨b,off+i,none⟩=some (.slice f.at_ f.len f.cap)∧Row .u8 w f.at_ f.len f.cap (nI f.num)∧∀x∈f.num,x<256:=by
   intro i hi
   obtain ⟨h1,h2⟩:=hx i (by omega)
   obtain ⟨b,off,sp⟩:=ad
   have hsp':sp=none:=hspot (by omega)
   subst hsp'
   have hb':=Za0 h1
   rw [Zbc] at h1 hb'
   obtain ⟨a',l',c',z',hV,w'⟩:∃(a':Option Addr) (l' c':Nat) (zs:List Int),V i= .slice a' l' c'∧((a'=none∧l'=0∧c'=0∧zs=[])∨∃x,a'=some x∧l'≤c'∧c'≤maxLen∧zs.length=c'∧(∀i,i<zs.length→w.cell? (x.add i)=some (.int .u8 (zs.getD i 0)))∧∀n∈zs,(Lit.int .u8 n).wf=true):=by
    rcases open_ints Tryz.underlying28 Tryz.underlying5 ZvN h2 with ⟨hcs,_⟩|⟨x,l,c,zs,hcs,_,hl,hm,hz,_,hcell,hwz⟩
    ·simp at hcs
     exact ⟨none,0,0,[],hcs, .inl ⟨rfl,rfl,rfl,rfl⟩⟩
    ·simp at hcs
     exact ⟨some x,l,c,zs,hcs, .inr ⟨_,rfl,hl,hm,by simpa using hz,hcell,hwz⟩⟩
   have r0:=Znr w'
   have hB:IsB (z'.take l'):=fun n hn=>ZmX (r0.2 n hn)
   have q0:=r0.1
   rw [←Zdx hB] at q0
   rw [hV] at h1
   exact ⟨⟨a',l',c',(z'.take l').map Int.toNat⟩,b,off,rfl,hb',h1,q0,Zdy hB⟩
  obtain ⟨g,hg⟩:=Deep.choose_lt (α:=B.PartV) (n:=len) (p:=fun i f=>∃b off,ad=⟨b,off,none⟩∧b<w.heap.size∧w.cell? ⟨b,off+i,none⟩=some (.slice f.at_ f.len f.cap)∧Row .u8 w f.at_ f.len f.cap (nI f.num)∧∀x∈f.num,x<256) each
  refine ⟨g,⟨hl,hm,fun h0=> ?_⟩⟩
  obtain ⟨b,off,e,hb,_⟩:=hg 0 h0
  refine ⟨b,off,by rw [e],hb,fun i hi=> ?_⟩
  obtain ⟨b',off',e',_,hF⟩:=hg i hi
  rw [e] at e'
  cases e'
  exact hF
end Go.Proofs.YtcaloldcihpkfaaGreatDoor.N
