/-
 Layer 21: a ring of keys that came in.
-/
import Derived.Test.YtcaloldcihpkfaaGreatDoorCPackOp
import Derived.Test.YtcaloldcihpkfaaGreatDoorCPackKa
namespace Go.Proofs.YtcaloldcihpkfaaGreatDoor.N
open Go.RowKit Go.Maps Go.ChangeShapes
set_option linter.unusedVariables false
set_option maxRecDepth 8192

theorem cKy:Tryz.prog.cellsOf 54=34:=by kernel_rfl
theorem cI21:Tryz.prog.cellsOf 3=1:=by kernel_rfl
theorem cU21:Tryz.prog.cellsOf 5=1:=by kernel_rfl
theorem cD21:Tryz.prog.cellsOf 22=32:=by kernel_rfl
theorem cB21:Tryz.prog.cellsOf 4=1:=by kernel_rfl
theorem Zwj {H:Type} {enc:TypeId×Value→H} {w:World} {base:Nat} {spare:Nat→Bool} {held:Bool} {fuel:Nat} {cs:List Value} {x:DataW H×List MemPlace} (hl:cs.length=34)
  (hf:DataW.trod enc Tryz.prog w base spare held fuel 54 cs=some x):∃s:Ky,s.Ok∧cs=kC s:=by
 obtain ⟨xs,k,hk,hxy,_,hxl,hfi⟩:=DataW.trod_struct Tryz.underlying54 hf
 have g0:=hfi 0 _ rfl
 have g1:=hfi 1 _ rfl
 have g2:=hfi 2 _ rfl
 match cs,hl with
 | v0::rest,hl=>
  have hr33:rest.length=33:=by simpa using hl
  match xs,hxl with
  | [y0,y1,y2],_=>
   simp [cI21,cD21,cB21] at g0 g1 g2
   obtain ⟨n0,e0,_,_⟩:=DataW.trod_int Tryz.underlying3 g0
   obtain ⟨d,hd1,hd2,e1⟩:=ZvJ Tryz.underlying22 cD21 Tryz.underlying5 cU21 g1
   obtain ⟨r,e2,_⟩:=DataW.trod_bool Tryz.underlying4 g2
   simp at e0
   subst e0
   refine ⟨⟨n0,d,r⟩,⟨hd1,hd2⟩, ?_⟩
   have e3:rest=rest.take 32++rest.drop 32:=(List.take_append_drop 32 rest).symm
   have e4:(rest.drop 32).take 1=rest.drop 32:=List.take_of_length_le (by rw [List.length_drop,hr33];decide)
   rw [e4] at e2
   rw [e3,e1,e2]
   rfl
theorem Zwk {H:Type} {enc:TypeId×Value→H} {w:World} {base:Nat} {held:Bool} {fuel:Nat} {c:Value} {x:DataW H×List MemPlace}
  (h:DataW.trod enc Tryz.prog w base (fun _=>true) held fuel 39 [c]=some x):∃a n cap l,c= .slice a n cap∧KRow w a n cap l∧∀s∈l,s.Ok:=by
 rcases Deep.open_slice Tryz.underlying39 h with ⟨hcs,_⟩|⟨ad,l,cc,m,n,D,Pl,hcs,hb,hl,hm,hmm,_,hx⟩
 ·simp at hcs
  subst hcs
  exact ⟨none,0,0,[],rfl,Zv2 w,fun s hs=>by cases hs⟩
 ·simp at hcs
  subst hcs
  simp only [if_true] at hmm
  subst hmm
  have hspot:0<l→ad.spot=none:=fun h0=>by
   obtain ⟨cs',h1,_⟩:=hx 0 (by omega)
   rw [cKy] at h1
   obtain ⟨_,hlen,hcell⟩:=World.cells?_some h1
   have hc0:=hcell 0 (by omega)
   match cs',hlen with
   | v0::_,_=>
    have hh:w.cell? ad=some v0:=by simpa [Addr.add] using hc0
    exact World.cell?_spot hh
  have each:∀i,i<l→∃s:Ky,∃b off,ad=⟨b,off,none⟩∧b<w.heap.size∧s.Ok∧w.rangeAt b (off+i*34) (kC s):=by
   intro i hi
   obtain ⟨cs',h1,h2⟩:=hx i (by omega)
   rw [cKy] at h1
   obtain ⟨_,hlen,hcell⟩:=World.cells?_some h1
   obtain ⟨s,hs,rfl⟩:=Zwj hlen h2
   obtain ⟨b,off,spot⟩:=ad
   have hsp:spot=none:=hspot (by omega)
   subst hsp
   have hc:w.rangeAt b (off+i*34) (kC s):=fun j v hv=>by
    have hj:j<34:=by rw [←ZeB hs];exact (List.getElem?_eq_some_iff.1 hv).1
    have h3:=hcell j hj
    rw [Zbc,Zbc] at h3
    rw [h3,hv]
   exact ⟨s,b,off,rfl,Za0 (hc 0 _ rfl),hs,hc⟩
  letI:Inhabited Ky:=⟨ky0⟩
  obtain ⟨f,hf⟩:=Deep.choose_lt (α:=Ky) (n:=l) (p:=fun i s=>∃b off,ad=⟨b,off,none⟩∧b<w.heap.size∧s.Ok∧w.rangeAt b (off+i*34) (kC s)) each
  refine ⟨some ad,l,m,(List.range l).map f,rfl,⟨by simp,hl,hm,by simp,fun h0=> ?_⟩,fun s hs=> ?_⟩
  ·obtain ⟨b,off,e,hb,_⟩:=hf 0 h0
   refine ⟨b,off,by rw [e],hb,fun i hi=> ?_⟩
   obtain ⟨b',off',e',_,_,hF⟩:=hf i hi
   rw [e] at e'
   cases e'
   have:kyI ((List.range l).map f) i=f i:=by simp [kyI,hi]
   rw [this]
   exact hF
  ·obtain ⟨i,hi,rfl⟩:=List.mem_map.1 hs
   obtain ⟨_,_,_,_,h3,_⟩:=hf i (List.mem_range.1 hi)
   exact h3
theorem Zwl {H:Type} {enc:TypeId×Value→H} {w:World} {base:Nat} {held:Bool} {r:Reach} {b0:Nat} {v:Value} {d:DataW H} {p:List MemPlace}
  (hv:Value.okWide Tryz.prog w r b0 39 v) (h:DataW.Trod enc Tryz.prog w base (fun _=>true) held 39 v d p):
  ∃a n cap l,v= .slice a n cap∧KRow w a n cap l∧∀s∈l,s.Ok:=by
 obtain ⟨a,n,cap,rfl⟩:=WideShapes.okWide_slice Tryz.underlying39 hv
 obtain ⟨fuel,hf⟩:=h
 exact Zwk hf
end Go.Proofs.YtcaloldcihpkfaaGreatDoor.N

