/-
  ImageChecks: Check's and Head's answers are the document's, of any ring, fuse, bytes and data: what is wrong with the ring, the signed bytes, the key, the signature, the fuse and the data is told in that order, nothing of the bytes turns.
-/
import Derived.Test.YtcaloldcihpkfaaGreatDoorRows
import Derived.Test.YtcaloldcihpkfaaGreatDoorCImageLaws5
import Derived.Test.YtcaloldcihpkfaaGreatDoorCPackOp
import Derived.Test.YtcaloldcihpkfaaGreatDoorCPackOk
import Derived.Test.YtcaloldcihpkfaaGreatDoorCards
import Derived.Test.YtcaloldcihpkfaaGreatDoorTie
import Derived.LaidMore
import Derived.Stop.Joined
import Derived.SevenTiedAt
import Derived.WalkKit
import Derived.ProofKit
import Derived.OpenShut
import Derived.ShutString
import Derived.ChangeOld
import Derived.Below
namespace Go.Proofs.YtcaloldcihpkfaaGreatDoor.imageChecks
open Go.ChangeShapes Go.WideShapes Go.ChangeAt Go.RowKit
open Go.ChangeMaps (open_string shut_string)
set_option linter.unusedVariables false

theorem own:ownKnob Tryz.prog.godebug=none:=by kernel_rfl
theorem laidOut:laidOutB Tryz.prog=true:=by kernel_rfl
theorem cellsInt:Tryz.prog.cellsOf 3=1:=by kernel_rfl
/-- What is told of a slice of integers that came in: it is nil, or it leads to a row of cells. -/
def IsRow (k:IntKind) (w:World) (a:Option Addr) (len cap:Nat) (zs:List Int):Prop:=
  (a=none∧len=0∧cap=0∧zs=[])∨
  ∃x,a=some x∧len≤cap∧cap≤maxLen∧zs.length=cap∧(∀i,i<zs.length→w.cell? (x.add i)=some (.int k (zs.getD i 0)))∧∀n∈zs,(Lit.int k n).wf=true

theorem walk (a0 : Option Addr) (len0 cap0 : Nat) (l0 : List N.Ky) (a1 : Int) (a2 : Option Addr) (len2 cap2 : Nat) (z2 : List Int) (a3 : Option Addr) (len3 cap3 : Nat) (o3 : Nat → B.PartV) (w : World) (w0 : N.KRow w a0 len0 cap0 l0) (s0 : ∀ s ∈ l0, s.Ok) (w1 : (Lit.int .i64 a1).wf = true) (w2 : IsRow .u8 w a2 len2 cap2 z2) (w3 : B.PartsAt w a3 len3 cap3 o3) (ho : N.OAt w) (hd : N.DAt w) :
    Calls Tryz.prog 4 #[.slice a0 len0 cap0, .int .i64 a1, .slice a2 len2 cap2, .slice a3 len3 cap3] w fun e w'=>e= .returned (.bool true)∧Below w.heap.size w w':=by
  have r2:=Znr w2
  exact N.ZwJ a0 len0 cap0 l0 a1 a2 len2 cap2 _ a3 len3 cap3 o3 w w0 s0 r2.1 (fun x hx=>N.ZmX (r2.2 x hx)) w3 ho hd

theorem ofLaid {W:World} (h:laidMetH Tryz.prog [("casemate/scalar.order",Rows.laid_casemate_scalar_order),("casemate/curve.d",Rows.laid_casemate_curve_d)] W):N.OAt W∧N.DAt W:=by
  rw [MakeChecks.laidMetH_plain _ _ _ (by kernel_rfl)] at h
  obtain ⟨ps,h0,_,_⟩:=h
  obtain ⟨g0,q0,h1⟩:=N.ZvH h0
  obtain ⟨g1,q1,h2⟩:=N.ZvI h1
  exact ⟨g0,g1⟩
theorem doorMet (os:Os) (args:Array Value):laidMetH Tryz.prog [("casemate/scalar.order",Rows.laid_casemate_scalar_order),("casemate/curve.d",Rows.laid_casemate_curve_d)] ((World.doorLaid Tryz.prog 400 os).forCall (fun _ _=>0) ⟨#[],args,[]⟩).memory:=
  laidMetH_of_parts3 (fuel:=8) (laidMet_of_run' 8 (by kernel_rfl) (by kernel_rfl)) (by kernel_rfl) (by kernel_rfl)
set_option maxRecDepth 100000 in
theorem lifted (os : Os) (started : os.Started) (H : Type) (enc : TypeId × Value → H) :
    ReturnsInHanded {} Tryz.checked os 4 .any (fun w args=>(Rows.imageChecksSpec.pre enc Tryz.prog Tryz.f4 [] false w args∧laidMetH Tryz.prog [("casemate/scalar.order",Rows.laid_casemate_scalar_order),("casemate/curve.d",Rows.laid_casemate_curve_d)] w)∧sizedMet enc Tryz.prog Tryz.f4 (OpenSpec.ofChange Rows.imageChecksSpec) false w args)
      (Rows.imageChecksSpec.post enc Tryz.prog Tryz.f4 false true false false):=by
  refine returnsInHanded_of_change_and (C:=Tryz.checked) (X:=fun w _=>laidMetH Tryz.prog [("casemate/scalar.order",Rows.laid_casemate_scalar_order),("casemate/curve.d",Rows.laid_casemate_curve_d)] w) (fun _ _ _ hh h=>h.of_heap hh) own started (by kernel_rfl) Tryz.func4
    (ChangeSpec.witness_shaped (enc:=enc) (C:=Tryz.checked) (os:=os) (X:=fun w _=>laidMetH Tryz.prog [("casemate/scalar.order",Rows.laid_casemate_scalar_order),("casemate/curve.d",Rows.laid_casemate_curve_d)] w) false (World.doorLaid Tryz.prog 400 os) #[.slice none 0 0, .int .i64 0, .slice none 0 0, .slice none 0 0] 8 rfl (World.shaped_of_RefB (by kernel_rfl) (by kernel_rfl)) (by kernel_rfl) (by kernel_rfl) (by kernel_rfl) (doorMet os _)) ?_
  intro W base args ds gs before hval0 hW _ _ hL _
  have hval:∀(j:Nat) t v,Tryz.f4.params[j]? =some t→args[j]? =some v→Value.okWide Tryz.prog W .any base t v:=hval0
  have hW':=hW
  obtain ⟨p,q,hA0,hV,rfl,hfz,hnd⟩:=hW
  have hA:DataW.TrodAll enc Tryz.prog W 0 (fun _=>true) true Tryz.f4.params.toList args.toList ds p:=hA0
  rw [Tryz.params4] at hA hval
  obtain ⟨v0,vs0,d0,ds0,p0,q0,hargs,rfl,rfl,h0,r0⟩:=trodAll_cons hA
  obtain ⟨v1,vs1,d1,ds1,p1,q1,rfl,rfl,rfl,h1,r1⟩:=trodAll_cons r0
  obtain ⟨v2,vs2,d2,ds2,p2,q2,rfl,rfl,rfl,h2,r2⟩:=trodAll_cons r1
  obtain ⟨v3,vs3,d3,ds3,p3,q3,rfl,rfl,rfl,h3,r3⟩:=trodAll_cons r2
  obtain ⟨rfl,rfl,rfl⟩:=trodAll_nil r3
  obtain rfl:args= #[v0,v1,v2,v3]:=by cases args;simp_all
  obtain ⟨rfl,rfl⟩:=trodVars_none hV
  have k0:=h0
  have lt0:∀x∈p0,x.block<W.heap.size:=by obtain ⟨m,hm⟩:=k0;exact DataW.trod_lt m _ _ _ hm
  obtain ⟨a0,len0,cap0,l0,rfl,w0,s0⟩:=N.Zwl (hval 0 39 v0 rfl rfl) h0
  obtain ⟨a1,rfl,rfl,rfl,w1⟩:=open_int Tryz.underlying3 (hval 1 3 v1 rfl rfl) h1
  obtain ⟨a2,len2,cap2,rfl⟩:=okWide_slice Tryz.underlying28 (hval 2 28 v2 rfl rfl)
  have k2:=h2
  have lt2:∀x∈p2,x.block<W.heap.size:=by obtain ⟨m,hm⟩:=k2;exact DataW.trod_lt m _ _ _ hm
  obtain ⟨z2,w2⟩:∃zs,IsRow .u8 W a2 len2 cap2 zs:=by
    obtain ⟨fuel,hf⟩:=h2
    rcases open_ints Tryz.underlying28 Tryz.underlying5 (by kernel_rfl) hf with ⟨hcs,_⟩|⟨x,l,c,zs,hcs,_,hl,hm,hz,_,hcell,hwz⟩
    · simp [Value.cells] at hcs
      obtain ⟨rfl,rfl,rfl⟩:=hcs
      exact ⟨[], .inl ⟨rfl,rfl,rfl,rfl⟩⟩
    · simp [Value.cells] at hcs
      obtain ⟨rfl,rfl,rfl⟩:=hcs
      exact ⟨zs, .inr ⟨_,rfl,hl,hm,by simpa using hz,hcell,hwz⟩⟩
  obtain ⟨a3,len3,cap3,rfl⟩:=okWide_slice Tryz.underlying26 (hval 3 26 v3 rfl rfl)
  have k3:=h3
  have lt3:∀x∈p3,x.block<W.heap.size:=by obtain ⟨m,hm⟩:=k3;exact DataW.trod_lt m _ _ _ hm
  obtain ⟨o3,w3⟩:∃ops,B.PartsAt W a3 len3 cap3 ops:=by
    obtain ⟨fuel,hf⟩:=h3
    exact N.ZvP hf
  clear hA0 hval0
  refine (walk a0 len0 cap0 l0 a1 a2 len2 cap2 z2 a3 len3 cap3 o3 W w0 s0 w1 w2 w3 (ofLaid hL).1 (ofLaid hL).2).mono fun e W' ⟨he,bel⟩=> ?_
  subst he
  exact ⟨_,rfl,_,_,_,[],_,[],hW',trodAll_mk1 (shut_bool Tryz.underlying4 _),(trodAll_cons_mk (Below.trod laidOut (by kernel_rfl) (of_decide_eq_true (by kernel_rfl)) k0 bel lt0) (trodAll_cons_mk (shut_int Tryz.underlying3 w1) (trodAll_cons_mk (Below.trod laidOut (by kernel_rfl) (of_decide_eq_true (by kernel_rfl)) k2 bel lt2) (trodAll_cons_mk (Below.trod laidOut (by kernel_rfl) (of_decide_eq_true (by kernel_rfl)) k3 bel lt3) trodAll_mk0)))),rfl,bel.frame _,fun h=>by cases h⟩

theorem over:Rows.imageChecksRow.holds Tryz.pinned (OpenSpec.ofChange Rows.imageChecksSpec):=
  OpenClaim.holds_of_wide 4 Tryz.f4 rfl rfl rfl rfl rfl rfl rfl ⟨rfl,rfl,rfl,rfl,rfl⟩ rfl rfl rfl rfl rfl (by kernel_rfl) Tryz.func4 (by kernel_rfl)
    (of_decide_eq_true (by kernel_rfl)) (by unfold Func.isWrapper;first|(rw [if_pos (by decide+kernel)];kernel_rfl)|(rw [if_neg (by decide+kernel)];exact ⟨rfl,rfl⟩))
    (fun os started H enc _=>lifted os started H enc)

theorem said:Rows.ImageChecksSaid:=over
theorem card_holds:Rows.ImageChecksCardSaid:=
  Claim7.holds_tied_plain_at .later [] [.data, .data] true (true, "f13afaf985ff2267cede2260a3cdfafd3373e9cc0391f8cc2e4a2fe008ad86c6") true
    said (fun _ h=>by cases h) (by kernel_rfl) (fun _ h=>by cases h) imageChecks_row_tie rfl ⟨rfl,rfl⟩ (by kernel_rfl) rfl
    (fun f fn hf hfn=>by
      obtain rfl:f=4:=Option.some.inj ((show Tryz.prog.funcNamed "casemate/casematelaw23.ImageChecks" =some 4 by kernel_rfl).symm.trans hf) |>.symm
      obtain rfl:fn=Tryz.f4:=(Option.some.inj (Tryz.func4.symm.trans hfn)).symm
      exact ⟨by kernel_rfl,fun j t ht=>by
        rw [Tryz.params4] at ht
        have hm:t∈ [39,3,28,26]:=by simpa using Array.mem_of_getElem? ht
        have hall:([39,3,28,26].all fun u=> !Tryz.prog.wantsStandIn u)=true:=by kernel_rfl
        exact (show Tryz.prog.wantsStandIn t=false by simpa using List.all_eq_true.1 hall t hm)⟩)
    (by kernel_rfl)
end Go.Proofs.YtcaloldcihpkfaaGreatDoor.imageChecks

namespace Go.Proofs.YtcaloldcihpkfaaGreatDoor
/-- The statement. -/
theorem imageChecks_holds:Rows.ImageChecksCardSaid:=imageChecks.card_holds
#print axioms imageChecks_holds
end Go.Proofs.YtcaloldcihpkfaaGreatDoor
