/-
  ImageMakes: what Make makes of any seed, manifest and data is the bytes of the manifest with its data's lengths and digests, and a signature of these bytes that the seed's public bytes verify; or it is refused with ErrArg.
-/
import Derived.Test.YtcaloldcihpkfaaGreatDoorRows
import Derived.Test.YtcaloldcihpkfaaGreatDoorMImageLaws3
import Derived.Test.YtcaloldcihpkfaaGreatDoorMPackOp
import Derived.Test.YtcaloldcihpkfaaGreatDoorCards
import Derived.Test.YtcaloldcihpkfaaGreatDoorTie
import Derived.LaidMore
import Derived.Stop.Joined
import Derived.SevenTiedAt
import Derived.WalkKit
import Derived.ProofKit
import Derived.OpenShut
import Derived.ShutString
import Derived.ChangeOld
import Derived.Below
namespace Go.Proofs.YtcaloldcihpkfaaGreatDoor.imageMakes
open Go.ChangeShapes Go.WideShapes Go.ChangeAt Go.RowKit
open Go.ChangeMaps (open_string shut_string)
set_option linter.unusedVariables false

theorem own:ownKnob Tryz.prog.godebug=none:=by kernel_rfl
theorem laidOut:laidOutB Tryz.prog=true:=by kernel_rfl
theorem cellsInt:Tryz.prog.cellsOf 3=1:=by kernel_rfl
/-- What is told of a slice of integers that came in: it is nil, or it leads to a row of cells. -/
def IsRow (k:IntKind) (w:World) (a:Option Addr) (len cap:Nat) (zs:List Int):Prop:=
  (a=none∧len=0∧cap=0∧zs=[])∨
  ∃x,a=some x∧len≤cap∧cap≤maxLen∧zs.length=cap∧(∀i,i<zs.length→w.cell? (x.add i)=some (.int k (zs.getD i 0)))∧∀n∈zs,(Lit.int k n).wf=true

theorem walk (s0 : Nat) (x1 y1 t1 u1 : Int) (a1 : Option Addr) (len1 cap1 : Nat) (l1 : List N.Sg) (a2 : Option Addr) (len2 cap2 : Nat) (o2 : Nat → B.PartV) (w : World) (w0 : s0 < 2 ^ 256) (w1 : N.SegRow w a1 len1 cap1 l1) (s1 : ∀ s ∈ l1, s.Ok) (w2 : B.PartsAt w a2 len2 cap2 o2) (ho : N.OAt w) (hd : N.DAt w) :
    Calls Tryz.prog 3 #[.agg (N.bA s0), .agg #[.int .i64 x1, .int .i64 y1, .int .i64 t1, .int .i64 u1, .slice a1 len1 cap1], .slice a2 len2 cap2] w fun e w'=>e= .returned (.bool true)∧Below w.heap.size w w':=by
  exact N.ZvD s0 w0 x1 y1 t1 u1 a1 a2 len1 cap1 len2 cap2 l1 o2 w w1 s1 w2 ho hd

theorem ofLaid {W:World} (h:laidMetH Tryz.prog [("casemate/scalar.order",Rows.laid_casemate_scalar_order),("casemate/curve.d",Rows.laid_casemate_curve_d)] W):N.OAt W∧N.DAt W:=by
  rw [MakeChecks.laidMetH_plain _ _ _ (by kernel_rfl)] at h
  obtain ⟨ps,h0,_,_⟩:=h
  obtain ⟨g0,q0,h1⟩:=N.ZvH h0
  obtain ⟨g1,q1,h2⟩:=N.ZvI h1
  exact ⟨g0,g1⟩
theorem doorMet (os:Os) (args:Array Value):laidMetH Tryz.prog [("casemate/scalar.order",Rows.laid_casemate_scalar_order),("casemate/curve.d",Rows.laid_casemate_curve_d)] ((World.doorLaid Tryz.prog 400 os).forCall (fun _ _=>0) ⟨#[],args,[]⟩).memory:=
  laidMetH_of_parts3 (fuel:=8) (laidMet_of_run' 8 (by kernel_rfl) (by kernel_rfl)) (by kernel_rfl) (by kernel_rfl)
set_option maxRecDepth 100000 in
theorem lifted (os : Os) (started : os.Started) (H : Type) (enc : TypeId × Value → H) :
    ReturnsInHanded {} Tryz.checked os 3 .any (fun w args=>(Rows.imageMakesSpec.pre enc Tryz.prog Tryz.f3 [] false w args∧laidMetH Tryz.prog [("casemate/scalar.order",Rows.laid_casemate_scalar_order),("casemate/curve.d",Rows.laid_casemate_curve_d)] w)∧sizedMet enc Tryz.prog Tryz.f3 (OpenSpec.ofChange Rows.imageMakesSpec) false w args)
      (Rows.imageMakesSpec.post enc Tryz.prog Tryz.f3 false true false false):=by
  refine returnsInHanded_of_change_and (C:=Tryz.checked) (X:=fun w _=>laidMetH Tryz.prog [("casemate/scalar.order",Rows.laid_casemate_scalar_order),("casemate/curve.d",Rows.laid_casemate_curve_d)] w) (fun _ _ _ hh h=>h.of_heap hh) own started (by kernel_rfl) Tryz.func3
    (ChangeSpec.witness_shaped (enc:=enc) (C:=Tryz.checked) (os:=os) (X:=fun w _=>laidMetH Tryz.prog [("casemate/scalar.order",Rows.laid_casemate_scalar_order),("casemate/curve.d",Rows.laid_casemate_curve_d)] w) false (World.doorLaid Tryz.prog 400 os) #[.agg #[.int .u8 0, .int .u8 0, .int .u8 0, .int .u8 0, .int .u8 0, .int .u8 0, .int .u8 0, .int .u8 0, .int .u8 0, .int .u8 0, .int .u8 0, .int .u8 0, .int .u8 0, .int .u8 0, .int .u8 0, .int .u8 0, .int .u8 0, .int .u8 0, .int .u8 0, .int .u8 0, .int .u8 0, .int .u8 0, .int .u8 0, .int .u8 0, .int .u8 0, .int .u8 0, .int .u8 0, .int .u8 0, .int .u8 0, .int .u8 0, .int .u8 0, .int .u8 0], .agg #[.int .i64 0, .int .i64 0, .int .i64 0, .int .i64 0, .slice none 0 0], .slice none 0 0] 8 rfl (World.shaped_of_RefB (by kernel_rfl) (by kernel_rfl)) (by kernel_rfl) (by kernel_rfl) (by kernel_rfl) (doorMet os _)) ?_
  intro W base args ds gs before hval0 hW _ _ hL _
  have hval:∀(j:Nat) t v,Tryz.f3.params[j]? =some t→args[j]? =some v→Value.okWide Tryz.prog W .any base t v:=hval0
  have hW':=hW
  obtain ⟨p,q,hA0,hV,rfl,hfz,hnd⟩:=hW
  have hA:DataW.TrodAll enc Tryz.prog W 0 (fun _=>true) true Tryz.f3.params.toList args.toList ds p:=hA0
  rw [Tryz.params3] at hA hval
  obtain ⟨v0,vs0,d0,ds0,p0,q0,hargs,rfl,rfl,h0,r0⟩:=trodAll_cons hA
  obtain ⟨v1,vs1,d1,ds1,p1,q1,rfl,rfl,rfl,h1,r1⟩:=trodAll_cons r0
  obtain ⟨v2,vs2,d2,ds2,p2,q2,rfl,rfl,rfl,h2,r2⟩:=trodAll_cons r1
  obtain ⟨rfl,rfl,rfl⟩:=trodAll_nil r2
  obtain rfl:args= #[v0,v1,v2]:=by cases args;simp_all
  obtain ⟨rfl,rfl⟩:=trodVars_none hV
  have k0:=h0
  have lt0:∀x∈p0,x.block<W.heap.size:=by obtain ⟨m,hm⟩:=k0;exact DataW.trod_lt m _ _ _ hm
  obtain ⟨s0,w0,rfl⟩:=N.ZvE Tryz.underlying22 (by kernel_rfl) Tryz.underlying5 (by kernel_rfl) (hval 0 22 v0 rfl rfl) h0
  have k1:=h1
  have lt1:∀x∈p1,x.block<W.heap.size:=by obtain ⟨m,hm⟩:=k1;exact DataW.trod_lt m _ _ _ hm
  obtain ⟨x1,y1,t1,u1,a1,len1,cap1,l1,rfl,w1,s1⟩:=N.ZvM (hval 1 25 v1 rfl rfl) h1
  obtain ⟨a2,len2,cap2,rfl⟩:=okWide_slice Tryz.underlying26 (hval 2 26 v2 rfl rfl)
  have k2:=h2
  have lt2:∀x∈p2,x.block<W.heap.size:=by obtain ⟨m,hm⟩:=k2;exact DataW.trod_lt m _ _ _ hm
  obtain ⟨o2,w2⟩:∃ops,B.PartsAt W a2 len2 cap2 ops:=by
    obtain ⟨fuel,hf⟩:=h2
    exact N.ZvP hf
  clear hA0 hval0
  refine (walk s0 x1 y1 t1 u1 a1 len1 cap1 l1 a2 len2 cap2 o2 W w0 w1 s1 w2 (ofLaid hL).1 (ofLaid hL).2).mono fun e W' ⟨he,bel⟩=> ?_
  subst he
  exact ⟨_,rfl,_,_,_,[],_,[],hW',trodAll_mk1 (shut_bool Tryz.underlying4 _),(trodAll_cons_mk (Below.trod laidOut (by kernel_rfl) (of_decide_eq_true (by kernel_rfl)) k0 bel lt0) (trodAll_cons_mk (Below.trod laidOut (by kernel_rfl) (of_decide_eq_true (by kernel_rfl)) k1 bel lt1) (trodAll_cons_mk (Below.trod laidOut (by kernel_rfl) (of_decide_eq_true (by kernel_rfl)) k2 bel lt2) trodAll_mk0))),rfl,bel.frame _,fun h=>by cases h⟩

theorem over:Rows.imageMakesRow.holds Tryz.pinned (OpenSpec.ofChange Rows.imageMakesSpec):=
  OpenClaim.holds_of_wide 3 Tryz.f3 rfl rfl rfl rfl rfl rfl rfl ⟨rfl,rfl,rfl,rfl,rfl⟩ rfl rfl rfl rfl rfl (by kernel_rfl) Tryz.func3 (by kernel_rfl)
    (of_decide_eq_true (by kernel_rfl)) (by unfold Func.isWrapper;first|(rw [if_pos (by decide+kernel)];kernel_rfl)|(rw [if_neg (by decide+kernel)];exact ⟨rfl,rfl⟩))
    (fun os started H enc _=>lifted os started H enc)

theorem said:Rows.ImageMakesSaid:=over
theorem card_holds:Rows.ImageMakesCardSaid:=
  Claim7.holds_tied_plain_at .later [] [.data, .data] true (true, "f13afaf985ff2267cede2260a3cdfafd3373e9cc0391f8cc2e4a2fe008ad86c6") true
    said (fun _ h=>by cases h) (by kernel_rfl) (fun _ h=>by cases h) imageMakes_row_tie rfl ⟨rfl,rfl⟩ (by kernel_rfl) rfl
    (fun f fn hf hfn=>by
      obtain rfl:f=3:=Option.some.inj ((show Tryz.prog.funcNamed "casemate/casematelaw23.ImageMakes" =some 3 by kernel_rfl).symm.trans hf) |>.symm
      obtain rfl:fn=Tryz.f3:=(Option.some.inj (Tryz.func3.symm.trans hfn)).symm
      exact ⟨by kernel_rfl,fun j t ht=>by
        rw [Tryz.params3] at ht
        have hm:t∈ [22,25,26]:=by simpa using Array.mem_of_getElem? ht
        have hall:([22,25,26].all fun u=> !Tryz.prog.wantsStandIn u)=true:=by kernel_rfl
        exact (show Tryz.prog.wantsStandIn t=false by simpa using List.all_eq_true.1 hall t hm)⟩)
    (by kernel_rfl)
end Go.Proofs.YtcaloldcihpkfaaGreatDoor.imageMakes

namespace Go.Proofs.YtcaloldcihpkfaaGreatDoor
/-- The statement. -/
theorem imageMakes_holds:Rows.ImageMakesCardSaid:=imageMakes.card_holds
#print axioms imageMakes_holds
end Go.Proofs.YtcaloldcihpkfaaGreatDoor
