/-
 The document's answer of layer 23 (casemateref23): Head.
-/
import Derived.Test.YtcaloldcihpkfaaGreatDoorCPackIb
import Derived.Test.YtcaloldcihpkfaaGreatDoorCPackKr
import Derived.Test.YtcaloldcihpkfaaGreatDoorCPackMs
namespace Go.Proofs.YtcaloldcihpkfaaGreatDoor.N
open Go.RowKit
set_option linter.unusedVariables false
set_option maxRecDepth 8192

theorem Zwm {P:Program} {fn:Func} {w w0:World} {l:List AV} {p q u:Tmp} {T T':TypeId} (h:fn.results= #[.cell p T, .cell q T', .tmp u]) (tmps:Array Value) (V:Vars w0 w l) (i j:Nat) {g g':Nat} {X Y:Array Value} (hi:l[i]? =some ⟨g,T,X⟩) (hj:l[j]? =some ⟨g',T',Y⟩) (hp:tmps.getD p undef= .pointer (some ⟨g,0,none⟩)) (hq:tmps.getD q undef= .pointer (some ⟨g',0,none⟩))
  {d d':TypeDesc} (hu:P.underlying T=some d) (hd:d.isRow=true) (hu':P.underlying T'=some d') (hd':d'.isRow=true) {n m:Nat} (hn:(P.info? T).map (·.size)=some n) (hX:X.size=n) (hm:(P.info? T').map (·.size)=some m) (hY:Y.size=m):(results fn tmps).run P w= .ok (.tuple #[.agg X, .agg Y,tmps.getD u undef]) w:=by
 have hl:=run_loadVar_row (P:=P) w g T T X (0,0) d (V.at i hi) hu (by cases d<;>first|rfl|exact hd) (by rw [hn,hX])
 have hl':=run_loadVar_row (P:=P) w g' T' T' Y (0,0) d' (V.at j hj) hu' (by cases d'<;>first|rfl|exact hd') (by rw [hm,hY])
 simp only [results,h]
 simp only [Array.getD_eq_getD_getElem?] at hp hq ⊢
 simp [hp,hq,asAddr,Result.andThen,hl,hl']
def refC (l:List Ky) (D:List Int):Int:=bif mayK l then bif decide (64≤D.length) then bif isMf (ovI D) then fndC l (Zab (ovI D) 12) else 4 else 4 else 1
set_option maxHeartbeats 3200000 in
theorem ZwE {w:World} {ra:Option Addr} {rn rc:Nat} {a:Option Addr} {n c:Nat} {l:List Ky} {D:List Int} (hr:KRow w ra rn rc l) (ok:∀s∈l,s.Ok) (hs:Row .u8 w a n c D) (hD:IsB D) (hn:n≤100000):
  Calls Tryz.prog 17 #[.slice ra rn rc, .slice a n c] w fun e w'=>Below w.heap.size w w'∧
   ((refC l D=0∧isMf (ovI D)=true∧∃M,e= .returned (.tuple #[.agg M, .agg (dA (fndD l (Zab (ovI D) 12))), .int .i64 0])∧MfAt w' M (ovI D))∨(refC l D≠0∧e= .returned (.tuple #[.agg mf00, .agg (dA ZbT), .int .i64 (refC l D)]))):=by
 have hrm:=hr.hmax
 have hrc:=hr.hcap
 have hsm:=hs.hmax
 have hsc:=hs.hcap
 unfold maxLen at hrm hsm
 have hDl:D.length=n:=hs.hlen
 have V0:=Vars.start w
 go_enter Tryz.func17,Tryz.ntmps17
 go_wp2_with (first
  | (refine Zai V0 4 25 rfl rfl rfl mf00 ZdH ?_;intro w1 g4 V1)
  | (refine Zai V1 5 22 rfl rfl rfl (dA ZbT) Zk2 ?_;intro w2 g5 V2)
  | (refine Zai V2 7 22 rfl rfl rfl (dA ZbT) Zk2 ?_;intro w3 g7 V3))
 refine (Zwz (hr.below V3.bel (Nat.le_refl _))).mono ?_
 rintro e3 w4 ⟨rfl,rfl⟩
 cases hK:mayK l
 ·have HC:Hid (refC l D=1):=by show _=_;rw [refC,hK];rfl
  have E0:=V3.drew
  go_upto_region 3 with fail
  refine Zar (fun w'=>Vars w w' [⟨g7,22,dA ZbT⟩]) (by kernel_rfl) ?_
  refine Zaz (rs:=[0,1]) (fuel:=3) (by kernel_rfl) (fun c d v a w h=>by cases d<;>exact h) (by kernel_rfl) ((E0.del 2).del 1) (fun K hK=> ?_)
  refine Zad (.agg mf00) rfl (by rfl) (fun w' hw'=>ZcT 25 [] rfl _ Zmx) ?_
  go_simp
  refine Zad (.agg (dA ZbT)) rfl (by rfl) (fun w' hw'=>ZaH hw' 0 rfl _ rfl rfl Tryz.underlying22 Tryz.szDg (Zcm Zb1.len)) ?_
  go_simp
  refine Zac (hK.out _ ?_)
  clear hK K
  refine Za3 (i:=2) (fuel:=2) (by kernel_rfl) rfl (by rfl) (fun K hK=> ?_)
  refine ZbD E0 2 rfl _ (.tmp 14) rfl rfl mf00 rfl rfl Tryz.szMf rfl rfl (Zce 0 0 0 0 none 0 0) (fun u1 E1=> ?_)
  refine hK _ _ ((E1.del 2).del 1) ?_
  clear hK K
  refine Za3 (i:=3) (fuel:=1) (by kernel_rfl) rfl (by rfl) (fun K hK=> ?_)
  refine ZbD E1 1 rfl _ (.tmp 15) rfl rfl (dA ZbT) rfl rfl Tryz.szDg (Zcm Zb1.len) (Zcm Zb1.len) (Zgr _) (fun u2 E2=> ?_)
  refine hK _ _ ((E2.del 2).del 1) ?_
  clear hK K
  try go_simp
  refine Zaz (rs:=[4]) (fuel:=0) (by kernel_rfl) (fun c d v a w h=>by cases d<;>exact h) (by kernel_rfl) ((E2.del 2).del 1) (fun K hK=> ?_)
  refine ZaB _ rfl (by rfl) rfl ?_
  go_simp
  refine Zac (hK.out _ ?_)
  clear hK K
  refine wpAnyH_done (by kernel_rfl) ?_ _
  go_wp2_with fail
  refine bodyPost_ret (Zwm rfl _ E2 2 1 rfl rfl rfl rfl Tryz.underlying25 rfl Tryz.underlying22 rfl Tryz.szMf rfl Tryz.szDg (Zcm Zb1.len)) rfl ?_
  exact ⟨E2.bel, .inr ⟨by rw [HC.out];decide,by rw [HC.out];rfl⟩⟩
 by_cases h64:n<64
 ·have h64':(n:Int)<64:=by omega
  have HC:Hid (refC l D=4):=by show _=_;rw [refC,hK,decide_eq_false (by omega:¬64≤D.length)];rfl
  have E0:=V3.drew
  go_upto_region 5 with fail
  refine Zar (fun w'=>Vars w w' [⟨g7,22,dA ZbT⟩]) (by kernel_rfl) ?_
  refine Zaz (rs:=[0,1]) (fuel:=3) (by kernel_rfl) (fun c d v a w h=>by cases d<;>exact h) (by kernel_rfl) ((E0.del 2).del 1) (fun K hK=> ?_)
  refine Zad (.agg mf00) rfl (by rfl) (fun w' hw'=>ZcT 25 [] rfl _ Zmx) ?_
  go_simp
  refine Zad (.agg (dA ZbT)) rfl (by rfl) (fun w' hw'=>ZaH hw' 0 rfl _ rfl rfl Tryz.underlying22 Tryz.szDg (Zcm Zb1.len)) ?_
  go_simp
  refine Zac (hK.out _ ?_)
  clear hK K
  refine Za3 (i:=2) (fuel:=2) (by kernel_rfl) rfl (by rfl) (fun K hK=> ?_)
  refine ZbD E0 2 rfl _ (.tmp 19) rfl rfl mf00 rfl rfl Tryz.szMf rfl rfl (Zce 0 0 0 0 none 0 0) (fun u1 E1=> ?_)
  refine hK _ _ ((E1.del 2).del 1) ?_
  clear hK K
  refine Za3 (i:=3) (fuel:=1) (by kernel_rfl) rfl (by rfl) (fun K hK=> ?_)
  refine ZbD E1 1 rfl _ (.tmp 20) rfl rfl (dA ZbT) rfl rfl Tryz.szDg (Zcm Zb1.len) (Zcm Zb1.len) (Zgr _) (fun u2 E2=> ?_)
  refine hK _ _ ((E2.del 2).del 1) ?_
  clear hK K
  try go_simp
  refine Zaz (rs:=[4]) (fuel:=0) (by kernel_rfl) (fun c d v a w h=>by cases d<;>exact h) (by kernel_rfl) ((E2.del 2).del 1) (fun K hK=> ?_)
  refine ZaB _ rfl (by rfl) rfl ?_
  go_simp
  refine Zac (hK.out _ ?_)
  clear hK K
  refine wpAnyH_done (by kernel_rfl) ?_ _
  go_wp2_with fail
  refine bodyPost_ret (Zwm rfl _ E2 2 1 rfl rfl rfl rfl Tryz.underlying25 rfl Tryz.underlying22 rfl Tryz.szMf rfl Tryz.szDg (Zcm Zb1.len)) rfl ?_
  exact ⟨E2.bel, .inr ⟨by rw [HC.out];decide,by rw [HC.out];rfl⟩⟩
 obtain ⟨q,rfl⟩:∃q,n=q+64:=⟨n - 64,by omega⟩
 have eo:ovI D=D.take q:=by unfold ovI;rw [hDl,Nat.add_sub_cancel]
 have hoB:IsB (ovI D):=Zcr hD _
 have h64D:64≤D.length:=by omega
 obtain ⟨b,off,rfl,z1,z2⟩:=hs.hcell (by omega)
 clear z1 z2
 have rt:=Zdr (hs.below V3.bel (Nat.le_refl _)) q (by omega)
 rw [←eo] at rt
 have hpr:=Zwf rt hoB (by omega)
 have hw:IntKind.i64.wrap (((q+64:Nat):Int) - 64)=(q:Int):=by rw [IntKind.wrap_i64];omega
 have h64':¬((q+64:Nat):Int)<64:=by omega
 have hqc:(q:Int)≤(c:Int):=by omega
 have HRC:Hid (isMf (ovI D)=false→refC l D=4):=fun h=>by rw [refC,hK,decide_eq_true h64D,h];rfl
 have HRF:Hid (isMf (ovI D)=true→refC l D=fndC l (Zab (ovI D) 12)):=fun h=>by rw [refC,hK,decide_eq_true h64D,h];rfl
 clear hs hD hDl eo rt h64D h64
 generalize heo:ovI D=o at*
 have HEO:Hid (ovI D=o):=heo
 clear heo
 go_wp2_with fail
 refine hpr.mono ?_
 rintro e5 w5 ⟨q5,⟨hmf,sa',sc',rfl,hrow⟩|⟨hmf,rfl⟩⟩
 case inr=>
  have HC:Hid (refC l D=4):=HRC.out hmf
  have V5:=V3.call q5
  clear hpr hmf V3 q5
  go_upto_region 7 with (first
   | (refine Zai V5 8 25 rfl rfl rfl mf00 ZdH ?_;intro w6 g8 V6)
   | (refine Zal V6 0 rfl _ (.tmp 28) rfl rfl rfl mf00 rfl rfl Tryz.szMf rfl rfl (Zce 0 0 0 0 none 0 0) ?_;intro w7 V7))
  have E0:=V7.drew
  go_upto_region 8 with fail
  refine Zar (fun w'=>Vars w w' [⟨g7,22,dA ZbT⟩]) (by kernel_rfl) ?_
  refine Zaz (rs:=[0,1]) (fuel:=3) (by kernel_rfl) (fun c d v a w h=>by cases d<;>exact h) (by kernel_rfl) (((E0.del 3).del 2).del 0) (fun K hK=> ?_)
  refine Zad (.agg mf00) rfl (by rfl) (fun w' hw'=>ZcT 25 [] rfl _ Zmx) ?_
  go_simp
  refine Zad (.agg (dA ZbT)) rfl (by rfl) (fun w' hw'=>ZaH hw' 0 rfl _ rfl rfl Tryz.underlying22 Tryz.szDg (Zcm Zb1.len)) ?_
  go_simp
  refine Zac (hK.out _ ?_)
  clear hK K
  refine Za3 (i:=2) (fuel:=2) (by kernel_rfl) rfl (by rfl) (fun K hK=> ?_)
  refine ZbD E0 3 rfl _ (.tmp 32) rfl rfl mf00 rfl rfl Tryz.szMf rfl rfl (Zce 0 0 0 0 none 0 0) (fun u1 E1=> ?_)
  refine hK _ _ (((E1.del 3).del 2).del 0) ?_
  clear hK K
  refine Za3 (i:=3) (fuel:=1) (by kernel_rfl) rfl (by rfl) (fun K hK=> ?_)
  refine ZbD E1 2 rfl _ (.tmp 33) rfl rfl (dA ZbT) rfl rfl Tryz.szDg (Zcm Zb1.len) (Zcm Zb1.len) (Zgr _) (fun u2 E2=> ?_)
  refine hK _ _ (((E2.del 3).del 2).del 0) ?_
  clear hK K
  try go_simp
  refine Zaz (rs:=[4]) (fuel:=0) (by kernel_rfl) (fun c d v a w h=>by cases d<;>exact h) (by kernel_rfl) (((E2.del 3).del 2).del 0) (fun K hK=> ?_)
  refine ZaB _ rfl (by rfl) rfl ?_
  go_simp
  refine Zac (hK.out _ ?_)
  clear hK K
  refine wpAnyH_done (by kernel_rfl) ?_ _
  go_wp2_with fail
  refine bodyPost_ret (Zwm rfl _ E2 3 2 rfl rfl rfl rfl Tryz.underlying25 rfl Tryz.underlying22 rfl Tryz.szMf rfl Tryz.szDg (Zcm Zb1.len)) rfl ?_
  exact ⟨E2.bel, .inr ⟨by rw [HC.out];decide,by rw [HC.out];rfl⟩⟩
 have HMF:Hid (isMf o=true∧refC l D=fndC l (Zab o 12)):=⟨hmf,HRF.out hmf⟩
 have hsO:=Zel hoB (k:=cnt o) (by have:=Zf5 (Zf6 hmf).2.1;exact Nat.le_of_eq this.2.2.symm)
 have V5:=V3.call q5
 have U5:=Vars.start w5
 clear hpr V3 q5 HRC HRF hmf
 go_upto_region 9 with (first
  | (refine Zai U5 8 25 rfl rfl rfl mf00 ZdH ?_;intro w6 g8 U6)
  | (refine Zal U6 0 rfl _ (.tmp 28) rfl rfl rfl #[.int .i64 (Zab o 4), .int .i64 (Zab o 8), .int .i64 (Zab o 12), .int .i64 (Zab o 16), .slice sa' ((cnt o)) sc'] rfl rfl Tryz.szMf rfl rfl (Zce _ _ _ _ _ _ _) ?_;intro w7 U7))
 have V7:=V5.made U7.bel (U7.low _ (List.mem_singleton.2 rfl)) (U7.at 0 rfl)
 have hrow7:=hrow.below U7.bel (Nat.le_refl _)
 have k2:w7.cell? ⟨g8,2,none⟩=some (.int .i64 (Zab o 12)):=Zag (V7.at 0 rfl) 2
 clear U5 U6 U7 V5 hrow
 go_wp2_with fail
 refine (ZwC (hr.below V7.bel (Nat.le_refl _))).mono ?_
 rintro e8 w8 ⟨rfl,rfl⟩
 clear k2
 cases hpl:Zbv l (Zab o 12)
 case none=>
  have e1:plI l (Zab o 12)= -1:=by unfold plI;rw [hpl]
  have HC:Hid (refC l D=190):=by show _=_;rw [HMF.out.2];exact (ZkU hpl).2
  rw [e1]
  clear hpl e1 hrow7
  have E0:=V7.drew
  go_upto_region 11 with fail
  refine Zar (fun w'=>Vars w w' [⟨g7,22,dA ZbT⟩]) (by kernel_rfl) ?_
  refine Zaz (rs:=[0,1]) (fuel:=3) (by kernel_rfl) (fun c d v a w h=>by cases d<;>exact h) (by kernel_rfl) (((E0.del 3).del 2).del 0) (fun K hK=> ?_)
  refine Zad (.agg mf00) rfl (by rfl) (fun w' hw'=>ZcT 25 [] rfl _ Zmx) ?_
  go_simp
  refine Zad (.agg (dA ZbT)) rfl (by rfl) (fun w' hw'=>ZaH hw' 0 rfl _ rfl rfl Tryz.underlying22 Tryz.szDg (Zcm Zb1.len)) ?_
  go_simp
  refine Zac (hK.out _ ?_)
  clear hK K
  refine Za3 (i:=2) (fuel:=2) (by kernel_rfl) rfl (by rfl) (fun K hK=> ?_)
  refine ZbD E0 3 rfl _ (.tmp 47) rfl rfl mf00 rfl rfl Tryz.szMf rfl rfl (Zce 0 0 0 0 none 0 0) (fun u1 E1=> ?_)
  refine hK _ _ (((E1.del 3).del 2).del 0) ?_
  clear hK K
  refine Za3 (i:=3) (fuel:=1) (by kernel_rfl) rfl (by rfl) (fun K hK=> ?_)
  refine ZbD E1 2 rfl _ (.tmp 48) rfl rfl (dA ZbT) rfl rfl Tryz.szDg (Zcm Zb1.len) (Zcm Zb1.len) (Zgr _) (fun u2 E2=> ?_)
  refine hK _ _ (((E2.del 3).del 2).del 0) ?_
  clear hK K
  try go_simp
  refine Zaz (rs:=[4]) (fuel:=0) (by kernel_rfl) (fun c d v a w h=>by cases d<;>exact h) (by kernel_rfl) (((E2.del 3).del 2).del 0) (fun K hK=> ?_)
  refine ZaB _ rfl (by rfl) rfl ?_
  go_simp
  refine Zac (hK.out _ ?_)
  clear hK K
  refine wpAnyH_done (by kernel_rfl) ?_ _
  go_wp2_with fail
  refine bodyPost_ret (Zwm rfl _ E2 3 2 rfl rfl rfl rfl Tryz.underlying25 rfl Tryz.underlying22 rfl Tryz.szMf rfl Tryz.szDg (Zcm Zb1.len)) rfl ?_
  exact ⟨E2.bel, .inr ⟨by rw [HC.out];decide,by rw [HC.out];rfl⟩⟩
 rename_i i
 have e1:plI l (Zab o 12)=(i:Int):=by unfold plI;rw [hpl]
 rw [e1]
 have hil:=(Zgp hpl).1
 have hrl:l.length=rn:=hr.hlen
 have hii:(i:Int)<(rn:Int):=by omega
 have hi0:¬(i:Int)<0:=by omega
 obtain ⟨b3,off3,rfl,hb3,hc3⟩:=hr.hcell (by omega)
 have hx3:=hc3 i (by omega)
 have hk3:=Zey ok i
 have c33:w7.cell? ⟨b3,off3+i*34+33,none⟩=some (.bool (kyI l i).rev):=(V7.bel.cell (p:=⟨b3,off3+i*34+33,none⟩) hb3).trans (ZqE hk3 hx3)
 have HFR:Hid ((kyI l i).rev=true→refC l D=190):=fun h=>by rw [HMF.out.2];exact (Zh7 hpl h).2
 have HFS:Hid ((kyI l i).rev=false→refC l D=0∧fndD l (Zab o 12)=(kyI l i).dig):=fun h=>⟨by rw [HMF.out.2];exact (Zh8 hpl h).2,(Zh8 hpl h).1⟩
 have hdig:=ZqF hk3 hx3
 have hdl:=hk3.len
 clear hpl e1 hil hrl hc3 hx3 hk3
 generalize (kyI l i).dig=dg at*
 cases hrev:(kyI l i).rev
 case true=>
  rw [hrev] at c33
  have HC:Hid (refC l D=190):=HFR.out hrev
  clear hrow7 hdig hrev HFR HFS
  have E0:=V7.drew
  go_upto_region 11 with fail
  refine Zar (fun w'=>Vars w w' [⟨g7,22,dA ZbT⟩]) (by kernel_rfl) ?_
  refine Zaz (rs:=[0,1]) (fuel:=3) (by kernel_rfl) (fun c d v a w h=>by cases d<;>exact h) (by kernel_rfl) (((E0.del 3).del 2).del 0) (fun K hK=> ?_)
  refine Zad (.agg mf00) rfl (by rfl) (fun w' hw'=>ZcT 25 [] rfl _ Zmx) ?_
  go_simp
  refine Zad (.agg (dA ZbT)) rfl (by rfl) (fun w' hw'=>ZaH hw' 0 rfl _ rfl rfl Tryz.underlying22 Tryz.szDg (Zcm Zb1.len)) ?_
  go_simp
  refine Zac (hK.out _ ?_)
  clear hK K
  refine Za3 (i:=2) (fuel:=2) (by kernel_rfl) rfl (by rfl) (fun K hK=> ?_)
  refine ZbD E0 3 rfl _ (.tmp 47) rfl rfl mf00 rfl rfl Tryz.szMf rfl rfl (Zce 0 0 0 0 none 0 0) (fun u1 E1=> ?_)
  refine hK _ _ (((E1.del 3).del 2).del 0) ?_
  clear hK K
  refine Za3 (i:=3) (fuel:=1) (by kernel_rfl) rfl (by rfl) (fun K hK=> ?_)
  refine ZbD E1 2 rfl _ (.tmp 48) rfl rfl (dA ZbT) rfl rfl Tryz.szDg (Zcm Zb1.len) (Zcm Zb1.len) (Zgr _) (fun u2 E2=> ?_)
  refine hK _ _ (((E2.del 3).del 2).del 0) ?_
  clear hK K
  try go_simp
  refine Zaz (rs:=[4]) (fuel:=0) (by kernel_rfl) (fun c d v a w h=>by cases d<;>exact h) (by kernel_rfl) (((E2.del 3).del 2).del 0) (fun K hK=> ?_)
  refine ZaB _ rfl (by rfl) rfl ?_
  go_simp
  refine Zac (hK.out _ ?_)
  clear hK K
  refine wpAnyH_done (by kernel_rfl) ?_ _
  go_wp2_with fail
  refine bodyPost_ret (Zwm rfl _ E2 3 2 rfl rfl rfl rfl Tryz.underlying25 rfl Tryz.underlying22 rfl Tryz.szMf rfl Tryz.szDg (Zcm Zb1.len)) rfl ?_
  exact ⟨E2.bel, .inr ⟨by rw [HC.out];decide,by rw [HC.out];rfl⟩⟩
 rw [hrev] at c33
 have HS:Hid (refC l D=0∧fndD l (Zab o 12)=dg):=HFS.out hrev
 clear hrev HFR HFS
 have hz32:(dA ZbT).size=32:=Zcm Zb1.len
 have E0:=V7.drew
 have hrowE:=hrow7.below (Zao.drew w7) (Nat.le_refl _)
 go_upto_region 12 with fail
 refine Zar (fun w'=>Vars w w' [⟨g8,25, #[.int .i64 (Zab o 4), .int .i64 (Zab o 8), .int .i64 (Zab o 12), .int .i64 (Zab o 16), .slice sa' ((cnt o)) sc']⟩]) (by kernel_rfl) ?_
 refine Zaz (rs:=[0,1,2,3,4,5]) (fuel:=3) (by kernel_rfl) (fun c d v a w h=>by cases d<;>exact h) (by kernel_rfl) (((E0.del 3).del 2).del 1) (fun K hK=> ?_)
 refine Zad (.agg #[.int .i64 (Zab o 4), .int .i64 (Zab o 8), .int .i64 (Zab o 12), .int .i64 (Zab o 16), .slice sa' ((cnt o)) sc']) rfl (by rfl) (fun w' hw'=>Zb3 hw' 0 rfl _ rfl rfl Tryz.underlying25 rfl Tryz.szMf rfl) ?_
 go_simp
 refine Zah _ rfl (by rfl) rfl ?_
 go_simp
 refine Zah _ rfl (by rfl) rfl ?_
 go_simp
 refine Zad (.pointer (some ⟨b3,off3+i*34,none⟩)) rfl (by rfl) (fun w' hw'=>by go_simp) ?_
 go_simp
 refine Zad (.pointer (some ⟨b3,off3+i*34+1,none⟩)) rfl (by rfl) (fun w' hw'=>by go_simp) ?_
 go_simp
 refine Zad (.agg (dA dg)) rfl (by rfl) (fun w' hw'=>ZwD hdl _ rfl b3 (off3+i*34+1) (by go_simp) (Zfc hdig (hw'.bel.block b3 hb3))) ?_
 go_simp
 refine Zac (hK.out _ ?_)
 clear hK K
 refine Za3 (i:=6) (fuel:=2) (by kernel_rfl) rfl (by rfl) (fun K hK=> ?_)
 refine wp_store_row 25 _ _ rfl g4 #[.int .i64 (Zab o 4), .int .i64 (Zab o 8), .int .i64 (Zab o 12), .int .i64 (Zab o 16), .slice sa' ((cnt o)) sc'] rfl rfl 25 mf00 (E0.at 3 rfl) (by rw [Tryz.szMf];rfl) rfl (Zce _ _ _ _ _ _ _) ?_
 have E1:=E0.store 3 rfl #[.int .i64 (Zab o 4), .int .i64 (Zab o 8), .int .i64 (Zab o 12), .int .i64 (Zab o 16), .slice sa' ((cnt o)) sc']
 have hrow1:=hrowE.off hsO (E0.at 3 rfl) (by show (5:Nat)<34;decide) (w':=w7.drew.setRow g4 #[.int .i64 (Zab o 4), .int .i64 (Zab o 8), .int .i64 (Zab o 12), .int .i64 (Zab o 16), .slice sa' ((cnt o)) sc']) (by simp [World.setRow]) (fun j hj=>setRow_other _ _ _ _ hj)
 refine hK _ _ (((E1.del 3).del 2).del 1) ?_
 clear hK K
 try go_simp
 generalize w7.drew.setRow g4 #[.int .i64 (Zab o 4), .int .i64 (Zab o 8), .int .i64 (Zab o 12), .int .i64 (Zab o 16), .slice sa' ((cnt o)) sc']=w9 at*
 refine Za3 (i:=7) (fuel:=1) (by kernel_rfl) rfl (by rfl) (fun K hK=> ?_)
 refine wp_store_row 22 _ _ rfl g5 (dA dg) rfl rfl 22 (dA ZbT) (E1.at 2 rfl) (by rw [Tryz.szDg,Zcm hdl]) (by rw [Zcm hdl,hz32]) (Zgr _) ?_
 have E2:=E1.store 2 rfl (dA dg)
 have hrow2:=hrow1.off hsO (E1.at 2 rfl) (by rw [hz32];decide) (w':=w9.setRow g5 (dA dg)) (by simp [World.setRow]) (fun j hj=>setRow_other _ _ _ _ hj)
 refine hK _ _ (((E2.del 3).del 2).del 1) ?_
 clear hK K
 try go_simp
 refine Zaz (rs:=[8]) (fuel:=0) (by kernel_rfl) (fun c d v a w h=>by cases d<;>exact h) (by kernel_rfl) (((E2.del 3).del 2).del 1) (fun K hK=> ?_)
 refine ZaB _ rfl (by rfl) rfl ?_
 go_simp
 refine Zac (hK.out _ ?_)
 clear hK K
 refine wpAnyH_done (by kernel_rfl) ?_ _
 go_wp2_with fail
 refine bodyPost_ret (Zwm rfl _ E2 3 2 rfl rfl rfl rfl Tryz.underlying25 rfl Tryz.underlying22 rfl Tryz.szMf rfl Tryz.szDg (Zcm hdl)) rfl ?_
 refine ⟨E2.bel, .inl ?_⟩
 rw [HEO.out]
 exact ⟨HS.out.1,HMF.out.1,_,by rw [HS.out.2];rfl,sa',sc',rfl,hrow2⟩
end Go.Proofs.YtcaloldcihpkfaaGreatDoor.N
