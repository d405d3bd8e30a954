/-
 The code of layer 19 (ed), as it landed: Sign.
-/
import Derived.Test.YtcaloldcihpkfaaGreatDoorMPackFb
import Derived.Test.YtcaloldcihpkfaaGreatDoorMEdCode2
namespace Go.Proofs.YtcaloldcihpkfaaGreatDoor.N
open Go.RowKit
set_option linter.unusedVariables false
set_option maxRecDepth 8192

set_option maxHeartbeats 3200000 in
theorem Zt6 (sd sa sb pu r pt k s sg:Nat) (pm:Option Addr) (lm km:Nat) (m:List Nat) (w:World) (ho:OAt w) (hd:DAt w) (hm:Row .u8 w pm lm km (nI m))
  (HS:Hid (∀w,Rt Tryz.prog 38 #[.agg (bA sd)] (.tuple #[.agg (bA sa), .agg (bA sb)]) w)) (HP:Hid (∀w,DAt w→Rt Tryz.prog 39 #[.agg (bA sa)] (.agg (bA pu)) w)) (HP2:Hid (∀w,DAt w→Rt Tryz.prog 39 #[.agg (bA r)] (.agg (bA pt)) w))
  (HN2:Hid (∀(w':World) (g h:Nat),OAt w'→Below w.heap.size w w'→w'.heap[g]? =some (.cells #[.slice (some ⟨h,0,none⟩) 32 32, .slice pm lm km] 28 (0,0))→w'.heap[h]? =some (.cells (bA sb) 22 (0,0))→Rt Tryz.prog 34 #[.slice (some ⟨g,0,none⟩) 2 2] (.agg (bA r)) w'))
  (HN3:Hid (∀(w':World) (g h i:Nat),OAt w'→Below w.heap.size w w'→w'.heap[g]? =some (.cells #[.slice (some ⟨h,0,none⟩) 32 32, .slice (some ⟨i,0,none⟩) 32 32, .slice pm lm km] 28 (0,0))→w'.heap[h]? =some (.cells (bA pt) 22 (0,0))→w'.heap[i]? =some (.cells (bA pu) 22 (0,0))→Rt Tryz.prog 34 #[.slice (some ⟨g,0,none⟩) 3 3] (.agg (bA k)) w'))
  (HM:Hid (∀w,OAt w→Rt Tryz.prog 65 #[.agg (bA k), .agg (bA sa), .agg (bA r)] (.agg (bA s)) w))
  (HJ:Hid (∀(w':World) (g h i:Nat),w'.heap[g]? =some (.cells #[.slice (some ⟨h,0,none⟩) 32 32, .slice (some ⟨i,0,none⟩) 32 32] 28 (0,0))→w'.heap[h]? =some (.cells (bA pt) 22 (0,0))→w'.heap[i]? =some (.cells (bA s) 22 (0,0))→Calls Tryz.prog 66 #[.slice (some ⟨g,0,none⟩) 2 2] w' (ZbS w' (digL sg 64)))):
  Calls Tryz.prog 27 #[.agg (bA sd), .slice pm lm km] w fun e w'=>e= .returned (.agg (hA sg))∧Below w.heap.size w w':=by
 have HV:Hid (arr .u8 (digL (vL (digL sg 64)) 64)=hA sg):=by show _=_;rw [←Ztv sg,ZfB]
 have HLen:Hid ((digL sg 64).length=64∧Dig (digL sg 64)):=⟨Zap _ _,ZaD _ _⟩
 generalize digL sg 64=zz at*
 clear hm
 have V0:=Vars.start w
 go_enter Tryz.func27,Tryz.ntmps27
 go_wp2_with (first
  | (refine Zaj V0 2 22 _ rfl rfl rfl (bA sd) rfl ?_;intro w1 g2 V3)
  | (refine Zai V3 4 63 rfl rfl rfl (hA 0) ZfC ?_;intro w4 g5 V6)
  | (refine zD V6 1 rfl 14 _ rfl rfl rfl rfl ?_))
 refine (HS.out w4).mono ?_
 rintro e w7 ⟨rfl,q9⟩
 have V8:=V6.call q9
 clear q9 V6
 go_wp2_with (first
  | (refine zA V8 5 rfl rfl rfl ?_;intro w10 g11 V12)
  | (refine zA V12 6 rfl rfl rfl ?_;intro w13 g14 V15)
  | (refine zL V15 1 rfl _ (.tmp 16) rfl rfl rfl sa rfl rfl ?_;intro w16 V17)
  | (refine zL V17 0 rfl _ (.tmp 17) rfl rfl rfl sb rfl rfl ?_;intro w18 V19)
  | (refine zD V19 1 rfl 18 _ rfl rfl rfl rfl ?_))
 refine (HP.out w18 (hd.of V19)).mono ?_
 rintro e w20 ⟨rfl,q22⟩
 have V21:=V19.call q22
 clear q22 V19
 go_wp2_with (first
  | (refine zA V21 7 rfl rfl rfl ?_;intro w23 g24 V25)
  | (refine zL V25 0 rfl _ (.tmp 19) rfl rfl rfl pu rfl rfl ?_;intro w26 V27)
  | (refine Zax rfl (ZbL V27 1 rfl _ rfl rfl) ?_)
  | (refine Zfz V27 22 26 2 _ rfl rfl rfl 28 (#[.slice (some ⟨g14,0,none⟩) 32 32, .slice pm lm km]) (Zl8 _ _ _ _ _ _) ?_;intro w28 g29 V30))
 refine (HN2.out w28 g29 g14 (ho.of V30) V30.bel (V30.at 0 rfl) (V30.at 2 rfl)).mono ?_
 rintro e w31 ⟨rfl,q33⟩
 have V32:=V30.call q33
 clear q33 V30
 go_wp2_with (first
  | (refine zA V32 8 rfl rfl rfl ?_;intro w34 g35 V36)
  | (refine zL V36 0 rfl _ (.tmp 23) rfl rfl rfl r rfl rfl ?_;intro w37 V38)
  | (refine zD V38 0 rfl 24 _ rfl rfl rfl rfl ?_))
 refine (HP2.out w37 (hd.of V38)).mono ?_
 rintro e w39 ⟨rfl,q41⟩
 have V40:=V38.call q41
 clear q41 V38
 go_wp2_with (first
  | (refine zA V40 9 rfl rfl rfl ?_;intro w42 g43 V44)
  | (refine zL V44 0 rfl _ (.tmp 25) rfl rfl rfl pt rfl rfl ?_;intro w45 V46))
 refine Zar (fun _=>True) (by kernel_rfl) ?_
 have V47:=V46.drew
 refine Zcw (fuel:=6) (m:=1) (stop:=Za9 [0,1,2,3,4,5] (Array.replicate 7 false)) (fun _ _=>trivial) V47 ?_
 refine Za5 (fuel:=5) (i:=5) 10 22 (bA 0) (by kernel_rfl) (by kernel_rfl) (fun c d v a w h=>by cases d<;>exact h) Zbu (by kernel_rfl) ?_
 refine Za4 (rs:=[0,1,2]) (fuel:=2) (by kernel_rfl) (fun c d v a w h=>by cases d<;>exact h) (by kernel_rfl) (fun K hK=> ?_)
 refine zC (.slice (some ⟨g43,0,none⟩) 32 32) rfl (by rfl) (fun w' hw'=>ZbL (V47.call hw') 0 rfl _ rfl rfl) ?_
 go_simp
 refine zC (.slice (some ⟨g24,0,none⟩) 32 32) rfl (by rfl) (fun w' hw'=>ZbL (V47.call hw') 3 rfl _ rfl rfl) ?_
 go_simp
 refine Zah _ rfl (by rfl) rfl ?_
 go_simp
 refine Zac (hK.out _ ?_)
 clear hK K
 refine ZaE (i:=3) (fuel:=1) (by kernel_rfl) (by kernel_rfl) rfl (by rfl) (fun w48 q49 V50 K hK=> ?_)
 refine Zdi (Vars.start w48) 29 26 3 _ rfl rfl 28 (#[.slice (some ⟨g43,0,none⟩) 32 32, .slice (some ⟨g24,0,none⟩) 32 32, .slice pm lm km]) (ZiT _ _ _ _ _ _ _ _ _) (fun w51 g54 q52=> ?_)
 have V53:=V50.fresh q52.bel ⟨q52.low,q52.holds,q52.apart⟩
 refine hK [⟨g54,28, #[.slice (some ⟨g43,0,none⟩) 32 32, .slice (some ⟨g24,0,none⟩) 32 32, .slice pm lm km]⟩] _ _ q52.bel ⟨q52.low,q52.holds,q52.apart⟩ ?_
 clear hK K q52
 try go_simp
 refine ZaE (i:=4) (fuel:=0) (by kernel_rfl) (by kernel_rfl) rfl (by rfl) (fun w55 q56 V57 K hK=> ?_)
 go_simp
 refine (HN3.out w55 g54 g43 g24 (ho.of V57) V57.bel (V57.at 0 rfl) (V57.at 1 rfl) (V57.at 4 rfl)).mono ?_
 rintro e w58 ⟨rfl,q59⟩
 have V60:=V57.call q59
 refine hK [] _ _ q59 (Fresh.nil _ _) ?_
 clear hK K q59
 refine ZdX (by kernel_rfl) (fun w62 g61 q63 V64=> ?_)
 clear q63
 replace V64:Vars w w62 [⟨g61,22,bA 0⟩,⟨g54,28, #[.slice (some ⟨g43,0,none⟩) 32 32, .slice (some ⟨g24,0,none⟩) 32 32, .slice pm lm km]⟩,⟨g43,22,bA pt⟩,⟨g35,22,bA r⟩,⟨g29,28, #[.slice (some ⟨g14,0,none⟩) 32 32, .slice pm lm km]⟩,⟨g24,22,bA pu⟩,⟨g14,22,bA sb⟩,⟨g11,22,bA sa⟩,⟨g5,63,hA 0⟩,⟨g2,22,bA sd⟩]:=V64
 refine zO 6 0 (by kernel_rfl) rfl (by rfl) fun K hK=> ?_
 refine zS V64 0 rfl _ _ rfl rfl k rfl rfl (fun w65 V66=> ?_)
 refine hK _ _ (trivial) ?_
 clear hK K
 refine wpAnyH_done (by kernel_rfl) ?_ _
 go_wp2_with (first
  | (refine zD V66 0 rfl 31 _ rfl rfl rfl rfl ?_)
  | (refine zD V66 7 rfl 32 _ rfl rfl rfl rfl ?_)
  | (refine zD V66 3 rfl 33 _ rfl rfl rfl rfl ?_))
 refine (HM.out w65 (ho.of V66)).mono ?_
 rintro e w67 ⟨rfl,q69⟩
 have V68:=V66.call q69
 clear q69 V66
 go_wp2_with (first
  | (refine zA V68 11 rfl rfl rfl ?_;intro w70 g71 V72)
  | (refine zL V72 0 rfl _ (.tmp 34) rfl rfl rfl s rfl rfl ?_;intro w73 V74)
  | (refine Zai V74 12 63 rfl rfl rfl (hA 0) ZfC ?_;intro w75 g76 V77))
 refine Zar (fun w'=>Vars w w' [⟨g71,22,bA s⟩,⟨g61,22,bA k⟩,⟨g54,28, #[.slice (some ⟨g43,0,none⟩) 32 32, .slice (some ⟨g24,0,none⟩) 32 32, .slice pm lm km]⟩,⟨g43,22,bA pt⟩,⟨g35,22,bA r⟩,⟨g29,28, #[.slice (some ⟨g14,0,none⟩) 32 32, .slice pm lm km]⟩,⟨g24,22,bA pu⟩,⟨g14,22,bA sb⟩,⟨g11,22,bA sa⟩,⟨g5,63,hA 0⟩,⟨g2,22,bA sd⟩]) (by kernel_rfl) ?_
 have VB:=V77.drew
 clear V77
 refine zR [0,1,2] 3 (by kernel_rfl) (fun _ _ _ _ _ h=>h) (VB.del 0) fun K hK=> ?_
 refine zC (.slice (some ⟨g76,0,none⟩) 64 64) rfl (by rfl) (fun w' hw'=>Zty g76 _ rfl rfl) ?_
 go_simp
 refine zC (.slice (some ⟨g43,0,none⟩) 32 32) rfl (by rfl) (fun w' hw'=>ZbL hw' 3 rfl _ rfl rfl) ?_
 go_simp
 refine zC (.slice (some ⟨g71,0,none⟩) 32 32) rfl (by rfl) (fun w' hw'=>ZbL hw' 0 rfl _ rfl rfl) ?_
 go_simp
 refine Zac (hK.out _ ?_)
 clear hK K
 refine zO 3 2 (by kernel_rfl) rfl (by rfl) fun K hK=> ?_
 refine Zdi VB 38 26 2 _ rfl rfl 28 (#[.slice (some ⟨g43,0,none⟩) 32 32, .slice (some ⟨g71,0,none⟩) 32 32]) (Zl8 _ _ _ _ _ _) (fun wk gk VK=> ?_)
 refine hK _ _ (VK.tail.del 0) ?_
 clear hK K VB
 try go_simp
 refine zO 4 1 (by kernel_rfl) rfl (by rfl) fun K hK=> ?_
 go_simp
 refine (HJ.out wk gk g43 g71 (VK.at 0 rfl) (VK.at 5 rfl) (VK.at 2 rfl)).mono ?_
 rintro e wj ⟨aj,cj,rfl,rj,qj⟩
 have VJ:=VK.tail.call qj
 refine hK _ _ (VJ.del 0) ?_
 clear hK K qj VK
 refine zO 5 0 (by kernel_rfl) rfl (by rfl) fun K hK=> ?_
 go_simp
 rw [HLen.out.1] at rj
 have hg0:=VJ.at 0 rfl
 rw [Zl5] at hg0
 obtain ⟨wC,hrC,hgC,hoC,qC⟩:=ZlZ (P:=Tryz.prog) (dT:=28) (elem:=5) (ty:=3) (w0:=w) (B:=0) Tryz.underlying28 (by kernel_rfl) hg0 (Nat.le_refl 64) rj HLen.out.2
 rw [HLen.out.1,hrC]
 rw [HV.out] at hgC
 have VC:Vars w wC [⟨g76,63,hA sg⟩,⟨g71,22,bA s⟩,⟨g61,22,bA k⟩,⟨g54,28, #[.slice (some ⟨g43,0,none⟩) 32 32, .slice (some ⟨g24,0,none⟩) 32 32, .slice pm lm km]⟩,⟨g43,22,bA pt⟩,⟨g35,22,bA r⟩,⟨g29,28, #[.slice (some ⟨g14,0,none⟩) 32 32, .slice pm lm km]⟩,⟨g24,22,bA pu⟩,⟨g14,22,bA sb⟩,⟨g11,22,bA sa⟩,⟨g5,63,hA 0⟩,⟨g2,22,bA sd⟩]:=VJ.turn 0 rfl (qC.mono (VJ.low _ (List.mem_of_getElem? (i:=0) rfl))) hgC hoC
 clear hrC hgC hoC qC VJ hg0 rj
 refine hK _ _ (VC.del 0) ?_
 clear hK K
 refine wpAnyH_done (by kernel_rfl) ?_ _
 go_wp2_with (first
  | (refine ZaM VC 0 rfl 41 _ rfl rfl rfl rfl Tryz.underlying63 Tryz.szH (ZcW _) ?_)
  | (refine Zal VC 10 rfl _ (.tmp 41) rfl rfl rfl (hA sg) rfl rfl Tryz.szH (ZcW _) (ZcW _) (ZgD _) ?_;intro w78 V79))
 exact bodyPost_ret (ZaW rfl _ V79 10 rfl rfl Tryz.underlying63 Tryz.szH (ZcW _)) rfl ⟨rfl,V79.bel⟩
theorem Zt7 (sd:Nat) (hs:sd<2^256) (pm:Option Addr) (lm km:Nat) (m:List Nat) (dm:Dig m) (w:World) (ho:OAt w) (hd:DAt w) (hm:Row .u8 w pm lm km (nI m)) (hl:lm≤10000):
  Calls Tryz.prog 27 #[.agg (bA sd), .slice pm lm km] w fun e w'=>e= .returned (.agg (hA (sgN sd m)))∧Below w.heap.size w w':=by
 have hml:m.length=lm:=by have:=hm.hlen;rwa [Zaa] at this
 have l32:=fun x=>Zap x 32
 refine Zt6 sd (secA sd) (secB sd) (pubN sd) (rN sd m) (ptN sd m) (kN (ptN sd m) (pubN sd) m) (sN sd m) (sgN sd m) pm lm km m w ho hd hm (fun w=>Zmc sd hs w) (fun w hd=>ZiW _ (ZiN sd) w hd) (fun w hd=>ZiW _ (Zfy _) w hd) ?_ ?_ ?_ ?_
 ·exact fun w' g h ho q hg hh=>Zt4 (ZaD _ _) dm (by rw [l32];omega) ho hg (Zb0 hh) (hm.below q (Nat.le_refl _))
 ·exact fun w' g h i ho q hg hh hi=>Zmk (ZaD _ _) (ZaD _ _) dm (by rw [l32,l32];omega) ho hg (Zb0 hh) (Zb0 hi) (hm.below q (Nat.le_refl _))
 ·exact fun w' ho=>Ztr _ _ _ w' ho (Zfy _) (ZiN _) (Zfy _)
 ·intro w' g h i hg hh hi
  have e:digL (sgN sd m) 64=digL (ptN sd m) 32++digL (sN sd m) 32:=Ztc (ZlU sd m)
  rw [e]
  exact ZtA (ZaD _ _) (ZaD _ _) (by rw [l32,l32];decide) hg (Zb0 hh) (Zb0 hi)
end Go.Proofs.YtcaloldcihpkfaaGreatDoor.N
