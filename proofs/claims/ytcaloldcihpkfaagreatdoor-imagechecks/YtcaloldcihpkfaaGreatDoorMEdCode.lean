/-
 The code of layer 19 (ed), as it landed: halves, secret.
-/
import Derived.Test.YtcaloldcihpkfaaGreatDoorMPackFb
import Derived.Test.YtcaloldcihpkfaaGreatDoorMEdBase
namespace Go.Proofs.YtcaloldcihpkfaaGreatDoor.N
open Go.RowKit
set_option linter.unusedVariables false
set_option maxRecDepth 8192

set_option maxHeartbeats 1600000 in
theorem ZtB (lo hi:Nat) (b off cap:Nat) (z:List Nat) (w:World) (hr:Row .u8 w (some ⟨b,off,none⟩) 64 cap (nI z)) (HT:Hid (arr .u8 (z.take 32)=bA lo)) (HD:Hid (arr .u8 ((z.drop 32).take 32)=bA hi)):
  Calls Tryz.prog 31 #[.slice (some ⟨b,off,none⟩) 64 cap] w fun e w'=>e= .returned (.tuple #[.agg (bA lo), .agg (bA hi)])∧Below w.heap.size w w':=by
 have hcap:=hr.hcap
 have hmax:=hr.hmax
 obtain ⟨ad,had⟩:∃ad,(if cap=32 then some (⟨b,off,none⟩:Addr) else some ⟨b,off+32,none⟩)=ad:=⟨_,rfl⟩
 have rD:Row .u8 w ad 32 (cap - 32) (nI (z.drop 32)):=by
  have:=Ztw hr (n:=32) (by decide) had
  rw [ZcN] at this
  exact this
 have HR:Hid (Row .u8 w (some ⟨b,off,none⟩) 64 cap (nI z)):=hr
 have HRD:Hid (Row .u8 w ad 32 (cap - 32) (nI (z.drop 32))):=rD
 have hc32:(32:Int)≤(cap:Int):=by omega
 clear hr rD hmax
 have V0:=Vars.start w
 go_enter Tryz.func31,Tryz.ntmps31
 go_wp2_with (first
  | (refine zA V0 2 rfl rfl rfl ?_;intro w1 g2 V3)
  | (refine zA V3 3 rfl rfl rfl ?_;intro w4 g5 V6)
  | (refine zA V6 4 rfl rfl rfl ?_;intro w7 g8 V9)
  | (refine zA V9 5 rfl rfl rfl ?_;intro w10 g11 V12)
  | (refine Zax rfl (ZbL V12 1 rfl _ rfl rfl) ?_))
 obtain ⟨wA,hrA,hgA,hoA,qA⟩:=Zl7 (P:=Tryz.prog) (dT:=28) (elem:=5) (ty:=3) Tryz.underlying28 (by kernel_rfl) (V12.at 1 rfl) (Zaf 0) (by decide) (by decide:32≤64) (HR.out.below V12.bel (Nat.le_refl _))
 rw [hrA]
 rw [HT.out] at hgA
 have VA:Vars w wA [⟨g11,22,bA 0⟩,⟨g8,22,bA lo⟩,⟨g5,22,bA 0⟩,⟨g2,22,bA 0⟩]:=V12.turn 1 rfl (qA.mono (V12.low _ (List.mem_of_getElem? (i:=1) rfl))) hgA hoA
 clear hrA hgA hoA qA V12 HT
 go_wp2_with fail
 refine Zar (fun w'=>Vars w w' [⟨g8,22,bA lo⟩,⟨g5,22,bA 0⟩,⟨g2,22,bA 0⟩]) (by kernel_rfl) ?_
 have VB:=VA.drew
 clear VA
 refine zR [0,1,2] 1 (by kernel_rfl) (fun _ _ _ _ _ h=>h) (VB.del 0) fun K hK=> ?_
 refine zC (.slice (some ⟨g11,0,none⟩) 32 32) rfl (by rfl) (fun w' hw'=>ZiP g11 _ rfl rfl) ?_
 go_simp
 refine Zah _ rfl (by rfl) rfl ?_
 go_simp
 refine zC (.slice ad 32 ((cap - 32:Nat):Int).toNat) rfl (by rfl) (fun w' hw'=> ?_) ?_
 ·go_simp
 go_simp
 refine Zac (hK.out _ ?_)
 clear hK K
 refine zO 3 0 (by kernel_rfl) rfl (by rfl) fun K hK=> ?_
 go_simp
 obtain ⟨wC,hrC,hgC,hoC,qC⟩:=Zl7 (P:=Tryz.prog) (dT:=28) (elem:=5) (ty:=3) Tryz.underlying28 (by kernel_rfl) (VB.at 0 rfl) (Zaf 0) (by decide) (Nat.le_refl 32) (HRD.out.below VB.bel (Nat.le_refl _))
 rw [hrC]
 rw [HD.out] at hgC
 have VC:Vars w wC [⟨g11,22,bA hi⟩,⟨g8,22,bA lo⟩,⟨g5,22,bA 0⟩,⟨g2,22,bA 0⟩]:=VB.turn 0 rfl (qC.mono (VB.low _ (List.mem_of_getElem? (i:=0) rfl))) hgC hoC
 clear hrC hgC hoC qC VB HD
 refine hK _ _ (VC.del 0) ?_
 clear hK K
 refine wpAnyH_done (by kernel_rfl) ?_ _
 go_wp2_with fail
 refine Zar (fun w'=>Vars w w' [⟨g11,22,bA hi⟩,⟨g8,22,bA lo⟩]) (by kernel_rfl) ?_
 have V13:=VC.drew
 refine zR [0,1] 2 (by kernel_rfl) (fun _ _ _ _ _ h=>h) (((V13.del 2).del 2)) fun K hK=> ?_
 refine zC (.agg (bA lo)) rfl (by rfl) (fun w' hw'=>zB hw' 1 rfl _ rfl rfl) ?_
 go_simp
 refine zC (.agg (bA hi)) rfl (by rfl) (fun w' hw'=>zB hw' 0 rfl _ rfl rfl) ?_
 go_simp
 refine Zac (hK.out _ ?_)
 clear hK K
 refine zO 2 1 (by kernel_rfl) rfl (by rfl) fun K hK=> ?_
 refine zS V13 3 rfl _ _ rfl rfl lo rfl rfl (fun w14 V15=> ?_)
 refine hK _ _ (((V15.del 2).del 2)) ?_
 clear hK K
 refine zO 3 0 (by kernel_rfl) rfl (by rfl) fun K hK=> ?_
 refine zS V15 2 rfl _ _ rfl rfl hi rfl rfl (fun w16 V17=> ?_)
 refine hK _ _ (((V17.del 2).del 2)) ?_
 clear hK K
 refine wpAnyH_done (by kernel_rfl) ?_ _
 go_wp2_with fail
 exact bodyPost_ret (Zl6 rfl _ V17 3 2 rfl rfl rfl rfl Tryz.underlying22 Tryz.szB (Zaf _) (Zaf _)) rfl ⟨rfl,V17.bel⟩
theorem Zmb (v:Nat) (hv:v<2^256*2^256) (a:Option Addr) (cap:Nat) (w:World) (hr:Row .u8 w a 64 cap (nI (digL v 64))):
  Calls Tryz.prog 31 #[.slice a 64 cap] w fun e w'=>e= .returned (.tuple #[.agg (bA (v%2^256)), .agg (bA (v/2^256))])∧Below w.heap.size w w':=by
 obtain ⟨b,off,rfl,_,_⟩:=hr.hcell (by decide)
 have e1:(digL v 64).take 32=digL (v%2^256) 32:=by rw [ZiO,List.take_left' (Zap _ _),ZlY]
 have e2:((digL v 64).drop 32).take 32=digL (v/2^256) 32:=by rw [ZiO,List.drop_left' (Zap _ _),List.take_of_length_le (by rw [Zap];exact Nat.le_refl _)]
 exact ZtB _ _ b off cap _ w hr (by show _=_;rw [e1,ZbE]) (by show _=_;rw [e2,ZbE])
set_option maxHeartbeats 1600000 in
theorem Zmc (sd:Nat) (hs:sd<2^256) (w:World):Calls Tryz.prog 38 #[.agg (bA sd)] w fun e w'=>e= .returned (.tuple #[.agg (bA (secA sd)), .agg (bA (secB sd))])∧Below w.heap.size w w':=by
 have HS:Hid (∀(w':World) (g h:Nat),w'.heap[g]? =some (.cells #[.slice (some ⟨h,0,none⟩) 32 32] 28 (0,0))→w'.heap[h]? =some (.cells (bA sd) 22 (0,0))→Rt Tryz.prog 78 #[.slice (some ⟨g,0,none⟩) 1 1] (.agg (hA (hN (digL sd 32)))) w'):=fun w' g h hg hh=>Zl9 (ZaD _ _) (by rw [Zap];decide) hg (Zb0 hh)
 have HH:Hid (∀(w':World) (g:Nat),w'.heap[g]? =some (.cells (hA (hN (digL sd 32))) 63 (0,0))→Rt Tryz.prog 31 #[.slice (some ⟨g,0,none⟩) 64 64] (.tuple #[.agg (bA (hN (digL sd 32)%2^256)), .agg (bA (hN (digL sd 32)/2^256))]) w'):=fun w' g hg=>Zmb _ (ZlR _) _ 64 w' (ZiS hg)
 have HC:Hid (∀w,Rt Tryz.prog 86 #[.agg (bA (hN (digL sd 32)%2^256))] (.agg (bA (Zfp (hN (digL sd 32)%2^256)))) w):=fun w=>Zti _ (ZlS _) w
 rw [←Zs4] at HC
 rw [←Zs5] at HH
 generalize secA sd=sa at*
 generalize secB sd=sb at*
 generalize hN (digL sd 32)%2^256=lo at*
 generalize hN (digL sd 32)=h at*
 clear hs
 have V0:=Vars.start w
 go_enter Tryz.func38,Tryz.ntmps38
 go_wp2_with (first
  | (refine Zaj V0 1 22 _ rfl rfl rfl (bA sd) rfl ?_;intro w1 g2 V3)
  | (refine zA V3 2 rfl rfl rfl ?_;intro w4 g5 V6)
  | (refine zA V6 3 rfl rfl rfl ?_;intro w7 g8 V9)
  | (refine Zax rfl (ZbL V9 2 rfl _ rfl rfl) ?_)
  | (refine Zfz V9 8 26 1 _ rfl rfl rfl 28 (#[.slice (some ⟨g2,0,none⟩) 32 32]) (Ztz _ _ _) ?_;intro w10 g11 V12))
 refine (HS.out w10 g11 g2 (V12.at 0 rfl) (V12.at 3 rfl)).mono ?_
 rintro e w13 ⟨rfl,q15⟩
 have V14:=V12.call q15
 clear q15 V12
 go_wp2_with (first
  | (refine Zai V14 4 63 rfl rfl rfl (hA 0) ZfC ?_;intro w16 g17 V18)
  | (refine Zal V18 0 rfl _ (.tmp 9) rfl rfl rfl (hA h) rfl rfl Tryz.szH (ZcW _) (ZcW _) (ZgD _) ?_;intro w19 V20)
  | (refine Zax rfl (Ze7 V20 0 rfl _ rfl rfl) ?_))
 refine (HH.out w19 g17 (V20.at 0 rfl)).mono ?_
 rintro e w21 ⟨rfl,q23⟩
 have V22:=V20.call q23
 clear q23 V20
 go_wp2_with (first
  | (refine zA V22 5 rfl rfl rfl ?_;intro w24 g25 V26)
  | (refine zA V26 6 rfl rfl rfl ?_;intro w27 g28 V29)
  | (refine zL V29 1 rfl _ (.tmp 13) rfl rfl rfl lo rfl rfl ?_;intro w30 V31)
  | (refine zL V31 0 rfl _ (.tmp 14) rfl rfl rfl sb rfl rfl ?_;intro w32 V33))
 refine Zar (fun w'=>Vars w w' [⟨g28,22,bA sb⟩,⟨g25,22,bA lo⟩,⟨g17,63,hA h⟩,⟨g11,28, #[.slice (some ⟨g2,0,none⟩) 32 32]⟩,⟨g2,22,bA sd⟩]) (by kernel_rfl) ?_
 have V34:=V33.drew
 refine zR [0,2] 3 (by kernel_rfl) (fun _ _ _ _ _ h=>h) (((V34.del 4).del 4)) fun K hK=> ?_
 refine zC (.agg (bA lo)) rfl (by rfl) (fun w' hw'=>zB hw' 1 rfl _ rfl rfl) ?_
 go_simp
 refine zC (.agg (bA sb)) rfl (by rfl) (fun w' hw'=>zB hw' 0 rfl _ rfl rfl) ?_
 go_simp
 refine Zac (hK.out _ ?_)
 clear hK K
 refine zO 1 2 (by kernel_rfl) rfl (by rfl) fun K hK=> ?_
 go_simp
 refine (HC.out w32.drew).mono ?_
 rintro e w35 ⟨rfl,q37⟩
 have V36:=V34.call q37
 refine hK _ _ (((V36.del 4).del 4)) ?_
 clear hK K q37
 refine zO 3 1 (by kernel_rfl) rfl (by rfl) fun K hK=> ?_
 refine zS V36 5 rfl _ _ rfl rfl sa rfl rfl (fun w38 V39=> ?_)
 refine hK _ _ (((V39.del 4).del 4)) ?_
 clear hK K
 refine zO 4 0 (by kernel_rfl) rfl (by rfl) fun K hK=> ?_
 refine zS V39 4 rfl _ _ rfl rfl sb rfl rfl (fun w40 V41=> ?_)
 refine hK _ _ (((V41.del 4).del 4)) ?_
 clear hK K
 refine wpAnyH_done (by kernel_rfl) ?_ _
 go_wp2_with fail
 exact bodyPost_ret (Zl6 rfl _ V41 5 4 rfl rfl rfl rfl Tryz.underlying22 Tryz.szB (Zaf _) (Zaf _)) rfl ⟨rfl,V41.bel⟩
end Go.Proofs.YtcaloldcihpkfaaGreatDoor.N
