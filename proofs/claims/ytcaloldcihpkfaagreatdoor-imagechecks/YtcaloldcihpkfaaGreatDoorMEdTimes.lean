/-
 The code of layer 19 (ed), as it landed: times, packedBase.
-/
import Derived.Test.YtcaloldcihpkfaaGreatDoorMPackFb
import Derived.Test.YtcaloldcihpkfaaGreatDoorMEdBase
import Derived.Test.YtcaloldcihpkfaaGreatDoorMCurveCode6
import Derived.Test.YtcaloldcihpkfaaGreatDoorMCurveCode7
namespace Go.Proofs.YtcaloldcihpkfaaGreatDoor.N
open Go.RowKit
set_option linter.unusedVariables false
set_option maxRecDepth 8192

set_option maxHeartbeats 1600000 in
theorem ZfE (n:Nat) (hn:n<2^256) {p:Pt} (hp:OnC p) (w:World) (hd:DAt w):Calls Tryz.prog 36 #[.agg (bA n), .agg (pA p.x.val p.y.val)] w fun e w'=>e= .returned (.agg (pA (Zau n p).x.val (Zau n p).y.val))∧Below w.heap.size w w':=by
 have HS:Hid (∀(w:World) (g:Nat),DAt w→w.heap[g]? =some (.cells (bA n) 22 (0,0))→Rt Tryz.prog 84 #[.slice (some ⟨g,0,none⟩) 32 32, .agg (pA p.x.val p.y.val)] (.tuple #[.agg (pA (Zau n p).x.val (Zau n p).y.val), .int .i64 0]) w):=fun w g hd hg=>by
  have h:=ZtL (digL n 32) (ZaD _ _) (some ⟨g,0,none⟩) 32 32 hp w hd (Zb0 hg) (by decide)
  rw [vB hn] at h
  exact h
 generalize (Zau n p).x.val=tx at*
 generalize (Zau n p).y.val=ty at*
 generalize p.x.val=px at*
 generalize p.y.val=py at*
 clear hn hp
 have V0:=Vars.start w
 go_enter Tryz.func36,Tryz.ntmps36
 go_wp2_with (first
  | (refine Zaj V0 2 22 _ rfl rfl rfl (bA n) rfl ?_;intro w1 g2 V3)
  | (refine Zaj V3 3 76 _ rfl rfl rfl (pA px py) rfl ?_;intro w4 g5 V6)
  | (refine Zai V6 4 76 rfl rfl rfl (pA 0 0) Za7 ?_;intro w7 g8 V9))
 refine Zar (fun _=>True) (by kernel_rfl) ?_
 have V10:=V9.drew
 refine ZdW 5 rfl (by kernel_rfl) (by kernel_rfl) (fun c d v a w h=>by cases d<;>exact h) (fun c d v a w h=>by cases d<;>exact h) (fun _ _=>trivial) (fuel:=6) (m:=2) (stop:=Za9 [0,1,2,3,4,6] (Array.replicate 9 false)) (Zdt (by kernel_rfl)) (by kernel_rfl) V10 ?_
 refine Za5 (fuel:=5) (i:=6) 5 76 (pA 0 0) (by kernel_rfl) (by kernel_rfl) (fun c d v a w h=>by cases d<;>exact h) Za7 (by kernel_rfl) ?_
 refine Za4 (rs:=[0,1]) (fuel:=3) (by kernel_rfl) (fun c d v a w h=>by cases d<;>exact h) (by kernel_rfl) (fun K hK=> ?_)
 refine zC (.slice (some ⟨g2,0,none⟩) 32 32) rfl (by rfl) (fun w' hw'=>ZbL (V10.call hw') 2 rfl _ rfl rfl) ?_
 go_simp
 refine zC (.agg (pA px py)) rfl (by rfl) (fun w' hw'=>Zbn (V10.call hw') 1 rfl _ rfl rfl Tryz.underlying76 Tryz.szP (Zak _ _)) ?_
 go_simp
 refine Zac (hK.out _ ?_)
 clear hK K
 refine ZaE (i:=2) (fuel:=2) (by kernel_rfl) (by kernel_rfl) rfl (by rfl) (fun w12 q13 V14 K hK=> ?_)
 go_simp
 refine (HS.out w12 g2 (hd.of V14) (V14.at 2 rfl)).mono ?_
 rintro e w15 ⟨rfl,q16⟩
 have V17:=V14.call q16
 refine hK [] _ _ q16 (Fresh.nil _ _) ?_
 clear hK K q16
 refine Za4 (rs:=[3,4]) (fuel:=0) (by kernel_rfl) (fun c d v a w h=>by cases d<;>exact h) (by kernel_rfl) (fun K hK=> ?_)
 go_simp
 refine Zah _ rfl (by rfl) rfl ?_
 go_simp
 refine zC (.agg (pA tx ty)) rfl (by rfl) (fun w' hw'=> ?_) ?_
 ·go_simp
 go_simp
 refine Zac (hK.out _ ?_)
 clear hK K
 refine ZdY (.int .i64 0) rfl (.inl ⟨rfl,fun w=> ?_⟩) (by kernel_rfl) (by kernel_rfl) (by kernel_rfl) (fun w19 g18 q20 V21=> ?_)
 ·go_simp
 clear q20
 replace V21:Vars w w19 [⟨g18,76,pA 0 0⟩,⟨g8,76,pA 0 0⟩,⟨g5,76,pA px py⟩,⟨g2,22,bA n⟩]:=V21
 refine zO 7 1 (by kernel_rfl) rfl (by rfl) fun K hK=> ?_
 refine ZbD V21 0 rfl _ _ rfl rfl (pA tx ty) rfl rfl Tryz.szP (Zak _ _) (Zak _ _) (Za6 _ _) (fun w22 V23=> ?_)
 refine hK _ _ (trivial) ?_
 clear hK K
 refine zR [8] 0 (by kernel_rfl) (fun _ _ _ _ _ h=>h) trivial fun K hK=> ?_
 go_simp
 refine ZaB _ rfl (by rfl) rfl ?_
 go_simp
 refine Zac (hK.out _ ?_)
 clear hK K
 refine wpAnyH_done (by kernel_rfl) ?_ _
 go_wp2_with (first
  | (refine Zax rfl (Zbn V23 0 rfl _ rfl rfl Tryz.underlying76 Tryz.szP (Zak _ _)) ?_)
  | (refine Zal V23 1 rfl _ (.tmp 13) rfl rfl rfl (pA tx ty) rfl rfl Tryz.szP (Zak _ _) (Zak _ _) (Za6 _ _) ?_;intro w24 V25))
 exact bodyPost_ret (ZcK rfl _ V25 1 rfl rfl Tryz.underlying76 Tryz.szP (Zak _ _)) rfl ⟨rfl,V25.bel⟩
set_option maxHeartbeats 1600000 in
theorem ZiW (n:Nat) (hn:n<2^256) (w:World) (hd:DAt w):Calls Tryz.prog 39 #[.agg (bA n)] w fun e w'=>e= .returned (.agg (bA (Zaw (Zau n ZaA))))∧Below w.heap.size w w':=by
 have HB:Hid (∀w,DAt w→Rt Tryz.prog 37 #[] (.agg (pA ZaA.x.val ZaA.y.val)) w):=ZiU
 have HT:Hid (∀w,DAt w→Rt Tryz.prog 36 #[.agg (bA n), .agg (pA ZaA.x.val ZaA.y.val)] (.agg (pA (Zau n ZaA).x.val (Zau n ZaA).y.val)) w):=fun w hd=>ZfE n hn ZbV w hd
 have HP:Hid (∀w,DAt w→Rt Tryz.prog 87 #[.agg (pA (Zau n ZaA).x.val (Zau n ZaA).y.val)] (.tuple #[.agg (bA (Zaw (Zau n ZaA))), .int .i64 0]) w):=fun w hd=>ZtU (Zb2 ZbV n) w hd
 generalize Zaw (Zau n ZaA)=r at*
 generalize (Zau n ZaA).x.val=tx at*
 generalize (Zau n ZaA).y.val=ty at*
 generalize ZaA.x.val=px at*
 generalize ZaA.y.val=py at*
 clear hn
 have V0:=Vars.start w
 go_enter Tryz.func39,Tryz.ntmps39
 go_wp2_with (first
  | (refine Zaj V0 1 22 _ rfl rfl rfl (bA n) rfl ?_;intro w1 g2 V3)
  | (refine zA V3 2 rfl rfl rfl ?_;intro w4 g5 V6))
 refine Zar (fun _=>True) (by kernel_rfl) ?_
 have V7:=V6.drew
 refine ZdW 6 rfl (by kernel_rfl) (by kernel_rfl) (fun c d v a w h=>by cases d<;>exact h) (fun c d v a w h=>by cases d<;>exact h) (fun _ _=>trivial) (fuel:=7) (m:=2) (stop:=Za9 [0,1,2,3,4,5,7] (Array.replicate 10 false)) (Zdt (by kernel_rfl)) (by kernel_rfl) V7 ?_
 refine Za5 (fuel:=6) (i:=7) 3 22 (bA 0) (by kernel_rfl) (by kernel_rfl) (fun c d v a w h=>by cases d<;>exact h) Zbu (by kernel_rfl) ?_
 refine Za4 (rs:=[0]) (fuel:=5) (by kernel_rfl) (fun c d v a w h=>by cases d<;>exact h) (by kernel_rfl) (fun K hK=> ?_)
 refine zC (.agg (bA n)) rfl (by rfl) (fun w' hw'=>ZaH (V7.call hw') 1 rfl _ rfl rfl Tryz.underlying22 Tryz.szB (Zaf _)) ?_
 go_simp
 refine Zac (hK.out _ ?_)
 clear hK K
 refine ZaE (i:=1) (fuel:=4) (by kernel_rfl) (by kernel_rfl) rfl (by rfl) (fun w9 q10 V11 K hK=> ?_)
 go_simp
 refine (HB.out w9 (hd.of V11)).mono ?_
 rintro e w12 ⟨rfl,q13⟩
 have V14:=V11.call q13
 refine hK [] _ _ q13 (Fresh.nil _ _) ?_
 clear hK K q13
 refine ZaE (i:=2) (fuel:=3) (by kernel_rfl) (by kernel_rfl) rfl (by rfl) (fun w15 q16 V17 K hK=> ?_)
 go_simp
 refine (HT.out w15 (hd.of V17)).mono ?_
 rintro e w18 ⟨rfl,q19⟩
 have V20:=V17.call q19
 refine hK [] _ _ q19 (Fresh.nil _ _) ?_
 clear hK K q19
 refine ZaE (i:=3) (fuel:=2) (by kernel_rfl) (by kernel_rfl) rfl (by rfl) (fun w21 q22 V23 K hK=> ?_)
 go_simp
 refine (HP.out w21 (hd.of V23)).mono ?_
 rintro e w24 ⟨rfl,q25⟩
 have V26:=V23.call q25
 refine hK [] _ _ q25 (Fresh.nil _ _) ?_
 clear hK K q25
 refine Za4 (rs:=[4,5]) (fuel:=0) (by kernel_rfl) (fun c d v a w h=>by cases d<;>exact h) (by kernel_rfl) (fun K hK=> ?_)
 go_simp
 refine Zah _ rfl (by rfl) rfl ?_
 go_simp
 refine zC (.agg (bA r)) rfl (by rfl) (fun w' hw'=> ?_) ?_
 ·go_simp
 go_simp
 refine Zac (hK.out _ ?_)
 clear hK K
 refine ZdY (.int .i64 0) rfl (.inl ⟨rfl,fun w=> ?_⟩) (by kernel_rfl) (by kernel_rfl) (by kernel_rfl) (fun w28 g27 q29 V30=> ?_)
 ·go_simp
 clear q29
 replace V30:Vars w w28 [⟨g27,22,bA 0⟩,⟨g5,22,bA 0⟩,⟨g2,22,bA n⟩]:=V30
 refine zO 8 1 (by kernel_rfl) rfl (by rfl) fun K hK=> ?_
 refine zS V30 0 rfl _ _ rfl rfl r rfl rfl (fun w31 V32=> ?_)
 refine hK _ _ (trivial) ?_
 clear hK K
 refine zR [9] 0 (by kernel_rfl) (fun _ _ _ _ _ h=>h) trivial fun K hK=> ?_
 go_simp
 refine ZaB _ rfl (by rfl) rfl ?_
 go_simp
 refine Zac (hK.out _ ?_)
 clear hK K
 refine wpAnyH_done (by kernel_rfl) ?_ _
 go_wp2_with (first
  | (refine zD V32 0 rfl 12 _ rfl rfl rfl rfl ?_)
  | (refine zL V32 1 rfl _ (.tmp 12) rfl rfl rfl r rfl rfl ?_;intro w33 V34))
 exact bodyPost_ret (ZaW rfl _ V34 1 rfl rfl Tryz.underlying22 Tryz.szB (Zaf _)) rfl ⟨rfl,V34.bel⟩
end Go.Proofs.YtcaloldcihpkfaaGreatDoor.N
