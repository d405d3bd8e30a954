/-
 The code of layer 16 (field): round, sum, negative, difference, product; '==' of elements.
-/
import Derived.Test.YtcaloldcihpkfaaGreatDoorMPackFb
namespace Go.Proofs.YtcaloldcihpkfaaGreatDoor.N
open Go.RowKit
set_option linter.unusedVariables false
set_option maxRecDepth 8192

theorem Zcy:fP<2^256:=by have:=ZhX;omega
theorem ZdA (x:Nat):x%fP<2^256:=Nat.lt_trans (ZcI x) Zcy
theorem Zlt {p q:Nat} (hp:p<2^256) (hq:q<2^256):decide (digL p 32=digL q 32)=decide (p=q):=by
 rw [Bool.eq_iff_iff,decide_eq_true_iff,decide_eq_true_iff]
 exact ⟨Zkt hp hq,fun h=>by rw [h]⟩
theorem Zsm {p q:Nat} (hp:p<2^256) (hq:q<2^256):decide (W.digL p 4=W.digL q 4)=decide (p=q):=by
 rw [Bool.eq_iff_iff,decide_eq_true_iff,decide_eq_true_iff]
 exact ⟨Zpl hp hq,fun h=>by rw [h]⟩
theorem Zgy {a:Act} {o:Oper} {w:World} {T':TypeId} (x y:Operand) (ho:o.op= .binOp .eql 22 x y T') (b:Bool) (p q:Nat) (hb:decide (p=q)=b) (hx:a.eval x= .agg (bA p)) (hy:a.eval y= .agg (bA q)) (hp:p<2^256) (hq:q<2^256):(execOp a.eval o).run Tryz.prog w= .ok (.value (.bool b)) w:=
 Zpe _ _ x y ho (digL p 32) (digL q 32) b (by rw [Zlt hp hq,hb]) (by rw [hx,ZbE]) (by rw [hy,ZbE]) Tryz.eqGuardType22 Tryz.underlying22 Tryz.underlying5 Tryz.sz8 (Zap _ _) (Zap _ _)
theorem Ziv {a:Act} {o:Oper} {w:World} {T':TypeId} (x y:Operand) (ho:o.op= .binOp .neq 146 x y T') (b:Bool) (p q:Nat) (hb:decide (p=q)= !b) (hx:a.eval x= .agg (wA p)) (hy:a.eval y= .agg (wA q)) (hp:p<2^256) (hq:q<2^256):(execOp a.eval o).run Tryz.prog w= .ok (.value (.bool b)) w:=
 Zki _ _ x y ho (W.digL p 4) (W.digL q 4) b (by rw [Zsm hp hq,hb]) (by rw [hx,ZbZ]) (by rw [hy,ZbZ]) Tryz.eqGuardType146 Tryz.underlying146 Tryz.underlying144 Tryz.sz64 (W.Zap _ _) (W.Zap _ _)
set_option maxHeartbeats 1600000 in
theorem Zlu (x:Nat) (w:World) (hx:x<2*fP):Calls Tryz.prog 207 #[.agg (wA x)] w fun e w'=>e= .returned (.agg (wA (x%fP)))∧Below w.heap.size w w':=by
 have hx9:x<2^256:=Nat.lt_trans hx ZhW
 have HM:Hid (∀w,Rt Tryz.prog 111 #[.agg (wA x), .agg (wA fP)] (.tuple #[.agg (wA ((x+2^256 - fP)%2^256)), .bool (decide (x<fP))]) w):=fun w=>ZhV x fP hx9 Zcy w
 by_cases hlt:x<fP
 ·have HZ:Hid (x%fP=x):=Nat.mod_eq_of_lt hlt
  rw [decide_eq_true hlt] at HM
  generalize (x+2^256 - fP)%2^256=z at*
  rw [HZ.out]
  clear hx hx9 hlt
  have V0:=Vars.start w
  go_enter Tryz.func207,Tryz.ntmps207
  go_wp2_with (first
   | (refine Zaj V0 1 146 _ rfl rfl rfl (wA x) rfl ?_;intro w1 g2 V3)
   | (refine Zai V3 2 146 rfl rfl rfl (wA 0) ZaV ?_;intro w4 g5 V6))
  refine Zar (fun _=>True) (by kernel_rfl) ?_
  have V7:=V6.drew
  refine ZdW 5 rfl (by kernel_rfl) (by kernel_rfl) (fun c d v a w h=>by cases d<;>exact h) (fun c d v a w h=>by cases d<;>exact h) (fun _ _=>trivial) (fuel:=6) (m:=2) (stop:=Za9 [0,1,2,3,4,6] (Array.replicate 9 false)) (Zdt (by kernel_rfl)) (by kernel_rfl) V7 ?_
  refine Za5 (fuel:=5) (i:=6) 3 146 (wA 0) (by kernel_rfl) (by kernel_rfl) (fun c d v a w h=>by cases d<;>exact h) ZaV (by kernel_rfl) ?_
  refine Za4 (rs:=[0]) (fuel:=4) (by kernel_rfl) (fun c d v a w h=>by cases d<;>exact h) (by kernel_rfl) (fun K hK=> ?_)
  refine zC (.agg (wA x)) rfl (by rfl) (fun w' hw'=>ZaH (V7.call hw') 1 rfl _ rfl rfl Tryz.underlying146 Tryz.szW (Zae _)) ?_
  go_simp
  refine Zac (hK.out _ ?_)
  clear hK K
  refine ZaE (i:=1) (fuel:=3) (by kernel_rfl) (by kernel_rfl) rfl (by rfl) (fun w9 q10 V11 K hK=> ?_)
  go_simp
  refine (Zgk w9).mono ?_
  rintro e w12 ⟨rfl,q13⟩
  have V14:=V11.call q13
  refine hK [] _ _ q13 (Fresh.nil _ _) ?_
  clear hK K q13
  refine ZaE (i:=2) (fuel:=2) (by kernel_rfl) (by kernel_rfl) rfl (by rfl) (fun w15 q16 V17 K hK=> ?_)
  go_simp
  refine (HM.out w15).mono ?_
  rintro e w18 ⟨rfl,q19⟩
  have V20:=V17.call q19
  refine hK [] _ _ q19 (Fresh.nil _ _) ?_
  clear hK K q19
  refine Za4 (rs:=[3,4]) (fuel:=0) (by kernel_rfl) (fun c d v a w h=>by cases d<;>exact h) (by kernel_rfl) (fun K hK=> ?_)
  go_simp
  refine Zah _ rfl (by rfl) rfl ?_
  go_simp
  refine zC (.agg (wA z)) rfl (by rfl) (fun w' hw'=> ?_) ?_
  ·go_simp
  go_simp
  refine Zac (hK.out _ ?_)
  clear hK K
  refine ZdY (.bool true) rfl (.inl ⟨rfl,fun w=> ?_⟩) (by kernel_rfl) (by kernel_rfl) (by kernel_rfl) (fun w22 g21 q23 V24=> ?_)
  ·go_simp
  clear q23
  replace V24:Vars w w22 [⟨g21,146,wA 0⟩,⟨g5,146,wA 0⟩,⟨g2,146,wA x⟩]:=V24
  refine zO 7 1 (by kernel_rfl) rfl (by rfl) fun K hK=> ?_
  refine ZbD V24 0 rfl _ _ rfl rfl (wA z) rfl rfl Tryz.szW (Zae _) (Zae _) (ZaO _) (fun w25 V26=> ?_)
  refine hK _ _ (trivial) ?_
  clear hK K
  refine zR [8] 0 (by kernel_rfl) (fun _ _ _ _ _ h=>h) trivial fun K hK=> ?_
  go_simp
  refine ZaB _ rfl (by rfl) rfl ?_
  go_simp
  refine Zac (hK.out _ ?_)
  clear hK K
  refine wpAnyH_done (by kernel_rfl) ?_ _
  go_wp2_with (first
   | (refine ZaM V26 2 rfl 12 _ rfl rfl rfl rfl Tryz.underlying146 Tryz.szW (Zae _) ?_)
   | (refine Zal V26 1 rfl _ (.tmp 12) rfl rfl rfl (wA x) rfl rfl Tryz.szW (Zae _) (Zae _) (ZaO _) ?_;intro w27 V28))
  exact bodyPost_ret (ZaW rfl _ V28 1 rfl rfl Tryz.underlying146 Tryz.szW (Zae _)) rfl ⟨rfl,V28.bel⟩
 ·have HZ:Hid (x%fP=(x+2^256 - fP)%2^256):=by
   show _=_
   rw [show x+2^256 - fP=(x - fP)+2^256 from by have:=Zcy;omega,Nat.add_mod_right,Nat.mod_eq_of_lt (show x - fP<2^256 by omega),Nat.mod_eq_sub_mod (by omega),Nat.mod_eq_of_lt (by omega)]
  rw [decide_eq_false hlt] at HM
  rw [HZ.out]
  clear HZ
  generalize (x+2^256 - fP)%2^256=z at*
  clear hx hx9 hlt
  have V0:=Vars.start w
  go_enter Tryz.func207,Tryz.ntmps207
  go_wp2_with (first
   | (refine Zaj V0 1 146 _ rfl rfl rfl (wA x) rfl ?_;intro w1 g2 V3)
   | (refine Zai V3 2 146 rfl rfl rfl (wA 0) ZaV ?_;intro w4 g5 V6))
  refine Zar (fun _=>True) (by kernel_rfl) ?_
  have V7:=V6.drew
  refine ZdW 5 rfl (by kernel_rfl) (by kernel_rfl) (fun c d v a w h=>by cases d<;>exact h) (fun c d v a w h=>by cases d<;>exact h) (fun _ _=>trivial) (fuel:=6) (m:=2) (stop:=Za9 [0,1,2,3,4,6] (Array.replicate 9 false)) (Zdt (by kernel_rfl)) (by kernel_rfl) V7 ?_
  refine Za5 (fuel:=5) (i:=6) 3 146 (wA 0) (by kernel_rfl) (by kernel_rfl) (fun c d v a w h=>by cases d<;>exact h) ZaV (by kernel_rfl) ?_
  refine Za4 (rs:=[0]) (fuel:=4) (by kernel_rfl) (fun c d v a w h=>by cases d<;>exact h) (by kernel_rfl) (fun K hK=> ?_)
  refine zC (.agg (wA x)) rfl (by rfl) (fun w' hw'=>ZaH (V7.call hw') 1 rfl _ rfl rfl Tryz.underlying146 Tryz.szW (Zae _)) ?_
  go_simp
  refine Zac (hK.out _ ?_)
  clear hK K
  refine ZaE (i:=1) (fuel:=3) (by kernel_rfl) (by kernel_rfl) rfl (by rfl) (fun w9 q10 V11 K hK=> ?_)
  go_simp
  refine (Zgk w9).mono ?_
  rintro e w12 ⟨rfl,q13⟩
  have V14:=V11.call q13
  refine hK [] _ _ q13 (Fresh.nil _ _) ?_
  clear hK K q13
  refine ZaE (i:=2) (fuel:=2) (by kernel_rfl) (by kernel_rfl) rfl (by rfl) (fun w15 q16 V17 K hK=> ?_)
  go_simp
  refine (HM.out w15).mono ?_
  rintro e w18 ⟨rfl,q19⟩
  have V20:=V17.call q19
  refine hK [] _ _ q19 (Fresh.nil _ _) ?_
  clear hK K q19
  refine Za4 (rs:=[3,4]) (fuel:=0) (by kernel_rfl) (fun c d v a w h=>by cases d<;>exact h) (by kernel_rfl) (fun K hK=> ?_)
  go_simp
  refine Zah _ rfl (by rfl) rfl ?_
  go_simp
  refine zC (.agg (wA z)) rfl (by rfl) (fun w' hw'=> ?_) ?_
  ·go_simp
  go_simp
  refine Zac (hK.out _ ?_)
  clear hK K
  refine ZdY (.bool false) rfl (.inl ⟨rfl,fun w=> ?_⟩) (by kernel_rfl) (by kernel_rfl) (by kernel_rfl) (fun w22 g21 q23 V24=> ?_)
  ·go_simp
  clear q23
  replace V24:Vars w w22 [⟨g21,146,wA 0⟩,⟨g5,146,wA 0⟩,⟨g2,146,wA x⟩]:=V24
  refine zO 7 1 (by kernel_rfl) rfl (by rfl) fun K hK=> ?_
  refine ZbD V24 0 rfl _ _ rfl rfl (wA z) rfl rfl Tryz.szW (Zae _) (Zae _) (ZaO _) (fun w25 V26=> ?_)
  refine hK _ _ (trivial) ?_
  clear hK K
  refine zR [8] 0 (by kernel_rfl) (fun _ _ _ _ _ h=>h) trivial fun K hK=> ?_
  go_simp
  refine ZaB _ rfl (by rfl) rfl ?_
  go_simp
  refine Zac (hK.out _ ?_)
  clear hK K
  refine wpAnyH_done (by kernel_rfl) ?_ _
  go_wp2_with (first
   | (refine ZaM V26 0 rfl 13 _ rfl rfl rfl rfl Tryz.underlying146 Tryz.szW (Zae _) ?_)
   | (refine Zal V26 1 rfl _ (.tmp 13) rfl rfl rfl (wA z) rfl rfl Tryz.szW (Zae _) (Zae _) (ZaO _) ?_;intro w27 V28))
  exact bodyPost_ret (ZaW rfl _ V28 1 rfl rfl Tryz.underlying146 Tryz.szW (Zae _)) rfl ⟨rfl,V28.bel⟩
set_option maxHeartbeats 800000 in
theorem Ziw (x y:Nat) (w:World) (h:x+y<2*fP):Calls Tryz.prog 189 #[.agg (wA x), .agg (wA y)] w fun e w'=>e= .returned (.agg (wA ((x+y)%fP)))∧Below w.heap.size w w':=by
 have HP:Hid (∀w,Rt Tryz.prog 208 #[.agg (wA x), .agg (wA y)] (.agg (wA (x+y))) w):=fun w=>Zkz x y (Nat.lt_trans h ZhW) w
 have HR:Hid (∀w,Rt Tryz.prog 207 #[.agg (wA (x+y))] (.agg (wA ((x+y)%fP))) w):=fun w=>Zlu (x+y) w h
 generalize (x+y)%fP=r at*
 generalize x+y=s at*
 clear h
 have V0:=Vars.start w
 go_enter Tryz.func189,Tryz.ntmps189
 go_wp2_with (first
  | (refine Zaj V0 2 146 _ rfl rfl rfl (wA x) rfl ?_;intro w1 g2 V3)
  | (refine Zaj V3 3 146 _ rfl rfl rfl (wA y) rfl ?_;intro w4 g5 V6)
  | (refine Zai V6 4 146 rfl rfl rfl (wA 0) ZaV ?_;intro w7 g8 V9)
  | (refine ZaM V9 2 rfl 5 _ rfl rfl rfl rfl Tryz.underlying146 Tryz.szW (Zae _) ?_)
  | (refine ZaM V9 1 rfl 6 _ rfl rfl rfl rfl Tryz.underlying146 Tryz.szW (Zae _) ?_))
 refine (HP.out w7).mono ?_
 rintro e w10 ⟨rfl,q12⟩
 have V11:=V9.call q12
 clear q12 V9
 go_wp2_with fail
 refine (HR.out w10).mono ?_
 rintro e w13 ⟨rfl,q15⟩
 have V14:=V11.call q15
 clear q15 V11
 go_wp2_with (refine Zal V14 0 rfl _ (.tmp 8) rfl rfl rfl (wA r) rfl rfl Tryz.szW (Zae _) (Zae _) (ZaO _) ?_;intro w16 V17)
 exact bodyPost_ret (ZaW rfl _ V17 0 rfl rfl Tryz.underlying146 Tryz.szW (Zae _)) rfl ⟨rfl,V17.bel⟩
set_option maxHeartbeats 800000 in
theorem Zlv (x:Nat) (w:World) (h:x≤fP):Calls Tryz.prog 154 #[.agg (wA x)] w fun e w'=>e= .returned (.agg (wA (fP - x)))∧Below w.heap.size w w':=by
 have HM:Hid (∀w,Rt Tryz.prog 111 #[.agg (wA fP), .agg (wA x)] (.tuple #[.agg (wA (fP - x)), .bool false]) w):=fun w=>by
  have:=ZhV fP x Zcy (Nat.lt_of_le_of_lt h Zcy) w
  rw [decide_eq_false (Nat.not_lt.2 h),show fP+2^256 - x=(fP - x)+2^256 from by omega,Nat.add_mod_right,Nat.mod_eq_of_lt (show fP - x<2^256 by have:=Zcy;omega)] at this
  exact this
 generalize fP - x=z at*
 clear h
 have V0:=Vars.start w
 go_enter Tryz.func154,Tryz.ntmps154
 go_wp2_with (first
  | (refine Zaj V0 1 146 _ rfl rfl rfl (wA x) rfl ?_;intro w1 g2 V3)
  | (refine Zai V3 2 146 rfl rfl rfl (wA 0) ZaV ?_;intro w4 g5 V6))
 refine Zar (fun _=>True) (by kernel_rfl) ?_
 have V7:=V6.drew
 refine ZdW 5 rfl (by kernel_rfl) (by kernel_rfl) (fun c d v a w h=>by cases d<;>exact h) (fun c d v a w h=>by cases d<;>exact h) (fun _ _=>trivial) (fuel:=6) (m:=2) (stop:=Za9 [0,1,2,3,4,6] (Array.replicate 9 false)) (Zdt (by kernel_rfl)) (by kernel_rfl) V7 ?_
 refine Za5 (fuel:=5) (i:=6) 3 146 (wA 0) (by kernel_rfl) (by kernel_rfl) (fun c d v a w h=>by cases d<;>exact h) ZaV (by kernel_rfl) ?_
 refine Za4 (rs:=[1]) (fuel:=4) (by kernel_rfl) (fun c d v a w h=>by cases d<;>exact h) (by kernel_rfl) (fun K hK=> ?_)
 refine zC (.agg (wA x)) rfl (by rfl) (fun w' hw'=>ZaH (V7.call hw') 1 rfl _ rfl rfl Tryz.underlying146 Tryz.szW (Zae _)) ?_
 go_simp
 refine Zac (hK.out _ ?_)
 clear hK K
 refine ZaE (i:=0) (fuel:=3) (by kernel_rfl) (by kernel_rfl) rfl (by rfl) (fun w9 q10 V11 K hK=> ?_)
 go_simp
 refine (Zgk w9).mono ?_
 rintro e w12 ⟨rfl,q13⟩
 have V14:=V11.call q13
 refine hK [] _ _ q13 (Fresh.nil _ _) ?_
 clear hK K q13
 refine ZaE (i:=2) (fuel:=2) (by kernel_rfl) (by kernel_rfl) rfl (by rfl) (fun w15 q16 V17 K hK=> ?_)
 go_simp
 refine (HM.out w15).mono ?_
 rintro e w18 ⟨rfl,q19⟩
 have V20:=V17.call q19
 refine hK [] _ _ q19 (Fresh.nil _ _) ?_
 clear hK K q19
 refine Za4 (rs:=[3,4]) (fuel:=0) (by kernel_rfl) (fun c d v a w h=>by cases d<;>exact h) (by kernel_rfl) (fun K hK=> ?_)
 go_simp
 refine Zah _ rfl (by rfl) rfl ?_
 go_simp
 refine zC (.agg (wA z)) rfl (by rfl) (fun w' hw'=> ?_) ?_
 ·go_simp
 go_simp
 refine Zac (hK.out _ ?_)
 clear hK K
 refine ZdY (.bool false) rfl (.inl ⟨rfl,fun w=> ?_⟩) (by kernel_rfl) (by kernel_rfl) (by kernel_rfl) (fun w22 g21 q23 V24=> ?_)
 ·go_simp
 clear q23
 replace V24:Vars w w22 [⟨g21,146,wA 0⟩,⟨g5,146,wA 0⟩,⟨g2,146,wA x⟩]:=V24
 refine zO 7 1 (by kernel_rfl) rfl (by rfl) fun K hK=> ?_
 refine ZbD V24 0 rfl _ _ rfl rfl (wA z) rfl rfl Tryz.szW (Zae _) (Zae _) (ZaO _) (fun w25 V26=> ?_)
 refine hK _ _ (trivial) ?_
 clear hK K
 refine zR [8] 0 (by kernel_rfl) (fun _ _ _ _ _ h=>h) trivial fun K hK=> ?_
 go_simp
 refine ZaB _ rfl (by rfl) rfl ?_
 go_simp
 refine Zac (hK.out _ ?_)
 clear hK K
 refine wpAnyH_done (by kernel_rfl) ?_ _
 go_wp2_with (first
  | (refine ZaM V26 0 rfl 11 _ rfl rfl rfl rfl Tryz.underlying146 Tryz.szW (Zae _) ?_)
  | (refine Zal V26 1 rfl _ (.tmp 11) rfl rfl rfl (wA z) rfl rfl Tryz.szW (Zae _) (Zae _) (ZaO _) ?_;intro w27 V28))
 exact bodyPost_ret (ZaW rfl _ V28 1 rfl rfl Tryz.underlying146 Tryz.szW (Zae _)) rfl ⟨rfl,V28.bel⟩
set_option maxHeartbeats 800000 in
theorem Zlw (x y:Nat) (w:World) (hx:x<fP) (hy:y≤fP):Calls Tryz.prog 158 #[.agg (wA x), .agg (wA y)] w fun e w'=>e= .returned (.agg (wA ((x+(fP - y))%fP)))∧Below w.heap.size w w':=by
 have HN:Hid (∀w,Rt Tryz.prog 154 #[.agg (wA y)] (.agg (wA (fP - y))) w):=fun w=>Zlv y w hy
 have HS:Hid (∀w,Rt Tryz.prog 189 #[.agg (wA x), .agg (wA (fP - y))] (.agg (wA ((x+(fP - y))%fP))) w):=fun w=>Ziw x (fP - y) w (by omega)
 generalize (x+(fP - y))%fP=r at*
 generalize fP - y=n at*
 clear hx hy
 have V0:=Vars.start w
 go_enter Tryz.func158,Tryz.ntmps158
 go_wp2_with (first
  | (refine Zaj V0 2 146 _ rfl rfl rfl (wA x) rfl ?_;intro w1 g2 V3)
  | (refine Zaj V3 3 146 _ rfl rfl rfl (wA y) rfl ?_;intro w4 g5 V6)
  | (refine Zai V6 4 146 rfl rfl rfl (wA 0) ZaV ?_;intro w7 g8 V9))
 refine Zar (fun w'=>Vars w w' [⟨g5,146,wA y⟩,⟨g2,146,wA x⟩]) (by kernel_rfl) ?_
 have V10:=V9.drew
 refine zR [0,1] 3 (by kernel_rfl) (fun _ _ _ _ _ h=>h) (V10.tail) fun K hK=> ?_
 refine zC (.agg (wA x)) rfl (by rfl) (fun w' hw'=>ZaH hw' 1 rfl _ rfl rfl Tryz.underlying146 Tryz.szW (Zae _)) ?_
 go_simp
 refine zC (.agg (wA y)) rfl (by rfl) (fun w' hw'=>ZaH hw' 0 rfl _ rfl rfl Tryz.underlying146 Tryz.szW (Zae _)) ?_
 go_simp
 refine Zac (hK.out _ ?_)
 clear hK K
 refine zO 2 2 (by kernel_rfl) rfl (by rfl) fun K hK=> ?_
 go_simp
 refine (HN.out w7.drew).mono ?_
 rintro e w11 ⟨rfl,q13⟩
 have V12:=V10.call q13
 refine hK _ _ (V12.tail) ?_
 clear hK K q13
 refine zO 3 1 (by kernel_rfl) rfl (by rfl) fun K hK=> ?_
 go_simp
 refine (HS.out w11).mono ?_
 rintro e w14 ⟨rfl,q16⟩
 have V15:=V12.call q16
 refine hK _ _ (V15.tail) ?_
 clear hK K q16
 refine zO 4 0 (by kernel_rfl) rfl (by rfl) fun K hK=> ?_
 refine ZbD V15 0 rfl _ _ rfl rfl (wA r) rfl rfl Tryz.szW (Zae _) (Zae _) (ZaO _) (fun w17 V18=> ?_)
 refine hK _ _ (V18.tail) ?_
 clear hK K
 refine wpAnyH_done (by kernel_rfl) ?_ _
 go_wp2_with fail
 exact bodyPost_ret (ZaW rfl _ V18 0 rfl rfl Tryz.underlying146 Tryz.szW (Zae _)) rfl ⟨rfl,V18.bel⟩
theorem Zde (a b:Nat) (w:World) (ha:a<2^256) (hb:b<2^256):Calls Tryz.prog 153 #[.agg (wA a), .agg (wA b)] w fun e w'=>e= .returned (.agg (wA (a*b%fP)))∧Below w.heap.size w w':=
 ZpB a b ha hb (fun x w h=>Zpz x h (fun x w h=>Zlu x w h) w) w
end Go.Proofs.YtcaloldcihpkfaaGreatDoor.N

/-
  The code of layer 16 (field): a power by a function that is handed in; Is.
-/
namespace Go.Proofs.YtcaloldcihpkfaaGreatDoor.N
open Go.RowKit
set_option linter.unusedVariables false
set_option maxRecDepth 8192

theorem Zsn (n k:Nat):n/2^k=2*(n/2^(k+1))+n/2^k%2:=by
  have e:n/2^(k+1)=n/2^k/2:=by rw [Nat.pow_succ,Nat.div_div_eq_div_mul]
  rw [e];omega
theorem Zso {x e e' o:Nat} (ho:o=x^e%fP) (he:e'=2*e+1):(o*o%fP)*x%fP=x^e'%fP:=by
  rw [he,ho,Nat.pow_succ,Nat.two_mul,Nat.pow_add, ←Nat.mul_mod,Nat.mul_mod (x^e*x^e) x,Nat.mul_mod,Nat.mod_mod]
theorem Zsp {x e e' o:Nat} (ho:o=x^e%fP) (he:e'=2*e):o*o%fP=x^e'%fP:=by
  rw [he,ho,Nat.two_mul,Nat.pow_add, ←Nat.mul_mod]
theorem Zlx:Tryz.prog.built 146 [(0, .int .u64 1)]=some (wA 1):=ZkB 1 (by decide)
theorem Zly (x:Nat) (w:World):Calls Tryz.prog 172 #[.agg (wA x)] w fun e w'=>∃g,e= .returned (.func (.func 197) #[] #[.pointer (some ⟨g,0,none⟩)])∧w.heap.size≤g∧w'.heap[g]? =some (.cells (wA x) 146 (0,0))∧Below w.heap.size w w':=by
  have V0:=Vars.start w
  go_enter Tryz.func172,Tryz.ntmps172
  go_wp2_with (refine Zaj V0 1 146 _ rfl rfl rfl (wA x) rfl ?_;intro w1 g1 V1)
  go_ret
  exact ⟨g1,rfl,V1.low ⟨g1,146,wA x⟩ (by simp),V1.at 0 rfl,V1.bel⟩
set_option maxHeartbeats 800000 in
theorem Zhu (o x r : Nat) (b : Bool) (g : Nat) (w : World) (ho : o < fP) (hx : x < 2 ^ 256) (hg : w.heap[g]? = some (.cells (wA x) 146 (0, 0))) (hr : r = if b then (o * o % fP) * x % fP else o * o % fP) :
    Calls Tryz.prog 197 #[.agg (wA o), .bool b, .pointer (some ⟨g,0,none⟩)] w fun e w'=>e= .returned (.agg (wA r))∧Below w.heap.size w w':=by
  have HG:Hid (w.heap[g]? =some (.cells (wA x) 146 (0,0))):=hg
  have hgl:=Zat hg
  have P1:Hid (∀w,Rt Tryz.prog 153 #[.agg (wA o), .agg (wA o)] (.agg (wA (o*o%fP))) w):=fun w=>Zde o o w (Nat.lt_trans ho Zcy) (Nat.lt_trans ho Zcy)
  have P2:Hid (∀w,Rt Tryz.prog 153 #[.agg (wA (o*o%fP)), .agg (wA x)] (.agg (wA ((o*o%fP)*x%fP))) w):=fun w=>Zde _ x w (ZdA _) hx
  clear hg
  generalize (o*o%fP)*x%fP=z at*
  generalize o*o%fP=y at*
  clear ho hx
  cases b
  · obtain rfl:r=y:=hr
    have V0:=Vars.start w
    go_enter Tryz.func197,Tryz.ntmps197
    go_wp2_with (first
      | (refine Zaj V0 3 146 _ rfl rfl rfl (wA o) rfl ?_;intro w1 g2 V3)
      | (refine Zai V3 5 146 rfl rfl rfl (wA 0) ZaV ?_;intro w4 g5 V6)
      | (refine ZaM V6 1 rfl 6 _ rfl rfl rfl rfl Tryz.underlying146 Tryz.szW (Zae _) ?_)
      | (refine ZaM V6 1 rfl 7 _ rfl rfl rfl rfl Tryz.underlying146 Tryz.szW (Zae _) ?_))
    refine (P1.out w4).mono ?_
    rintro e w7 ⟨rfl,q9⟩
    have V8:=V6.call q9
    clear q9 V6
    go_wp2_with (first
      | (refine Zal V8 1 rfl _ (.tmp 8) rfl rfl rfl (wA r) rfl rfl Tryz.szW (Zae _) (Zae _) (ZaO _) ?_;intro w10 V11)
      | (refine ZaM V11 1 rfl 13 _ rfl rfl rfl rfl Tryz.underlying146 Tryz.szW (Zae _) ?_)
      | (refine Zal V11 0 rfl _ (.tmp 13) rfl rfl rfl (wA r) rfl rfl Tryz.szW (Zae _) (Zae _) (ZaO _) ?_;intro w12 V13))
    exact bodyPost_ret (ZaW rfl _ V13 0 rfl rfl Tryz.underlying146 Tryz.szW (Zae _)) rfl ⟨rfl,V13.bel⟩
  · obtain rfl:r=z:=hr
    have V0:=Vars.start w
    go_enter Tryz.func197,Tryz.ntmps197
    go_wp2_with (first
      | (refine Zaj V0 3 146 _ rfl rfl rfl (wA o) rfl ?_;intro w1 g2 V3)
      | (refine Zai V3 5 146 rfl rfl rfl (wA 0) ZaV ?_;intro w4 g5 V6)
      | (refine ZaM V6 1 rfl 6 _ rfl rfl rfl rfl Tryz.underlying146 Tryz.szW (Zae _) ?_)
      | (refine ZaM V6 1 rfl 7 _ rfl rfl rfl rfl Tryz.underlying146 Tryz.szW (Zae _) ?_))
    refine (P1.out w4).mono ?_
    rintro e w7 ⟨rfl,q9⟩
    have V8:=V6.call q9
    clear q9 V6
    go_wp2_with (first
      | (refine Zal V8 1 rfl _ (.tmp 8) rfl rfl rfl (wA y) rfl rfl Tryz.szW (Zae _) (Zae _) (ZaO _) ?_;intro w10 V11;have hgw:=(V11.bel.block g hgl).trans HG.out)
      | (refine ZaM V11 1 rfl 10 _ rfl rfl rfl rfl Tryz.underlying146 Tryz.szW (Zae _) ?_)
      | (refine Zax rfl (Zkf _ rfl g rfl hgw Tryz.underlying146 Tryz.szW (Zae _)) ?_))
    refine (P2.out w10).mono ?_
    rintro e w12 ⟨rfl,q14⟩
    have V13:=V11.call q14
    clear q14 V11
    go_wp2_with (first
      | (refine Zal V13 1 rfl _ (.tmp 12) rfl rfl rfl (wA r) rfl rfl Tryz.szW (Zae _) (Zae _) (ZaO _) ?_;intro w15 V16)
      | (refine ZaM V16 1 rfl 13 _ rfl rfl rfl rfl Tryz.underlying146 Tryz.szW (Zae _) ?_)
      | (refine Zal V16 0 rfl _ (.tmp 13) rfl rfl rfl (wA r) rfl rfl Tryz.szW (Zae _) (Zae _) (ZaO _) ?_;intro w17 V18))
    exact bodyPost_ret (ZaW rfl _ V18 0 rfl rfl Tryz.underlying146 Tryz.szW (Zae _)) rfl ⟨rfl,V18.bel⟩
set_option maxHeartbeats 1600000 in
theorem Zdl (n x g : Nat) (w : World) (hn : n < 2 ^ 256) (hx : x < 2 ^ 256) (hg : w.heap[g]? = some (.cells (wA x) 146 (0, 0))) :
    Calls Tryz.prog 171 #[.agg (wA n), .func (.func 197) #[] #[.pointer (some ⟨g,0,none⟩)]] w fun e w'=>e= .returned (.agg (wA (x^n%fP)))∧Below w.heap.size w w':=by
  have HG:Hid (w.heap[g]? =some (.cells (wA x) 146 (0,0))):=hg
  have hgl:=Zat hg
  have HX:Hid (x<2^256):=hx
  have HN:Hid (n<2^256):=hn
  clear hg hx hn
  have V0:=Vars.start w
  go_enter Tryz.func171,Tryz.ntmps171
  go_wp2_with (first
    | (refine Zaj V0 2 146 _ rfl rfl rfl (wA n) rfl ?_;intro w1 g2 V3)
    | (refine Zai V3 4 146 rfl rfl rfl (wA 0) ZaV ?_;intro w4 g5 V6)
    | (refine ZaR 7 146 _ rfl rfl rfl (wA 1) Zlx ?_)
    | (refine Zai V6 5 146 rfl rfl rfl (wA 0) ZaV ?_;intro w7 g8 V9)
    | (refine Zal V9 0 rfl _ (.tmp 7) rfl rfl rfl (wA 1) rfl rfl Tryz.szW (Zae _) (Zae _) (ZaO _) ?_;intro w10 V11))
  go_loopw [6] (fun y wr=>∃(k o:Nat),k≤256∧y= .int .i64 ((k:Int) - 1)∧Hid (o=x^(n/2^k)%fP)∧Hid (Vars w wr [⟨g8,146,wA o⟩,⟨g5,146,wA 0⟩,⟨g2,146,wA n⟩])) (fun y _=>((intOf y)+1).toNat)
  case atStart=>exact ⟨256,1,by omega,rfl,by show 1=_;rw [Nat.div_eq_of_lt HN.out,Nat.pow_zero];decide,V11⟩
  case round=>
    clear V11
    obtain ⟨k,o,hk,rfl,HO,HV⟩:=hrel
    by_cases h0:k=0
    · subst h0
      have HE:Hid (o=x^n%fP):=by show _=_;rw [HO.out,Nat.pow_zero,Nat.div_one]
      have V5:=HV.out
      rw [HE.out] at V5
      go_wp2_with (first
          | (refine ZaM V5 0 rfl 24 _ rfl rfl rfl rfl Tryz.underlying146 Tryz.szW (Zae _) ?_)
          | (refine Zal V5 1 rfl _ _ rfl rfl rfl _ rfl rfl Tryz.szW (Zae _) (Zae _) (ZaO _) ?_;intro w8 V8))
      exact bodyPost_ret (ZaW rfl _ V8 1 rfl rfl Tryz.underlying146 Tryz.szW (Zae _)) rfl ⟨rfl,V8.bel⟩
    · obtain ⟨i,rfl⟩:∃i,k=i+1:=⟨k - 1,by omega⟩
      have ei:(((i+1:Nat):Int) - 1)=(i:Int):=by omega
      rw [ei]
      have hi4:i/64<4:=by omega
      have HC:Hid (∀w':World,w'.heap[g2]? =some (.cells (wA n) 146 (0,0))→w'.cell? ⟨g2,i/64,none⟩=some (.int .u64 ((n/18446744073709551616^(i/64)%18446744073709551616:Nat):Int))):=by
        intro w' hw'
        rw [cell_of_row w' _ _ _ _ _ hw',Zgi n _ hi4]
      have hbit:=W.ZqT n i
      have hhalf:=Zsn n i
      have ho9:o<fP:=by rw [HO.out];exact ZcI _
      obtain ⟨b,hb⟩:∃b:Bool,(n/2^i%2==1)=b:=⟨_,rfl⟩
      obtain ⟨r,hr⟩:∃r,r=if b then (o*o%fP)*x%fP else o*o%fP:=⟨_,rfl⟩
      have HR:Hid (r=x^(n/2^i)%fP):=by
        show _=_
        rw [hr]
        cases b
        · exact Zsp HO.out (by have : n / 2 ^ i % 2 ≠ 1 := by simpa using hb
                               omega)
        · exact Zso HO.out (by have : n / 2 ^ i % 2 = 1 := by simpa using hb
                               omega)
      have HT:Hid (∀w',Below w.heap.size w w'→Rt Tryz.prog 197 #[.agg (wA o), .bool b, .pointer (some ⟨g,0,none⟩)] (.agg (wA r)) w'):=
        fun w' q=>Zhu o x r b g w' ho9 HX.out ((q.block g hgl).trans HG.out) hr
      have hwd:n/18446744073709551616^(i/64)%18446744073709551616<18446744073709551616:=Nat.mod_lt _ (by decide)
      rw [←hbit] at hb
      clear hhalf hbit hr ho9
      generalize n/18446744073709551616^(i/64)%18446744073709551616=wd at*
      have hr64:i%64<64:=Nat.mod_lt _ (by decide)
      have et:(i:Int).tdiv 64=((i/64:Nat):Int):=by rw [Int.tdiv_eq_ediv_of_nonneg (by omega)];omega
      have em:(i:Int).tmod 64=((i%64:Nat):Int):=by rw [Int.tmod_eq_emod_of_nonneg (by omega)];omega
      generalize i/64=q at*
      generalize i%64=rr at*
      have wq:IntKind.i64.wrap (q:Int)=(q:Int):=by rw [IntKind.wrap_i64];omega
      have wr2:IntKind.i64.wrap (rr:Int)=(rr:Int):=by rw [IntKind.wrap_i64];omega
      have hq4:(q:Int)<4:=by omega
      have hq5:¬(4:Int)≤(q:Int):=by omega
      have es:(wd:Int)/2^rr=((wd/2^rr:Nat):Int):=by simp
      have hy9:wd/2^rr≤wd:=Nat.div_le_self _ _
      generalize wd/2^rr=sh at*
      have ea:bits .and .u64 (sh:Int) 1=((sh%2:Nat):Int):=by
        have h:=bits_and_u64_nat sh 1 (by omega) (by decide)
        rw [show sh&&& 1=sh%2 from Nat.and_two_pow_sub_one_eq_mod _ 1] at h
        exact h
      have eb:(((sh%2:Nat):Int)==1)=b:=by rw [←hb,Bool.eq_iff_iff];simp;omega
      generalize sh%2=lb at*
      have VV:=HV.out
      clear hb HV
      go_wp2_with fail
      refine Zar (fun w'=>Vars w w' [⟨g5,146,wA 0⟩,⟨g2,146,wA n⟩]) (by kernel_rfl) ?_
      have V12:=VV.drew
      refine zR [0,2,3,4,5,6,7,8,9,10] 3 (by kernel_rfl) (fun _ _ _ _ _ h=>h) (V12.tail) fun K hK=> ?_
      refine Zah _ rfl (by rfl) rfl ?_
      go_simp
      refine Zah _ rfl (by rfl) rfl ?_
      go_simp
      refine zC (.int .i64 (q:Int)) rfl (by rfl) (fun w' hw'=> ?_) ?_
      · go_simp
      go_simp
      refine zC (.pointer (some ⟨g2,q,none⟩)) rfl (by rfl) (fun w' hw'=> ?_) ?_
      · go_simp
      go_simp
      refine zC (.int .u64 (wd:Int)) rfl (by rfl) (fun w' hw'=> ?_) ?_
      · have hcc:=HC.out w' (hw'.at 1 rfl)
        go_simp
      go_simp
      refine Zah _ rfl (by rfl) rfl ?_
      go_simp
      refine zC (.int .i64 (rr:Int)) rfl (by rfl) (fun w' hw'=> ?_) ?_
      · go_simp
      go_simp
      refine zC (.int .u64 (sh:Int)) rfl (by rfl) (fun w' hw'=> ?_) ?_
      · go_simp
      go_simp
      refine zC (.int .u64 (lb:Int)) rfl (by rfl) (fun w' hw'=> ?_) ?_
      · go_simp
      go_simp
      refine zC (.bool b) rfl (by rfl) (fun w' hw'=> ?_) ?_
      · go_simp
      go_simp
      refine Zac (hK.out _ ?_)
      clear hK K
      refine zO 1 2 (by kernel_rfl) rfl (by rfl) fun K hK=> ?_
      refine Zkg (ZaH V12 0 rfl _ rfl rfl Tryz.underlying146 Tryz.szW (Zae _)) ?_
      refine hK _ _ (V12.tail) ?_
      clear hK K
      go_simp
      refine zO 11 1 (by kernel_rfl) rfl (by rfl) fun K hK=> ?_
      go_simp
      refine (HT.out _ V12.bel).mono ?_
      rintro e w13 ⟨rfl,q15⟩
      have V14:=V12.call q15
      refine hK _ _ (V14.tail) ?_
      clear hK K q15
      refine zO 12 0 (by kernel_rfl) rfl (by rfl) fun K hK=> ?_
      refine ZbD V14 0 rfl _ _ rfl rfl (wA r) rfl rfl Tryz.szW (Zae _) (Zae _) (ZaO _) (fun w16 V17=> ?_)
      refine hK _ _ (V17.tail) ?_
      clear hK K
      refine wpAnyH_done (by kernel_rfl) ?_ _
      go_wp2
      go_roundw
      case rel=>exact ⟨i,r,by omega,by go_num,HR.out,V17⟩
      case measure=>simp [intOf]<;>omega
set_option maxHeartbeats 800000 in
theorem Zlz (a:Nat) (w:World) (ha:a<2^256):Calls Tryz.prog 73 #[.agg (bA a)] w fun e w'=>e= .returned (.bool (decide (a<fP)))∧Below w.heap.size w w':=by
  have HR:Hid (∀w,Rt Tryz.prog 112 #[.agg (bA a)] (.agg (wA a)) w):=fun w=>Zeu a ha w
  have HM:Hid (∀w,Rt Tryz.prog 111 #[.agg (wA a), .agg (wA fP)] (.tuple #[.agg (wA ((a+2^256 - fP)%2^256)), .bool (decide (a<fP))]) w):=fun w=>ZhV a fP ha Zcy w
  generalize (a+2^256 - fP)%2^256=z at*
  generalize decide (a<fP)=b at*
  clear ha
  have V0:=Vars.start w
  go_enter Tryz.func73,Tryz.ntmps73
  go_wp2_with (first
    | (refine Zaj V0 1 22 _ rfl rfl rfl (bA a) rfl ?_;intro w1 g2 V3)
    | (refine zD V3 0 rfl 6 _ rfl rfl rfl rfl ?_))
  refine (HR.out w1).mono ?_
  rintro e w4 ⟨rfl,q6⟩
  have V5:=V3.call q6
  clear q6 V3
  go_wp2_with fail
  refine (Zgk w4).mono ?_
  rintro e w7 ⟨rfl,q9⟩
  have V8:=V5.call q9
  clear q9 V5
  go_wp2_with fail
  refine (HM.out w7).mono ?_
  rintro e w10 ⟨rfl,q12⟩
  have V11:=V8.call q12
  clear q12 V8
  go_wp2_with (first
    | (refine Zai V11 3 146 rfl rfl rfl (wA 0) ZaV ?_;intro w13 g14 V15)
    | (refine Zal V15 0 rfl _ (.tmp 10) rfl rfl rfl (wA z) rfl rfl Tryz.szW (Zae _) (Zae _) (ZaO _) ?_;intro w16 V17))
  go_ret
  exact ⟨rfl,V17.bel⟩
end Go.Proofs.YtcaloldcihpkfaaGreatDoor.N
