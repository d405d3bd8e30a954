/-
 The code of layer 17 (curve): Pack, Unpack.
-/
import Derived.Test.YtcaloldcihpkfaaGreatDoorMPackFb
import Derived.Test.YtcaloldcihpkfaaGreatDoorMCurveCode5
import Derived.Deep.CutRange
namespace Go.Proofs.YtcaloldcihpkfaaGreatDoor.N
open Go.RowKit
set_option linter.unusedVariables false
set_option maxRecDepth 8192

theorem Zmh (x:Nat) (hx:x<256):bits .and .u8 (x:Int) 1=((x%2:Nat):Int):=by
 have h:=u8_and_nat x 1 (by omega) (by decide)
 rw [show x&&& 1=x%2 from Nat.and_two_pow_sub_one_eq_mod _ 1] at h
 exact h
theorem ZtM:∀x:Fin 256,x.val&&& 128=x.val/128*128:=by decide
theorem ZtN:∀x:Fin 128,x.val|||128=x.val+128:=by decide
theorem ZtO:∀x:Fin 256,x.val&&& (255 - 128)=x.val%128:=by decide
theorem ZtP (x:Nat) (hx:x<256):bits .and .u8 (x:Int) 128=((x/128*128:Nat):Int):=by
 have h:=u8_and_nat x 128 hx (by decide)
 rw [ZtM ⟨x,hx⟩] at h
 exact h
theorem ZtQ (x:Nat) (hx:x<128):bits .or .u8 (x:Int) 128=((x+128:Nat):Int):=by
 have h:=u8_or_nat x 128 (by omega) (by decide)
 rw [ZtN ⟨x,hx⟩] at h
 exact h
theorem Zmi (x:Nat) (hx:x<256):bits .andNot .u8 (x:Int) 128=((x%128:Nat):Int):=by
 have h:=u8_andNot_nat x 128 hx (by decide)
 rw [ZtO ⟨x,hx⟩] at h
 exact h
theorem ZtR (x:Nat):x/256^0%256%2=x%2:=by rw [Nat.pow_zero,Nat.div_one,Nat.mod_mod_of_dvd _ (by decide)]
set_option maxHeartbeats 800000 in
theorem ZtS (x y x0:Nat) (w:World) (hd:DAt w) (HX:Hid (∀w,DAt w→Rt Tryz.prog 80 #[.agg (pA x y)] (.bool true) w)) (HX0:Hid ((pA x y)[0]? =some (.int .u8 (x0:Int)))) (hx9:x0<256) (ea:bits .and .u8 (x0:Int) 1=0):Calls Tryz.prog 87 #[.agg (pA x y)] w fun e w'=>e= .returned (.tuple #[.agg (bA y), .int .i64 0])∧Below w.heap.size w w':=by
 have V0:=Vars.start w
 go_enter Tryz.func87,Tryz.ntmps87
 go_wp2_with (first
  | (refine Zaj V0 1 76 _ rfl rfl rfl (pA x y) rfl ?_;intro w1 g2 V3)
  | (refine zA V3 2 rfl rfl rfl ?_;intro w4 g5 V6)
  | (refine Zax rfl (Zbn V6 1 rfl _ rfl rfl Tryz.underlying76 Tryz.szP (Zak _ _)) ?_))
 refine (HX.out w4 (hd.of V6)).mono ?_
 rintro e w7 ⟨rfl,q9⟩
 have V8:=V6.call q9
 clear q9 V6
 go_upto_region 4 with (first
  | (refine Zax rfl (ZaT V8 1 rfl 32 (ZdB _ _) _ rfl rfl Tryz.underlying22 Tryz.szB (Zaf _)) ?_)
  | (refine zA V8 4 rfl rfl rfl ?_;intro w10 g11 V12)
  | (refine zL V12 0 rfl _ (.tmp 10) rfl rfl rfl y rfl rfl ?_;intro w13 V14))
 have hc0:=Zbz V14 2 rfl 0 HX0.out
 go_wp2_with (first
  | (refine zD V14 0 rfl 20 _ rfl rfl rfl rfl ?_)
  | (refine zL V14 1 rfl _ (.tmp 20) rfl rfl rfl y rfl rfl ?_;intro w15 V16))
 exact bodyPost_ret (Zcv rfl _ V16 1 rfl rfl Tryz.underlying22 Tryz.szB (Zaf _)) rfl ⟨rfl,V16.bel⟩
set_option maxHeartbeats 800000 in
theorem ZtT (x y x0 y31 yo r:Nat) (w:World) (hd:DAt w) (HX:Hid (∀w,DAt w→Rt Tryz.prog 80 #[.agg (pA x y)] (.bool true) w)) (HX0:Hid ((pA x y)[0]? =some (.int .u8 (x0:Int)))) (hx9:x0<256) (ea:bits .and .u8 (x0:Int) 1=1) (HY31:Hid ((bA y)[31]? =some (.int .u8 (y31:Int)))) (hy9:y31<128) (eo:bits .or .u8 (y31:Int) 128=(yo:Int)) (HS:Hid ((digL y 32).set 31 yo=digL r 32)):Calls Tryz.prog 87 #[.agg (pA x y)] w fun e w'=>e= .returned (.tuple #[.agg (bA r), .int .i64 0])∧Below w.heap.size w w':=by
 have V0:=Vars.start w
 go_enter Tryz.func87,Tryz.ntmps87
 go_wp2_with (first
  | (refine Zaj V0 1 76 _ rfl rfl rfl (pA x y) rfl ?_;intro w1 g2 V3)
  | (refine zA V3 2 rfl rfl rfl ?_;intro w4 g5 V6)
  | (refine Zax rfl (Zbn V6 1 rfl _ rfl rfl Tryz.underlying76 Tryz.szP (Zak _ _)) ?_))
 refine (HX.out w4 (hd.of V6)).mono ?_
 rintro e w7 ⟨rfl,q9⟩
 have V8:=V6.call q9
 clear q9 V6
 go_upto_region 4 with (first
  | (refine Zax rfl (ZaT V8 1 rfl 32 (ZdB _ _) _ rfl rfl Tryz.underlying22 Tryz.szB (Zaf _)) ?_)
  | (refine zA V8 4 rfl rfl rfl ?_;intro w10 g11 V12)
  | (refine zL V12 0 rfl _ (.tmp 10) rfl rfl rfl y rfl rfl ?_;intro w13 V14))
 have hc0:=Zbz V14 2 rfl 0 HX0.out
 have hc31:=Zbz V14 0 rfl 31 HY31.out
 have hfz:=ZaJ (V14.at 0 rfl) 31
 have VB:Vars w (w13.setCell ⟨g11,31,none⟩ (.int .u8 (yo:Int))) [⟨g11,22,bA r⟩,⟨g5,22,bA 0⟩,⟨g2,76,pA x y⟩]:=V14.setB 0 rfl 31 yo r HS.out
 clear V14
 go_wp2_with (first
  | (refine zD VB 0 rfl 20 _ rfl rfl rfl rfl ?_)
  | (refine zL VB 1 rfl _ (.tmp 20) rfl rfl rfl r rfl rfl ?_;intro w15 V16))
 exact bodyPost_ret (Zcv rfl _ V16 1 rfl rfl Tryz.underlying22 Tryz.szB (Zaf _)) rfl ⟨rfl,V16.bel⟩
theorem ZtU {p:Pt} (hp:OnC p) (w:World) (hd:DAt w):Calls Tryz.prog 87 #[.agg (pA p.x.val p.y.val)] w fun e w'=>e= .returned (.tuple #[.agg (bA (Zaw p)), .int .i64 0])∧Below w.heap.size w w':=by
 have hx0:=ZtR p.x.val
 have hy:=Nat.lt_trans p.y.isLt ZiD
 have hh:=ZsY hy
 have h9:p.x.val/256^0%256<256:=Nat.mod_lt _ (by decide)
 have hg0:=ZsX p.x.val p.y.val 0 (by decide)
 have hg31:=Zc8 p.y.val 31 (by decide)
 rcases Nat.mod_two_eq_zero_or_one p.x.val with h|h
 ·have e:Zaw p=p.y.val:=by unfold Zaw;rw [h];rfl
  rw [e]
  rw [h] at hx0
  generalize p.x.val/256^0%256=x0 at*
  exact ZtS _ _ x0 w hd (fun w hd=>ZfD hp w hd) hg0 h9 (by rw [Zmh _ h9,hx0];rfl)
 ·have e:Zaw p=p.y.val+2^255:=by unfold Zaw;rw [h,Nat.mul_one]
  rw [e]
  rw [h] at hx0
  obtain ⟨hh1,hh2⟩:=hh
  generalize p.x.val/256^0%256=x0 at*
  generalize p.y.val/256^31%256=y31 at*
  exact ZtT _ _ x0 y31 (y31+128) _ w hd (fun w hd=>ZfD hp w hd) hg0 h9 (by rw [Zmh _ h9,hx0];rfl) hg31 hh1 (ZtQ _ hh1) hh2
set_option maxHeartbeats 1600000 in
theorem ZtV (b yl b31 yo:Nat) (w:World) (hd:DAt w) (HB:Hid ((bA b)[31]? =some (.int .u8 (b31:Int)))) (hb9:b31<256) (ea:bits .and .u8 (b31:Int) 128=0) (en:bits .andNot .u8 (b31:Int) 128=(yo:Int)) (HS:Hid ((digL b 32).set 31 yo=digL yl 32)) (HI:Hid (∀w,Rt Tryz.prog 73 #[.agg (bA yl)] (.bool false) w)):Calls Tryz.prog 32 #[.agg (bA b)] w fun e w'=>e= .returned (.tuple #[.agg (pA 0 0), .int .i64 170])∧Below w.heap.size w w':=by
 have V0:=Vars.start w
 go_enter Tryz.func32,Tryz.ntmps32
 go_wp2_with (first
  | (refine Zaj V0 1 22 _ rfl rfl rfl (bA b) rfl ?_;intro w1 g2 V3)
  | (refine Zai V3 2 76 rfl rfl rfl (pA 0 0) Za7 ?_;intro w4 g5 V6))
 refine Zar (fun w'=>Vars w w' [⟨g5,76,pA 0 0⟩,⟨g2,22,bA b⟩]) (by kernel_rfl) ?_
 have V7:=V6.drew
 refine zR [0,1,2,3,4] 3 (by kernel_rfl) (fun _ _ _ _ _ h=>h) V7 fun K hK=> ?_
 refine zC (.agg (bA b)) rfl (by rfl) (fun w' hw'=>zB hw' 1 rfl _ rfl rfl) ?_
 go_simp
 refine zC (.pointer (some ⟨g2,31,none⟩)) rfl (by rfl) (fun w' hw'=> ?_) ?_
 ·go_simp
 go_simp
 refine zC (.int .u8 (b31:Int)) rfl (by rfl) (fun w' hw'=> ?_) ?_
 ·have hcc:=Zbz hw' 1 rfl 31 HB.out
  go_simp
 go_simp
 refine zC (.int .u8 0) rfl (by rfl) (fun w' hw'=> ?_) ?_
 ·go_simp
 go_simp
 refine zC (.bool false) rfl (by rfl) (fun w' hw'=> ?_) ?_
 ·go_simp
 go_simp
 refine Zac (hK.out _ ?_)
 clear hK K
 refine zO 5 2 (by kernel_rfl) rfl (by rfl) fun K hK=> ?_
 refine zN V7 4 rfl rfl (fun w8 g9 V10=> ?_)
 refine hK _ _ (V10.tail) ?_
 clear hK K
 refine zO 6 1 (by kernel_rfl) rfl (by rfl) fun K hK=> ?_
 refine zS V10 0 rfl _ _ rfl rfl b rfl rfl (fun w11 V12=> ?_)
 refine hK _ _ (V12.tail) ?_
 clear hK K
 refine zR [7] 0 (by kernel_rfl) (fun _ _ _ _ _ h=>h) (V12.tail) fun K hK=> ?_
 go_simp
 refine ZaB _ rfl (by rfl) rfl ?_
 go_simp
 refine Zac (hK.out _ ?_)
 clear hK K
 refine wpAnyH_done (by kernel_rfl) ?_ _
 have hc31:=Zbz V12 0 rfl 31 HB.out
 have hfz:=ZaJ (V12.at 0 rfl) 31
 have VB:Vars w (w11.setCell ⟨g9,31,none⟩ (.int .u8 (yo:Int))) [⟨g9,22,bA yl⟩,⟨g5,76,pA 0 0⟩,⟨g2,22,bA b⟩]:=V12.setB 0 rfl 31 yo yl HS.out
 clear V12
 go_wp2_with (refine zD VB 0 rfl 17 _ rfl rfl rfl rfl ?_)
 refine (HI.out (w11.setCell ⟨g9,31,none⟩ (.int .u8 (yo:Int)))).mono ?_
 rintro e w13 ⟨rfl,q15⟩
 have V14:=VB.call q15
 clear q15 VB
 go_wp2_with (first
  | (refine ZaR 20 76 _ rfl rfl rfl (pA 0 0) Zfx ?_)
  | (refine Zal V14 1 rfl _ (.tmp 20) rfl rfl rfl (pA 0 0) rfl rfl Tryz.szP (Zak _ _) (Zak _ _) (Za6 _ _) ?_;intro w16 V17))
 exact bodyPost_ret (Zdg rfl _ V17 1 rfl rfl Tryz.underlying76 Tryz.szP (Zak _ _)) rfl ⟨rfl,V17.bel⟩
set_option maxHeartbeats 1600000 in
theorem ZtW (b yl b31 yo:Nat) (w:World) (hd:DAt w) (HB:Hid ((bA b)[31]? =some (.int .u8 (b31:Int)))) (hb9:b31<256) (ea:bits .and .u8 (b31:Int) 128=0) (en:bits .andNot .u8 (b31:Int) 128=(yo:Int)) (HS:Hid ((digL b 32).set 31 yo=digL yl 32)) (HI:Hid (∀w,Rt Tryz.prog 73 #[.agg (bA yl)] (.bool true) w)) (HA:Hid (∀w,DAt w→Rt Tryz.prog 74 #[.agg (bA yl)] (.tuple #[.agg (bA 0), .bool false]) w)):Calls Tryz.prog 32 #[.agg (bA b)] w fun e w'=>e= .returned (.tuple #[.agg (pA 0 0), .int .i64 170])∧Below w.heap.size w w':=by
 have V0:=Vars.start w
 go_enter Tryz.func32,Tryz.ntmps32
 go_wp2_with (first
  | (refine Zaj V0 1 22 _ rfl rfl rfl (bA b) rfl ?_;intro w1 g2 V3)
  | (refine Zai V3 2 76 rfl rfl rfl (pA 0 0) Za7 ?_;intro w4 g5 V6))
 refine Zar (fun w'=>Vars w w' [⟨g5,76,pA 0 0⟩,⟨g2,22,bA b⟩]) (by kernel_rfl) ?_
 have V7:=V6.drew
 refine zR [0,1,2,3,4] 3 (by kernel_rfl) (fun _ _ _ _ _ h=>h) V7 fun K hK=> ?_
 refine zC (.agg (bA b)) rfl (by rfl) (fun w' hw'=>zB hw' 1 rfl _ rfl rfl) ?_
 go_simp
 refine zC (.pointer (some ⟨g2,31,none⟩)) rfl (by rfl) (fun w' hw'=> ?_) ?_
 ·go_simp
 go_simp
 refine zC (.int .u8 (b31:Int)) rfl (by rfl) (fun w' hw'=> ?_) ?_
 ·have hcc:=Zbz hw' 1 rfl 31 HB.out
  go_simp
 go_simp
 refine zC (.int .u8 0) rfl (by rfl) (fun w' hw'=> ?_) ?_
 ·go_simp
 go_simp
 refine zC (.bool false) rfl (by rfl) (fun w' hw'=> ?_) ?_
 ·go_simp
 go_simp
 refine Zac (hK.out _ ?_)
 clear hK K
 refine zO 5 2 (by kernel_rfl) rfl (by rfl) fun K hK=> ?_
 refine zN V7 4 rfl rfl (fun w8 g9 V10=> ?_)
 refine hK _ _ (V10.tail) ?_
 clear hK K
 refine zO 6 1 (by kernel_rfl) rfl (by rfl) fun K hK=> ?_
 refine zS V10 0 rfl _ _ rfl rfl b rfl rfl (fun w11 V12=> ?_)
 refine hK _ _ (V12.tail) ?_
 clear hK K
 refine zR [7] 0 (by kernel_rfl) (fun _ _ _ _ _ h=>h) (V12.tail) fun K hK=> ?_
 go_simp
 refine ZaB _ rfl (by rfl) rfl ?_
 go_simp
 refine Zac (hK.out _ ?_)
 clear hK K
 refine wpAnyH_done (by kernel_rfl) ?_ _
 have hc31:=Zbz V12 0 rfl 31 HB.out
 have hfz:=ZaJ (V12.at 0 rfl) 31
 have VB:Vars w (w11.setCell ⟨g9,31,none⟩ (.int .u8 (yo:Int))) [⟨g9,22,bA yl⟩,⟨g5,76,pA 0 0⟩,⟨g2,22,bA b⟩]:=V12.setB 0 rfl 31 yo yl HS.out
 clear V12
 go_wp2_with (refine zD VB 0 rfl 17 _ rfl rfl rfl rfl ?_)
 refine (HI.out (w11.setCell ⟨g9,31,none⟩ (.int .u8 (yo:Int)))).mono ?_
 rintro e w13 ⟨rfl,q15⟩
 have V14:=VB.call q15
 clear q15 VB
 go_wp2_with (refine zD V14 0 rfl 22 _ rfl rfl rfl rfl ?_)
 refine (HA.out w13 (hd.of V14)).mono ?_
 rintro e w16 ⟨rfl,q18⟩
 have V17:=V14.call q18
 clear q18 V14
 go_wp2_with (first
  | (refine zA V17 6 rfl rfl rfl ?_;intro w19 g20 V21)
  | (refine zL V21 0 rfl _ (.tmp 24) rfl rfl rfl 0 rfl rfl ?_;intro w22 V23)
  | (refine ZaR 36 76 _ rfl rfl rfl (pA 0 0) Zfx ?_)
  | (refine Zal V23 2 rfl _ (.tmp 36) rfl rfl rfl (pA 0 0) rfl rfl Tryz.szP (Zak _ _) (Zak _ _) (Za6 _ _) ?_;intro w24 V25))
 exact bodyPost_ret (Zdg rfl _ V25 2 rfl rfl Tryz.underlying76 Tryz.szP (Zak _ _)) rfl ⟨rfl,V25.bel⟩
set_option maxHeartbeats 1600000 in
theorem ZtX (b yl b31 yo x:Nat) (w:World) (hd:DAt w) (HB:Hid ((bA b)[31]? =some (.int .u8 (b31:Int)))) (hb9:b31<256) (ea:bits .and .u8 (b31:Int) 128=0) (en:bits .andNot .u8 (b31:Int) 128=(yo:Int)) (HS:Hid ((digL b 32).set 31 yo=digL yl 32)) (HI:Hid (∀w,Rt Tryz.prog 73 #[.agg (bA yl)] (.bool true) w)) (HA:Hid (∀w,DAt w→Rt Tryz.prog 74 #[.agg (bA yl)] (.tuple #[.agg (bA x), .bool true]) w)):Calls Tryz.prog 32 #[.agg (bA b)] w fun e w'=>e= .returned (.tuple #[.agg (pA x yl), .int .i64 0])∧Below w.heap.size w w':=by
 have V0:=Vars.start w
 go_enter Tryz.func32,Tryz.ntmps32
 go_wp2_with (first
  | (refine Zaj V0 1 22 _ rfl rfl rfl (bA b) rfl ?_;intro w1 g2 V3)
  | (refine Zai V3 2 76 rfl rfl rfl (pA 0 0) Za7 ?_;intro w4 g5 V6))
 refine Zar (fun w'=>Vars w w' [⟨g5,76,pA 0 0⟩,⟨g2,22,bA b⟩]) (by kernel_rfl) ?_
 have V7:=V6.drew
 refine zR [0,1,2,3,4] 3 (by kernel_rfl) (fun _ _ _ _ _ h=>h) V7 fun K hK=> ?_
 refine zC (.agg (bA b)) rfl (by rfl) (fun w' hw'=>zB hw' 1 rfl _ rfl rfl) ?_
 go_simp
 refine zC (.pointer (some ⟨g2,31,none⟩)) rfl (by rfl) (fun w' hw'=> ?_) ?_
 ·go_simp
 go_simp
 refine zC (.int .u8 (b31:Int)) rfl (by rfl) (fun w' hw'=> ?_) ?_
 ·have hcc:=Zbz hw' 1 rfl 31 HB.out
  go_simp
 go_simp
 refine zC (.int .u8 0) rfl (by rfl) (fun w' hw'=> ?_) ?_
 ·go_simp
 go_simp
 refine zC (.bool false) rfl (by rfl) (fun w' hw'=> ?_) ?_
 ·go_simp
 go_simp
 refine Zac (hK.out _ ?_)
 clear hK K
 refine zO 5 2 (by kernel_rfl) rfl (by rfl) fun K hK=> ?_
 refine zN V7 4 rfl rfl (fun w8 g9 V10=> ?_)
 refine hK _ _ (V10.tail) ?_
 clear hK K
 refine zO 6 1 (by kernel_rfl) rfl (by rfl) fun K hK=> ?_
 refine zS V10 0 rfl _ _ rfl rfl b rfl rfl (fun w11 V12=> ?_)
 refine hK _ _ (V12.tail) ?_
 clear hK K
 refine zR [7] 0 (by kernel_rfl) (fun _ _ _ _ _ h=>h) (V12.tail) fun K hK=> ?_
 go_simp
 refine ZaB _ rfl (by rfl) rfl ?_
 go_simp
 refine Zac (hK.out _ ?_)
 clear hK K
 refine wpAnyH_done (by kernel_rfl) ?_ _
 have hc31:=Zbz V12 0 rfl 31 HB.out
 have hfz:=ZaJ (V12.at 0 rfl) 31
 have VB:Vars w (w11.setCell ⟨g9,31,none⟩ (.int .u8 (yo:Int))) [⟨g9,22,bA yl⟩,⟨g5,76,pA 0 0⟩,⟨g2,22,bA b⟩]:=V12.setB 0 rfl 31 yo yl HS.out
 clear V12
 go_wp2_with (refine zD VB 0 rfl 17 _ rfl rfl rfl rfl ?_)
 refine (HI.out (w11.setCell ⟨g9,31,none⟩ (.int .u8 (yo:Int)))).mono ?_
 rintro e w13 ⟨rfl,q15⟩
 have V14:=VB.call q15
 clear q15 VB
 go_wp2_with (refine zD V14 0 rfl 22 _ rfl rfl rfl rfl ?_)
 refine (HA.out w13 (hd.of V14)).mono ?_
 rintro e w16 ⟨rfl,q18⟩
 have V17:=V14.call q18
 clear q18 V14
 go_wp2_with (first
  | (refine zA V17 6 rfl rfl rfl ?_;intro w19 g20 V21)
  | (refine zL V21 0 rfl _ (.tmp 24) rfl rfl rfl x rfl rfl ?_;intro w22 V23)
  | (refine zD V23 0 rfl 41 _ rfl rfl rfl rfl ?_)
  | (refine zD V23 1 rfl 42 _ rfl rfl rfl rfl ?_)
  | (refine ZaR 43 76 _ rfl rfl rfl (pA x yl) (ZgB _ _) ?_)
  | (refine Zal V23 2 rfl _ (.tmp 43) rfl rfl rfl (pA x yl) rfl rfl Tryz.szP (Zak _ _) (Zak _ _) (Za6 _ _) ?_;intro w24 V25))
 exact bodyPost_ret (Zdg rfl _ V25 2 rfl rfl Tryz.underlying76 Tryz.szP (Zak _ _)) rfl ⟨rfl,V25.bel⟩
set_option maxHeartbeats 1600000 in
theorem ZtY (b yl b31 yo:Nat) (w:World) (hd:DAt w) (HB:Hid ((bA b)[31]? =some (.int .u8 (b31:Int)))) (hb9:b31<256) (ea:bits .and .u8 (b31:Int) 128=128) (en:bits .andNot .u8 (b31:Int) 128=(yo:Int)) (HS:Hid ((digL b 32).set 31 yo=digL yl 32)) (HI:Hid (∀w,Rt Tryz.prog 73 #[.agg (bA yl)] (.bool false) w)):Calls Tryz.prog 32 #[.agg (bA b)] w fun e w'=>e= .returned (.tuple #[.agg (pA 0 0), .int .i64 170])∧Below w.heap.size w w':=by
 have V0:=Vars.start w
 go_enter Tryz.func32,Tryz.ntmps32
 go_wp2_with (first
  | (refine Zaj V0 1 22 _ rfl rfl rfl (bA b) rfl ?_;intro w1 g2 V3)
  | (refine Zai V3 2 76 rfl rfl rfl (pA 0 0) Za7 ?_;intro w4 g5 V6))
 refine Zar (fun w'=>Vars w w' [⟨g5,76,pA 0 0⟩,⟨g2,22,bA b⟩]) (by kernel_rfl) ?_
 have V7:=V6.drew
 refine zR [0,1,2,3,4] 3 (by kernel_rfl) (fun _ _ _ _ _ h=>h) V7 fun K hK=> ?_
 refine zC (.agg (bA b)) rfl (by rfl) (fun w' hw'=>zB hw' 1 rfl _ rfl rfl) ?_
 go_simp
 refine zC (.pointer (some ⟨g2,31,none⟩)) rfl (by rfl) (fun w' hw'=> ?_) ?_
 ·go_simp
 go_simp
 refine zC (.int .u8 (b31:Int)) rfl (by rfl) (fun w' hw'=> ?_) ?_
 ·have hcc:=Zbz hw' 1 rfl 31 HB.out
  go_simp
 go_simp
 refine zC (.int .u8 128) rfl (by rfl) (fun w' hw'=> ?_) ?_
 ·go_simp
 go_simp
 refine zC (.bool true) rfl (by rfl) (fun w' hw'=> ?_) ?_
 ·go_simp
 go_simp
 refine Zac (hK.out _ ?_)
 clear hK K
 refine zO 5 2 (by kernel_rfl) rfl (by rfl) fun K hK=> ?_
 refine zN V7 4 rfl rfl (fun w8 g9 V10=> ?_)
 refine hK _ _ (V10.tail) ?_
 clear hK K
 refine zO 6 1 (by kernel_rfl) rfl (by rfl) fun K hK=> ?_
 refine zS V10 0 rfl _ _ rfl rfl b rfl rfl (fun w11 V12=> ?_)
 refine hK _ _ (V12.tail) ?_
 clear hK K
 refine zR [7] 0 (by kernel_rfl) (fun _ _ _ _ _ h=>h) (V12.tail) fun K hK=> ?_
 go_simp
 refine ZaB _ rfl (by rfl) rfl ?_
 go_simp
 refine Zac (hK.out _ ?_)
 clear hK K
 refine wpAnyH_done (by kernel_rfl) ?_ _
 have hc31:=Zbz V12 0 rfl 31 HB.out
 have hfz:=ZaJ (V12.at 0 rfl) 31
 have VB:Vars w (w11.setCell ⟨g9,31,none⟩ (.int .u8 (yo:Int))) [⟨g9,22,bA yl⟩,⟨g5,76,pA 0 0⟩,⟨g2,22,bA b⟩]:=V12.setB 0 rfl 31 yo yl HS.out
 clear V12
 go_wp2_with (refine zD VB 0 rfl 17 _ rfl rfl rfl rfl ?_)
 refine (HI.out (w11.setCell ⟨g9,31,none⟩ (.int .u8 (yo:Int)))).mono ?_
 rintro e w13 ⟨rfl,q15⟩
 have V14:=VB.call q15
 clear q15 VB
 go_wp2_with (first
  | (refine ZaR 20 76 _ rfl rfl rfl (pA 0 0) Zfx ?_)
  | (refine Zal V14 1 rfl _ (.tmp 20) rfl rfl rfl (pA 0 0) rfl rfl Tryz.szP (Zak _ _) (Zak _ _) (Za6 _ _) ?_;intro w16 V17))
 exact bodyPost_ret (Zdg rfl _ V17 1 rfl rfl Tryz.underlying76 Tryz.szP (Zak _ _)) rfl ⟨rfl,V17.bel⟩
set_option maxHeartbeats 1600000 in
theorem ZtZ (b yl b31 yo:Nat) (w:World) (hd:DAt w) (HB:Hid ((bA b)[31]? =some (.int .u8 (b31:Int)))) (hb9:b31<256) (ea:bits .and .u8 (b31:Int) 128=128) (en:bits .andNot .u8 (b31:Int) 128=(yo:Int)) (HS:Hid ((digL b 32).set 31 yo=digL yl 32)) (HI:Hid (∀w,Rt Tryz.prog 73 #[.agg (bA yl)] (.bool true) w)) (HA:Hid (∀w,DAt w→Rt Tryz.prog 74 #[.agg (bA yl)] (.tuple #[.agg (bA 0), .bool false]) w)):Calls Tryz.prog 32 #[.agg (bA b)] w fun e w'=>e= .returned (.tuple #[.agg (pA 0 0), .int .i64 170])∧Below w.heap.size w w':=by
 have V0:=Vars.start w
 go_enter Tryz.func32,Tryz.ntmps32
 go_wp2_with (first
  | (refine Zaj V0 1 22 _ rfl rfl rfl (bA b) rfl ?_;intro w1 g2 V3)
  | (refine Zai V3 2 76 rfl rfl rfl (pA 0 0) Za7 ?_;intro w4 g5 V6))
 refine Zar (fun w'=>Vars w w' [⟨g5,76,pA 0 0⟩,⟨g2,22,bA b⟩]) (by kernel_rfl) ?_
 have V7:=V6.drew
 refine zR [0,1,2,3,4] 3 (by kernel_rfl) (fun _ _ _ _ _ h=>h) V7 fun K hK=> ?_
 refine zC (.agg (bA b)) rfl (by rfl) (fun w' hw'=>zB hw' 1 rfl _ rfl rfl) ?_
 go_simp
 refine zC (.pointer (some ⟨g2,31,none⟩)) rfl (by rfl) (fun w' hw'=> ?_) ?_
 ·go_simp
 go_simp
 refine zC (.int .u8 (b31:Int)) rfl (by rfl) (fun w' hw'=> ?_) ?_
 ·have hcc:=Zbz hw' 1 rfl 31 HB.out
  go_simp
 go_simp
 refine zC (.int .u8 128) rfl (by rfl) (fun w' hw'=> ?_) ?_
 ·go_simp
 go_simp
 refine zC (.bool true) rfl (by rfl) (fun w' hw'=> ?_) ?_
 ·go_simp
 go_simp
 refine Zac (hK.out _ ?_)
 clear hK K
 refine zO 5 2 (by kernel_rfl) rfl (by rfl) fun K hK=> ?_
 refine zN V7 4 rfl rfl (fun w8 g9 V10=> ?_)
 refine hK _ _ (V10.tail) ?_
 clear hK K
 refine zO 6 1 (by kernel_rfl) rfl (by rfl) fun K hK=> ?_
 refine zS V10 0 rfl _ _ rfl rfl b rfl rfl (fun w11 V12=> ?_)
 refine hK _ _ (V12.tail) ?_
 clear hK K
 refine zR [7] 0 (by kernel_rfl) (fun _ _ _ _ _ h=>h) (V12.tail) fun K hK=> ?_
 go_simp
 refine ZaB _ rfl (by rfl) rfl ?_
 go_simp
 refine Zac (hK.out _ ?_)
 clear hK K
 refine wpAnyH_done (by kernel_rfl) ?_ _
 have hc31:=Zbz V12 0 rfl 31 HB.out
 have hfz:=ZaJ (V12.at 0 rfl) 31
 have VB:Vars w (w11.setCell ⟨g9,31,none⟩ (.int .u8 (yo:Int))) [⟨g9,22,bA yl⟩,⟨g5,76,pA 0 0⟩,⟨g2,22,bA b⟩]:=V12.setB 0 rfl 31 yo yl HS.out
 clear V12
 go_wp2_with (refine zD VB 0 rfl 17 _ rfl rfl rfl rfl ?_)
 refine (HI.out (w11.setCell ⟨g9,31,none⟩ (.int .u8 (yo:Int)))).mono ?_
 rintro e w13 ⟨rfl,q15⟩
 have V14:=VB.call q15
 clear q15 VB
 go_wp2_with (refine zD V14 0 rfl 22 _ rfl rfl rfl rfl ?_)
 refine (HA.out w13 (hd.of V14)).mono ?_
 rintro e w16 ⟨rfl,q18⟩
 have V17:=V14.call q18
 clear q18 V14
 go_wp2_with (first
  | (refine zA V17 6 rfl rfl rfl ?_;intro w19 g20 V21)
  | (refine zL V21 0 rfl _ (.tmp 24) rfl rfl rfl 0 rfl rfl ?_;intro w22 V23)
  | (refine ZaR 36 76 _ rfl rfl rfl (pA 0 0) Zfx ?_)
  | (refine Zal V23 2 rfl _ (.tmp 36) rfl rfl rfl (pA 0 0) rfl rfl Tryz.szP (Zak _ _) (Zak _ _) (Za6 _ _) ?_;intro w24 V25))
 exact bodyPost_ret (Zdg rfl _ V25 2 rfl rfl Tryz.underlying76 Tryz.szP (Zak _ _)) rfl ⟨rfl,V25.bel⟩
set_option maxHeartbeats 1600000 in
theorem Zt0 (b yl b31 yo x nx:Nat) (w:World) (hd:DAt w) (HB:Hid ((bA b)[31]? =some (.int .u8 (b31:Int)))) (hb9:b31<256) (ea:bits .and .u8 (b31:Int) 128=128) (en:bits .andNot .u8 (b31:Int) 128=(yo:Int)) (HS:Hid ((digL b 32).set 31 yo=digL yl 32)) (HI:Hid (∀w,Rt Tryz.prog 73 #[.agg (bA yl)] (.bool true) w)) (HA:Hid (∀w,DAt w→Rt Tryz.prog 74 #[.agg (bA yl)] (.tuple #[.agg (bA x), .bool true]) w)) (HE:Hid (decide (x=0)=false)) (HL:Hid (x<2^256)) (HN:Hid (∀w,Rt Tryz.prog 75 #[.agg (bA 0), .agg (bA x)] (.agg (bA nx)) w)):Calls Tryz.prog 32 #[.agg (bA b)] w fun e w'=>e= .returned (.tuple #[.agg (pA nx yl), .int .i64 0])∧Below w.heap.size w w':=by
 have V0:=Vars.start w
 go_enter Tryz.func32,Tryz.ntmps32
 go_wp2_with (first
  | (refine Zaj V0 1 22 _ rfl rfl rfl (bA b) rfl ?_;intro w1 g2 V3)
  | (refine Zai V3 2 76 rfl rfl rfl (pA 0 0) Za7 ?_;intro w4 g5 V6))
 refine Zar (fun w'=>Vars w w' [⟨g5,76,pA 0 0⟩,⟨g2,22,bA b⟩]) (by kernel_rfl) ?_
 have V7:=V6.drew
 refine zR [0,1,2,3,4] 3 (by kernel_rfl) (fun _ _ _ _ _ h=>h) V7 fun K hK=> ?_
 refine zC (.agg (bA b)) rfl (by rfl) (fun w' hw'=>zB hw' 1 rfl _ rfl rfl) ?_
 go_simp
 refine zC (.pointer (some ⟨g2,31,none⟩)) rfl (by rfl) (fun w' hw'=> ?_) ?_
 ·go_simp
 go_simp
 refine zC (.int .u8 (b31:Int)) rfl (by rfl) (fun w' hw'=> ?_) ?_
 ·have hcc:=Zbz hw' 1 rfl 31 HB.out
  go_simp
 go_simp
 refine zC (.int .u8 128) rfl (by rfl) (fun w' hw'=> ?_) ?_
 ·go_simp
 go_simp
 refine zC (.bool true) rfl (by rfl) (fun w' hw'=> ?_) ?_
 ·go_simp
 go_simp
 refine Zac (hK.out _ ?_)
 clear hK K
 refine zO 5 2 (by kernel_rfl) rfl (by rfl) fun K hK=> ?_
 refine zN V7 4 rfl rfl (fun w8 g9 V10=> ?_)
 refine hK _ _ (V10.tail) ?_
 clear hK K
 refine zO 6 1 (by kernel_rfl) rfl (by rfl) fun K hK=> ?_
 refine zS V10 0 rfl _ _ rfl rfl b rfl rfl (fun w11 V12=> ?_)
 refine hK _ _ (V12.tail) ?_
 clear hK K
 refine zR [7] 0 (by kernel_rfl) (fun _ _ _ _ _ h=>h) (V12.tail) fun K hK=> ?_
 go_simp
 refine ZaB _ rfl (by rfl) rfl ?_
 go_simp
 refine Zac (hK.out _ ?_)
 clear hK K
 refine wpAnyH_done (by kernel_rfl) ?_ _
 have hc31:=Zbz V12 0 rfl 31 HB.out
 have hfz:=ZaJ (V12.at 0 rfl) 31
 have VB:Vars w (w11.setCell ⟨g9,31,none⟩ (.int .u8 (yo:Int))) [⟨g9,22,bA yl⟩,⟨g5,76,pA 0 0⟩,⟨g2,22,bA b⟩]:=V12.setB 0 rfl 31 yo yl HS.out
 clear V12
 go_wp2_with (refine zD VB 0 rfl 17 _ rfl rfl rfl rfl ?_)
 refine (HI.out (w11.setCell ⟨g9,31,none⟩ (.int .u8 (yo:Int)))).mono ?_
 rintro e w13 ⟨rfl,q15⟩
 have V14:=VB.call q15
 clear q15 VB
 go_wp2_with (refine zD V14 0 rfl 22 _ rfl rfl rfl rfl ?_)
 refine (HA.out w13 (hd.of V14)).mono ?_
 rintro e w16 ⟨rfl,q18⟩
 have V17:=V14.call q18
 clear q18 V14
 go_wp2_with (first
  | (refine zA V17 6 rfl rfl rfl ?_;intro w19 g20 V21)
  | (refine zL V21 0 rfl _ (.tmp 24) rfl rfl rfl x rfl rfl ?_;intro w22 V23)
  | (refine zD V23 0 rfl 31 _ rfl rfl rfl rfl ?_)
  | (refine ZaR 32 22 _ rfl rfl rfl (bA 0) Zft ?_)
  | (refine Zax rfl (Zgy _ _ rfl false _ _ HE.out rfl rfl HL.out (Nat.two_pow_pos 256)) ?_)
  | (refine ZaR 38 22 _ rfl rfl rfl (bA 0) Zft ?_)
  | (refine zD V23 0 rfl 39 _ rfl rfl rfl rfl ?_))
 refine (HN.out w22).mono ?_
 rintro e w24 ⟨rfl,q26⟩
 have V25:=V23.call q26
 clear q26 V23
 go_wp2_with (first
  | (refine zL V25 0 rfl _ (.tmp 40) rfl rfl rfl nx rfl rfl ?_;intro w27 V28)
  | (refine zD V28 0 rfl 41 _ rfl rfl rfl rfl ?_)
  | (refine zD V28 1 rfl 42 _ rfl rfl rfl rfl ?_)
  | (refine ZaR 43 76 _ rfl rfl rfl (pA nx yl) (ZgB _ _) ?_)
  | (refine Zal V28 2 rfl _ (.tmp 43) rfl rfl rfl (pA nx yl) rfl rfl Tryz.szP (Zak _ _) (Zak _ _) (Za6 _ _) ?_;intro w29 V30))
 exact bodyPost_ret (Zdg rfl _ V30 2 rfl rfl Tryz.underlying76 Tryz.szP (Zak _ _)) rfl ⟨rfl,V30.bel⟩
set_option maxHeartbeats 1600000 in
theorem Zt1 (b yl b31 yo x:Nat) (w:World) (hd:DAt w) (HB:Hid ((bA b)[31]? =some (.int .u8 (b31:Int)))) (hb9:b31<256) (ea:bits .and .u8 (b31:Int) 128=128) (en:bits .andNot .u8 (b31:Int) 128=(yo:Int)) (HS:Hid ((digL b 32).set 31 yo=digL yl 32)) (HI:Hid (∀w,Rt Tryz.prog 73 #[.agg (bA yl)] (.bool true) w)) (HA:Hid (∀w,DAt w→Rt Tryz.prog 74 #[.agg (bA yl)] (.tuple #[.agg (bA x), .bool true]) w)) (HE:Hid (decide (x=0)=true)) (HL:Hid (x<2^256)):Calls Tryz.prog 32 #[.agg (bA b)] w fun e w'=>e= .returned (.tuple #[.agg (pA 0 0), .int .i64 170])∧Below w.heap.size w w':=by
 have V0:=Vars.start w
 go_enter Tryz.func32,Tryz.ntmps32
 go_wp2_with (first
  | (refine Zaj V0 1 22 _ rfl rfl rfl (bA b) rfl ?_;intro w1 g2 V3)
  | (refine Zai V3 2 76 rfl rfl rfl (pA 0 0) Za7 ?_;intro w4 g5 V6))
 refine Zar (fun w'=>Vars w w' [⟨g5,76,pA 0 0⟩,⟨g2,22,bA b⟩]) (by kernel_rfl) ?_
 have V7:=V6.drew
 refine zR [0,1,2,3,4] 3 (by kernel_rfl) (fun _ _ _ _ _ h=>h) V7 fun K hK=> ?_
 refine zC (.agg (bA b)) rfl (by rfl) (fun w' hw'=>zB hw' 1 rfl _ rfl rfl) ?_
 go_simp
 refine zC (.pointer (some ⟨g2,31,none⟩)) rfl (by rfl) (fun w' hw'=> ?_) ?_
 ·go_simp
 go_simp
 refine zC (.int .u8 (b31:Int)) rfl (by rfl) (fun w' hw'=> ?_) ?_
 ·have hcc:=Zbz hw' 1 rfl 31 HB.out
  go_simp
 go_simp
 refine zC (.int .u8 128) rfl (by rfl) (fun w' hw'=> ?_) ?_
 ·go_simp
 go_simp
 refine zC (.bool true) rfl (by rfl) (fun w' hw'=> ?_) ?_
 ·go_simp
 go_simp
 refine Zac (hK.out _ ?_)
 clear hK K
 refine zO 5 2 (by kernel_rfl) rfl (by rfl) fun K hK=> ?_
 refine zN V7 4 rfl rfl (fun w8 g9 V10=> ?_)
 refine hK _ _ (V10.tail) ?_
 clear hK K
 refine zO 6 1 (by kernel_rfl) rfl (by rfl) fun K hK=> ?_
 refine zS V10 0 rfl _ _ rfl rfl b rfl rfl (fun w11 V12=> ?_)
 refine hK _ _ (V12.tail) ?_
 clear hK K
 refine zR [7] 0 (by kernel_rfl) (fun _ _ _ _ _ h=>h) (V12.tail) fun K hK=> ?_
 go_simp
 refine ZaB _ rfl (by rfl) rfl ?_
 go_simp
 refine Zac (hK.out _ ?_)
 clear hK K
 refine wpAnyH_done (by kernel_rfl) ?_ _
 have hc31:=Zbz V12 0 rfl 31 HB.out
 have hfz:=ZaJ (V12.at 0 rfl) 31
 have VB:Vars w (w11.setCell ⟨g9,31,none⟩ (.int .u8 (yo:Int))) [⟨g9,22,bA yl⟩,⟨g5,76,pA 0 0⟩,⟨g2,22,bA b⟩]:=V12.setB 0 rfl 31 yo yl HS.out
 clear V12
 go_wp2_with (refine zD VB 0 rfl 17 _ rfl rfl rfl rfl ?_)
 refine (HI.out (w11.setCell ⟨g9,31,none⟩ (.int .u8 (yo:Int)))).mono ?_
 rintro e w13 ⟨rfl,q15⟩
 have V14:=VB.call q15
 clear q15 VB
 go_wp2_with (refine zD V14 0 rfl 22 _ rfl rfl rfl rfl ?_)
 refine (HA.out w13 (hd.of V14)).mono ?_
 rintro e w16 ⟨rfl,q18⟩
 have V17:=V14.call q18
 clear q18 V14
 go_wp2_with (first
  | (refine zA V17 6 rfl rfl rfl ?_;intro w19 g20 V21)
  | (refine zL V21 0 rfl _ (.tmp 24) rfl rfl rfl x rfl rfl ?_;intro w22 V23)
  | (refine zD V23 0 rfl 31 _ rfl rfl rfl rfl ?_)
  | (refine ZaR 32 22 _ rfl rfl rfl (bA 0) Zft ?_)
  | (refine Zax rfl (Zgy _ _ rfl true _ _ HE.out rfl rfl HL.out (Nat.two_pow_pos 256)) ?_)
  | (refine ZaR 36 76 _ rfl rfl rfl (pA 0 0) Zfx ?_)
  | (refine Zal V23 2 rfl _ (.tmp 36) rfl rfl rfl (pA 0 0) rfl rfl Tryz.szP (Zak _ _) (Zak _ _) (Za6 _ _) ?_;intro w24 V25))
 exact bodyPost_ret (Zdg rfl _ V25 2 rfl rfl Tryz.underlying76 Tryz.szP (Zak _ _)) rfl ⟨rfl,V25.bel⟩
theorem Zt2 {b:Nat} (hb:b<2^256):b/2^255=0∨b/2^255=1:=by
 have h:b/2^255<2:=Nat.div_lt_of_lt_mul (by rw [Nat.mul_comm, ←Zgz];exact hb)
 omega
theorem ZgF {b:Nat} (hb:b<2^256) (c:Nat) (h:b/2^255=c):bits .and .u8 ((b/256^31%256:Nat):Int) 128=((c*128:Nat):Int):=by
 rw [ZtP _ (Nat.mod_lt _ (by decide)),ZsZ hb,h]
theorem ZdG {p:Pt} (hp:OnC p) (w:World) (hd:DAt w):Calls Tryz.prog 32 #[.agg (bA (Zaw p))] w fun e w'=>e= .returned (.tuple #[.agg (pA p.x.val p.y.val), .int .i64 0])∧Below w.heap.size w w':=by
 have hb:=ZeG p
 have hq:=ZsO p
 have hg:=Zc8 (Zaw p) 31 (by decide)
 have hs:=ZlN hb
 rw [hq.1] at hs
 have h9:Zaw p/256^31%256<256:=Nat.mod_lt _ (by decide)
 have en:=Zmi _ h9
 have HI:Hid (∀w,Rt Tryz.prog 73 #[.agg (bA p.y.val)] (.bool true) w):=fun w=>Zdf p.y.isLt w
 rcases Nat.mod_two_eq_zero_or_one p.x.val with h|h
 ·have ea:=ZgF hb 0 (hq.2.trans h)
  generalize Zaw p/256^31%256=b31 at*
  exact ZtX _ _ b31 (b31%128) p.x.val w hd hg h9 ea en hs HI (fun w hd=>ZgE hp h w hd)
 ·have ea:=ZgF hb 1 (hq.2.trans h)
  have hx:p.x≠0:=fun e=>by rw [e] at h;exact absurd h (by decide)
  have hn:OnC ⟨-p.x,p.y⟩:=ZiB hp
  have he:(-p.x).val%2=0:=by rw [ZiA hx,h]
  generalize Zaw p/256^31%256=b31 at*
  refine Zt0 _ _ b31 (b31%128) (-p.x).val p.x.val w hd hg h9 ea en hs HI (fun w hd=>ZgE hn he w hd) (decide_eq_false (Zir (ZsK hx))) (Za1 (-p.x).isLt) (fun w=> ?_)
  have:=ZeL 0 (-p.x) w
  rw [ZlF,ZsL] at this
  exact this
theorem ZiV {b:Nat} (hb:b<2^256) (h:∀p,OnC p→Zaw p≠b) (w:World) (hd:DAt w):Calls Tryz.prog 32 #[.agg (bA b)] w fun e w'=>e= .returned (.tuple #[.agg (pA 0 0), .int .i64 170])∧Below w.heap.size w w':=by
 have hg:=Zc8 b 31 (by decide)
 have hs:=ZlN hb
 have h9:b/256^31%256<256:=Nat.mod_lt _ (by decide)
 have en:=Zmi _ h9
 have hl:b%2^255<2^256:=Nat.lt_trans (Nat.mod_lt _ (Nat.two_pow_pos 255)) (by rw [Zgz];have:=Nat.two_pow_pos 255;omega)
 have hdm:=Nat.div_add_mod b (2^255)
 have hoo:=Zt2 hb
 have ea0:=ZgF hb 0
 have ea1:=ZgF hb 1
 generalize b/256^31%256=b31 at*
 generalize hq:b/2^255=od at*
 generalize hyl:b%2^255=yl at*
 by_cases h1:yl<fP
 ·have HI:Hid (∀w,Rt Tryz.prog 73 #[.agg (bA yl)] (.bool true) w):=fun w=>Zdf h1 w
  by_cases h2:∃x,OnC ⟨x,(⟨yl,h1⟩:Fp)⟩
  ·obtain ⟨x,hx⟩:=h2
   obtain ⟨u,hu,he,_⟩:=ZsN hx
   rcases hoo with h3|h3
   ·exfalso
    apply h ⟨u,⟨yl,h1⟩⟩ hu
    show yl+2^255*(u.val%2)=b
    rw [he, ←hdm,h3];omega
   ·by_cases h4:u=0
    ·exact Zt1 _ _ b31 (b31%128) u.val w hd hg h9 (ea1 h3) en hs HI (fun w hd=>ZgE hu he w hd) (decide_eq_true (by rw [h4];rfl)) (Za1 u.isLt)
    ·exfalso
     apply h ⟨-u,⟨yl,h1⟩⟩ (ZiB hu)
     show yl+2^255*((-u).val%2)=b
     rw [ZiA h4,he, ←hdm,h3];omega
  ·have HA:Hid (∀w,DAt w→Rt Tryz.prog 74 #[.agg (bA yl)] (.tuple #[.agg (bA 0), .bool false]) w):=fun w hd=>ZtI (y:=⟨yl,h1⟩) (fun x hx=>h2 ⟨x,hx⟩) w hd
   rcases hoo with h3|h3
   ·exact ZtW _ _ b31 (b31%128) w hd hg h9 (ea0 h3) en hs HI HA
   ·exact ZtZ _ _ b31 (b31%128) w hd hg h9 (ea1 h3) en hs HI HA
 ·have HI:Hid (∀w,Rt Tryz.prog 73 #[.agg (bA yl)] (.bool false) w):=fun w=>Zsr hl h1 w
  rcases hoo with h3|h3
  ·exact ZtV _ _ b31 (b31%128) w hd hg h9 (ea0 h3) en hs HI
  ·exact ZtY _ _ b31 (b31%128) w hd hg h9 (ea1 h3) en hs HI
end Go.Proofs.YtcaloldcihpkfaaGreatDoor.N
