/-
 The code of layer 16 (field): both, Add, Sub, Mul, Inv, root, Root.
-/
import Derived.Test.YtcaloldcihpkfaaGreatDoorMPackFb
import Derived.Test.YtcaloldcihpkfaaGreatDoorMPackFc
namespace Go.Proofs.YtcaloldcihpkfaaGreatDoor.N
open Go.RowKit
set_option linter.unusedVariables false
set_option maxRecDepth 8192

theorem Za1 {a:Nat} (h:a<fP):a<2^256:=Nat.lt_trans h Zcy
def rtV (a:Nat):Nat:=((a+a)%fP)^((fP - 5)/8)%fP
def rtI (a:Nat):Nat:=((a+a)%fP)*(rtV a*rtV a%fP)%fP
def rtN (a:Nat):Nat:=(a*rtV a%fP)*((rtI a+(fP - 1))%fP)%fP
def evN (r:Nat):Nat:=if r%2=1 then fP - r else r
theorem Zfr (r:Nat):evN r=if r%2=1 then fP - r else r:=rfl
theorem Zix (a:Nat):rtV a<fP:=ZcI _
theorem Zsq (a:Nat):rtI a<fP:=ZcI _
theorem Zfs (a:Nat):rtN a<fP:=ZcI _
theorem Zft:Tryz.prog.built 22 []=some (bA 0):=by rw [Zgh];kernel_rfl
theorem Zdf {a:Nat} (h:a<fP) (w:World):Calls Tryz.prog 73 #[.agg (bA a)] w fun e w'=>e= .returned (.bool true)∧Below w.heap.size w w':=by
 have:=Zlz a w (Za1 h)
 rwa [decide_eq_true h] at this
theorem Zsr {a:Nat} (ha:a<2^256) (h:¬a<fP) (w:World):Calls Tryz.prog 73 #[.agg (bA a)] w fun e w'=>e= .returned (.bool false)∧Below w.heap.size w w':=by
 have:=Zlz a w ha
 rwa [decide_eq_false h] at this
set_option maxHeartbeats 1600000 in
theorem Ziy (a b r:Nat) (F:FuncId) (w:World) (ha:a<fP) (hb:b<fP) (hF:∀w,Calls Tryz.prog F #[.agg (wA a), .agg (wA b)] w fun e w'=>e= .returned (.agg (wA r))∧Below w.heap.size w w') (hcall:∀args w,Sem.run Tryz.prog (callFunc F args) w= .ok (.enter F args) w):
  Calls Tryz.prog 157 #[.agg (bA a), .agg (bA b), .func (.func F) #[] #[]] w fun e w'=>e= .returned (.tuple #[.agg (bA r), .int .i64 0])∧Below w.heap.size w w':=by
 have HA:Hid (∀w,Rt Tryz.prog 73 #[.agg (bA a)] (.bool true) w):=fun w=>Zdf ha w
 have HB:Hid (∀w,Rt Tryz.prog 73 #[.agg (bA b)] (.bool true) w):=fun w=>Zdf hb w
 have RA:Hid (∀w,Rt Tryz.prog 112 #[.agg (bA a)] (.agg (wA a)) w):=fun w=>Zeu a (Za1 ha) w
 have RB:Hid (∀w,Rt Tryz.prog 112 #[.agg (bA b)] (.agg (wA b)) w):=fun w=>Zeu b (Za1 hb) w
 have HF:Hid (∀w,Calls Tryz.prog F #[.agg (wA a), .agg (wA b)] w fun e w'=>e= .returned (.agg (wA r))∧Below w.heap.size w w'):=hF
 clear ha hb hF
 have V0:=Vars.start w
 go_enter Tryz.func157,Tryz.ntmps157
 go_wp2_with (first
  | (refine Zaj V0 3 22 _ rfl rfl rfl (bA a) rfl ?_;intro w1 g2 V3)
  | (refine Zaj V3 4 22 _ rfl rfl rfl (bA b) rfl ?_;intro w4 g5 V6)
  | (refine zA V6 6 rfl rfl rfl ?_;intro w7 g8 V9)
  | (refine zD V9 2 rfl 8 _ rfl rfl rfl rfl ?_))
 refine (HA.out w7).mono ?_
 rintro e w10 ⟨rfl,q12⟩
 have V11:=V9.call q12
 clear q12 V9
 go_wp2_with (refine zD V11 1 rfl 12 _ rfl rfl rfl rfl ?_)
 refine (HB.out w10).mono ?_
 rintro e w13 ⟨rfl,q15⟩
 have V14:=V11.call q15
 clear q15 V11
 go_wp2_with fail
 refine Zar (fun w'=>Vars w w' [⟨g5,22,bA b⟩,⟨g2,22,bA a⟩]) (by kernel_rfl) ?_
 have V16:=V14.drew
 refine zR [0,1,3] 6 (by kernel_rfl) (fun _ _ _ _ _ h=>h) (V16.tail) fun K hK=> ?_
 refine Zah _ rfl (by rfl) rfl ?_
 go_simp
 refine zC (.agg (bA a)) rfl (by rfl) (fun w' hw'=>zB hw' 1 rfl _ rfl rfl) ?_
 go_simp
 refine zC (.agg (bA b)) rfl (by rfl) (fun w' hw'=>zB hw' 0 rfl _ rfl rfl) ?_
 go_simp
 refine Zac (hK.out _ ?_)
 clear hK K
 refine zO 2 5 (by kernel_rfl) rfl (by rfl) fun K hK=> ?_
 go_simp
 refine (RA.out w13.drew).mono ?_
 rintro e w17 ⟨rfl,q19⟩
 have V18:=V16.call q19
 refine hK _ _ (V18.tail) ?_
 clear hK K q19
 refine zO 4 4 (by kernel_rfl) rfl (by rfl) fun K hK=> ?_
 go_simp
 refine (RB.out w17).mono ?_
 rintro e w20 ⟨rfl,q22⟩
 have V21:=V18.call q22
 refine hK _ _ (V21.tail) ?_
 clear hK K q22
 refine zO 5 3 (by kernel_rfl) rfl (by rfl) fun K hK=> ?_
 go_simp
 refine (HF.out w20).mono ?_
 rintro e w23 ⟨rfl,q25⟩
 have V24:=V21.call q25
 refine hK _ _ (V24.tail) ?_
 clear hK K q25
 refine zO 6 2 (by kernel_rfl) rfl (by rfl) fun K hK=> ?_
 go_simp
 refine (Zdo r w23).mono ?_
 rintro e w26 ⟨rfl,q28⟩
 have V27:=V24.call q28
 refine hK _ _ (V27.tail) ?_
 clear hK K q28
 refine zO 7 1 (by kernel_rfl) rfl (by rfl) fun K hK=> ?_
 refine zS V27 0 rfl _ _ rfl rfl r rfl rfl (fun w29 V30=> ?_)
 refine hK _ _ (V30.tail) ?_
 clear hK K
 refine zR [8] 0 (by kernel_rfl) (fun _ _ _ _ _ h=>h) (V30.tail) fun K hK=> ?_
 go_simp
 refine ZaB _ rfl (by rfl) rfl ?_
 go_simp
 refine Zac (hK.out _ ?_)
 clear hK K
 refine wpAnyH_done (by kernel_rfl) ?_ _
 go_wp2_with fail
 exact bodyPost_ret (Zcv rfl _ V30 0 rfl rfl Tryz.underlying22 Tryz.szB (Zaf _)) rfl ⟨rfl,V30.bel⟩
set_option maxHeartbeats 800000 in
theorem Zss (a b:Nat) (w:World) (ha:a<fP) (hb:b<fP):Calls Tryz.prog 156 #[.agg (bA a), .agg (bA b)] w fun e w'=>e= .returned (.tuple #[.agg (bA ((a+b)%fP)), .int .i64 0])∧Below w.heap.size w w':=by
 have HB:Hid (∀w,Rt Tryz.prog 157 #[.agg (bA a), .agg (bA b), .func (.func 189) #[] #[]] (.tuple #[.agg (bA ((a+b)%fP)), .int .i64 0]) w):=fun w=>Ziy a b _ _ w ha hb (fun w=>Ziw a b w (by omega)) (fun _ _=>rfl)
 generalize (a+b)%fP=r at*
 clear ha hb
 have V0:=Vars.start w
 go_enter Tryz.func156,Tryz.ntmps156
 go_wp2_with (first
  | (refine Zaj V0 2 22 _ rfl rfl rfl (bA a) rfl ?_;intro w1 g2 V3)
  | (refine Zaj V3 3 22 _ rfl rfl rfl (bA b) rfl ?_;intro w4 g5 V6)
  | (refine zA V6 4 rfl rfl rfl ?_;intro w7 g8 V9)
  | (refine zD V9 2 rfl 6 _ rfl rfl rfl rfl ?_)
  | (refine zD V9 1 rfl 7 _ rfl rfl rfl rfl ?_))
 refine (HB.out w7).mono ?_
 rintro e w10 ⟨rfl,q12⟩
 have V11:=V9.call q12
 clear q12 V9
 go_wp2_with (refine zL V11 0 rfl _ (.tmp 9) rfl rfl rfl r rfl rfl ?_;intro w13 V14)
 exact bodyPost_ret (Zcv rfl _ V14 0 rfl rfl Tryz.underlying22 Tryz.szB (Zaf _)) rfl ⟨rfl,V14.bel⟩
set_option maxHeartbeats 800000 in
theorem Zst (a b:Nat) (w:World) (ha:a<fP) (hb:b<fP):Calls Tryz.prog 117 #[.agg (bA a), .agg (bA b)] w fun e w'=>e= .returned (.tuple #[.agg (bA ((a+(fP - b))%fP)), .int .i64 0])∧Below w.heap.size w w':=by
 have HB:Hid (∀w,Rt Tryz.prog 157 #[.agg (bA a), .agg (bA b), .func (.func 158) #[] #[]] (.tuple #[.agg (bA ((a+(fP - b))%fP)), .int .i64 0]) w):=fun w=>Ziy a b _ _ w ha hb (fun w=>Zlw a b w ha (Nat.le_of_lt hb)) (fun _ _=>rfl)
 generalize (a+(fP - b))%fP=r at*
 clear ha hb
 have V0:=Vars.start w
 go_enter Tryz.func117,Tryz.ntmps117
 go_wp2_with (first
  | (refine Zaj V0 2 22 _ rfl rfl rfl (bA a) rfl ?_;intro w1 g2 V3)
  | (refine Zaj V3 3 22 _ rfl rfl rfl (bA b) rfl ?_;intro w4 g5 V6)
  | (refine zA V6 4 rfl rfl rfl ?_;intro w7 g8 V9)
  | (refine zD V9 2 rfl 6 _ rfl rfl rfl rfl ?_)
  | (refine zD V9 1 rfl 7 _ rfl rfl rfl rfl ?_))
 refine (HB.out w7).mono ?_
 rintro e w10 ⟨rfl,q12⟩
 have V11:=V9.call q12
 clear q12 V9
 go_wp2_with (refine zL V11 0 rfl _ (.tmp 9) rfl rfl rfl r rfl rfl ?_;intro w13 V14)
 exact bodyPost_ret (Zcv rfl _ V14 0 rfl rfl Tryz.underlying22 Tryz.szB (Zaf _)) rfl ⟨rfl,V14.bel⟩
set_option maxHeartbeats 800000 in
theorem Zsu (a b:Nat) (w:World) (ha:a<fP) (hb:b<fP):Calls Tryz.prog 151 #[.agg (bA a), .agg (bA b)] w fun e w'=>e= .returned (.tuple #[.agg (bA (a*b%fP)), .int .i64 0])∧Below w.heap.size w w':=by
 have HB:Hid (∀w,Rt Tryz.prog 157 #[.agg (bA a), .agg (bA b), .func (.func 153) #[] #[]] (.tuple #[.agg (bA (a*b%fP)), .int .i64 0]) w):=fun w=>Ziy a b _ _ w ha hb (fun w=>Zde a b w (Za1 ha) (Za1 hb)) (fun _ _=>rfl)
 generalize a*b%fP=r at*
 clear ha hb
 have V0:=Vars.start w
 go_enter Tryz.func151,Tryz.ntmps151
 go_wp2_with (first
  | (refine Zaj V0 2 22 _ rfl rfl rfl (bA a) rfl ?_;intro w1 g2 V3)
  | (refine Zaj V3 3 22 _ rfl rfl rfl (bA b) rfl ?_;intro w4 g5 V6)
  | (refine zA V6 4 rfl rfl rfl ?_;intro w7 g8 V9)
  | (refine zD V9 2 rfl 6 _ rfl rfl rfl rfl ?_)
  | (refine zD V9 1 rfl 7 _ rfl rfl rfl rfl ?_))
 refine (HB.out w7).mono ?_
 rintro e w10 ⟨rfl,q12⟩
 have V11:=V9.call q12
 clear q12 V9
 go_wp2_with (refine zL V11 0 rfl _ (.tmp 9) rfl rfl rfl r rfl rfl ?_;intro w13 V14)
 exact bodyPost_ret (Zcv rfl _ V14 0 rfl rfl Tryz.underlying22 Tryz.szB (Zaf _)) rfl ⟨rfl,V14.bel⟩
set_option maxHeartbeats 1600000 in
theorem Zsv (a:Nat) (w:World) (ha:a<fP) (h0:a≠0):Calls Tryz.prog 127 #[.agg (bA a)] w fun e w'=>e= .returned (.tuple #[.agg (bA (a^(fP - 2)%fP)), .int .i64 0])∧Below w.heap.size w w':=by
 have HA:Hid (∀w,Rt Tryz.prog 73 #[.agg (bA a)] (.bool true) w):=fun w=>Zdf ha w
 have RA:Hid (∀w,Rt Tryz.prog 112 #[.agg (bA a)] (.agg (wA a)) w):=fun w=>Zeu a (Za1 ha) w
 have HE:Hid (decide (a=0)=false):=decide_eq_false h0
 have HL:Hid (a<2^256):=Za1 ha
 have HP:Hid (∀(w:World) (g:Nat),w.heap[g]? =some (.cells (wA a) 146 (0,0))→Rt Tryz.prog 171 #[.agg (wA (fP - 2)), .func (.func 197) #[] #[.pointer (some ⟨g,0,none⟩)]] (.agg (wA (a^(fP - 2)%fP))) w):=
  fun w g hg=>Zdl (fP - 2) a g w (Nat.lt_of_le_of_lt (Nat.sub_le _ _) Zcy) (Za1 ha) hg
 have HU:Hid (∀w,Rt Tryz.prog 150 #[.int .i64 255, .int .u64 21] (.agg (wA (fP - 2))) w):=Zpu
 generalize a^(fP - 2)%fP=r at*
 generalize fP - 2=n2 at*
 clear ha h0
 have V0:=Vars.start w
 go_enter Tryz.func127,Tryz.ntmps127
 go_wp2_with (first
  | (refine Zaj V0 1 22 _ rfl rfl rfl (bA a) rfl ?_;intro w1 g2 V3)
  | (refine zA V3 2 rfl rfl rfl ?_;intro w4 g5 V6)
  | (refine zD V6 1 rfl 4 _ rfl rfl rfl rfl ?_))
 refine (HA.out w4).mono ?_
 rintro e w7 ⟨rfl,q9⟩
 have V8:=V6.call q9
 clear q9 V6
 go_wp2_with (first
  | (refine zD V8 1 rfl 8 _ rfl rfl rfl rfl ?_)
  | (refine ZaR 9 22 _ rfl rfl rfl (bA 0) Zft ?_)
  | (refine Zax rfl (Zgy _ _ rfl false _ _ HE.out rfl rfl HL.out (Nat.two_pow_pos 256)) ?_))
 refine Zar (fun w'=>Vars w w' [⟨g2,22,bA a⟩]) (by kernel_rfl) ?_
 have V10:=V8.drew
 refine zR [1] 7 (by kernel_rfl) (fun _ _ _ _ _ h=>h) (V10.tail) fun K hK=> ?_
 refine zC (.agg (bA a)) rfl (by rfl) (fun w' hw'=>zB hw' 0 rfl _ rfl rfl) ?_
 go_simp
 refine Zac (hK.out _ ?_)
 clear hK K
 refine zO 0 6 (by kernel_rfl) rfl (by rfl) fun K hK=> ?_
 go_simp
 refine (HU.out w7.drew).mono ?_
 rintro e w11 ⟨rfl,q13⟩
 have V12:=V10.call q13
 refine hK _ _ (V12.tail) ?_
 clear hK K q13
 refine zO 2 5 (by kernel_rfl) rfl (by rfl) fun K hK=> ?_
 go_simp
 refine (RA.out w11).mono ?_
 rintro e w14 ⟨rfl,q16⟩
 have V15:=V12.call q16
 refine hK _ _ (V15.tail) ?_
 clear hK K q16
 refine zO 3 4 (by kernel_rfl) rfl (by rfl) fun K hK=> ?_
 go_simp
 refine (Zly a w14).mono ?_
 rintro e w17 ⟨g20,rfl,hg,hh,q19⟩
 have V18:=V15.made q19 hg hh
 refine hK _ _ (V18.tail.tail) ?_
 clear hK K hg hh q19
 refine zO 4 3 (by kernel_rfl) rfl (by rfl) fun K hK=> ?_
 go_simp
 refine (HP.out w17 g20 (V18.at 0 rfl)).mono ?_
 rintro e w21 ⟨rfl,q23⟩
 have V22:=V18.call q23
 refine hK _ _ (V22.tail.tail) ?_
 clear hK K q23
 refine zO 5 2 (by kernel_rfl) rfl (by rfl) fun K hK=> ?_
 go_simp
 refine (Zdo r w21).mono ?_
 rintro e w24 ⟨rfl,q26⟩
 have V25:=V22.call q26
 refine hK _ _ (V25.tail.tail) ?_
 clear hK K q26
 refine zO 6 1 (by kernel_rfl) rfl (by rfl) fun K hK=> ?_
 refine zS V25 1 rfl _ _ rfl rfl r rfl rfl (fun w27 V28=> ?_)
 refine hK _ _ (V28.tail.tail) ?_
 clear hK K
 refine zR [7] 0 (by kernel_rfl) (fun _ _ _ _ _ h=>h) (V28.tail.tail) fun K hK=> ?_
 go_simp
 refine ZaB _ rfl (by rfl) rfl ?_
 go_simp
 refine Zac (hK.out _ ?_)
 clear hK K
 refine wpAnyH_done (by kernel_rfl) ?_ _
 go_wp2_with fail
 exact bodyPost_ret (Zcv rfl _ V28 1 rfl rfl Tryz.underlying22 Tryz.szB (Zaf _)) rfl ⟨rfl,V28.bel⟩
end Go.Proofs.YtcaloldcihpkfaaGreatDoor.N

/-
 The code of layer 16 (field): root, Root.
-/
namespace Go.Proofs.YtcaloldcihpkfaaGreatDoor.N
open Go.RowKit
set_option linter.unusedVariables false
set_option maxRecDepth 8192

set_option maxHeartbeats 1600000 in
theorem Zdm (a:Nat) (w:World) (ha:a<fP):Calls Tryz.prog 152 #[.agg (wA a)] w fun e w'=>e= .returned (.agg (wA (rtN a)))∧Below w.heap.size w w':=by
 have H1:Hid (∀w,Rt Tryz.prog 189 #[.agg (wA a), .agg (wA a)] (.agg (wA ((a+a)%fP))) w):=fun w=>Ziw a a w (by omega)
 have HU:Hid (∀w,Rt Tryz.prog 150 #[.int .i64 252, .int .u64 3] (.agg (wA ((fP - 5)/8))) w):=Zpv
 have HP:Hid (∀(w:World) (g:Nat),w.heap[g]? =some (.cells (wA ((a+a)%fP)) 146 (0,0))→Rt Tryz.prog 171 #[.agg (wA ((fP - 5)/8)), .func (.func 197) #[] #[.pointer (some ⟨g,0,none⟩)]] (.agg (wA (rtV a))) w):=
  fun w g hg=>Zdl ((fP - 5)/8) ((a+a)%fP) g w (Nat.lt_of_le_of_lt (Nat.div_le_self _ _) (Nat.lt_of_le_of_lt (Nat.sub_le _ _) Zcy)) (ZdA _) hg
 have H3:Hid (∀w,Rt Tryz.prog 153 #[.agg (wA (rtV a)), .agg (wA (rtV a))] (.agg (wA (rtV a*rtV a%fP))) w):=fun w=>Zde _ _ w (Za1 (Zix a)) (Za1 (Zix a))
 have H4:Hid (∀w,Rt Tryz.prog 153 #[.agg (wA ((a+a)%fP)), .agg (wA (rtV a*rtV a%fP))] (.agg (wA (rtI a))) w):=fun w=>Zde _ _ w (ZdA _) (ZdA _)
 have H5:Hid (∀w,Rt Tryz.prog 153 #[.agg (wA a), .agg (wA (rtV a))] (.agg (wA (a*rtV a%fP))) w):=fun w=>Zde _ _ w (Za1 ha) (Za1 (Zix a))
 have H6:Hid (∀w,Rt Tryz.prog 158 #[.agg (wA (rtI a)), .agg (wA 1)] (.agg (wA ((rtI a+(fP - 1))%fP))) w):=fun w=>Zlw _ 1 w (Zsq a) (by decide)
 have H7:Hid (∀w,Rt Tryz.prog 153 #[.agg (wA (a*rtV a%fP)), .agg (wA ((rtI a+(fP - 1))%fP))] (.agg (wA (rtN a))) w):=fun w=>Zde _ _ w (ZdA _) (ZdA _)
 generalize rtN a=r at*
 generalize (rtI a+(fP - 1))%fP=i1 at*
 generalize rtI a=i at*
 generalize a*rtV a%fP=av at*
 generalize rtV a*rtV a%fP=vv at*
 generalize rtV a=v at*
 generalize (a+a)%fP=d at*
 generalize (fP - 5)/8=n5 at*
 clear ha
 have V0:=Vars.start w
 go_enter Tryz.func152,Tryz.ntmps152
 go_wp2_with (first
  | (refine Zaj V0 1 146 _ rfl rfl rfl (wA a) rfl ?_;intro w1 g2 V3)
  | (refine Zai V3 2 146 rfl rfl rfl (wA 0) ZaV ?_;intro w4 g5 V6)
  | (refine ZaM V6 1 rfl 6 _ rfl rfl rfl rfl Tryz.underlying146 Tryz.szW (Zae _) ?_)
  | (refine ZaM V6 1 rfl 7 _ rfl rfl rfl rfl Tryz.underlying146 Tryz.szW (Zae _) ?_))
 refine (H1.out w4).mono ?_
 rintro e w7 ⟨rfl,q9⟩
 have V8:=V6.call q9
 clear q9 V6
 go_wp2_with (first
  | (refine Zai V8 3 146 rfl rfl rfl (wA 0) ZaV ?_;intro w10 g11 V12)
  | (refine Zal V12 0 rfl _ (.tmp 8) rfl rfl rfl (wA d) rfl rfl Tryz.szW (Zae _) (Zae _) (ZaO _) ?_;intro w13 V14))
 refine Zar (fun _=>True) (by kernel_rfl) ?_
 have V15:=V14.drew
 refine Zcw (fuel:=5) (m:=1) (stop:=Za9 [0,1,2,3,4] (Array.replicate 6 false)) (fun _ _=>trivial) V15 ?_
 refine Za5 (fuel:=4) (i:=4) 4 146 (wA 0) (by kernel_rfl) (by kernel_rfl) (fun c d v a w h=>by cases d<;>exact h) ZaV (by kernel_rfl) ?_
 refine Za4 (rs:=[1]) (fuel:=3) (by kernel_rfl) (fun c d v a w h=>by cases d<;>exact h) (by kernel_rfl) (fun K hK=> ?_)
 refine zC (.agg (wA d)) rfl (by rfl) (fun w' hw'=>ZaH (V15.call hw') 0 rfl _ rfl rfl Tryz.underlying146 Tryz.szW (Zae _)) ?_
 go_simp
 refine Zac (hK.out _ ?_)
 clear hK K
 refine ZaE (i:=0) (fuel:=2) (by kernel_rfl) (by kernel_rfl) rfl (by rfl) (fun w17 q18 V19 K hK=> ?_)
 go_simp
 refine (HU.out w17).mono ?_
 rintro e w20 ⟨rfl,q21⟩
 have V22:=V19.call q21
 refine hK [] _ _ q21 (Fresh.nil _ _) ?_
 clear hK K q21
 refine ZaE (i:=2) (fuel:=1) (by kernel_rfl) (by kernel_rfl) rfl (by rfl) (fun w23 q24 V25 K hK=> ?_)
 go_simp
 refine (Zly d w23).mono ?_
 rintro e w26 ⟨g29,rfl,hg,hh,q27⟩
 have V28:=V25.made q27 hg hh
 refine hK [⟨g29,146,wA d⟩] _ _ q27 (Fresh.one hg hh) ?_
 clear hK K hg hh q27
 refine ZaE (i:=3) (fuel:=0) (by kernel_rfl) (by kernel_rfl) rfl (by rfl) (fun w30 q31 V32 K hK=> ?_)
 go_simp
 refine (HP.out w30 g29 (V32.at 0 rfl)).mono ?_
 rintro e w33 ⟨rfl,q34⟩
 have V35:=V32.call q34
 refine hK [] _ _ q34 (Fresh.nil _ _) ?_
 clear hK K q34
 refine ZdX (by kernel_rfl) (fun w37 g36 q38 V39=> ?_)
 clear q38
 replace V39:Vars w w37 [⟨g36,146,wA 0⟩,⟨g29,146,wA d⟩,⟨g11,146,wA d⟩,⟨g5,146,wA 0⟩,⟨g2,146,wA a⟩]:=V39
 refine zO 5 0 (by kernel_rfl) rfl (by rfl) fun K hK=> ?_
 refine ZbD V39 0 rfl _ _ rfl rfl (wA v) rfl rfl Tryz.szW (Zae _) (Zae _) (ZaO _) (fun w40 V41=> ?_)
 refine hK _ _ (trivial) ?_
 clear hK K
 refine wpAnyH_done (by kernel_rfl) ?_ _
 go_wp2_with fail
 refine Zar (fun _=>True) (by kernel_rfl) ?_
 have V42:=V41.drew
 refine Zcw (fuel:=6) (m:=1) (stop:=Za9 [0,1,2,3,4,5] (Array.replicate 7 false)) (fun _ _=>trivial) V42 ?_
 refine Za5 (fuel:=5) (i:=5) 5 146 (wA 0) (by kernel_rfl) (by kernel_rfl) (fun c d v a w h=>by cases d<;>exact h) ZaV (by kernel_rfl) ?_
 refine Za4 (rs:=[0,1,2]) (fuel:=2) (by kernel_rfl) (fun c d v a w h=>by cases d<;>exact h) (by kernel_rfl) (fun K hK=> ?_)
 refine zC (.agg (wA d)) rfl (by rfl) (fun w' hw'=>ZaH (V42.call hw') 2 rfl _ rfl rfl Tryz.underlying146 Tryz.szW (Zae _)) ?_
 go_simp
 refine zC (.agg (wA v)) rfl (by rfl) (fun w' hw'=>ZaH (V42.call hw') 0 rfl _ rfl rfl Tryz.underlying146 Tryz.szW (Zae _)) ?_
 go_simp
 refine zC (.agg (wA v)) rfl (by rfl) (fun w' hw'=>ZaH (V42.call hw') 0 rfl _ rfl rfl Tryz.underlying146 Tryz.szW (Zae _)) ?_
 go_simp
 refine Zac (hK.out _ ?_)
 clear hK K
 refine ZaE (i:=3) (fuel:=1) (by kernel_rfl) (by kernel_rfl) rfl (by rfl) (fun w44 q45 V46 K hK=> ?_)
 go_simp
 refine (H3.out w44).mono ?_
 rintro e w47 ⟨rfl,q48⟩
 have V49:=V46.call q48
 refine hK [] _ _ q48 (Fresh.nil _ _) ?_
 clear hK K q48
 refine ZaE (i:=4) (fuel:=0) (by kernel_rfl) (by kernel_rfl) rfl (by rfl) (fun w50 q51 V52 K hK=> ?_)
 go_simp
 refine (H4.out w50).mono ?_
 rintro e w53 ⟨rfl,q54⟩
 have V55:=V52.call q54
 refine hK [] _ _ q54 (Fresh.nil _ _) ?_
 clear hK K q54
 refine ZdX (by kernel_rfl) (fun w57 g56 q58 V59=> ?_)
 clear q58
 replace V59:Vars w w57 [⟨g56,146,wA 0⟩,⟨g36,146,wA v⟩,⟨g29,146,wA d⟩,⟨g11,146,wA d⟩,⟨g5,146,wA 0⟩,⟨g2,146,wA a⟩]:=V59
 refine zO 6 0 (by kernel_rfl) rfl (by rfl) fun K hK=> ?_
 refine ZbD V59 0 rfl _ _ rfl rfl (wA i) rfl rfl Tryz.szW (Zae _) (Zae _) (ZaO _) (fun w60 V61=> ?_)
 refine hK _ _ (trivial) ?_
 clear hK K
 refine wpAnyH_done (by kernel_rfl) ?_ _
 go_wp2_with fail
 refine Zar (fun w'=>Vars w w' [⟨g56,146,wA i⟩,⟨g36,146,wA v⟩,⟨g29,146,wA d⟩,⟨g11,146,wA d⟩,⟨g2,146,wA a⟩]) (by kernel_rfl) ?_
 have V62:=V61.drew
 refine zR [0,1,3,4] 4 (by kernel_rfl) (fun _ _ _ _ _ h=>h) ((V62.del 4)) fun K hK=> ?_
 refine zC (.agg (wA a)) rfl (by rfl) (fun w' hw'=>ZaH hw' 4 rfl _ rfl rfl Tryz.underlying146 Tryz.szW (Zae _)) ?_
 go_simp
 refine zC (.agg (wA v)) rfl (by rfl) (fun w' hw'=>ZaH hw' 1 rfl _ rfl rfl Tryz.underlying146 Tryz.szW (Zae _)) ?_
 go_simp
 refine zC (.agg (wA i)) rfl (by rfl) (fun w' hw'=>ZaH hw' 0 rfl _ rfl rfl Tryz.underlying146 Tryz.szW (Zae _)) ?_
 go_simp
 refine zC (.agg (wA 1)) rfl (by rfl) (fun w' hw'=> ?_) ?_
 ·refine ZcT 146 _ rfl (wA 1) ?_
  exact Zlx
 go_simp
 refine Zac (hK.out _ ?_)
 clear hK K
 refine zO 2 3 (by kernel_rfl) rfl (by rfl) fun K hK=> ?_
 go_simp
 refine (H5.out w60.drew).mono ?_
 rintro e w63 ⟨rfl,q65⟩
 have V64:=V62.call q65
 refine hK _ _ ((V64.del 4)) ?_
 clear hK K q65
 refine zO 5 2 (by kernel_rfl) rfl (by rfl) fun K hK=> ?_
 go_simp
 refine (H6.out w63).mono ?_
 rintro e w66 ⟨rfl,q68⟩
 have V67:=V64.call q68
 refine hK _ _ ((V67.del 4)) ?_
 clear hK K q68
 refine zO 6 1 (by kernel_rfl) rfl (by rfl) fun K hK=> ?_
 go_simp
 refine (H7.out w66).mono ?_
 rintro e w69 ⟨rfl,q71⟩
 have V70:=V67.call q71
 refine hK _ _ ((V70.del 4)) ?_
 clear hK K q71
 refine zO 7 0 (by kernel_rfl) rfl (by rfl) fun K hK=> ?_
 refine ZbD V70 4 rfl _ _ rfl rfl (wA r) rfl rfl Tryz.szW (Zae _) (Zae _) (ZaO _) (fun w72 V73=> ?_)
 refine hK _ _ ((V73.del 4)) ?_
 clear hK K
 refine wpAnyH_done (by kernel_rfl) ?_ _
 go_wp2_with fail
 exact bodyPost_ret (ZaW rfl _ V73 4 rfl rfl Tryz.underlying146 Tryz.szW (Zae _)) rfl ⟨rfl,V73.bel⟩
set_option maxHeartbeats 1600000 in
theorem Zsw (a:Nat) (w:World) (ha:a<fP) (h:rtN a*rtN a%fP≠a):Calls Tryz.prog 115 #[.agg (bA a)] w fun e w'=>e= .returned (.tuple #[.agg (bA 0), .bool false, .int .i64 0])∧Below w.heap.size w w':=by
 have HA:Hid (∀w,Rt Tryz.prog 73 #[.agg (bA a)] (.bool true) w):=fun w=>Zdf ha w
 have RA:Hid (∀w,Rt Tryz.prog 112 #[.agg (bA a)] (.agg (wA a)) w):=fun w=>Zeu a (Za1 ha) w
 have HR:Hid (∀w,Rt Tryz.prog 152 #[.agg (wA a)] (.agg (wA (rtN a))) w):=fun w=>Zdm a w ha
 have HQ:Hid (∀w,Rt Tryz.prog 153 #[.agg (wA (rtN a)), .agg (wA (rtN a))] (.agg (wA (rtN a*rtN a%fP))) w):=fun w=>Zde _ _ w (Za1 (Zfs a)) (Za1 (Zfs a))
 have HL:Hid (a<2^256∧rtN a*rtN a%fP<2^256):=⟨Za1 ha,ZdA _⟩
 have hr9:=Zfs a
 have HE:Hid (decide (rtN a*rtN a%fP=a)= !true):=decide_eq_false h
 generalize rtN a*rtN a%fP=q at*
 generalize rtN a=r at*
 clear ha h hr9
 have V0:=Vars.start w
 go_enter Tryz.func115,Tryz.ntmps115
 go_wp2_with (first
  | (refine Zaj V0 1 22 _ rfl rfl rfl (bA a) rfl ?_;intro w1 g2 V3)
  | (refine zA V3 2 rfl rfl rfl ?_;intro w4 g5 V6)
  | (refine zD V6 1 rfl 7 _ rfl rfl rfl rfl ?_))
 refine (HA.out w4).mono ?_
 rintro e w7 ⟨rfl,q9⟩
 have V8:=V6.call q9
 clear q9 V6
 go_wp2_with (refine zD V8 1 rfl 11 _ rfl rfl rfl rfl ?_)
 refine (RA.out w7).mono ?_
 rintro e w10 ⟨rfl,q12⟩
 have V11:=V8.call q12
 clear q12 V8
 go_wp2_with (first
  | (refine Zai V11 5 146 rfl rfl rfl (wA 0) ZaV ?_;intro w13 g14 V15)
  | (refine Zal V15 0 rfl _ (.tmp 12) rfl rfl rfl (wA a) rfl rfl Tryz.szW (Zae _) (Zae _) (ZaO _) ?_;intro w16 V17)
  | (refine ZaM V17 0 rfl 13 _ rfl rfl rfl rfl Tryz.underlying146 Tryz.szW (Zae _) ?_))
 refine (HR.out w16).mono ?_
 rintro e w18 ⟨rfl,q20⟩
 have V19:=V17.call q20
 clear q20 V17
 go_wp2_with (first
  | (refine Zai V19 6 146 rfl rfl rfl (wA 0) ZaV ?_;intro w21 g22 V23)
  | (refine Zal V23 0 rfl _ (.tmp 14) rfl rfl rfl (wA r) rfl rfl Tryz.szW (Zae _) (Zae _) (ZaO _) ?_;intro w24 V25))
 refine Zar (fun w'=>Vars w w' [⟨g22,146,wA r⟩,⟨g14,146,wA a⟩,⟨g5,22,bA 0⟩,⟨g2,22,bA a⟩]) (by kernel_rfl) ?_
 have V26:=V25.drew
 refine zR [0,1,3] 2 (by kernel_rfl) (fun _ _ _ _ _ h=>h) V26 fun K hK=> ?_
 refine zC (.agg (wA r)) rfl (by rfl) (fun w' hw'=>ZaH hw' 0 rfl _ rfl rfl Tryz.underlying146 Tryz.szW (Zae _)) ?_
 go_simp
 refine zC (.agg (wA r)) rfl (by rfl) (fun w' hw'=>ZaH hw' 0 rfl _ rfl rfl Tryz.underlying146 Tryz.szW (Zae _)) ?_
 go_simp
 refine zC (.agg (wA a)) rfl (by rfl) (fun w' hw'=>ZaH hw' 1 rfl _ rfl rfl Tryz.underlying146 Tryz.szW (Zae _)) ?_
 go_simp
 refine Zac (hK.out _ ?_)
 clear hK K
 refine zO 2 1 (by kernel_rfl) rfl (by rfl) fun K hK=> ?_
 go_simp
 refine (HQ.out w24.drew).mono ?_
 rintro e w27 ⟨rfl,q29⟩
 have V28:=V26.call q29
 refine hK _ _ (V28) ?_
 clear hK K q29
 refine zR [4] 0 (by kernel_rfl) (fun _ _ _ _ _ h=>h) V28 fun K hK=> ?_
 go_simp
 refine zC (.bool true) rfl (by rfl) (fun w' hw'=>Ziv _ _ rfl true _ _ HE.out rfl rfl HL.out.2 HL.out.1) ?_
 go_simp
 refine Zac (hK.out _ ?_)
 clear hK K
 refine wpAnyH_done (by kernel_rfl) ?_ _
 go_wp2_with (first
  | (refine ZaR 20 22 _ rfl rfl rfl (bA 0) Zft ?_)
  | (refine zL V28 2 rfl _ (.tmp 20) rfl rfl rfl 0 rfl rfl ?_;intro w30 V31))
 exact bodyPost_ret (ZhO rfl _ V31 2 rfl rfl Tryz.underlying22 Tryz.szB (Zaf _)) rfl ⟨rfl,V31.bel⟩
theorem Zsx {r:Nat}:r/18446744073709551616^0%18446744073709551616%2=r%2:=by rw [Nat.pow_zero,Nat.div_one,Nat.mod_mod_of_dvd _ (by decide)]
set_option maxHeartbeats 1600000 in
theorem Zsy (a q r nr x0 ev:Nat) (w:World) (HA:Hid (∀w,Rt Tryz.prog 73 #[.agg (bA a)] (.bool true) w))
  (RA:Hid (∀w,Calls Tryz.prog 112 #[.agg (bA a)] w fun e w'=>e= .returned (.agg (wA a))∧Below w.heap.size w w'))
  (HR:Hid (∀w,Rt Tryz.prog 152 #[.agg (wA a)] (.agg (wA r)) w))
  (HQ:Hid (∀w,Rt Tryz.prog 153 #[.agg (wA r), .agg (wA r)] (.agg (wA q)) w))
  (HL:Hid (a<2^256∧q<2^256)) (HE:Hid (decide (q=a)= !false))
  (HG:Hid (∀w,Rt Tryz.prog 154 #[.agg (wA r)] (.agg (wA nr)) w))
  (HW:Hid (∀(w':World) (g:Nat),w'.heap[g]? =some (.cells (wA r) 146 (0,0))→w'.cell? ⟨g,0,none⟩=some (.int .u64 (x0:Int)))) (hw9:x0<18446744073709551616) (HV:Hid (ev=if x0%2=1 then nr else r)):
  Calls Tryz.prog 115 #[.agg (bA a)] w fun e w'=>e= .returned (.tuple #[.agg (bA ev), .bool true, .int .i64 0])∧Below w.heap.size w w':=by
 have ea:bits .and .u64 (x0:Int) 1=((x0%2:Nat):Int):=by
  have h:=bits_and_u64_nat x0 1 (by omega) (by decide)
  rw [show x0&&& 1=x0%2 from Nat.and_two_pow_sub_one_eq_mod _ 1] at h
  exact h
 have hx2:x0%2<2:=Nat.mod_lt _ (by decide)
 generalize x0%2=lb at*
 by_cases hb:lb=1
 ·subst hb
  obtain rfl:ev=nr:=HV.out
  have V0:=Vars.start w
  go_enter Tryz.func115,Tryz.ntmps115
  go_wp2_with (first
   | (refine Zaj V0 1 22 _ rfl rfl rfl (bA a) rfl ?_;intro w1 g2 V3)
   | (refine zA V3 2 rfl rfl rfl ?_;intro w4 g5 V6)
   | (refine zD V6 1 rfl 7 _ rfl rfl rfl rfl ?_))
  refine (HA.out w4).mono ?_
  rintro e w7 ⟨rfl,q9⟩
  have V8:=V6.call q9
  clear q9 V6
  go_wp2_with (refine zD V8 1 rfl 11 _ rfl rfl rfl rfl ?_)
  refine (RA.out w7).mono ?_
  rintro e w10 ⟨rfl,q12⟩
  have V11:=V8.call q12
  clear q12 V8
  go_wp2_with (first
   | (refine Zai V11 5 146 rfl rfl rfl (wA 0) ZaV ?_;intro w13 g14 V15)
   | (refine Zal V15 0 rfl _ (.tmp 12) rfl rfl rfl (wA a) rfl rfl Tryz.szW (Zae _) (Zae _) (ZaO _) ?_;intro w16 V17)
   | (refine ZaM V17 0 rfl 13 _ rfl rfl rfl rfl Tryz.underlying146 Tryz.szW (Zae _) ?_))
  refine (HR.out w16).mono ?_
  rintro e w18 ⟨rfl,q20⟩
  have V19:=V17.call q20
  clear q20 V17
  go_wp2_with (first
   | (refine Zai V19 6 146 rfl rfl rfl (wA 0) ZaV ?_;intro w21 g22 V23)
   | (refine Zal V23 0 rfl _ (.tmp 14) rfl rfl rfl (wA r) rfl rfl Tryz.szW (Zae _) (Zae _) (ZaO _) ?_;intro w24 V25))
  refine Zar (fun w'=>Vars w w' [⟨g22,146,wA r⟩,⟨g14,146,wA a⟩,⟨g5,22,bA 0⟩,⟨g2,22,bA a⟩]) (by kernel_rfl) ?_
  have V26:=V25.drew
  refine zR [0,1,3] 2 (by kernel_rfl) (fun _ _ _ _ _ h=>h) V26 fun K hK=> ?_
  refine zC (.agg (wA r)) rfl (by rfl) (fun w' hw'=>ZaH hw' 0 rfl _ rfl rfl Tryz.underlying146 Tryz.szW (Zae _)) ?_
  go_simp
  refine zC (.agg (wA r)) rfl (by rfl) (fun w' hw'=>ZaH hw' 0 rfl _ rfl rfl Tryz.underlying146 Tryz.szW (Zae _)) ?_
  go_simp
  refine zC (.agg (wA a)) rfl (by rfl) (fun w' hw'=>ZaH hw' 1 rfl _ rfl rfl Tryz.underlying146 Tryz.szW (Zae _)) ?_
  go_simp
  refine Zac (hK.out _ ?_)
  clear hK K
  refine zO 2 1 (by kernel_rfl) rfl (by rfl) fun K hK=> ?_
  go_simp
  refine (HQ.out w24.drew).mono ?_
  rintro e w27 ⟨rfl,q29⟩
  have V28:=V26.call q29
  refine hK _ _ (V28) ?_
  clear hK K q29
  refine zR [4] 0 (by kernel_rfl) (fun _ _ _ _ _ h=>h) V28 fun K hK=> ?_
  go_simp
  refine zC (.bool false) rfl (by rfl) (fun w' hw'=>Ziv _ _ rfl false _ _ HE.out rfl rfl HL.out.2 HL.out.1) ?_
  go_simp
  refine Zac (hK.out _ ?_)
  clear hK K
  refine wpAnyH_done (by kernel_rfl) ?_ _
  have hc0:=HW.out _ g22 (V28.at 0 rfl)
  go_wp2_with (refine ZaM V28 0 rfl 25 _ rfl rfl rfl rfl Tryz.underlying146 Tryz.szW (Zae _) ?_)
  refine (HG.out w27).mono ?_
  rintro e w30 ⟨rfl,q32⟩
  have V31:=V28.call q32
  clear q32 V28
  go_wp2_with (first
   | (refine Zal V31 0 rfl _ (.tmp 26) rfl rfl rfl (wA ev) rfl rfl Tryz.szW (Zae _) (Zae _) (ZaO _) ?_;intro w33 V34)
   | (refine ZaM V34 0 rfl 27 _ rfl rfl rfl rfl Tryz.underlying146 Tryz.szW (Zae _) ?_))
  refine (Zdo ev w33).mono ?_
  rintro e w35 ⟨rfl,q37⟩
  have V36:=V34.call q37
  clear q37 V34
  go_wp2_with (refine zL V36 2 rfl _ (.tmp 28) rfl rfl rfl ev rfl rfl ?_;intro w38 V39)
  exact bodyPost_ret (ZhO rfl _ V39 2 rfl rfl Tryz.underlying22 Tryz.szB (Zaf _)) rfl ⟨rfl,V39.bel⟩
 ·obtain rfl:lb=0:=by omega
  obtain rfl:ev=r:=HV.out
  have V0:=Vars.start w
  go_enter Tryz.func115,Tryz.ntmps115
  go_wp2_with (first
   | (refine Zaj V0 1 22 _ rfl rfl rfl (bA a) rfl ?_;intro w1 g2 V3)
   | (refine zA V3 2 rfl rfl rfl ?_;intro w4 g5 V6)
   | (refine zD V6 1 rfl 7 _ rfl rfl rfl rfl ?_))
  refine (HA.out w4).mono ?_
  rintro e w7 ⟨rfl,q9⟩
  have V8:=V6.call q9
  clear q9 V6
  go_wp2_with (refine zD V8 1 rfl 11 _ rfl rfl rfl rfl ?_)
  refine (RA.out w7).mono ?_
  rintro e w10 ⟨rfl,q12⟩
  have V11:=V8.call q12
  clear q12 V8
  go_wp2_with (first
   | (refine Zai V11 5 146 rfl rfl rfl (wA 0) ZaV ?_;intro w13 g14 V15)
   | (refine Zal V15 0 rfl _ (.tmp 12) rfl rfl rfl (wA a) rfl rfl Tryz.szW (Zae _) (Zae _) (ZaO _) ?_;intro w16 V17)
   | (refine ZaM V17 0 rfl 13 _ rfl rfl rfl rfl Tryz.underlying146 Tryz.szW (Zae _) ?_))
  refine (HR.out w16).mono ?_
  rintro e w18 ⟨rfl,q20⟩
  have V19:=V17.call q20
  clear q20 V17
  go_wp2_with (first
   | (refine Zai V19 6 146 rfl rfl rfl (wA 0) ZaV ?_;intro w21 g22 V23)
   | (refine Zal V23 0 rfl _ (.tmp 14) rfl rfl rfl (wA ev) rfl rfl Tryz.szW (Zae _) (Zae _) (ZaO _) ?_;intro w24 V25))
  refine Zar (fun w'=>Vars w w' [⟨g22,146,wA ev⟩,⟨g14,146,wA a⟩,⟨g5,22,bA 0⟩,⟨g2,22,bA a⟩]) (by kernel_rfl) ?_
  have V26:=V25.drew
  refine zR [0,1,3] 2 (by kernel_rfl) (fun _ _ _ _ _ h=>h) V26 fun K hK=> ?_
  refine zC (.agg (wA ev)) rfl (by rfl) (fun w' hw'=>ZaH hw' 0 rfl _ rfl rfl Tryz.underlying146 Tryz.szW (Zae _)) ?_
  go_simp
  refine zC (.agg (wA ev)) rfl (by rfl) (fun w' hw'=>ZaH hw' 0 rfl _ rfl rfl Tryz.underlying146 Tryz.szW (Zae _)) ?_
  go_simp
  refine zC (.agg (wA a)) rfl (by rfl) (fun w' hw'=>ZaH hw' 1 rfl _ rfl rfl Tryz.underlying146 Tryz.szW (Zae _)) ?_
  go_simp
  refine Zac (hK.out _ ?_)
  clear hK K
  refine zO 2 1 (by kernel_rfl) rfl (by rfl) fun K hK=> ?_
  go_simp
  refine (HQ.out w24.drew).mono ?_
  rintro e w27 ⟨rfl,q29⟩
  have V28:=V26.call q29
  refine hK _ _ (V28) ?_
  clear hK K q29
  refine zR [4] 0 (by kernel_rfl) (fun _ _ _ _ _ h=>h) V28 fun K hK=> ?_
  go_simp
  refine zC (.bool false) rfl (by rfl) (fun w' hw'=>Ziv _ _ rfl false _ _ HE.out rfl rfl HL.out.2 HL.out.1) ?_
  go_simp
  refine Zac (hK.out _ ?_)
  clear hK K
  refine wpAnyH_done (by kernel_rfl) ?_ _
  have hc0:=HW.out _ g22 (V28.at 0 rfl)
  go_wp2_with (refine ZaM V28 0 rfl 27 _ rfl rfl rfl rfl Tryz.underlying146 Tryz.szW (Zae _) ?_)
  refine (Zdo ev w27).mono ?_
  rintro e w30 ⟨rfl,q32⟩
  have V31:=V28.call q32
  clear q32 V28
  go_wp2_with (refine zL V31 2 rfl _ (.tmp 28) rfl rfl rfl ev rfl rfl ?_;intro w33 V34)
  exact bodyPost_ret (ZhO rfl _ V34 2 rfl rfl Tryz.underlying22 Tryz.szB (Zaf _)) rfl ⟨rfl,V34.bel⟩
theorem Zsz (a:Nat) (w:World) (ha:a<fP) (h:rtN a*rtN a%fP=a):Calls Tryz.prog 115 #[.agg (bA a)] w fun e w'=>e= .returned (.tuple #[.agg (bA (evN (rtN a))), .bool true, .int .i64 0])∧Below w.heap.size w w':=by
 have hR:=fun w=>Zdm a w ha
 have hr9:=Zfs a
 generalize rtN a=r at*
 exact Zsy a (r*r%fP) r (fP - r) (r/18446744073709551616^0%18446744073709551616) (evN r) w (fun w=>Zdf ha w) (fun w=>Zeu a (Za1 ha) w) hR (fun w=>Zde _ _ w (Za1 hr9) (Za1 hr9)) ⟨Za1 ha,ZdA _⟩ (decide_eq_true h) (fun w=>Zlv _ w (Nat.le_of_lt hr9))
  (fun w' g hw'=>by rw [cell_of_row w' _ _ _ _ _ hw',Zgi _ 0 (by decide)]) (Nat.mod_lt _ (by decide)) (by rw [Zsx];exact Zfr r)
end Go.Proofs.YtcaloldcihpkfaaGreatDoor.N

/-
 Layer 16, in plain words: what root makes of a square is a root of it.
-/
namespace Go.Proofs.YtcaloldcihpkfaaGreatDoor.N
set_option linter.unusedVariables false
set_option maxRecDepth 8192

theorem Ziz {x y:Nat} (p:Nat) (h:x%p=y%p):∃k:Int,(x:Int)=(y:Int)+(p:Int)*k:=by
 refine ⟨(x/p:Nat) - (y/p:Nat), ?_⟩
 have h1:=Nat.div_add_mod x p
 have h2:=Nat.div_add_mod y p
 have h3:(x:Int)=(p:Int)*((x/p:Nat):Int)+((x%p:Nat):Int):=by rw [←Int.natCast_mul, ←Int.natCast_add,h1]
 have h4:(y:Int)=(p:Int)*((y/p:Nat):Int)+((y%p:Nat):Int):=by rw [←Int.natCast_mul, ←Int.natCast_add,h2]
 rw [Int.mul_sub,h]at*
 omega
theorem ZsA:2^((fP - 1)/2)%fP=fP - 1:=by
 generalize ht:2^((fP - 1)/2)%fP=t
 have htl:t<fP:=by rw [←ht];exact ZcI _
 have h1:t*t%fP=1*1%fP:=by
  rw [←ht, ←Nat.mul_mod, ←Nat.pow_add,show (fP - 1)/2+(fP - 1)/2=fP - 1 from by decide,genP.full]
  decide
 rcases Zla htl Zfn h1 with h2|h2
 ·exact absurd (ht.trans h2) (genP.first _ (by decide) (by decide))
 ·omega
theorem ZsB {a:Nat} (h:a%fP≠0) (hr:¬Zco a):a^((fP - 1)/2)%fP=fP - 1:=by
 obtain ⟨k,hk,hka⟩:=Zgs a h
 have hodd:k%2=1:=by
  rcases Nat.mod_two_eq_zero_or_one k with h1|h1
  ·exact absurd (Zij hka h1) hr
  ·exact h1
 rw [←Zdz, ←hka,Zdz, ←Nat.pow_mul,Nat.mul_comm,Nat.pow_mul, ←Zdz,ZsA]
 obtain ⟨j,rfl⟩:∃j,k=2*j+1:=⟨k/2,by omega⟩
 have h1:(fP - 1)^2%fP=1:=by rw [Nat.pow_two];decide
 rw [Nat.pow_succ,Nat.mul_mod,Zd2 j h1 Zfn,Nat.one_mul,Nat.mod_mod,Nat.mod_eq_of_lt (by decide)]
theorem ZsC {a v i N:Nat} (ha:a<fP) (hi:i%fP=(2*a*v*v)%fP) (h2:i*i%fP=fP - 1) (hN:N%fP=(a*v*(i+(fP - 1)))%fP):N*N%fP=a:=by
 obtain ⟨k,hk⟩:=Ziz fP hi
 obtain ⟨m,hm⟩:=Ziz fP (x:=i*i+1) (y:=0) (by rw [Nat.add_mod,h2,Nat.zero_mod];decide)
 obtain ⟨n,hn⟩:=Ziz fP hN
 have hone:((fP - 1:Nat):Int)=(fP:Int) - 1:=by have:=Zk7;omega
 simp only [Int.natCast_mul,Int.natCast_add,hone,Int.cast_ofNat_Int] at hk hm hn
 have key:∀(p a v i N k m n:Int),i=2*a*v*v+p*k→i*i+1=0+p*m→N=a*v*(i+(p - 1))+p*n→N*N=a+p*(m*a*a*v*v - a*m+a*i*k+2*(a*v*(i - 1))*(a*v+n)+p*(a*v+n)*(a*v+n)):=by
  intro p a v i N k m n h1 h2 h3
  subst h3
  have h4:i*i=p*m - 1:=by omega
  grind
 have hk2:=key _ _ _ _ _ _ _ _ hk hm hn
 have h5:((N*N:Nat):Int)%(fP:Int)=(a:Int):=by
  rw [Int.natCast_mul,hk2,Int.add_mul_emod_self_left]
  exact Int.emod_eq_of_lt (by omega) (by omega)
 omega
theorem ZsD (a:Nat):rtI a=(2*a)^((fP - 1)/4)%fP:=by
 have e:rtV a*rtV a%fP=((a+a)%fP)^((fP - 5)/8+(fP - 5)/8)%fP:=by unfold rtV;rw [←Nat.mul_mod, ←Nat.pow_add]
 unfold rtI
 rw [e, ←Zdz (2*a),Nat.two_mul]
 generalize (a+a)%fP=d
 rw [show (fP - 1)/4=(fP - 5)/8+(fP - 5)/8+1 from by decide]
 generalize (fP - 5)/8+(fP - 5)/8=n
 rw [Nat.mul_mod,Nat.mod_mod, ←Nat.mul_mod, ←Nat.pow_succ']
theorem ZsE {a:Nat} (h:(2*a)%fP≠0) (hr:¬Zco (2*a)):rtI a*rtI a%fP=fP - 1:=by
 rw [ZsD, ←Nat.mul_mod, ←Nat.pow_add,show (fP - 1)/4+(fP - 1)/4=(fP - 1)/2 from by decide]
 exact ZsB h hr
theorem ZsF {a:Nat} (h:a=0):rtN a=0:=by
 unfold rtN
 generalize rtV a=v
 generalize rtI a=i
 rw [h,Nat.zero_mul,Nat.zero_mod,Nat.zero_mul,Nat.zero_mod]
theorem ZlA {a:Nat} (ha:a<fP) (hr:Zco a):rtN a*rtN a%fP=a:=by
 by_cases h0:a=0
 ·rw [ZsF h0,Nat.mul_zero,Nat.zero_mod,h0]
 ·have h1:a%fP≠0:=by rw [Nat.mod_eq_of_lt ha];exact h0
  have h2:¬Zco (2*a):=(ZrI h1).1 hr
  have h3:(2*a)%fP≠0:=genP.mul_ne (by decide) h1
  refine ZsC ha (v:=rtV a) (i:=rtI a) ?_ (ZsE h3 h2) ?_
  ·unfold rtI
   generalize rtV a=v
   rw [Nat.mod_mod, ←Nat.mul_mod,Nat.mul_assoc (2*a),Nat.two_mul]
  ·unfold rtN
   generalize rtV a=v
   generalize rtI a=i
   rw [Nat.mod_mod, ←Nat.mul_mod]
theorem ZlB {a:Nat} (ha:a<fP):rtN a*rtN a%fP=a↔Zco a:=
 ⟨fun h=>⟨rtN a,by rw [h,Nat.mod_eq_of_lt ha]⟩,fun h=>ZlA ha h⟩
theorem ZlC {r:Nat} (h:r<fP):evN r<fP:=by
 rw [Zfr]
 split
 ·omega
 ·exact h
theorem ZlD {r:Nat} (h:r<fP):evN r%2=0:=by
 rw [Zfr]
 have:=Zii
 split<;>omega
theorem ZlE {r:Nat} (h:r<fP):evN r*evN r%fP=r*r%fP:=by
 rw [Zfr]
 split
 ·exact ZrH (Nat.le_of_lt h)
 ·rfl
theorem ZsG {r:Nat} (h:r<fP):evN (rtN (r*r%fP))=evN r:=by
 have ha:r*r%fP<fP:=ZcI _
 have hr:Zco (r*r%fP):=⟨r,by rw [Nat.mod_mod]⟩
 have h1:=ZlA ha hr
 have hl:=Zfs (r*r%fP)
 generalize rtN (r*r%fP)=s at*
 exact ZrM (ZlC hl) (ZlC h) (ZlD hl) (ZlD h) (by rw [ZlE hl,ZlE h,h1])
theorem ZsH {r a:Nat} (h:r<fP) (ha:r*r%fP=a):evN (rtN a)=evN r:=by rw [←ha];exact ZsG h
end Go.Proofs.YtcaloldcihpkfaaGreatDoor.N
