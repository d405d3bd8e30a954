/-
 Layer 23's laws: Makes.
-/
import Derived.Test.YtcaloldcihpkfaaGreatDoorMPackIc
import Derived.Test.YtcaloldcihpkfaaGreatDoorMPackIr
import Derived.Test.YtcaloldcihpkfaaGreatDoorMPackMr
namespace Go.Proofs.YtcaloldcihpkfaaGreatDoor.N
open Go.RowKit
set_option linter.unusedVariables false
set_option maxRecDepth 8192

theorem ZvC (sd:Nat) (m:Mf) {L:Nat} (h:(Zay m).length=L):(Zbi sd m).take L=Zay m∧(Zbi sd m).drop L=sgnI sd (Zay m):=by
 subst h
 exact ⟨List.take_left' rfl,List.drop_left' rfl⟩
set_option maxHeartbeats 3200000 in
theorem ZvD (sd:Nat) (hsd:sd<2^256) (v s k e:Int) (a pa:Option Addr) (n c m pc:Nat) (l:List Sg) (R:Nat→B.PartV) (w:World) (hr:SegRow w a n c l) (ok:∀s∈l,s.Ok) (hp:B.PartsAt w pa m pc R) (ho:OAt w) (hd:DAt w):
  Calls Tryz.prog 3 #[.agg (bA sd), .agg #[.int .i64 v, .int .i64 s, .int .i64 k, .int .i64 e, .slice a n c], .slice pa m pc] w fun e' w'=>e'= .returned (.bool true)∧Below w.heap.size w w':=by
 have hcm:=Nat.le_trans hr.hcap hr.hmax
 have V0:=Vars.start w
 go_enter Tryz.func3,Tryz.ntmps3
 go_wp2_with (first
  | (refine Zaj V0 3 22 _ rfl rfl rfl (bA sd) rfl ?_;intro w1 g1 V1)
  | (refine Zaj V1 4 25 _ rfl rfl rfl #[.int .i64 v, .int .i64 s, .int .i64 k, .int .i64 e, .slice a n c] rfl ?_;intro w2 g2 V2)
  | (refine Zax rfl (Zb3 V2 0 rfl _ rfl rfl Tryz.underlying25 rfl Tryz.szMf rfl) ?_))
 refine (Zu5 hcm (hp.below V2.bel (Nat.le_refl _))).mono ?_
 rintro e3 w3 ⟨rfl,q3⟩
 have V3:=V2.call q3
 clear V0 V1 V2 q3
 cases hsm:Zcz n m R
 ·go_wp2
  go_ret
  exact ⟨rfl,V3.bel⟩
 obtain ⟨hn20,hm20,hl200⟩:=ZmN hsm
 have hlen:∀i,i<m→(R i).len≤100000:=fun i hi=>Nat.le_trans (hl200 i hi) (by decide)
 clear hsm hl200
 go_wp2_with (first
  | (refine ZaM V3 1 rfl 17 _ rfl rfl rfl rfl Tryz.underlying22 Tryz.szB (Zaf _) ?_)
  | (refine Zax rfl (Zb3 V3 0 rfl _ rfl rfl Tryz.underlying25 rfl Tryz.szMf rfl) ?_))
 refine (ZmD (v:=v) (s:=s) (k:=k) (e:=e) sd hsd (hr.below V3.bel (Nat.le_refl _)) ok (hp.below V3.bel (Nat.le_refl _)) (by omega) hlen (ho.of V3) (hd.of V3)).mono ?_
 rintro e4 w4 ⟨q4,⟨hno,rfl⟩|⟨rfl,hM,ab,cb,rfl,rb⟩⟩
 ·have V4:=V3.call q4
  clear V3 q4
  go_wp2_with (refine Zax rfl (Zb3 V4 0 rfl _ rfl rfl Tryz.underlying25 rfl Tryz.szMf rfl) ?_)
  refine (ZmT (v:=v) (s:=s) (k:=k) (e:=e) (hr.below V4.bel (Nat.le_refl _)) ok (hp.below V4.bel (Nat.le_refl _)) (by omega) hlen).mono ?_
  rintro e5 w5 ⟨q5,hcase⟩
  obtain ⟨X,hX5,hX1,rfl⟩:∃X:Array Value,X.size=5∧X.all (·.oneCell')=true∧e5= .returned (.tuple #[.agg X, .bool false]):=by
   rcases hcase with ⟨_,rfl⟩|⟨h,a',c',rfl,_⟩
   ·exact ⟨_,rfl,Zce 0 0 0 0 none 0 0,rfl⟩
   ·subst h
    rw [hno rfl]
    exact ⟨_,rfl,Zce _ _ _ _ _ _ _,rfl⟩
  have V5:=V4.call q5
  clear hcase V4 q5 hno
  go_wp2_with (first
   | (refine Zai V5 9 25 rfl rfl rfl mf00 ZdH ?_;intro w6 g6 V6)
   | (refine Zal V6 0 rfl _ (.tmp 27) rfl rfl rfl X rfl rfl Tryz.szMf rfl hX5 hX1 ?_;intro w7 V7))
  refine (ZmQ w7 (ho.of V7) (hd.of V7)).mono ?_
  rintro e8 w8 ⟨rfl,q8⟩
  have V8:=V7.call q8
  go_wp2
  go_ret
  exact ⟨rfl,V8.bel⟩
 have V4:=V3.call q4
 have hok:=Zev l R m
 have hLn:=ZmB v s k e l R m
 have hDB:=ZmC v s k e l R m
 have hTK:=ZvC sd (mfOf v s k e l R m) hLn
 have hby:=fun (w':World) (sa:Option Addr) (sc:Nat) (h:SegRow w' sa m sc (ZaX l R m))=>Zvi (v:=v) (s:=s) (k:=k) (e:=e) h hok hM
 have hVB:verB (pubI sd) (Zay (mfOf v s k e l R m)) (sgnI sd (Zay (mfOf v s k e l R m)))=0:=Zmt sd hDB
 have hsl:=ZgH sd (Zay (mfOf v s k e l R m))
 have hsb:=Zms sd (Zay (mfOf v s k e l R m))
 have hfil:=fun (w':World) (h1:SegRow w' a m c l) (h2:B.PartsAt w' pa m pc R)=>ZmT (v:=v) (s:=s) (k:=k) (e:=e) h1 ok h2 (by omega) hlen
 rw [show (⟨v,s,k,e,ZaX l R m⟩:Mf)=mfOf v s k e l R m from rfl] at hby
 rw [hM] at hfil
 have hLb:24+40*m≤824:=by omega
 clear hM V3 q4 hok
 generalize Zbi sd (mfOf v s k e l R m)=D at*
 generalize sgnI sd (Zay (mfOf v s k e l R m))=sg at*
 generalize Zay (mfOf v s k e l R m)=D0 at*
 generalize 24+40*m=L at*
 go_wp2_with (refine Zax rfl (Zb3 V4 0 rfl _ rfl rfl Tryz.underlying25 rfl Tryz.szMf rfl) ?_)
 refine (hfil w4 (hr.below V4.bel (Nat.le_refl _)) (hp.below V4.bel (Nat.le_refl _))).mono ?_
 rintro e5 w5 ⟨q5,⟨h,_⟩|⟨_,a',c',rfl,hrow⟩⟩
 case inl=>exact absurd rfl h
 have V5:=V4.call q5
 have rb5:=rb.below q5 (Nat.le_refl _)
 have U5:=Vars.start w5
 clear V4 rb hfil q5 hr ok hp hlen hcm
 go_wp2_with (first
  | (refine Zai U5 9 25 rfl rfl rfl mf00 ZdH ?_;intro w6 g9 U6)
  | (refine Zal U6 0 rfl _ (.tmp 27) rfl rfl rfl #[.int .i64 v, .int .i64 s, .int .i64 k, .int .i64 e, .slice a' m c'] rfl rfl Tryz.szMf rfl rfl (Zce _ _ _ _ _ _ _) ?_;intro w7 U7)
  | (refine Zax rfl (Zb3 U7 0 rfl _ rfl rfl Tryz.underlying25 rfl Tryz.szMf rfl) ?_))
 have V7:=V5.made U7.bel (U7.low _ (List.mem_singleton.2 rfl)) (U7.at 0 rfl)
 have rb7:=rb5.below U7.bel (Nat.le_refl _)
 have hrow7:=hrow.below U7.bel (Nat.le_refl _)
 clear V5 rb5 U5 U6 U7 hrow
 refine (hby w7 a' c' hrow7).mono ?_
 rintro e8 w8 ⟨u8,rfl,own8,q8⟩
 obtain ⟨a8,c8,rfl,r8⟩:=ZaF own8
 have V8:=V7.call q8
 have rb8:=rb7.below q8 (Nat.le_refl _)
 have hrow8:=hrow7.below q8 (Nat.le_refl _)
 clear own8 r8 V7 rb7 hrow7 q8
 go_upto_region 8 with fail
 obtain ⟨b,off,rfl,_,_⟩:=rb8.hcell (by omega)
 have hcb:=rb8.hcap
 have hcbm:=rb8.hmax
 unfold maxLen at hcbm
 have rt8:=Zdr rb8 L (by omega)
 rw [hTK.1] at rt8
 have rtd:=rt8.below (Zao.drew w8) (Nat.le_refl _)
 have rbd:=rb8.below (Zao.drew w8) (Nat.le_refl _)
 have hrowd:=hrow8.below (Zao.drew w8) (Nat.le_refl _)
 have W8:=V8.drew
 have hbd:=hby w8.drew a' c' hrowd
 have hw64:IntKind.i64.wrap ((L:Int)+64)=((L+64:Nat):Int):=by rw [IntKind.wrap_i64];omega
 obtain ⟨wd,hwd⟩:∃wd,wd=w8.drew:=⟨_,rfl⟩
 refine Zar (fun w'=>Zao w8.drew w') (by kernel_rfl) ?_
 rw [←hwd] at rtd rbd hrowd W8 hbd ⊢
 clear hwd V8 rt8
 refine Zaz (rs:=[0,1,2,3,4,5,6,7,8,9,10,11,12,13,14]) (fuel:=4) (by kernel_rfl) (fun c d v a w h=>by cases d<;>exact h) (by kernel_rfl) (Zao.refl _) (fun K hK=> ?_)
 iterate 4 (first
  | (refine Zah _ rfl (by rfl) rfl ?_;go_simp)
  | (apply Zad _ rfl (by rfl) (fun w' hw'=>by go_simp;rfl);go_simp))
 refine Zad (.int .i64 ((L+64:Nat):Int)) rfl (by rfl) (fun w' hw'=>by go_simp) ?_
 go_simp
 refine Zah _ rfl (by rfl) rfl ?_
 go_simp
 refine Zad (.int .i64 ((L+64:Nat):Int)) rfl (by rfl) (fun w' hw'=>by go_simp) ?_
 go_simp
 refine Zad (.bool false) rfl (by rfl) (fun w' hw'=>by go_simp) ?_
 go_simp
 refine Zad (.bool false) rfl (by rfl) (fun w' hw'=>by go_simp) ?_
 go_simp
 refine Zah _ rfl (by rfl) rfl ?_
 go_simp
 refine Zah _ rfl (by rfl) rfl ?_
 go_simp
 refine Zah _ rfl (by rfl) rfl ?_
 go_simp
 refine Zad (.slice (some ⟨b,off,none⟩) L cb) rfl (by rfl) (fun w' hw'=>by
  have hcbI:(L:Int)≤(cb:Int):=by omega
  go_simp) ?_
 go_simp
 refine Zad (.string (strOfNums D0)) rfl (by rfl) (fun w' hw'=>by
  have kc1:=ZfS (P:=Tryz.prog) Tryz.underlying28 Tryz.underlying5 Tryz.underlying9 (rtd.below hw' (Nat.le_refl _))
  go_simp) ?_
 go_simp
 refine Zad (.agg #[.int .i64 v, .int .i64 s, .int .i64 k, .int .i64 e, .slice a' m c']) rfl (by rfl) (fun w' hw'=>Zb3 (W8.call hw') 0 rfl _ rfl rfl Tryz.underlying25 rfl Tryz.szMf rfl) ?_
 go_simp
 refine Zac (hK.out _ ?_)
 clear hK K
 refine Zc1 (i:=15) (fuel:=3) (by kernel_rfl) rfl (by rfl) (fun K hK=> ?_)
 go_simp
 refine hbd.mono ?_
 rintro e9 w9 ⟨u9,rfl,own9,q9⟩
 obtain ⟨a9,c9,rfl,r9⟩:=ZaF own9
 have V9:=W8.call q9
 have rb9:=rbd.below q9 (Nat.le_refl _)
 refine hK _ _ q9 ?_
 clear hK K
 refine Zaz (rs:=[16,17,18]) (fuel:=0) (by kernel_rfl) (fun c d v a w h=>by cases d<;>exact h) (by kernel_rfl) (Zao.refl _) (fun K hK=> ?_)
 go_simp
 refine Zad (.string (strOfNums D0)) rfl (by rfl) (fun w' hw'=>by
  have kc1:=ZfS (P:=Tryz.prog) Tryz.underlying28 Tryz.underlying5 Tryz.underlying9 (r9.below hw' (Nat.le_refl _))
  go_simp) ?_
 go_simp
 refine Zad (.bool false) rfl (by rfl) (fun w' hw'=>by go_simp;try simp) ?_
 go_simp
 refine Zad (.bool false) rfl (by rfl) (fun w' hw'=>by go_simp) ?_
 go_simp
 refine Zac (hK.out _ ?_)
 clear hK K r9 own9 hbd hrowd hrow8 rtd rbd rb8 W8 q9 hby hw64
 refine wpAnyH_done (by kernel_rfl) ?_ _
 go_upto_region 10 with fail
 have W9:=V9.drew
 have rbd:=rb9.below (Zao.drew w9) (Nat.le_refl _)
 have HAW:=ZmQ w9.drew (ho.of W9) (hd.of W9)
 obtain ⟨we,hwe⟩:∃we,we=w9.drew:=⟨_,rfl⟩
 refine Zar (fun w'=>Zao w9.drew w') (by kernel_rfl) ?_
 rw [←hwe] at W9 rbd HAW ⊢
 clear hwe V9 rb9
 refine Zc1 (i:=0) (fuel:=13) (by kernel_rfl) rfl (by rfl) (fun K hK=> ?_)
 go_simp
 refine HAW.mono ?_
 rintro e10 w10 ⟨rfl,q10⟩
 have V10:=W9.call q10
 have rb10:=rbd.below q10 (Nat.le_refl _)
 refine hK _ _ q10 ?_
 clear hK K HAW rbd W9 q10
 have rt10:=Zdr rb10 L (by omega)
 have rd10:=Zep rb10 L (by omega)
 rw [hTK.1] at rt10
 rw [hTK.2,show L+64 - L=64 by omega] at rd10
 have hcbI:(L:Int)≤(cb:Int):=by omega
 have hcbN:¬cb=L:=by omega
 refine Zaz (rs:=[1,2,4,5,6,7,8,9]) (fuel:=5) (by kernel_rfl) (fun c d v a w h=>by cases d<;>exact h) (by kernel_rfl) (Zao.refl _) (fun K hK=> ?_)
 go_simp
 refine Zah _ rfl (by rfl) rfl ?_
 go_simp
 refine Zad (.agg (bA sd)) rfl (by rfl) (fun w' hw'=>ZaH (V10.call hw') 2 rfl _ rfl rfl Tryz.underlying22 Tryz.szB (Zaf _)) ?_
 go_simp
 refine Zah _ rfl (by rfl) rfl ?_
 go_simp
 refine Zah _ rfl (by rfl) rfl ?_
 go_simp
 refine Zad (.slice (some ⟨b,off,none⟩) L cb) rfl (by rfl) (fun w' hw'=>by go_simp) ?_
 go_simp
 refine Zah _ rfl (by rfl) rfl ?_
 go_simp
 refine Zah _ rfl (by rfl) rfl ?_
 go_simp
 refine Zad (.slice (some ⟨b,off+L,none⟩) 64 (cb - L)) rfl (by rfl) (fun w' hw'=>by
  have h64:L+64 - L=64:=by omega
  have h65:(L:Int)≤((L+64:Nat):Int):=by omega
  go_simp
  exact fun h=>absurd h (by omega)) ?_
 go_simp
 refine Zac (hK.out _ ?_)
 clear hK K
 refine Zc1 (i:=3) (fuel:=4) (by kernel_rfl) rfl (by rfl) (fun K hK=> ?_)
 go_simp
 refine (Zmu sd hsd w10 (hd.of V10)).mono ?_
 rintro e11 w11 ⟨rfl,q11⟩
 have V11:=V10.call q11
 refine hK _ _ q11 ?_
 clear hK K
 refine Zc1 (i:=10) (fuel:=3) (by kernel_rfl) rfl (by rfl) (fun K hK=> ?_)
 go_simp
 refine (Zmp (Zmr sd) (ZiZ sd) hDB hsb hsl (ho.of V11) (hd.of V11) (rt10.below q11 (Nat.le_refl _)) (by omega) (rd10.below q11 (Nat.le_refl _))).mono ?_
 rintro e12 w12 ⟨rfl,q12⟩
 have V12:=V11.call q12
 refine hK _ _ q12 ?_
 clear hK K
 rw [hVB]
 refine Zaz (rs:=[11,12,13]) (fuel:=0) (by kernel_rfl) (fun c d v a w h=>by cases d<;>exact h) (by kernel_rfl) (Zao.refl _) (fun K hK=> ?_)
 go_simp
 refine Zad (.bool true) rfl (by rfl) (fun w' hw'=>by go_simp) ?_
 go_simp
 refine Zad (.bool true) rfl (by rfl) (fun w' hw'=>by go_simp) ?_
 go_simp
 refine ZaB _ rfl (by rfl) rfl ?_
 go_simp
 refine Zac (hK.out _ ?_)
 clear hK K
 refine wpAnyH_done (by kernel_rfl) ?_ _
 go_wp2_with fail
 go_ret
 exact ⟨rfl,V12.bel⟩
end Go.Proofs.YtcaloldcihpkfaaGreatDoor.N
