/-
 The code of layer 17 (curve): across, On, Base.
-/
import Derived.Test.YtcaloldcihpkfaaGreatDoorMPackFb
import Derived.Test.YtcaloldcihpkfaaGreatDoorMPackCb
namespace Go.Proofs.YtcaloldcihpkfaaGreatDoor.N
open Go.RowKit
set_option linter.unusedVariables false
set_option maxRecDepth 8192

set_option maxHeartbeats 1600000 in
theorem Zmf (y:Fp) (r:Nat) (b:Bool) (HR:Hid (∀w,Rt Tryz.prog 115 #[.agg (bA (ySq y).val)] (.tuple #[.agg (bA r), .bool b, .int .i64 0]) w)) (w:World) (hd:DAt w):Calls Tryz.prog 74 #[.agg (bA y.val)] w fun e w'=>e= .returned (.tuple #[.agg (bA r), .bool b])∧Below w.heap.size w w':=by
 have H1:Hid (∀w,Rt Tryz.prog 114 #[.agg (bA y.val), .agg (bA y.val)] (.agg (bA (y*y).val)) w):=fun w=>ZaY y y w
 have H2:Hid (∀w,Rt Tryz.prog 75 #[.agg (bA (y*y).val), .agg (bA 1)] (.agg (bA (y*y - 1).val)) w):=fun w=>ZeL (y*y) 1 w
 have H3:Hid (∀w,Rt Tryz.prog 114 #[.agg (bA dN), .agg (bA (y*y).val)] (.agg (bA (cD*(y*y)).val)) w):=fun w=>ZaY cD (y*y) w
 have H4:Hid (∀w,Rt Tryz.prog 116 #[.agg (bA 1), .agg (bA (cD*(y*y)).val)] (.agg (bA (1+cD*(y*y)).val)) w):=fun w=>ZdE 1 (cD*(y*y)) w
 have H5:Hid (∀w,Rt Tryz.prog 85 #[.agg (bA (y*y - 1).val), .agg (bA (1+cD*(y*y)).val)] (.agg (bA (ySq y).val)) w):=fun w=>ZiM (y*y - 1) (1+cD*(y*y)) (ZlG y) w
 generalize (ySq y).val=q at*
 generalize (1+cD*(y*y)).val=a1 at*
 generalize (cD*(y*y)).val=m1 at*
 generalize (y*y - 1).val=s1 at*
 generalize (y*y).val=yy at*
 generalize y.val=v at*
 have V0:=Vars.start w
 go_enter Tryz.func74,Tryz.ntmps74
 go_wp2_with (first
  | (refine Zaj V0 1 22 _ rfl rfl rfl (bA v) rfl ?_;intro w1 g2 V3)
  | (refine zA V3 2 rfl rfl rfl ?_;intro w4 g5 V6)
  | (refine zD V6 1 rfl 8 _ rfl rfl rfl rfl ?_)
  | (refine zD V6 1 rfl 9 _ rfl rfl rfl rfl ?_))
 refine (H1.out w4).mono ?_
 rintro e w7 ⟨rfl,q9⟩
 have V8:=V6.call q9
 clear q9 V6
 go_wp2_with (first
  | (refine zA V8 4 rfl rfl rfl ?_;intro w10 g11 V12)
  | (refine zL V12 0 rfl _ (.tmp 10) rfl rfl rfl yy rfl rfl ?_;intro w13 V14))
 refine Zar (fun w'=>Vars w w' [⟨g11,22,bA yy⟩,⟨g5,22,bA 0⟩,⟨g2,22,bA v⟩]) (by kernel_rfl) ?_
 have V15:=V14.drew
 apply Zkj (Vg:=fun g w'=>Vars w w' [⟨g,22,bA r⟩,⟨g11,22,bA yy⟩,⟨g5,22,bA 0⟩,⟨g2,22,bA v⟩])
 ·intro HC16
  refine zR [0,1,3,4,5] 13 (by kernel_rfl) (fun _ _ _ _ _ h=>h) V15 fun K hK=> ?_
  refine zC (.agg (bA yy)) rfl (by rfl) (fun w' hw'=>zB hw' 0 rfl _ rfl rfl) ?_
  go_simp
  refine zC (.agg (bA 1)) rfl (by rfl) (fun w' hw'=> ?_) ?_
  ·refine ZcT 22 _ rfl (bA 1) ?_
   exact (Zdw 1 (by decide))
  go_simp
  refine zC (.agg (bA 1)) rfl (by rfl) (fun w' hw'=> ?_) ?_
  ·refine ZcT 22 _ rfl (bA 1) ?_
   exact (Zdw 1 (by decide))
  go_simp
  refine zC (.agg (bA dN)) rfl (by rfl) (fun w' hw'=>ZiK (hd.of hw') _ rfl rfl) ?_
  go_simp
  refine zC (.agg (bA yy)) rfl (by rfl) (fun w' hw'=>zB hw' 0 rfl _ rfl rfl) ?_
  go_simp
  refine Zac (hK.out _ ?_)
  clear hK K
  refine zP 2 14 12 (by kernel_rfl) rfl (by rfl) rfl (by rfl) (fun K hK=> ?_) (fun K hK=> ?_)
  ·go_simp
   refine (H2.out w13.drew).mono ?_
   rintro e w17 ⟨rfl,q19⟩
   have V18:=V15.call q19
   refine hK _ _ (V18) ?_
   clear hK K q19
   refine zP 6 14 11 (by kernel_rfl) rfl (by rfl) rfl (by rfl) (fun K hK=> ?_) (fun K hK=> ?_)
   ·go_simp
    refine (H3.out w17).mono ?_
    rintro e w20 ⟨rfl,q22⟩
    have V21:=V18.call q22
    refine hK _ _ (V21) ?_
    clear hK K q22
    refine zP 7 14 10 (by kernel_rfl) rfl (by rfl) rfl (by rfl) (fun K hK=> ?_) (fun K hK=> ?_)
    ·go_simp
     refine (H4.out w20).mono ?_
     rintro e w23 ⟨rfl,q25⟩
     have V24:=V21.call q25
     refine hK _ _ (V24) ?_
     clear hK K q25
     refine zP 8 14 9 (by kernel_rfl) rfl (by rfl) rfl (by rfl) (fun K hK=> ?_) (fun K hK=> ?_)
     ·go_simp
      refine (H5.out w23).mono ?_
      rintro e w26 ⟨rfl,q28⟩
      have V27:=V24.call q28
      refine hK _ _ (V27) ?_
      clear hK K q28
      refine zP 9 14 8 (by kernel_rfl) rfl (by rfl) rfl (by rfl) (fun K hK=> ?_) (fun K hK=> ?_)
      ·go_simp
       refine (HR.out w26).mono ?_
       rintro e w29 ⟨rfl,q31⟩
       have V30:=V27.call q31
       refine hK _ _ (V30) ?_
       clear hK K q31
       refine zR [10,11,12,13] 4 (by kernel_rfl) (fun _ _ _ _ _ h=>h) V30 fun K hK=> ?_
       go_simp
       refine Zah _ rfl (by rfl) rfl ?_
       go_simp
       refine zC (.agg (bA r)) rfl (by rfl) (fun w' hw'=> ?_) ?_
       ·go_simp
       go_simp
       refine zC (.bool b) rfl (by rfl) (fun w' hw'=> ?_) ?_
       ·go_simp
       go_simp
       refine zC (.int .i64 0) rfl (by rfl) (fun w' hw'=> ?_) ?_
       ·go_simp
       go_simp
       refine Zac (hK.out _ ?_)
       clear hK K
       refine zO 14 3 (by kernel_rfl) rfl (by rfl) fun K hK=> ?_
       refine zN V30 5 rfl rfl (fun w32 g33 V34=> ?_)
       refine hK _ _ (V34.tail) ?_
       clear hK K
       refine zO 15 2 (by kernel_rfl) rfl (by rfl) fun K hK=> ?_
       refine zS V34 0 rfl _ _ rfl rfl r rfl rfl (fun w35 V36=> ?_)
       refine hK _ _ (V36.tail) ?_
       clear hK K
       refine zR [16,17] 0 (by kernel_rfl) (fun _ _ _ _ _ h=>h) (V36.tail) fun K hK=> ?_
       go_simp
       refine ZaB _ rfl (by rfl) rfl ?_
       go_simp
       refine ZaB _ rfl (by rfl) rfl ?_
       go_simp
       refine Zac (hK.out _ ?_)
       clear hK K
       refine wpAnyH_done (by kernel_rfl) ?_ _
       exact HC16 g33 w35 V36
      ·refine zN V27 5 rfl rfl (fun w37 g38 V39=> ?_)
       refine hK _ _ (V39.tail) ?_
       clear hK K
       refine zO 9 7 (by kernel_rfl) rfl (by rfl) fun K hK=> ?_
       go_simp
       refine (HR.out w37).mono ?_
       rintro e w40 ⟨rfl,q42⟩
       have V41:=V39.call q42
       refine hK _ _ (V41.tail) ?_
       clear hK K q42
       refine zR [10,11,12,13] 3 (by kernel_rfl) (fun _ _ _ _ _ h=>h) (V41.tail) fun K hK=> ?_
       go_simp
       refine Zah _ rfl (by rfl) rfl ?_
       go_simp
       refine zC (.agg (bA r)) rfl (by rfl) (fun w' hw'=> ?_) ?_
       ·go_simp
       go_simp
       refine zC (.bool b) rfl (by rfl) (fun w' hw'=> ?_) ?_
       ·go_simp
       go_simp
       refine zC (.int .i64 0) rfl (by rfl) (fun w' hw'=> ?_) ?_
       ·go_simp
       go_simp
       refine Zac (hK.out _ ?_)
       clear hK K
       refine zO 15 2 (by kernel_rfl) rfl (by rfl) fun K hK=> ?_
       refine zS V41 0 rfl _ _ rfl rfl r rfl rfl (fun w43 V44=> ?_)
       refine hK _ _ (V44.tail) ?_
       clear hK K
       refine zR [16,17] 0 (by kernel_rfl) (fun _ _ _ _ _ h=>h) (V44.tail) fun K hK=> ?_
       go_simp
       refine ZaB _ rfl (by rfl) rfl ?_
       go_simp
       refine ZaB _ rfl (by rfl) rfl ?_
       go_simp
       refine Zac (hK.out _ ?_)
       clear hK K
       refine wpAnyH_done (by kernel_rfl) ?_ _
       exact HC16 g38 w43 V44
     ·refine zN V24 5 rfl rfl (fun w45 g46 V47=> ?_)
      refine hK _ _ (V47.tail) ?_
      clear hK K
      refine zO 8 8 (by kernel_rfl) rfl (by rfl) fun K hK=> ?_
      go_simp
      refine (H5.out w45).mono ?_
      rintro e w48 ⟨rfl,q50⟩
      have V49:=V47.call q50
      refine hK _ _ (V49.tail) ?_
      clear hK K q50
      refine zO 9 7 (by kernel_rfl) rfl (by rfl) fun K hK=> ?_
      go_simp
      refine (HR.out w48).mono ?_
      rintro e w51 ⟨rfl,q53⟩
      have V52:=V49.call q53
      refine hK _ _ (V52.tail) ?_
      clear hK K q53
      refine zR [10,11,12,13] 3 (by kernel_rfl) (fun _ _ _ _ _ h=>h) (V52.tail) fun K hK=> ?_
      go_simp
      refine Zah _ rfl (by rfl) rfl ?_
      go_simp
      refine zC (.agg (bA r)) rfl (by rfl) (fun w' hw'=> ?_) ?_
      ·go_simp
      go_simp
      refine zC (.bool b) rfl (by rfl) (fun w' hw'=> ?_) ?_
      ·go_simp
      go_simp
      refine zC (.int .i64 0) rfl (by rfl) (fun w' hw'=> ?_) ?_
      ·go_simp
      go_simp
      refine Zac (hK.out _ ?_)
      clear hK K
      refine zO 15 2 (by kernel_rfl) rfl (by rfl) fun K hK=> ?_
      refine zS V52 0 rfl _ _ rfl rfl r rfl rfl (fun w54 V55=> ?_)
      refine hK _ _ (V55.tail) ?_
      clear hK K
      refine zR [16,17] 0 (by kernel_rfl) (fun _ _ _ _ _ h=>h) (V55.tail) fun K hK=> ?_
      go_simp
      refine ZaB _ rfl (by rfl) rfl ?_
      go_simp
      refine ZaB _ rfl (by rfl) rfl ?_
      go_simp
      refine Zac (hK.out _ ?_)
      clear hK K
      refine wpAnyH_done (by kernel_rfl) ?_ _
      exact HC16 g46 w54 V55
    ·refine zN V21 5 rfl rfl (fun w56 g57 V58=> ?_)
     refine hK _ _ (V58.tail) ?_
     clear hK K
     refine zO 7 9 (by kernel_rfl) rfl (by rfl) fun K hK=> ?_
     go_simp
     refine (H4.out w56).mono ?_
     rintro e w59 ⟨rfl,q61⟩
     have V60:=V58.call q61
     refine hK _ _ (V60.tail) ?_
     clear hK K q61
     refine zO 8 8 (by kernel_rfl) rfl (by rfl) fun K hK=> ?_
     go_simp
     refine (H5.out w59).mono ?_
     rintro e w62 ⟨rfl,q64⟩
     have V63:=V60.call q64
     refine hK _ _ (V63.tail) ?_
     clear hK K q64
     refine zO 9 7 (by kernel_rfl) rfl (by rfl) fun K hK=> ?_
     go_simp
     refine (HR.out w62).mono ?_
     rintro e w65 ⟨rfl,q67⟩
     have V66:=V63.call q67
     refine hK _ _ (V66.tail) ?_
     clear hK K q67
     refine zR [10,11,12,13] 3 (by kernel_rfl) (fun _ _ _ _ _ h=>h) (V66.tail) fun K hK=> ?_
     go_simp
     refine Zah _ rfl (by rfl) rfl ?_
     go_simp
     refine zC (.agg (bA r)) rfl (by rfl) (fun w' hw'=> ?_) ?_
     ·go_simp
     go_simp
     refine zC (.bool b) rfl (by rfl) (fun w' hw'=> ?_) ?_
     ·go_simp
     go_simp
     refine zC (.int .i64 0) rfl (by rfl) (fun w' hw'=> ?_) ?_
     ·go_simp
     go_simp
     refine Zac (hK.out _ ?_)
     clear hK K
     refine zO 15 2 (by kernel_rfl) rfl (by rfl) fun K hK=> ?_
     refine zS V66 0 rfl _ _ rfl rfl r rfl rfl (fun w68 V69=> ?_)
     refine hK _ _ (V69.tail) ?_
     clear hK K
     refine zR [16,17] 0 (by kernel_rfl) (fun _ _ _ _ _ h=>h) (V69.tail) fun K hK=> ?_
     go_simp
     refine ZaB _ rfl (by rfl) rfl ?_
     go_simp
     refine ZaB _ rfl (by rfl) rfl ?_
     go_simp
     refine Zac (hK.out _ ?_)
     clear hK K
     refine wpAnyH_done (by kernel_rfl) ?_ _
     exact HC16 g57 w68 V69
   ·refine zN V18 5 rfl rfl (fun w70 g71 V72=> ?_)
    refine hK _ _ (V72.tail) ?_
    clear hK K
    refine zO 6 10 (by kernel_rfl) rfl (by rfl) fun K hK=> ?_
    go_simp
    refine (H3.out w70).mono ?_
    rintro e w73 ⟨rfl,q75⟩
    have V74:=V72.call q75
    refine hK _ _ (V74.tail) ?_
    clear hK K q75
    refine zO 7 9 (by kernel_rfl) rfl (by rfl) fun K hK=> ?_
    go_simp
    refine (H4.out w73).mono ?_
    rintro e w76 ⟨rfl,q78⟩
    have V77:=V74.call q78
    refine hK _ _ (V77.tail) ?_
    clear hK K q78
    refine zO 8 8 (by kernel_rfl) rfl (by rfl) fun K hK=> ?_
    go_simp
    refine (H5.out w76).mono ?_
    rintro e w79 ⟨rfl,q81⟩
    have V80:=V77.call q81
    refine hK _ _ (V80.tail) ?_
    clear hK K q81
    refine zO 9 7 (by kernel_rfl) rfl (by rfl) fun K hK=> ?_
    go_simp
    refine (HR.out w79).mono ?_
    rintro e w82 ⟨rfl,q84⟩
    have V83:=V80.call q84
    refine hK _ _ (V83.tail) ?_
    clear hK K q84
    refine zR [10,11,12,13] 3 (by kernel_rfl) (fun _ _ _ _ _ h=>h) (V83.tail) fun K hK=> ?_
    go_simp
    refine Zah _ rfl (by rfl) rfl ?_
    go_simp
    refine zC (.agg (bA r)) rfl (by rfl) (fun w' hw'=> ?_) ?_
    ·go_simp
    go_simp
    refine zC (.bool b) rfl (by rfl) (fun w' hw'=> ?_) ?_
    ·go_simp
    go_simp
    refine zC (.int .i64 0) rfl (by rfl) (fun w' hw'=> ?_) ?_
    ·go_simp
    go_simp
    refine Zac (hK.out _ ?_)
    clear hK K
    refine zO 15 2 (by kernel_rfl) rfl (by rfl) fun K hK=> ?_
    refine zS V83 0 rfl _ _ rfl rfl r rfl rfl (fun w85 V86=> ?_)
    refine hK _ _ (V86.tail) ?_
    clear hK K
    refine zR [16,17] 0 (by kernel_rfl) (fun _ _ _ _ _ h=>h) (V86.tail) fun K hK=> ?_
    go_simp
    refine ZaB _ rfl (by rfl) rfl ?_
    go_simp
    refine ZaB _ rfl (by rfl) rfl ?_
    go_simp
    refine Zac (hK.out _ ?_)
    clear hK K
    refine wpAnyH_done (by kernel_rfl) ?_ _
    exact HC16 g71 w85 V86
  ·refine zN V15 5 rfl rfl (fun w87 g88 V89=> ?_)
   refine hK _ _ (V89.tail) ?_
   clear hK K
   refine zO 2 11 (by kernel_rfl) rfl (by rfl) fun K hK=> ?_
   go_simp
   refine (H2.out w87).mono ?_
   rintro e w90 ⟨rfl,q92⟩
   have V91:=V89.call q92
   refine hK _ _ (V91.tail) ?_
   clear hK K q92
   refine zO 6 10 (by kernel_rfl) rfl (by rfl) fun K hK=> ?_
   go_simp
   refine (H3.out w90).mono ?_
   rintro e w93 ⟨rfl,q95⟩
   have V94:=V91.call q95
   refine hK _ _ (V94.tail) ?_
   clear hK K q95
   refine zO 7 9 (by kernel_rfl) rfl (by rfl) fun K hK=> ?_
   go_simp
   refine (H4.out w93).mono ?_
   rintro e w96 ⟨rfl,q98⟩
   have V97:=V94.call q98
   refine hK _ _ (V97.tail) ?_
   clear hK K q98
   refine zO 8 8 (by kernel_rfl) rfl (by rfl) fun K hK=> ?_
   go_simp
   refine (H5.out w96).mono ?_
   rintro e w99 ⟨rfl,q101⟩
   have V100:=V97.call q101
   refine hK _ _ (V100.tail) ?_
   clear hK K q101
   refine zO 9 7 (by kernel_rfl) rfl (by rfl) fun K hK=> ?_
   go_simp
   refine (HR.out w99).mono ?_
   rintro e w102 ⟨rfl,q104⟩
   have V103:=V100.call q104
   refine hK _ _ (V103.tail) ?_
   clear hK K q104
   refine zR [10,11,12,13] 3 (by kernel_rfl) (fun _ _ _ _ _ h=>h) (V103.tail) fun K hK=> ?_
   go_simp
   refine Zah _ rfl (by rfl) rfl ?_
   go_simp
   refine zC (.agg (bA r)) rfl (by rfl) (fun w' hw'=> ?_) ?_
   ·go_simp
   go_simp
   refine zC (.bool b) rfl (by rfl) (fun w' hw'=> ?_) ?_
   ·go_simp
   go_simp
   refine zC (.int .i64 0) rfl (by rfl) (fun w' hw'=> ?_) ?_
   ·go_simp
   go_simp
   refine Zac (hK.out _ ?_)
   clear hK K
   refine zO 15 2 (by kernel_rfl) rfl (by rfl) fun K hK=> ?_
   refine zS V103 0 rfl _ _ rfl rfl r rfl rfl (fun w105 V106=> ?_)
   refine hK _ _ (V106.tail) ?_
   clear hK K
   refine zR [16,17] 0 (by kernel_rfl) (fun _ _ _ _ _ h=>h) (V106.tail) fun K hK=> ?_
   go_simp
   refine ZaB _ rfl (by rfl) rfl ?_
   go_simp
   refine ZaB _ rfl (by rfl) rfl ?_
   go_simp
   refine Zac (hK.out _ ?_)
   clear hK K
   refine wpAnyH_done (by kernel_rfl) ?_ _
   exact HC16 g88 w105 V106
 intro g88 w105 V106
 clear V15
 go_wp2_with (first
  | (refine zD V106 0 rfl 25 _ rfl rfl rfl rfl ?_)
  | (refine zL V106 2 rfl _ (.tmp 25) rfl rfl rfl r rfl rfl ?_;intro w107 V108))
 exact bodyPost_ret (Zcv rfl _ V108 2 rfl rfl Tryz.underlying22 Tryz.szB (Zaf _)) rfl ⟨rfl,V108.bel⟩
theorem ZgE {x y:Fp} (h:OnC ⟨x,y⟩) (he:x.val%2=0) (w:World) (hd:DAt w):Calls Tryz.prog 74 #[.agg (bA y.val)] w fun e w'=>e= .returned (.tuple #[.agg (bA x.val), .bool true])∧Below w.heap.size w w':=by
 obtain ⟨h1,h2⟩:=ZsM h he
 refine Zmf y x.val true (fun w=> ?_) w hd
 have:=Zsz _ w (ySq y).isLt h1
 rwa [h2] at this
theorem ZtI {y:Fp} (h:∀x,¬OnC ⟨x,y⟩) (w:World) (hd:DAt w):Calls Tryz.prog 74 #[.agg (bA y.val)] w fun e w'=>e= .returned (.tuple #[.agg (bA 0), .bool false])∧Below w.heap.size w w':=by
 refine Zmf y 0 false (fun w=>Zsw _ w (ySq y).isLt (fun e=> ?_)) w hd
 obtain ⟨x,hx⟩:=(ZlH y).1 ((ZlB (ySq y).isLt).1 e)
 exact h x hx
set_option maxHeartbeats 3200000 in
theorem ZtJ (p:Pt) (b:Bool) (hb:decide ((p.y*p.y - p.x*p.x).val=(1+cD*(p.x*p.x*(p.y*p.y))).val)=b) (w:World) (hd:DAt w):Calls Tryz.prog 80 #[.agg (pA p.x.val p.y.val)] w fun e w'=>e= .returned (.bool b)∧Below w.heap.size w w':=by
 have HX:Hid (∀w,Rt Tryz.prog 73 #[.agg (bA p.x.val)] (.bool true) w):=fun w=>Zdf p.x.isLt w
 have HY:Hid (∀w,Rt Tryz.prog 73 #[.agg (bA p.y.val)] (.bool true) w):=fun w=>Zdf p.y.isLt w
 have H1:Hid (∀w,Rt Tryz.prog 114 #[.agg (bA p.x.val), .agg (bA p.x.val)] (.agg (bA (p.x*p.x).val)) w):=fun w=>ZaY p.x p.x w
 have H2:Hid (∀w,Rt Tryz.prog 114 #[.agg (bA p.y.val), .agg (bA p.y.val)] (.agg (bA (p.y*p.y).val)) w):=fun w=>ZaY p.y p.y w
 have H3:Hid (∀w,Rt Tryz.prog 75 #[.agg (bA (p.y*p.y).val), .agg (bA (p.x*p.x).val)] (.agg (bA (p.y*p.y - p.x*p.x).val)) w):=fun w=>ZeL (p.y*p.y) (p.x*p.x) w
 have H4:Hid (∀w,Rt Tryz.prog 114 #[.agg (bA (p.x*p.x).val), .agg (bA (p.y*p.y).val)] (.agg (bA (p.x*p.x*(p.y*p.y)).val)) w):=fun w=>ZaY (p.x*p.x) (p.y*p.y) w
 have H5:Hid (∀w,Rt Tryz.prog 114 #[.agg (bA dN), .agg (bA (p.x*p.x*(p.y*p.y)).val)] (.agg (bA (cD*(p.x*p.x*(p.y*p.y))).val)) w):=fun w=>ZaY cD (p.x*p.x*(p.y*p.y)) w
 have H6:Hid (∀w,Rt Tryz.prog 116 #[.agg (bA 1), .agg (bA (cD*(p.x*p.x*(p.y*p.y))).val)] (.agg (bA (1+cD*(p.x*p.x*(p.y*p.y))).val)) w):=fun w=>ZdE 1 (cD*(p.x*p.x*(p.y*p.y))) w
 have HE:Hid (decide ((p.y*p.y - p.x*p.x).val=(1+cD*(p.x*p.x*(p.y*p.y))).val)=b):=hb
 have HL:Hid ((p.y*p.y - p.x*p.x).val<2^256∧(1+cD*(p.x*p.x*(p.y*p.y))).val<2^256):=⟨Za1 (p.y*p.y - p.x*p.x).isLt,Za1 (1+cD*(p.x*p.x*(p.y*p.y))).isLt⟩
 clear hb
 generalize (1+cD*(p.x*p.x*(p.y*p.y))).val=rr at*
 generalize (cD*(p.x*p.x*(p.y*p.y))).val=dm at*
 generalize (p.x*p.x*(p.y*p.y)).val=m at*
 generalize (p.y*p.y - p.x*p.x).val=l at*
 generalize (p.x*p.x).val=xx at*
 generalize (p.y*p.y).val=yy at*
 generalize p.x.val=x at*
 generalize p.y.val=y at*
 have V0:=Vars.start w
 go_enter Tryz.func80,Tryz.ntmps80
 go_wp2_with (first
  | (refine Zaj V0 1 76 _ rfl rfl rfl (pA x y) rfl ?_;intro w1 g2 V3)
  | (refine Zax rfl (ZaT V3 0 rfl 0 (ZeH _ _) _ rfl rfl Tryz.underlying22 Tryz.szB (Zaf _)) ?_))
 refine (HX.out w1).mono ?_
 rintro e w4 ⟨rfl,q6⟩
 have V5:=V3.call q6
 clear q6 V3
 go_wp2_with (refine Zax rfl (ZaT V5 0 rfl 32 (ZdB _ _) _ rfl rfl Tryz.underlying22 Tryz.szB (Zaf _)) ?_)
 refine (HY.out w4).mono ?_
 rintro e w7 ⟨rfl,q9⟩
 have V8:=V5.call q9
 clear q9 V5
 go_wp2_with fail
 refine Zar (fun _=>True) (by kernel_rfl) ?_
 have V10:=V8.drew
 refine Zcw (fuel:=12) (m:=2) (stop:=Za9 [0,1,2,3,4,5,6,7,8,9,10,11] (Array.replicate 14 false)) (fun _ _=>trivial) V10 ?_
 refine Za5 (fuel:=11) (i:=10) 3 22 (bA 0) (by kernel_rfl) (by kernel_rfl) (fun c d v a w h=>by cases d<;>exact h) Zbu (by kernel_rfl) ?_
 refine Za5 (fuel:=10) (i:=11) 4 22 (bA 0) (by kernel_rfl) (by kernel_rfl) (fun c d v a w h=>by cases d<;>exact h) Zbu (by kernel_rfl) ?_
 refine Za4 (rs:=[0,1,2,3,5,6,7,8]) (fuel:=2) (by kernel_rfl) (fun c d v a w h=>by cases d<;>exact h) (by kernel_rfl) (fun K hK=> ?_)
 refine zC (.pointer (some ⟨g2,0,none⟩)) rfl (by rfl) (fun w' hw'=> ?_) ?_
 ·go_simp
 go_simp
 refine zC (.agg (bA x)) rfl (by rfl) (fun w' hw'=>ZaT (V10.call hw') 0 rfl 0 (ZeH _ _) _ rfl rfl Tryz.underlying22 Tryz.szB (Zaf _)) ?_
 go_simp
 refine zC (.pointer (some ⟨g2,0,none⟩)) rfl (by rfl) (fun w' hw'=> ?_) ?_
 ·go_simp
 go_simp
 refine zC (.agg (bA x)) rfl (by rfl) (fun w' hw'=>ZaT (V10.call hw') 0 rfl 0 (ZeH _ _) _ rfl rfl Tryz.underlying22 Tryz.szB (Zaf _)) ?_
 go_simp
 refine zC (.pointer (some ⟨g2,32,none⟩)) rfl (by rfl) (fun w' hw'=> ?_) ?_
 ·go_simp
 go_simp
 refine zC (.agg (bA y)) rfl (by rfl) (fun w' hw'=>ZaT (V10.call hw') 0 rfl 32 (ZdB _ _) _ rfl rfl Tryz.underlying22 Tryz.szB (Zaf _)) ?_
 go_simp
 refine zC (.pointer (some ⟨g2,32,none⟩)) rfl (by rfl) (fun w' hw'=> ?_) ?_
 ·go_simp
 go_simp
 refine zC (.agg (bA y)) rfl (by rfl) (fun w' hw'=>ZaT (V10.call hw') 0 rfl 32 (ZdB _ _) _ rfl rfl Tryz.underlying22 Tryz.szB (Zaf _)) ?_
 go_simp
 refine Zac (hK.out _ ?_)
 clear hK K
 refine ZaE (i:=4) (fuel:=1) (by kernel_rfl) (by kernel_rfl) rfl (by rfl) (fun w11 q12 V13 K hK=> ?_)
 go_simp
 refine (H1.out w11).mono ?_
 rintro e w14 ⟨rfl,q15⟩
 have V16:=V13.call q15
 refine hK [] _ _ q15 (Fresh.nil _ _) ?_
 clear hK K q15
 refine ZaE (i:=9) (fuel:=0) (by kernel_rfl) (by kernel_rfl) rfl (by rfl) (fun w17 q18 V19 K hK=> ?_)
 go_simp
 refine (H2.out w17).mono ?_
 rintro e w20 ⟨rfl,q21⟩
 have V22:=V19.call q21
 refine hK [] _ _ q21 (Fresh.nil _ _) ?_
 clear hK K q21
 refine ZhS (by kernel_rfl) (fun w25 g23 g24 q26 V27=> ?_)
 clear q26
 replace V27:Vars w w25 [⟨g23,22,bA 0⟩,⟨g24,22,bA 0⟩,⟨g2,76,pA x y⟩]:=V27
 refine zO 12 1 (by kernel_rfl) rfl (by rfl) fun K hK=> ?_
 refine zS V27 0 rfl _ _ rfl rfl xx rfl rfl (fun w28 V29=> ?_)
 refine hK _ _ (trivial) ?_
 clear hK K
 refine zO 13 0 (by kernel_rfl) rfl (by rfl) fun K hK=> ?_
 refine zS V29 1 rfl _ _ rfl rfl yy rfl rfl (fun w30 V31=> ?_)
 refine hK _ _ (trivial) ?_
 clear hK K
 refine wpAnyH_done (by kernel_rfl) ?_ _
 go_wp2_with fail
 refine Zar (fun w'=>Vars w w' [⟨g23,22,bA xx⟩,⟨g24,22,bA yy⟩,⟨g2,76,pA x y⟩]) (by kernel_rfl) ?_
 have V32:=V31.drew
 refine zR [0,1,3,4,5,6] 6 (by kernel_rfl) (fun _ _ _ _ _ h=>h) V32 fun K hK=> ?_
 refine zC (.agg (bA yy)) rfl (by rfl) (fun w' hw'=>zB hw' 1 rfl _ rfl rfl) ?_
 go_simp
 refine zC (.agg (bA xx)) rfl (by rfl) (fun w' hw'=>zB hw' 0 rfl _ rfl rfl) ?_
 go_simp
 refine zC (.agg (bA 1)) rfl (by rfl) (fun w' hw'=> ?_) ?_
 ·refine ZcT 22 _ rfl (bA 1) ?_
  exact (Zdw 1 (by decide))
 go_simp
 refine zC (.agg (bA dN)) rfl (by rfl) (fun w' hw'=>ZiK (hd.of hw') _ rfl rfl) ?_
 go_simp
 refine zC (.agg (bA xx)) rfl (by rfl) (fun w' hw'=>zB hw' 0 rfl _ rfl rfl) ?_
 go_simp
 refine zC (.agg (bA yy)) rfl (by rfl) (fun w' hw'=>zB hw' 1 rfl _ rfl rfl) ?_
 go_simp
 refine Zac (hK.out _ ?_)
 clear hK K
 refine zO 2 5 (by kernel_rfl) rfl (by rfl) fun K hK=> ?_
 go_simp
 refine (H3.out w30.drew).mono ?_
 rintro e w33 ⟨rfl,q35⟩
 have V34:=V32.call q35
 refine hK _ _ (V34) ?_
 clear hK K q35
 refine zO 7 4 (by kernel_rfl) rfl (by rfl) fun K hK=> ?_
 go_simp
 refine (H4.out w33).mono ?_
 rintro e w36 ⟨rfl,q38⟩
 have V37:=V34.call q38
 refine hK _ _ (V37) ?_
 clear hK K q38
 refine zO 8 3 (by kernel_rfl) rfl (by rfl) fun K hK=> ?_
 go_simp
 refine (H5.out w36).mono ?_
 rintro e w39 ⟨rfl,q41⟩
 have V40:=V37.call q41
 refine hK _ _ (V40) ?_
 clear hK K q41
 refine zO 9 2 (by kernel_rfl) rfl (by rfl) fun K hK=> ?_
 go_simp
 refine (H6.out w39).mono ?_
 rintro e w42 ⟨rfl,q44⟩
 have V43:=V40.call q44
 refine hK _ _ (V43) ?_
 clear hK K q44
 refine zR [10,11] 0 (by kernel_rfl) (fun _ _ _ _ _ h=>h) V43 fun K hK=> ?_
 go_simp
 refine zC (.bool b) rfl (by rfl) (fun w' hw'=>Zgy _ _ rfl b _ _ HE.out rfl rfl HL.out.1 HL.out.2) ?_
 go_simp
 refine ZaB _ rfl (by rfl) rfl ?_
 go_simp
 refine Zac (hK.out _ ?_)
 clear hK K
 refine wpAnyH_done (by kernel_rfl) ?_ _
 go_wp2_with fail
 go_ret
 exact ⟨rfl,V43.bel⟩
theorem ZfD {p:Pt} (h:OnC p) (w:World) (hd:DAt w):Calls Tryz.prog 80 #[.agg (pA p.x.val p.y.val)] w fun e w'=>e= .returned (.bool true)∧Below w.heap.size w w':=
 ZtJ p true (decide_eq_true (congrArg Fin.val ((ZsI p).1 h))) w hd
set_option maxHeartbeats 800000 in
theorem ZiU (w:World) (hd:DAt w):Calls Tryz.prog 37 #[] w fun e w'=>e= .returned (.agg (pA ZaA.x.val ZaA.y.val))∧Below w.heap.size w w':=by
 have H1:Hid (∀w,Rt Tryz.prog 85 #[.agg (bA 4), .agg (bA 5)] (.agg (bA ZaA.y.val)) w):=fun w=>by
  have:=ZiM 4 5 (by decide) w
  rwa [ZsP] at this
 have H2:Hid (∀w,DAt w→Rt Tryz.prog 74 #[.agg (bA ZaA.y.val)] (.tuple #[.agg (bA ZaA.x.val), .bool true]) w):=fun w h=>ZgE (x:=ZaA.x) (y:=ZaA.y) ZbV Zsb w h
 generalize ZaA.x.val=x at*
 generalize ZaA.y.val=y at*
 have V0:=Vars.start w
 go_enter Tryz.func37,Tryz.ntmps37
 go_wp2_with (first
  | (refine Zai V0 0 76 rfl rfl rfl (pA 0 0) Za7 ?_;intro w1 g2 V3)
  | (refine ZaR 4 22 _ rfl rfl rfl (bA 4) (Zdw 4 (by decide)) ?_)
  | (refine ZaR 5 22 _ rfl rfl rfl (bA 5) (Zdw 5 (by decide)) ?_))
 refine (H1.out w1).mono ?_
 rintro e w4 ⟨rfl,q6⟩
 have V5:=V3.call q6
 clear q6 V3
 go_wp2_with (first
  | (refine zA V5 1 rfl rfl rfl ?_;intro w7 g8 V9)
  | (refine zL V9 0 rfl _ (.tmp 6) rfl rfl rfl y rfl rfl ?_;intro w10 V11)
  | (refine zD V11 0 rfl 8 _ rfl rfl rfl rfl ?_))
 refine (H2.out w10 (hd.of V11)).mono ?_
 rintro e w12 ⟨rfl,q14⟩
 have V13:=V11.call q14
 clear q14 V11
 go_wp2_with (first
  | (refine zA V13 2 rfl rfl rfl ?_;intro w15 g16 V17)
  | (refine zL V17 0 rfl _ (.tmp 10) rfl rfl rfl x rfl rfl ?_;intro w18 V19)
  | (refine zD V19 0 rfl 12 _ rfl rfl rfl rfl ?_)
  | (refine zD V19 1 rfl 13 _ rfl rfl rfl rfl ?_)
  | (refine ZaR 14 76 _ rfl rfl rfl (pA x y) (ZgB _ _) ?_)
  | (refine Zal V19 2 rfl _ (.tmp 14) rfl rfl rfl (pA x y) rfl rfl Tryz.szP (Zak _ _) (Zak _ _) (Za6 _ _) ?_;intro w20 V21))
 exact bodyPost_ret (ZcK rfl _ V21 2 rfl rfl Tryz.underlying76 Tryz.szP (Zak _ _)) rfl ⟨rfl,V21.bel⟩
end Go.Proofs.YtcaloldcihpkfaaGreatDoor.N
