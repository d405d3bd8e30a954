/-
 The code of layer 17 (curve): across, On, Base.
-/
import Derived.Test.YthangiocheodoaaGreatDoorPackFb
import Derived.Test.YthangiocheodoaaGreatDoorPackCb
namespace Go.Proofs.YthangiocheodoaaGreatDoor.N
open Go.RowKit
set_option linter.unusedVariables false
set_option maxRecDepth 8192

set_option maxHeartbeats 1600000 in
theorem across_gen (y : Fp) (r : Nat) (b : Bool) (HR : Hid (∀ w, Rt Tryz.prog 57 #[.agg (bA (ySq y).val)] (.tuple #[.agg (bA r), .bool b, .int .i64 0]) w)) (w : World) (hd : DAt w) : Calls Tryz.prog 26 #[.agg (bA y.val)] w fun e w' => e = .returned (.tuple #[.agg (bA r), .bool b]) ∧ Below w.heap.size w w' := by
 have H1 : Hid (∀ w, Rt Tryz.prog 56 #[.agg (bA y.val), .agg (bA y.val)] (.agg (bA (y * y).val)) w) := fun w => cmul_any y y w
 have H2 : Hid (∀ w, Rt Tryz.prog 27 #[.agg (bA (y * y).val), .agg (bA 1)] (.agg (bA (y * y - 1).val)) w) := fun w => csub_any (y * y) 1 w
 have H3 : Hid (∀ w, Rt Tryz.prog 56 #[.agg (bA dN), .agg (bA (y * y).val)] (.agg (bA (cD * (y * y)).val)) w) := fun w => cmul_any cD (y * y) w
 have H4 : Hid (∀ w, Rt Tryz.prog 58 #[.agg (bA 1), .agg (bA (cD * (y * y)).val)] (.agg (bA (1 + cD * (y * y)).val)) w) := fun w => cadd_any 1 (cD * (y * y)) w
 have H5 : Hid (∀ w, Rt Tryz.prog 33 #[.agg (bA (y * y - 1).val), .agg (bA (1 + cD * (y * y)).val)] (.agg (bA (ySq y).val)) w) := fun w => cdiv_any (y * y - 1) (1 + cD * (y * y)) (down_alt y) w
 generalize (ySq y).val = q at *
 generalize (1 + cD * (y * y)).val = a1 at *
 generalize (cD * (y * y)).val = m1 at *
 generalize (y * y - 1).val = s1 at *
 generalize (y * y).val = yy at *
 generalize y.val = v at *
 have V0 := Vars.start w
 go_enter Tryz.func26, Tryz.ntmps26
 go_wp2_with (first
  | (refine wpList_boxV V0 1 22 _ rfl rfl rfl (bA v) rfl ?_; intro w1 g2 V3)
  | (refine zA V3 2 rfl rfl rfl ?_; intro w4 g5 V6)
  | (refine zD V6 1 rfl 8 _ rfl rfl rfl rfl ?_)
  | (refine zD V6 1 rfl 9 _ rfl rfl rfl rfl ?_))
 refine (H1.out w4).mono ?_
 rintro e w7 ⟨rfl, q9⟩
 have V8 := V6.call q9
 clear q9 V6
 go_wp2_with (first
  | (refine zA V8 4 rfl rfl rfl ?_; intro w10 g11 V12)
  | (refine zL V12 0 rfl _ (.tmp 10) rfl rfl rfl yy rfl rfl ?_; intro w13 V14))
 refine av_open (fun w' => Vars w w' [⟨g11, 22, bA yy⟩, ⟨g5, 22, bA 0⟩, ⟨g2, 22, bA v⟩]) (by kernel_rfl) ?_
 have V15 := V14.drew
 apply av_once (Vg := fun g w' => Vars w w' [⟨g, 22, bA r⟩, ⟨g11, 22, bA yy⟩, ⟨g5, 22, bA 0⟩, ⟨g2, 22, bA v⟩])
 ·intro HC16
  refine zR [0, 1, 3, 4, 5] 13 (by kernel_rfl) (fun _ _ _ _ _ h => h) V15 fun K hK => ?_
  refine zC (.agg (bA yy)) rfl (by rfl) (fun w' hw' => zB hw' 0 rfl _ rfl rfl) ?_
  go_simp
  refine zC (.agg (bA 1)) rfl (by rfl) (fun w' hw' => ?_) ?_
  ·refine exec_buildV 22 _ rfl (bA 1) ?_
   exact (built_B 1 (by decide))
  go_simp
  refine zC (.agg (bA 1)) rfl (by rfl) (fun w' hw' => ?_) ?_
  ·refine exec_buildV 22 _ rfl (bA 1) ?_
   exact (built_B 1 (by decide))
  go_simp
  refine zC (.agg (bA dN)) rfl (by rfl) (fun w' hw' => exec_loadG (hd.of hw') _ rfl rfl) ?_
  go_simp
  refine zC (.agg (bA yy)) rfl (by rfl) (fun w' hw' => zB hw' 0 rfl _ rfl rfl) ?_
  go_simp
  refine calm_nil (hK.out _ ?_)
  clear hK K
  refine zP 2 14 12 (by kernel_rfl) rfl (by rfl) rfl (by rfl) (fun K hK => ?_) (fun K hK => ?_)
  ·go_simp
   refine (H2.out w13.drew).mono ?_
   rintro e w17 ⟨rfl, q19⟩
   have V18 := V15.call q19
   refine hK _ _ (V18) ?_
   clear hK K q19
   refine zP 6 14 11 (by kernel_rfl) rfl (by rfl) rfl (by rfl) (fun K hK => ?_) (fun K hK => ?_)
   ·go_simp
    refine (H3.out w17).mono ?_
    rintro e w20 ⟨rfl, q22⟩
    have V21 := V18.call q22
    refine hK _ _ (V21) ?_
    clear hK K q22
    refine zP 7 14 10 (by kernel_rfl) rfl (by rfl) rfl (by rfl) (fun K hK => ?_) (fun K hK => ?_)
    ·go_simp
     refine (H4.out w20).mono ?_
     rintro e w23 ⟨rfl, q25⟩
     have V24 := V21.call q25
     refine hK _ _ (V24) ?_
     clear hK K q25
     refine zP 8 14 9 (by kernel_rfl) rfl (by rfl) rfl (by rfl) (fun K hK => ?_) (fun K hK => ?_)
     ·go_simp
      refine (H5.out w23).mono ?_
      rintro e w26 ⟨rfl, q28⟩
      have V27 := V24.call q28
      refine hK _ _ (V27) ?_
      clear hK K q28
      refine zP 9 14 8 (by kernel_rfl) rfl (by rfl) rfl (by rfl) (fun K hK => ?_) (fun K hK => ?_)
      ·go_simp
       refine (HR.out w26).mono ?_
       rintro e w29 ⟨rfl, q31⟩
       have V30 := V27.call q31
       refine hK _ _ (V30) ?_
       clear hK K q31
       refine zR [10, 11, 12, 13] 4 (by kernel_rfl) (fun _ _ _ _ _ h => h) V30 fun K hK => ?_
       go_simp
       refine calm_move _ rfl (by rfl) rfl ?_
       go_simp
       refine zC (.agg (bA r)) rfl (by rfl) (fun w' hw' => ?_) ?_
       ·go_simp
       go_simp
       refine zC (.bool b) rfl (by rfl) (fun w' hw' => ?_) ?_
       ·go_simp
       go_simp
       refine zC (.int .i64 0) rfl (by rfl) (fun w' hw' => ?_) ?_
       ·go_simp
       go_simp
       refine calm_nil (hK.out _ ?_)
       clear hK K
       refine zO 14 3 (by kernel_rfl) rfl (by rfl) fun K hK => ?_
       refine zN V30 5 rfl rfl (fun w32 g33 V34 => ?_)
       refine hK _ _ (V34.tail) ?_
       clear hK K
       refine zO 15 2 (by kernel_rfl) rfl (by rfl) fun K hK => ?_
       refine zS V34 0 rfl _ _ rfl rfl r rfl rfl (fun w35 V36 => ?_)
       refine hK _ _ (V36.tail) ?_
       clear hK K
       refine zR [16, 17] 0 (by kernel_rfl) (fun _ _ _ _ _ h => h) (V36.tail) fun K hK => ?_
       go_simp
       refine calm_assign _ rfl (by rfl) rfl ?_
       go_simp
       refine calm_assign _ rfl (by rfl) rfl ?_
       go_simp
       refine calm_nil (hK.out _ ?_)
       clear hK K
       refine wpAnyH_done (by kernel_rfl) ?_ _
       exact HC16 g33 w35 V36
      ·refine zN V27 5 rfl rfl (fun w37 g38 V39 => ?_)
       refine hK _ _ (V39.tail) ?_
       clear hK K
       refine zO 9 7 (by kernel_rfl) rfl (by rfl) fun K hK => ?_
       go_simp
       refine (HR.out w37).mono ?_
       rintro e w40 ⟨rfl, q42⟩
       have V41 := V39.call q42
       refine hK _ _ (V41.tail) ?_
       clear hK K q42
       refine zR [10, 11, 12, 13] 3 (by kernel_rfl) (fun _ _ _ _ _ h => h) (V41.tail) fun K hK => ?_
       go_simp
       refine calm_move _ rfl (by rfl) rfl ?_
       go_simp
       refine zC (.agg (bA r)) rfl (by rfl) (fun w' hw' => ?_) ?_
       ·go_simp
       go_simp
       refine zC (.bool b) rfl (by rfl) (fun w' hw' => ?_) ?_
       ·go_simp
       go_simp
       refine zC (.int .i64 0) rfl (by rfl) (fun w' hw' => ?_) ?_
       ·go_simp
       go_simp
       refine calm_nil (hK.out _ ?_)
       clear hK K
       refine zO 15 2 (by kernel_rfl) rfl (by rfl) fun K hK => ?_
       refine zS V41 0 rfl _ _ rfl rfl r rfl rfl (fun w43 V44 => ?_)
       refine hK _ _ (V44.tail) ?_
       clear hK K
       refine zR [16, 17] 0 (by kernel_rfl) (fun _ _ _ _ _ h => h) (V44.tail) fun K hK => ?_
       go_simp
       refine calm_assign _ rfl (by rfl) rfl ?_
       go_simp
       refine calm_assign _ rfl (by rfl) rfl ?_
       go_simp
       refine calm_nil (hK.out _ ?_)
       clear hK K
       refine wpAnyH_done (by kernel_rfl) ?_ _
       exact HC16 g38 w43 V44
     ·refine zN V24 5 rfl rfl (fun w45 g46 V47 => ?_)
      refine hK _ _ (V47.tail) ?_
      clear hK K
      refine zO 8 8 (by kernel_rfl) rfl (by rfl) fun K hK => ?_
      go_simp
      refine (H5.out w45).mono ?_
      rintro e w48 ⟨rfl, q50⟩
      have V49 := V47.call q50
      refine hK _ _ (V49.tail) ?_
      clear hK K q50
      refine zO 9 7 (by kernel_rfl) rfl (by rfl) fun K hK => ?_
      go_simp
      refine (HR.out w48).mono ?_
      rintro e w51 ⟨rfl, q53⟩
      have V52 := V49.call q53
      refine hK _ _ (V52.tail) ?_
      clear hK K q53
      refine zR [10, 11, 12, 13] 3 (by kernel_rfl) (fun _ _ _ _ _ h => h) (V52.tail) fun K hK => ?_
      go_simp
      refine calm_move _ rfl (by rfl) rfl ?_
      go_simp
      refine zC (.agg (bA r)) rfl (by rfl) (fun w' hw' => ?_) ?_
      ·go_simp
      go_simp
      refine zC (.bool b) rfl (by rfl) (fun w' hw' => ?_) ?_
      ·go_simp
      go_simp
      refine zC (.int .i64 0) rfl (by rfl) (fun w' hw' => ?_) ?_
      ·go_simp
      go_simp
      refine calm_nil (hK.out _ ?_)
      clear hK K
      refine zO 15 2 (by kernel_rfl) rfl (by rfl) fun K hK => ?_
      refine zS V52 0 rfl _ _ rfl rfl r rfl rfl (fun w54 V55 => ?_)
      refine hK _ _ (V55.tail) ?_
      clear hK K
      refine zR [16, 17] 0 (by kernel_rfl) (fun _ _ _ _ _ h => h) (V55.tail) fun K hK => ?_
      go_simp
      refine calm_assign _ rfl (by rfl) rfl ?_
      go_simp
      refine calm_assign _ rfl (by rfl) rfl ?_
      go_simp
      refine calm_nil (hK.out _ ?_)
      clear hK K
      refine wpAnyH_done (by kernel_rfl) ?_ _
      exact HC16 g46 w54 V55
    ·refine zN V21 5 rfl rfl (fun w56 g57 V58 => ?_)
     refine hK _ _ (V58.tail) ?_
     clear hK K
     refine zO 7 9 (by kernel_rfl) rfl (by rfl) fun K hK => ?_
     go_simp
     refine (H4.out w56).mono ?_
     rintro e w59 ⟨rfl, q61⟩
     have V60 := V58.call q61
     refine hK _ _ (V60.tail) ?_
     clear hK K q61
     refine zO 8 8 (by kernel_rfl) rfl (by rfl) fun K hK => ?_
     go_simp
     refine (H5.out w59).mono ?_
     rintro e w62 ⟨rfl, q64⟩
     have V63 := V60.call q64
     refine hK _ _ (V63.tail) ?_
     clear hK K q64
     refine zO 9 7 (by kernel_rfl) rfl (by rfl) fun K hK => ?_
     go_simp
     refine (HR.out w62).mono ?_
     rintro e w65 ⟨rfl, q67⟩
     have V66 := V63.call q67
     refine hK _ _ (V66.tail) ?_
     clear hK K q67
     refine zR [10, 11, 12, 13] 3 (by kernel_rfl) (fun _ _ _ _ _ h => h) (V66.tail) fun K hK => ?_
     go_simp
     refine calm_move _ rfl (by rfl) rfl ?_
     go_simp
     refine zC (.agg (bA r)) rfl (by rfl) (fun w' hw' => ?_) ?_
     ·go_simp
     go_simp
     refine zC (.bool b) rfl (by rfl) (fun w' hw' => ?_) ?_
     ·go_simp
     go_simp
     refine zC (.int .i64 0) rfl (by rfl) (fun w' hw' => ?_) ?_
     ·go_simp
     go_simp
     refine calm_nil (hK.out _ ?_)
     clear hK K
     refine zO 15 2 (by kernel_rfl) rfl (by rfl) fun K hK => ?_
     refine zS V66 0 rfl _ _ rfl rfl r rfl rfl (fun w68 V69 => ?_)
     refine hK _ _ (V69.tail) ?_
     clear hK K
     refine zR [16, 17] 0 (by kernel_rfl) (fun _ _ _ _ _ h => h) (V69.tail) fun K hK => ?_
     go_simp
     refine calm_assign _ rfl (by rfl) rfl ?_
     go_simp
     refine calm_assign _ rfl (by rfl) rfl ?_
     go_simp
     refine calm_nil (hK.out _ ?_)
     clear hK K
     refine wpAnyH_done (by kernel_rfl) ?_ _
     exact HC16 g57 w68 V69
   ·refine zN V18 5 rfl rfl (fun w70 g71 V72 => ?_)
    refine hK _ _ (V72.tail) ?_
    clear hK K
    refine zO 6 10 (by kernel_rfl) rfl (by rfl) fun K hK => ?_
    go_simp
    refine (H3.out w70).mono ?_
    rintro e w73 ⟨rfl, q75⟩
    have V74 := V72.call q75
    refine hK _ _ (V74.tail) ?_
    clear hK K q75
    refine zO 7 9 (by kernel_rfl) rfl (by rfl) fun K hK => ?_
    go_simp
    refine (H4.out w73).mono ?_
    rintro e w76 ⟨rfl, q78⟩
    have V77 := V74.call q78
    refine hK _ _ (V77.tail) ?_
    clear hK K q78
    refine zO 8 8 (by kernel_rfl) rfl (by rfl) fun K hK => ?_
    go_simp
    refine (H5.out w76).mono ?_
    rintro e w79 ⟨rfl, q81⟩
    have V80 := V77.call q81
    refine hK _ _ (V80.tail) ?_
    clear hK K q81
    refine zO 9 7 (by kernel_rfl) rfl (by rfl) fun K hK => ?_
    go_simp
    refine (HR.out w79).mono ?_
    rintro e w82 ⟨rfl, q84⟩
    have V83 := V80.call q84
    refine hK _ _ (V83.tail) ?_
    clear hK K q84
    refine zR [10, 11, 12, 13] 3 (by kernel_rfl) (fun _ _ _ _ _ h => h) (V83.tail) fun K hK => ?_
    go_simp
    refine calm_move _ rfl (by rfl) rfl ?_
    go_simp
    refine zC (.agg (bA r)) rfl (by rfl) (fun w' hw' => ?_) ?_
    ·go_simp
    go_simp
    refine zC (.bool b) rfl (by rfl) (fun w' hw' => ?_) ?_
    ·go_simp
    go_simp
    refine zC (.int .i64 0) rfl (by rfl) (fun w' hw' => ?_) ?_
    ·go_simp
    go_simp
    refine calm_nil (hK.out _ ?_)
    clear hK K
    refine zO 15 2 (by kernel_rfl) rfl (by rfl) fun K hK => ?_
    refine zS V83 0 rfl _ _ rfl rfl r rfl rfl (fun w85 V86 => ?_)
    refine hK _ _ (V86.tail) ?_
    clear hK K
    refine zR [16, 17] 0 (by kernel_rfl) (fun _ _ _ _ _ h => h) (V86.tail) fun K hK => ?_
    go_simp
    refine calm_assign _ rfl (by rfl) rfl ?_
    go_simp
    refine calm_assign _ rfl (by rfl) rfl ?_
    go_simp
    refine calm_nil (hK.out _ ?_)
    clear hK K
    refine wpAnyH_done (by kernel_rfl) ?_ _
    exact HC16 g71 w85 V86
  ·refine zN V15 5 rfl rfl (fun w87 g88 V89 => ?_)
   refine hK _ _ (V89.tail) ?_
   clear hK K
   refine zO 2 11 (by kernel_rfl) rfl (by rfl) fun K hK => ?_
   go_simp
   refine (H2.out w87).mono ?_
   rintro e w90 ⟨rfl, q92⟩
   have V91 := V89.call q92
   refine hK _ _ (V91.tail) ?_
   clear hK K q92
   refine zO 6 10 (by kernel_rfl) rfl (by rfl) fun K hK => ?_
   go_simp
   refine (H3.out w90).mono ?_
   rintro e w93 ⟨rfl, q95⟩
   have V94 := V91.call q95
   refine hK _ _ (V94.tail) ?_
   clear hK K q95
   refine zO 7 9 (by kernel_rfl) rfl (by rfl) fun K hK => ?_
   go_simp
   refine (H4.out w93).mono ?_
   rintro e w96 ⟨rfl, q98⟩
   have V97 := V94.call q98
   refine hK _ _ (V97.tail) ?_
   clear hK K q98
   refine zO 8 8 (by kernel_rfl) rfl (by rfl) fun K hK => ?_
   go_simp
   refine (H5.out w96).mono ?_
   rintro e w99 ⟨rfl, q101⟩
   have V100 := V97.call q101
   refine hK _ _ (V100.tail) ?_
   clear hK K q101
   refine zO 9 7 (by kernel_rfl) rfl (by rfl) fun K hK => ?_
   go_simp
   refine (HR.out w99).mono ?_
   rintro e w102 ⟨rfl, q104⟩
   have V103 := V100.call q104
   refine hK _ _ (V103.tail) ?_
   clear hK K q104
   refine zR [10, 11, 12, 13] 3 (by kernel_rfl) (fun _ _ _ _ _ h => h) (V103.tail) fun K hK => ?_
   go_simp
   refine calm_move _ rfl (by rfl) rfl ?_
   go_simp
   refine zC (.agg (bA r)) rfl (by rfl) (fun w' hw' => ?_) ?_
   ·go_simp
   go_simp
   refine zC (.bool b) rfl (by rfl) (fun w' hw' => ?_) ?_
   ·go_simp
   go_simp
   refine zC (.int .i64 0) rfl (by rfl) (fun w' hw' => ?_) ?_
   ·go_simp
   go_simp
   refine calm_nil (hK.out _ ?_)
   clear hK K
   refine zO 15 2 (by kernel_rfl) rfl (by rfl) fun K hK => ?_
   refine zS V103 0 rfl _ _ rfl rfl r rfl rfl (fun w105 V106 => ?_)
   refine hK _ _ (V106.tail) ?_
   clear hK K
   refine zR [16, 17] 0 (by kernel_rfl) (fun _ _ _ _ _ h => h) (V106.tail) fun K hK => ?_
   go_simp
   refine calm_assign _ rfl (by rfl) rfl ?_
   go_simp
   refine calm_assign _ rfl (by rfl) rfl ?_
   go_simp
   refine calm_nil (hK.out _ ?_)
   clear hK K
   refine wpAnyH_done (by kernel_rfl) ?_ _
   exact HC16 g88 w105 V106
 intro g88 w105 V106
 clear V15
 go_wp2_with (first
  | (refine zD V106 0 rfl 25 _ rfl rfl rfl rfl ?_)
  | (refine zL V106 2 rfl _ (.tmp 25) rfl rfl rfl r rfl rfl ?_; intro w107 V108))
 exact bodyPost_ret (resV2 rfl _ V108 2 rfl rfl Tryz.underlying22 Tryz.szB (bA_size _)) rfl ⟨rfl, V108.bel⟩
theorem across_yes {x y : Fp} (h : OnC ⟨x, y⟩) (he : x.val % 2 = 0) (w : World) (hd : DAt w) : Calls Tryz.prog 26 #[.agg (bA y.val)] w fun e w' => e = .returned (.tuple #[.agg (bA x.val), .bool true]) ∧ Below w.heap.size w w' := by
 obtain ⟨h1, h2⟩ := ySq_even h he
 refine across_gen y x.val true (fun w => ?_) w hd
 have := fRoot_yes _ w (ySq y).isLt h1
 rwa [h2] at this
theorem across_none {y : Fp} (h : ∀ x, ¬ OnC ⟨x, y⟩) (w : World) (hd : DAt w) : Calls Tryz.prog 26 #[.agg (bA y.val)] w fun e w' => e = .returned (.tuple #[.agg (bA 0), .bool false]) ∧ Below w.heap.size w w' := by
 refine across_gen y 0 false (fun w => fRoot_none _ w (ySq y).isLt (fun e => ?_)) w hd
 obtain ⟨x, hx⟩ := (ySq_root y).1 ((root_iff (ySq y).isLt).1 e)
 exact h x hx
set_option maxHeartbeats 3200000 in
theorem on_gen17 (p : Pt) (b : Bool) (hb : decide ((p.y * p.y - p.x * p.x).val = (1 + cD * (p.x * p.x * (p.y * p.y))).val) = b) (w : World) (hd : DAt w) : Calls Tryz.prog 75 #[.agg (pA p.x.val p.y.val)] w fun e w' => e = .returned (.bool b) ∧ Below w.heap.size w w' := by
 have HX : Hid (∀ w, Rt Tryz.prog 25 #[.agg (bA p.x.val)] (.bool true) w) := fun w => is_yes p.x.isLt w
 have HY : Hid (∀ w, Rt Tryz.prog 25 #[.agg (bA p.y.val)] (.bool true) w) := fun w => is_yes p.y.isLt w
 have H1 : Hid (∀ w, Rt Tryz.prog 56 #[.agg (bA p.x.val), .agg (bA p.x.val)] (.agg (bA (p.x * p.x).val)) w) := fun w => cmul_any p.x p.x w
 have H2 : Hid (∀ w, Rt Tryz.prog 56 #[.agg (bA p.y.val), .agg (bA p.y.val)] (.agg (bA (p.y * p.y).val)) w) := fun w => cmul_any p.y p.y w
 have H3 : Hid (∀ w, Rt Tryz.prog 27 #[.agg (bA (p.y * p.y).val), .agg (bA (p.x * p.x).val)] (.agg (bA (p.y * p.y - p.x * p.x).val)) w) := fun w => csub_any (p.y * p.y) (p.x * p.x) w
 have H4 : Hid (∀ w, Rt Tryz.prog 56 #[.agg (bA (p.x * p.x).val), .agg (bA (p.y * p.y).val)] (.agg (bA (p.x * p.x * (p.y * p.y)).val)) w) := fun w => cmul_any (p.x * p.x) (p.y * p.y) w
 have H5 : Hid (∀ w, Rt Tryz.prog 56 #[.agg (bA dN), .agg (bA (p.x * p.x * (p.y * p.y)).val)] (.agg (bA (cD * (p.x * p.x * (p.y * p.y))).val)) w) := fun w => cmul_any cD (p.x * p.x * (p.y * p.y)) w
 have H6 : Hid (∀ w, Rt Tryz.prog 58 #[.agg (bA 1), .agg (bA (cD * (p.x * p.x * (p.y * p.y))).val)] (.agg (bA (1 + cD * (p.x * p.x * (p.y * p.y))).val)) w) := fun w => cadd_any 1 (cD * (p.x * p.x * (p.y * p.y))) w
 have HE : Hid (decide ((p.y * p.y - p.x * p.x).val = (1 + cD * (p.x * p.x * (p.y * p.y))).val) = b) := hb
 have HL : Hid ((p.y * p.y - p.x * p.x).val < 2 ^ 256 ∧ (1 + cD * (p.x * p.x * (p.y * p.y))).val < 2 ^ 256) := ⟨elt256 (p.y * p.y - p.x * p.x).isLt, elt256 (1 + cD * (p.x * p.x * (p.y * p.y))).isLt⟩
 clear hb
 generalize (1 + cD * (p.x * p.x * (p.y * p.y))).val = rr at *
 generalize (cD * (p.x * p.x * (p.y * p.y))).val = dm at *
 generalize (p.x * p.x * (p.y * p.y)).val = m at *
 generalize (p.y * p.y - p.x * p.x).val = l at *
 generalize (p.x * p.x).val = xx at *
 generalize (p.y * p.y).val = yy at *
 generalize p.x.val = x at *
 generalize p.y.val = y at *
 have V0 := Vars.start w
 go_enter Tryz.func75, Tryz.ntmps75
 go_wp2_with (first
  | (refine wpList_boxV V0 1 28 _ rfl rfl rfl (pA x y) rfl ?_; intro w1 g2 V3)
  | (refine wpList_exec rfl (exec_loadP V3 0 rfl 0 (pA_part0 _ _) _ rfl rfl Tryz.underlying22 Tryz.szB (bA_size _)) ?_))
 refine (HX.out w1).mono ?_
 rintro e w4 ⟨rfl, q6⟩
 have V5 := V3.call q6
 clear q6 V3
 go_wp2_with (refine wpList_exec rfl (exec_loadP V5 0 rfl 32 (pA_part1 _ _) _ rfl rfl Tryz.underlying22 Tryz.szB (bA_size _)) ?_)
 refine (HY.out w4).mono ?_
 rintro e w7 ⟨rfl, q9⟩
 have V8 := V5.call q9
 clear q9 V5
 go_wp2_with fail
 refine av_open (fun w' => Vars w w' [⟨g2, 28, pA x y⟩]) (by kernel_rfl) ?_
 have V10 := V8.drew
 apply av_once22 (Vg := fun ga gb w' => Vars w w' [⟨ga, 22, bA 0⟩, ⟨gb, 22, bA 0⟩, ⟨g2, 28, pA x y⟩])
 intro HC11
 apply av_once (Vg := fun ga w' => Vars w w' [⟨ga, 22, bA 0⟩, ⟨g2, 28, pA x y⟩])
 intro HC12
 apply av_once (Vg := fun ga w' => Vars w w' [⟨ga, 22, bA 0⟩, ⟨g2, 28, pA x y⟩])
 intro HC13
 apply av_once22 (Vg := fun ga gb w' => Vars w w' [⟨ga, 22, bA 0⟩, ⟨gb, 22, bA 0⟩, ⟨g2, 28, pA x y⟩])
 intro HC14
 apply av_once (Vg := fun ga w' => Vars w w' [⟨ga, 22, bA 0⟩, ⟨g2, 28, pA x y⟩])
 intro HC15
 apply av_once (Vg := fun ga w' => Vars w w' [⟨ga, 22, bA 0⟩, ⟨g2, 28, pA x y⟩])
 intro HC16
 apply av_once22 (Vg := fun ga gb w' => Vars w w' [⟨ga, 22, bA 0⟩, ⟨gb, 22, bA 0⟩, ⟨g2, 28, pA x y⟩])
 intro HC17
 refine zR [0, 1, 2, 3, 5, 6, 7, 8] 6 (by kernel_rfl) (fun _ _ _ _ _ h => h) V10 fun K hK => ?_
 refine zC (.pointer (some ⟨g2, 0, none⟩)) rfl (by rfl) (fun w' hw' => ?_) ?_
 ·go_simp
 go_simp
 refine zC (.agg (bA x)) rfl (by rfl) (fun w' hw' => exec_loadP hw' 0 rfl 0 (pA_part0 _ _) _ rfl rfl Tryz.underlying22 Tryz.szB (bA_size _)) ?_
 go_simp
 refine zC (.pointer (some ⟨g2, 0, none⟩)) rfl (by rfl) (fun w' hw' => ?_) ?_
 ·go_simp
 go_simp
 refine zC (.agg (bA x)) rfl (by rfl) (fun w' hw' => exec_loadP hw' 0 rfl 0 (pA_part0 _ _) _ rfl rfl Tryz.underlying22 Tryz.szB (bA_size _)) ?_
 go_simp
 refine zC (.pointer (some ⟨g2, 32, none⟩)) rfl (by rfl) (fun w' hw' => ?_) ?_
 ·go_simp
 go_simp
 refine zC (.agg (bA y)) rfl (by rfl) (fun w' hw' => exec_loadP hw' 0 rfl 32 (pA_part1 _ _) _ rfl rfl Tryz.underlying22 Tryz.szB (bA_size _)) ?_
 go_simp
 refine zC (.pointer (some ⟨g2, 32, none⟩)) rfl (by rfl) (fun w' hw' => ?_) ?_
 ·go_simp
 go_simp
 refine zC (.agg (bA y)) rfl (by rfl) (fun w' hw' => exec_loadP hw' 0 rfl 32 (pA_part1 _ _) _ rfl rfl Tryz.underlying22 Tryz.szB (bA_size _)) ?_
 go_simp
 refine calm_nil (hK.out _ ?_)
 clear hK K
 refine av_listed (L' := (tf 14 495)) (by kernel_rfl) ?_
 refine av_ops [4, 10, 11] (fuel := 5) (by kernel_rfl) (List.cons_ne_nil _ _) ?_
 refine av_cons (tf 14 511) rfl (by rfl) (by kernel_rfl) (fun K hK => ?_) ?_
 go_simp
 refine (H1.out w7.drew).mono ?_
 rintro e w18 ⟨rfl, q20⟩
 have V19 := V10.call q20
 try go_simp
 refine hK _ _ (V19) ?_
 clear hK K q20
 refine av_ops [9, 10, 11] (fuel := 4) (by kernel_rfl) (List.cons_ne_nil _ _) ?_
 refine av_cons (tf 14 1023) rfl (by rfl) (by kernel_rfl) (fun K hK => ?_) ?_
 go_simp
 refine (H2.out w18).mono ?_
 rintro e w21 ⟨rfl, q23⟩
 have V22 := V19.call q23
 try go_simp
 refine hK _ _ (V22) ?_
 clear hK K q23
 refine av_ops [10, 11] (fuel := 3) (by kernel_rfl) (List.cons_ne_nil _ _) ?_
 refine av_cons (tf 14 2047) rfl (by rfl) (by kernel_rfl) (fun K hK => ?_) ?_
 refine zN V22 3 rfl rfl (fun w24 g25 V26 => ?_)
 try go_simp
 refine hK _ _ (V26.tail) ?_
 clear hK K
 exact HC12 g25 w24 V26
 refine av_cons (tf 14 3071) rfl (by rfl) (by kernel_rfl) (fun K hK => ?_) av_nil
 refine zN V22 4 rfl rfl (fun w27 g28 V29 => ?_)
 try go_simp
 refine hK _ _ (V29.tail) ?_
 clear hK K
 exact HC13 g28 w27 V29
 refine av_cons (tf 14 1535) rfl (by rfl) (by kernel_rfl) (fun K hK => ?_) ?_
 refine zN V19 3 rfl rfl (fun w30 g31 V32 => ?_)
 try go_simp
 refine hK _ _ (V32.tail) ?_
 clear hK K
 exact HC15 g31 w30 V32
 refine av_cons (tf 14 2559) rfl (by rfl) (by kernel_rfl) (fun K hK => ?_) av_nil
 refine zN V19 4 rfl rfl (fun w33 g34 V35 => ?_)
 try go_simp
 refine hK _ _ (V35.tail) ?_
 clear hK K
 exact HC16 g34 w33 V35
 refine av_cons (tf 14 1519) rfl (by rfl) (by kernel_rfl) (fun K hK => ?_) ?_
 refine zN V10 3 rfl rfl (fun w36 g37 V38 => ?_)
 try go_simp
 refine hK _ _ (V38.tail) ?_
 clear hK K
 refine av_ops [4, 11] (fuel := 4) (by kernel_rfl) (List.cons_ne_nil _ _) ?_
 refine av_cons (tf 14 1535) rfl (by rfl) (by kernel_rfl) (fun K hK => ?_) ?_
 go_simp
 refine (H1.out w36).mono ?_
 rintro e w39 ⟨rfl, q41⟩
 have V40 := V38.call q41
 try go_simp
 refine hK _ _ (V40.tail) ?_
 clear hK K q41
 exact HC15 g37 w39 V40
 refine av_cons (tf 14 3567) rfl (by rfl) (by kernel_rfl) (fun K hK => ?_) av_nil
 refine zN V38 4 rfl rfl (fun w42 g43 V44 => ?_)
 have V44m : Vars w w42 [⟨g37, 22, bA 0⟩, ⟨g43, 22, bA 0⟩, ⟨g2, 28, pA x y⟩] := V44.mv 1 (Nat.le_of_ble_eq_true rfl)
 try go_simp
 refine hK _ _ (V44m.tail.tail) ?_
 clear hK K
 exact HC17 g37 g43 w42 V44m
 refine av_cons (tf 14 2543) rfl (by rfl) (by kernel_rfl) (fun K hK => ?_) av_nil
 refine zN V10 4 rfl rfl (fun w45 g46 V47 => ?_)
 try go_simp
 refine hK _ _ (V47.tail) ?_
 clear hK K
 refine av_ops [4, 10] (fuel := 4) (by kernel_rfl) (List.cons_ne_nil _ _) ?_
 refine av_cons (tf 14 2559) rfl (by rfl) (by kernel_rfl) (fun K hK => ?_) ?_
 go_simp
 refine (H1.out w45).mono ?_
 rintro e w48 ⟨rfl, q50⟩
 have V49 := V47.call q50
 try go_simp
 refine hK _ _ (V49.tail) ?_
 clear hK K q50
 exact HC16 g46 w48 V49
 refine av_cons (tf 14 3567) rfl (by rfl) (by kernel_rfl) (fun K hK => ?_) av_nil
 refine zN V47 3 rfl rfl (fun w51 g52 V53 => ?_)
 try go_simp
 refine hK _ _ (V53.tail.tail) ?_
 clear hK K
 exact HC17 g52 g46 w51 V53
 intro g54 g55 w56 V57
 refine av_ops [4] (fuel := 3) (by kernel_rfl) (List.cons_ne_nil _ _) ?_
 refine av_cons (tf 14 3583) rfl (by rfl) (by kernel_rfl) (fun K hK => ?_) av_nil
 go_simp
 refine (H1.out w56).mono ?_
 rintro e w58 ⟨rfl, q60⟩
 have V59 := V57.call q60
 try go_simp
 refine hK _ _ (V59.tail.tail) ?_
 clear hK K q60
 exact HC14 g54 g55 w58 V59
 intro g61 w62 V63
 refine av_ops [9, 10] (fuel := 3) (by kernel_rfl) (List.cons_ne_nil _ _) ?_
 refine av_cons (tf 14 3071) rfl (by rfl) (by kernel_rfl) (fun K hK => ?_) ?_
 go_simp
 refine (H2.out w62).mono ?_
 rintro e w64 ⟨rfl, q66⟩
 have V65 := V63.call q66
 try go_simp
 refine hK _ _ (V65.tail) ?_
 clear hK K q66
 exact HC13 g61 w64 V65
 refine av_cons (tf 14 3583) rfl (by rfl) (by kernel_rfl) (fun K hK => ?_) av_nil
 refine zN V63 3 rfl rfl (fun w67 g68 V69 => ?_)
 try go_simp
 refine hK _ _ (V69.tail.tail) ?_
 clear hK K
 exact HC14 g68 g61 w67 V69
 intro g70 w71 V72
 refine av_ops [9, 11] (fuel := 3) (by kernel_rfl) (List.cons_ne_nil _ _) ?_
 refine av_cons (tf 14 2047) rfl (by rfl) (by kernel_rfl) (fun K hK => ?_) ?_
 go_simp
 refine (H2.out w71).mono ?_
 rintro e w73 ⟨rfl, q75⟩
 have V74 := V72.call q75
 try go_simp
 refine hK _ _ (V74.tail) ?_
 clear hK K q75
 exact HC12 g70 w73 V74
 refine av_cons (tf 14 3583) rfl (by rfl) (by kernel_rfl) (fun K hK => ?_) av_nil
 refine zN V72 4 rfl rfl (fun w76 g77 V78 => ?_)
 have V78m : Vars w w76 [⟨g70, 22, bA 0⟩, ⟨g77, 22, bA 0⟩, ⟨g2, 28, pA x y⟩] := V78.mv 1 (Nat.le_of_ble_eq_true rfl)
 try go_simp
 refine hK _ _ (V78m.tail.tail) ?_
 clear hK K
 exact HC14 g70 g77 w76 V78m
 intro g79 g80 w81 V82
 refine av_ops [9] (fuel := 2) (by kernel_rfl) (List.cons_ne_nil _ _) ?_
 refine av_cons (tf 14 4095) rfl (by rfl) (by kernel_rfl) (fun K hK => ?_) av_nil
 go_simp
 refine (H2.out w81).mono ?_
 rintro e w83 ⟨rfl, q85⟩
 have V84 := V82.call q85
 try go_simp
 refine hK _ _ (V84.tail.tail) ?_
 clear hK K q85
 exact HC11 g79 g80 w83 V84
 intro g86 w87 V88
 refine av_ops [10] (fuel := 2) (by kernel_rfl) (List.cons_ne_nil _ _) ?_
 refine av_cons (tf 14 4095) rfl (by rfl) (by kernel_rfl) (fun K hK => ?_) av_nil
 refine zN V88 3 rfl rfl (fun w89 g90 V91 => ?_)
 try go_simp
 refine hK _ _ (V91.tail.tail) ?_
 clear hK K
 exact HC11 g90 g86 w89 V91
 intro g92 w93 V94
 refine av_ops [11] (fuel := 2) (by kernel_rfl) (List.cons_ne_nil _ _) ?_
 refine av_cons (tf 14 4095) rfl (by rfl) (by kernel_rfl) (fun K hK => ?_) av_nil
 refine zN V94 4 rfl rfl (fun w95 g96 V97 => ?_)
 have V97m : Vars w w95 [⟨g92, 22, bA 0⟩, ⟨g96, 22, bA 0⟩, ⟨g2, 28, pA x y⟩] := V97.mv 1 (Nat.le_of_ble_eq_true rfl)
 try go_simp
 refine hK _ _ (V97m.tail.tail) ?_
 clear hK K
 exact HC11 g92 g96 w95 V97m
 intro g98 g99 w100 V101
 refine av_ops [12] (fuel := 1) (by kernel_rfl) (List.cons_ne_nil _ _) ?_
 refine av_cons (tf 14 8191) rfl (by rfl) (by kernel_rfl) (fun K hK => ?_) av_nil
 refine zS V101 0 rfl _ _ rfl rfl xx rfl rfl (fun w102 V103 => ?_)
 refine hK _ _ (V103.tail.tail) ?_
 clear hK K
 refine av_ops [13] (fuel := 0) (by kernel_rfl) (List.cons_ne_nil _ _) ?_
 refine av_cons (tf 14 16383) rfl (by rfl) (by kernel_rfl) (fun K hK => ?_) av_nil
 refine zS V103 1 rfl _ _ rfl rfl yy rfl rfl (fun w104 V105 => ?_)
 refine hK _ _ (V105.tail.tail) ?_
 clear hK K
 refine wpAnyH_done (by kernel_rfl) ?_ _
 go_wp2_with fail
 refine av_open (fun w' => Vars w w' [⟨g98, 22, bA xx⟩, ⟨g99, 22, bA yy⟩, ⟨g2, 28, pA x y⟩]) (by kernel_rfl) ?_
 have V106 := V105.drew
 refine zR [0, 1, 3, 4, 5, 6] 6 (by kernel_rfl) (fun _ _ _ _ _ h => h) V106 fun K hK => ?_
 refine zC (.agg (bA yy)) rfl (by rfl) (fun w' hw' => zB hw' 1 rfl _ rfl rfl) ?_
 go_simp
 refine zC (.agg (bA xx)) rfl (by rfl) (fun w' hw' => zB hw' 0 rfl _ rfl rfl) ?_
 go_simp
 refine zC (.agg (bA 1)) rfl (by rfl) (fun w' hw' => ?_) ?_
 ·refine exec_buildV 22 _ rfl (bA 1) ?_
  exact (built_B 1 (by decide))
 go_simp
 refine zC (.agg (bA dN)) rfl (by rfl) (fun w' hw' => exec_loadG (hd.of hw') _ rfl rfl) ?_
 go_simp
 refine zC (.agg (bA xx)) rfl (by rfl) (fun w' hw' => zB hw' 0 rfl _ rfl rfl) ?_
 go_simp
 refine zC (.agg (bA yy)) rfl (by rfl) (fun w' hw' => zB hw' 1 rfl _ rfl rfl) ?_
 go_simp
 refine calm_nil (hK.out _ ?_)
 clear hK K
 refine zO 2 5 (by kernel_rfl) rfl (by rfl) fun K hK => ?_
 go_simp
 refine (H3.out w104.drew).mono ?_
 rintro e w107 ⟨rfl, q109⟩
 have V108 := V106.call q109
 refine hK _ _ (V108) ?_
 clear hK K q109
 refine zO 7 4 (by kernel_rfl) rfl (by rfl) fun K hK => ?_
 go_simp
 refine (H4.out w107).mono ?_
 rintro e w110 ⟨rfl, q112⟩
 have V111 := V108.call q112
 refine hK _ _ (V111) ?_
 clear hK K q112
 refine zO 8 3 (by kernel_rfl) rfl (by rfl) fun K hK => ?_
 go_simp
 refine (H5.out w110).mono ?_
 rintro e w113 ⟨rfl, q115⟩
 have V114 := V111.call q115
 refine hK _ _ (V114) ?_
 clear hK K q115
 refine zO 9 2 (by kernel_rfl) rfl (by rfl) fun K hK => ?_
 go_simp
 refine (H6.out w113).mono ?_
 rintro e w116 ⟨rfl, q118⟩
 have V117 := V114.call q118
 refine hK _ _ (V117) ?_
 clear hK K q118
 refine zR [10, 11] 0 (by kernel_rfl) (fun _ _ _ _ _ h => h) V117 fun K hK => ?_
 go_simp
 refine zC (.bool b) rfl (by rfl) (fun w' hw' => exec_eqlB _ _ rfl b _ _ HE.out rfl rfl HL.out.1 HL.out.2) ?_
 go_simp
 refine calm_assign _ rfl (by rfl) rfl ?_
 go_simp
 refine calm_nil (hK.out _ ?_)
 clear hK K
 refine wpAnyH_done (by kernel_rfl) ?_ _
 go_wp2_with fail
 go_ret
 exact ⟨rfl, V117.bel⟩
theorem on_yes {p : Pt} (h : OnC p) (w : World) (hd : DAt w) : Calls Tryz.prog 75 #[.agg (pA p.x.val p.y.val)] w fun e w' => e = .returned (.bool true) ∧ Below w.heap.size w w' :=
 on_gen17 p true (decide_eq_true (congrArg Fin.val ((on_alt p).1 h))) w hd
set_option maxHeartbeats 800000 in
theorem base_any (w : World) (hd : DAt w) : Calls Tryz.prog 13 #[] w fun e w' => e = .returned (.agg (pA pbase.x.val pbase.y.val)) ∧ Below w.heap.size w w' := by
 have H1 : Hid (∀ w, Rt Tryz.prog 33 #[.agg (bA 4), .agg (bA 5)] (.agg (bA pbase.y.val)) w) := fun w => by
  have := cdiv_any 4 5 (by decide) w
  rwa [baseY_div] at this
 have H2 : Hid (∀ w, DAt w → Rt Tryz.prog 26 #[.agg (bA pbase.y.val)] (.tuple #[.agg (bA pbase.x.val), .bool true]) w) := fun w h => across_yes (x := pbase.x) (y := pbase.y) pbase_on baseX_even w h
 generalize pbase.x.val = x at *
 generalize pbase.y.val = y at *
 have V0 := Vars.start w
 go_enter Tryz.func13, Tryz.ntmps13
 go_wp2_with (first
  | (refine wpList_allocV V0 0 28 rfl rfl rfl (pA 0 0) zeroP ?_; intro w1 g2 V3)
  | (refine wpList_buildV 4 22 _ rfl rfl rfl (bA 4) (built_B 4 (by decide)) ?_)
  | (refine wpList_buildV 5 22 _ rfl rfl rfl (bA 5) (built_B 5 (by decide)) ?_))
 refine (H1.out w1).mono ?_
 rintro e w4 ⟨rfl, q6⟩
 have V5 := V3.call q6
 clear q6 V3
 go_wp2_with (first
  | (refine zA V5 1 rfl rfl rfl ?_; intro w7 g8 V9)
  | (refine zL V9 0 rfl _ (.tmp 6) rfl rfl rfl y rfl rfl ?_; intro w10 V11)
  | (refine zD V11 0 rfl 8 _ rfl rfl rfl rfl ?_))
 refine (H2.out w10 (hd.of V11)).mono ?_
 rintro e w12 ⟨rfl, q14⟩
 have V13 := V11.call q14
 clear q14 V11
 go_wp2_with (first
  | (refine zA V13 2 rfl rfl rfl ?_; intro w15 g16 V17)
  | (refine zL V17 0 rfl _ (.tmp 10) rfl rfl rfl x rfl rfl ?_; intro w18 V19)
  | (refine zD V19 0 rfl 12 _ rfl rfl rfl rfl ?_)
  | (refine zD V19 1 rfl 13 _ rfl rfl rfl rfl ?_)
  | (refine wpList_buildV 14 28 _ rfl rfl rfl (pA x y) (built_P _ _) ?_)
  | (refine wpList_storeV V19 2 rfl _ (.tmp 14) rfl rfl rfl (pA x y) rfl rfl Tryz.szP (pA_size _ _) (pA_size _ _) (pA_one _ _) ?_; intro w20 V21))
 exact bodyPost_ret (resS1 rfl _ V21 2 rfl rfl Tryz.underlying28 Tryz.szP (pA_size _ _)) rfl ⟨rfl, V21.bel⟩
end Go.Proofs.YthangiocheodoaaGreatDoor.N
