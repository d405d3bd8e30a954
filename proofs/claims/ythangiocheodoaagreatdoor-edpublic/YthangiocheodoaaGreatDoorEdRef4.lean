/-
 The document's answers of layer 19: Packs, Holds.
-/
import Derived.Test.YthangiocheodoaaGreatDoorPackFb
import Derived.Test.YthangiocheodoaaGreatDoorEdRef2
import Derived.Test.YthangiocheodoaaGreatDoorEdRef3
import Derived.Test.YthangiocheodoaaGreatDoorCurveRef3
namespace Go.Proofs.YthangiocheodoaaGreatDoor.N
open Go.RowKit
set_option linter.unusedVariables false
set_option maxRecDepth 8192

set_option maxHeartbeats 1600000 in
theorem packs19_any {p : Pt} (hp : OnC p) {t : T3} (ht : Stands t p) (w : World) : Calls Tryz.prog 10 #[.agg (bA (packN p)), .agg (pA p.x.val p.y.val), .agg (tA t.x.val t.y.val t.z.val)] w fun e w' => e = .returned (.bool true) ∧ Below w.heap.size w w' := by
 have H1 : Hid (∀ w, Rt Tryz.prog 29 #[.agg (bA (packN p)), .agg (pA p.x.val p.y.val)] (.bool true) w) := fun w => runp_yes hp w
 have H2 : Hid (∀ w, Rt Tryz.prog 12 #[.agg (pA p.x.val p.y.val)] (.agg (tA (⟨p.x, p.y, 1⟩ : T3).x.val (⟨p.x, p.y, 1⟩ : T3).y.val (⟨p.x, p.y, 1⟩ : T3).z.val)) w) := fun w => of19_any p w
 have H3 : Hid (∀ w, Rt Tryz.prog 30 #[.agg (tA (⟨p.x, p.y, 1⟩ : T3).x.val (⟨p.x, p.y, 1⟩ : T3).y.val (⟨p.x, p.y, 1⟩ : T3).z.val), .agg (tA t.x.val t.y.val t.z.val)] (.bool true) w) := fun w => same19_any (Stands.one p) ht true ⟨fun _ => rfl, fun _ => rfl⟩ w
 clear hp ht
 generalize packN p = v at *
 generalize t.x.val = tx at *
 generalize t.y.val = ty at *
 generalize t.z.val = tz at *
 change Hid (∀ w, Rt Tryz.prog 12 #[.agg (pA p.x.val p.y.val)] (.agg (tA p.x.val p.y.val 1)) w) at H2
 change Hid (∀ w, Rt Tryz.prog 30 #[.agg (tA p.x.val p.y.val 1), .agg (tA tx ty tz)] (.bool true) w) at H3
 generalize p.x.val = x at *
 generalize p.y.val = y at *
 have V0 := Vars.start w
 go_enter Tryz.func10, Tryz.ntmps10
 go_wp2_with (first
  | (refine wpList_boxV V0 3 22 _ rfl rfl rfl (bA v) rfl ?_; intro w1 g2 V3)
  | (refine wpList_boxV V3 4 28 _ rfl rfl rfl (pA x y) rfl ?_; intro w4 g5 V6)
  | (refine wpList_boxV V6 5 35 _ rfl rfl rfl (tA tx ty tz) rfl ?_; intro w7 g8 V9))
 refine av_open (fun w' => Vars w w' [⟨g8, 35, tA tx ty tz⟩, ⟨g5, 28, pA x y⟩, ⟨g2, 22, bA v⟩]) (by kernel_rfl) ?_
 have V10 := V9.drew
 refine zR [0, 1] 8 (by kernel_rfl) (fun _ _ _ _ _ h => h) V10 fun K hK => ?_
 refine zC (.agg (bA v)) rfl (by rfl) (fun w' hw' => zB hw' 2 rfl _ rfl rfl) ?_
 go_simp
 refine zC (.agg (pA x y)) rfl (by rfl) (fun w' hw' => exec_loadS hw' 1 rfl _ rfl rfl Tryz.underlying28 Tryz.szP (pA_size _ _)) ?_
 go_simp
 refine calm_nil (hK.out _ ?_)
 clear hK K
 refine zO 2 7 (by kernel_rfl) rfl (by rfl) fun K hK => ?_
 go_simp
 refine (H1.out w7.drew).mono ?_
 rintro e w11 ⟨rfl, q13⟩
 have V12 := V10.call q13
 refine hK _ _ (V12) ?_
 clear hK K q13
 refine zR [3, 4, 6] 4 (by kernel_rfl) (fun _ _ _ _ _ h => h) V12 fun K hK => ?_
 go_simp
 refine calm_move _ rfl (by rfl) rfl ?_
 go_simp
 refine zC (.agg (pA x y)) rfl (by rfl) (fun w' hw' => exec_loadS hw' 1 rfl _ rfl rfl Tryz.underlying28 Tryz.szP (pA_size _ _)) ?_
 go_simp
 refine zC (.agg (tA tx ty tz)) rfl (by rfl) (fun w' hw' => exec_loadS hw' 0 rfl _ rfl rfl Tryz.underlying35 Tryz.szPl (tA_size _ _ _)) ?_
 go_simp
 refine calm_nil (hK.out _ ?_)
 clear hK K
 refine zO 5 3 (by kernel_rfl) rfl (by rfl) fun K hK => ?_
 go_simp
 refine (H2.out w11).mono ?_
 rintro e w14 ⟨rfl, q16⟩
 have V15 := V12.call q16
 refine hK _ _ (V15) ?_
 clear hK K q16
 refine zO 7 2 (by kernel_rfl) rfl (by rfl) fun K hK => ?_
 go_simp
 refine (H3.out w14).mono ?_
 rintro e w17 ⟨rfl, q19⟩
 have V18 := V15.call q19
 refine hK _ _ (V18) ?_
 clear hK K q19
 refine zR [8, 9] 0 (by kernel_rfl) (fun _ _ _ _ _ h => h) V18 fun K hK => ?_
 go_simp
 refine zC (.bool true) rfl (by rfl) (fun w' hw' => ?_) ?_
 ·go_simp
 go_simp
 refine calm_assign _ rfl (by rfl) rfl ?_
 go_simp
 refine calm_nil (hK.out _ ?_)
 clear hK K
 refine wpAnyH_done (by kernel_rfl) ?_ _
 go_wp2_with fail
 go_ret
 exact ⟨rfl, V18.bel⟩
set_option maxHeartbeats 3200000 in
theorem holds19_any {bp A Q : Pt} (hb : OnC bp) (hA : OnC A) (hQ : OnC Q) (k s : Nat) (hk : k < 2 ^ 256) (hs : s < 2 ^ 256) (b : Bool) (hh : b = true ↔ ptimes s bp = psum Q (ptimes k A)) (w : World) : Calls Tryz.prog 20 #[.agg (pA bp.x.val bp.y.val), .agg (pA A.x.val A.y.val), .agg (pA Q.x.val Q.y.val), .agg (bA k), .agg (bA s)] w fun e w' => e = .returned (.bool b) ∧ Below w.heap.size w w' := by
 obtain ⟨L, hL⟩ : ∃ L, L = rrun ⟨bp.x, bp.y, 1⟩ s 256 256 := ⟨_, rfl⟩
 obtain ⟨M, hM⟩ : ∃ M, M = rrun ⟨A.x, A.y, 1⟩ k 256 256 := ⟨_, rfl⟩
 have sL : Stands L (ptimes s bp) := by rw [hL]; exact Stands.rall (Stands.one bp) hb s 256 hs
 have sM : Stands M (ptimes k A) := by rw [hM]; exact Stands.rall (Stands.one A) hA k 256 hk
 have sN : Stands (rplus3 ⟨Q.x, Q.y, 1⟩ M) (psum Q (ptimes k A)) := (Stands.one Q).rplus sM hQ (ptimes_on hA k)
 have scl : ∀ (p : Pt) (v : Nat), v < 2 ^ 256 → ∀ (w : World) (g : Nat), w.heap[g]? = some (.cells (bA v) 22 (0, 0)) → Calls Tryz.prog 11 #[.slice (some ⟨g, 0, none⟩) 32 32, .agg (tA p.x.val p.y.val 1)] w fun e w' => e = .returned (.agg (tA (rrun ⟨p.x, p.y, 1⟩ v 256 256).x.val (rrun ⟨p.x, p.y, 1⟩ v 256 256).y.val (rrun ⟨p.x, p.y, 1⟩ v 256 256).z.val)) ∧ Below w.heap.size w w' := fun p v hv w g hg => by
  have h := scale19_any (digL v 32) (digL_dig _ _) (some ⟨g, 0, none⟩) 32 32 ⟨p.x, p.y, 1⟩ w (row_bA hg) (by decide)
  rw [vB hv] at h
  exact h
 have HS1 := scl bp s hs
 have HS2 := scl A k hk
 rw [← hL] at HS1
 rw [← hM] at HS2
 have HL1 : Hid (∀ (w : World) (g : Nat), w.heap[g]? = some (.cells (bA s) 22 (0, 0)) → Rt Tryz.prog 11 #[.slice (some ⟨g, 0, none⟩) 32 32, .agg (tA bp.x.val bp.y.val 1)] (.agg (tA L.x.val L.y.val L.z.val)) w) := HS1
 have HM1 : Hid (∀ (w : World) (g : Nat), w.heap[g]? = some (.cells (bA k) 22 (0, 0)) → Rt Tryz.prog 11 #[.slice (some ⟨g, 0, none⟩) 32 32, .agg (tA A.x.val A.y.val 1)] (.agg (tA M.x.val M.y.val M.z.val)) w) := HS2
 have HQ1 : Hid (∀ w, Rt Tryz.prog 32 #[.agg (tA Q.x.val Q.y.val 1), .agg (tA M.x.val M.y.val M.z.val)] (.agg (tA (rplus3 ⟨Q.x, Q.y, 1⟩ M).x.val (rplus3 ⟨Q.x, Q.y, 1⟩ M).y.val (rplus3 ⟨Q.x, Q.y, 1⟩ M).z.val)) w) := fun w => add19_any ⟨Q.x, Q.y, 1⟩ M w
 have HE : Hid (∀ w, Rt Tryz.prog 30 #[.agg (tA L.x.val L.y.val L.z.val), .agg (tA (rplus3 ⟨Q.x, Q.y, 1⟩ M).x.val (rplus3 ⟨Q.x, Q.y, 1⟩ M).y.val (rplus3 ⟨Q.x, Q.y, 1⟩ M).z.val)] (.bool b) w) := fun w => same19_any sL sN b hh w
 have HO1 : Hid (∀ w, Rt Tryz.prog 12 #[.agg (pA bp.x.val bp.y.val)] (.agg (tA bp.x.val bp.y.val 1)) w) := fun w => of19_any bp w
 have HO2 : Hid (∀ w, Rt Tryz.prog 12 #[.agg (pA A.x.val A.y.val)] (.agg (tA A.x.val A.y.val 1)) w) := fun w => of19_any A w
 have HO3 : Hid (∀ w, Rt Tryz.prog 12 #[.agg (pA Q.x.val Q.y.val)] (.agg (tA Q.x.val Q.y.val 1)) w) := fun w => of19_any Q w
 clear hL hM sL sM sN scl HS1 HS2 hb hA hQ hk hs hh
 generalize (rplus3 ⟨Q.x, Q.y, 1⟩ M).x.val = nx at *
 generalize (rplus3 ⟨Q.x, Q.y, 1⟩ M).y.val = ny at *
 generalize (rplus3 ⟨Q.x, Q.y, 1⟩ M).z.val = nz at *
 generalize L.x.val = lx at *
 generalize L.y.val = ly at *
 generalize L.z.val = lz at *
 generalize M.x.val = mx at *
 generalize M.y.val = my at *
 generalize M.z.val = mz at *
 generalize bp.x.val = bx at *
 generalize bp.y.val = by9 at *
 generalize A.x.val = ax at *
 generalize A.y.val = ay9 at *
 generalize Q.x.val = qx at *
 generalize Q.y.val = qy9 at *
 have V0 := Vars.start w
 go_enter Tryz.func20, Tryz.ntmps20
 go_wp2_with (first
  | (refine wpList_boxV V0 5 28 _ rfl rfl rfl (pA bx by9) rfl ?_; intro w1 g2 V3)
  | (refine wpList_boxV V3 6 28 _ rfl rfl rfl (pA ax ay9) rfl ?_; intro w4 g5 V6)
  | (refine wpList_boxV V6 7 28 _ rfl rfl rfl (pA qx qy9) rfl ?_; intro w7 g8 V9)
  | (refine wpList_boxV V9 8 22 _ rfl rfl rfl (bA k) rfl ?_; intro w10 g11 V12)
  | (refine wpList_boxV V12 9 22 _ rfl rfl rfl (bA s) rfl ?_; intro w13 g14 V15))
 refine av_open (fun w' => Vars w w' [⟨g14, 22, bA s⟩, ⟨g11, 22, bA k⟩, ⟨g8, 28, pA qx qy9⟩, ⟨g5, 28, pA ax ay9⟩, ⟨g2, 28, pA bx by9⟩]) (by kernel_rfl) ?_
 have V16 := V15.drew
 apply av_once (Vg := fun g w' => Vars w w' [⟨g, 35, tA lx ly lz⟩, ⟨g14, 22, bA s⟩, ⟨g11, 22, bA k⟩, ⟨g8, 28, pA qx qy9⟩, ⟨g5, 28, pA ax ay9⟩, ⟨g2, 28, pA bx by9⟩])
 ·intro HC17
  refine zR [0, 1] 4 (by kernel_rfl) (fun _ _ _ _ _ h => h) V16 fun K hK => ?_
  refine zC (.slice (some ⟨g14, 0, none⟩) 32 32) rfl (by rfl) (fun w' hw' => exec_sliceB hw' 0 rfl _ rfl rfl) ?_
  go_simp
  refine zC (.agg (pA bx by9)) rfl (by rfl) (fun w' hw' => exec_loadS hw' 4 rfl _ rfl rfl Tryz.underlying28 Tryz.szP (pA_size _ _)) ?_
  go_simp
  refine calm_nil (hK.out _ ?_)
  clear hK K
  refine zP 2 4 3 (by kernel_rfl) rfl (by rfl) rfl (by rfl) (fun K hK => ?_) (fun K hK => ?_)
  ·go_simp
   refine (HO1.out w13.drew).mono ?_
   rintro e w18 ⟨rfl, q20⟩
   have V19 := V16.call q20
   refine hK _ _ (V19) ?_
   clear hK K q20
   refine zP 3 4 2 (by kernel_rfl) rfl (by rfl) rfl (by rfl) (fun K hK => ?_) (fun K hK => ?_)
   ·go_simp
    refine (HL1.out w18 g14 (V19.at 0 rfl)).mono ?_
    rintro e w21 ⟨rfl, q23⟩
    have V22 := V19.call q23
    refine hK _ _ (V22) ?_
    clear hK K q23
    refine zO 4 1 (by kernel_rfl) rfl (by rfl) fun K hK => ?_
    refine wp_allocV V22 11 35 rfl rfl (tA 0 0 0) zeroPl (fun w24 g25 V26 => ?_)
    refine hK _ _ (V26.tail) ?_
    clear hK K
    refine zO 5 0 (by kernel_rfl) rfl (by rfl) fun K hK => ?_
    refine wp_storeV V26 0 rfl _ _ rfl rfl (tA lx ly lz) rfl rfl Tryz.szPl (tA_size _ _ _) (tA_size _ _ _) (tA_one _ _ _) (fun w27 V28 => ?_)
    refine hK _ _ (V28.tail) ?_
    clear hK K
    refine wpAnyH_done (by kernel_rfl) ?_ _
    exact HC17 g25 w27 V28
   ·refine wp_allocV V19 11 35 rfl rfl (tA 0 0 0) zeroPl (fun w29 g30 V31 => ?_)
    refine hK _ _ (V31.tail) ?_
    clear hK K
    refine zO 3 1 (by kernel_rfl) rfl (by rfl) fun K hK => ?_
    go_simp
    refine (HL1.out w29 g14 (V31.at 1 rfl)).mono ?_
    rintro e w32 ⟨rfl, q34⟩
    have V33 := V31.call q34
    refine hK _ _ (V33.tail) ?_
    clear hK K q34
    refine zO 5 0 (by kernel_rfl) rfl (by rfl) fun K hK => ?_
    refine wp_storeV V33 0 rfl _ _ rfl rfl (tA lx ly lz) rfl rfl Tryz.szPl (tA_size _ _ _) (tA_size _ _ _) (tA_one _ _ _) (fun w35 V36 => ?_)
    refine hK _ _ (V36.tail) ?_
    clear hK K
    refine wpAnyH_done (by kernel_rfl) ?_ _
    exact HC17 g30 w35 V36
  ·refine wp_allocV V16 11 35 rfl rfl (tA 0 0 0) zeroPl (fun w37 g38 V39 => ?_)
   refine hK _ _ (V39.tail) ?_
   clear hK K
   refine zO 2 2 (by kernel_rfl) rfl (by rfl) fun K hK => ?_
   go_simp
   refine (HO1.out w37).mono ?_
   rintro e w40 ⟨rfl, q42⟩
   have V41 := V39.call q42
   refine hK _ _ (V41.tail) ?_
   clear hK K q42
   refine zO 3 1 (by kernel_rfl) rfl (by rfl) fun K hK => ?_
   go_simp
   refine (HL1.out w40 g14 (V41.at 1 rfl)).mono ?_
   rintro e w43 ⟨rfl, q45⟩
   have V44 := V41.call q45
   refine hK _ _ (V44.tail) ?_
   clear hK K q45
   refine zO 5 0 (by kernel_rfl) rfl (by rfl) fun K hK => ?_
   refine wp_storeV V44 0 rfl _ _ rfl rfl (tA lx ly lz) rfl rfl Tryz.szPl (tA_size _ _ _) (tA_size _ _ _) (tA_one _ _ _) (fun w46 V47 => ?_)
   refine hK _ _ (V47.tail) ?_
   clear hK K
   refine wpAnyH_done (by kernel_rfl) ?_ _
   exact HC17 g38 w46 V47
 intro g38 w46 V47
 clear V16
 go_wp2_with fail
 refine av_open (fun w' => Vars w w' [⟨g38, 35, tA lx ly lz⟩, ⟨g14, 22, bA s⟩, ⟨g11, 22, bA k⟩, ⟨g8, 28, pA qx qy9⟩, ⟨g5, 28, pA ax ay9⟩, ⟨g2, 28, pA bx by9⟩]) (by kernel_rfl) ?_
 have V48 := V47.drew
 apply av_once (Vg := fun g w' => Vars w w' [⟨g, 35, tA nx ny nz⟩, ⟨g38, 35, tA lx ly lz⟩, ⟨g14, 22, bA s⟩, ⟨g11, 22, bA k⟩, ⟨g8, 28, pA qx qy9⟩, ⟨g5, 28, pA ax ay9⟩, ⟨g2, 28, pA bx by9⟩])
 ·intro HC49
  refine zR [0, 2, 3] 6 (by kernel_rfl) (fun _ _ _ _ _ h => h) V48 fun K hK => ?_
  refine zC (.agg (pA qx qy9)) rfl (by rfl) (fun w' hw' => exec_loadS hw' 3 rfl _ rfl rfl Tryz.underlying28 Tryz.szP (pA_size _ _)) ?_
  go_simp
  refine zC (.slice (some ⟨g11, 0, none⟩) 32 32) rfl (by rfl) (fun w' hw' => exec_sliceB hw' 2 rfl _ rfl rfl) ?_
  go_simp
  refine zC (.agg (pA ax ay9)) rfl (by rfl) (fun w' hw' => exec_loadS hw' 4 rfl _ rfl rfl Tryz.underlying28 Tryz.szP (pA_size _ _)) ?_
  go_simp
  refine calm_nil (hK.out _ ?_)
  clear hK K
  refine zP 1 7 5 (by kernel_rfl) rfl (by rfl) rfl (by rfl) (fun K hK => ?_) (fun K hK => ?_)
  ·go_simp
   refine (HO3.out w46.drew).mono ?_
   rintro e w50 ⟨rfl, q52⟩
   have V51 := V48.call q52
   refine hK _ _ (V51) ?_
   clear hK K q52
   refine zP 4 7 4 (by kernel_rfl) rfl (by rfl) rfl (by rfl) (fun K hK => ?_) (fun K hK => ?_)
   ·go_simp
    refine (HO2.out w50).mono ?_
    rintro e w53 ⟨rfl, q55⟩
    have V54 := V51.call q55
    refine hK _ _ (V54) ?_
    clear hK K q55
    refine zP 5 7 3 (by kernel_rfl) rfl (by rfl) rfl (by rfl) (fun K hK => ?_) (fun K hK => ?_)
    ·go_simp
     refine (HM1.out w53 g11 (V54.at 2 rfl)).mono ?_
     rintro e w56 ⟨rfl, q58⟩
     have V57 := V54.call q58
     refine hK _ _ (V57) ?_
     clear hK K q58
     refine zP 6 7 2 (by kernel_rfl) rfl (by rfl) rfl (by rfl) (fun K hK => ?_) (fun K hK => ?_)
     ·go_simp
      refine (HQ1.out w56).mono ?_
      rintro e w59 ⟨rfl, q61⟩
      have V60 := V57.call q61
      refine hK _ _ (V60) ?_
      clear hK K q61
      refine zO 7 1 (by kernel_rfl) rfl (by rfl) fun K hK => ?_
      refine wp_allocV V60 12 35 rfl rfl (tA 0 0 0) zeroPl (fun w62 g63 V64 => ?_)
      refine hK _ _ (V64.tail) ?_
      clear hK K
      refine zO 8 0 (by kernel_rfl) rfl (by rfl) fun K hK => ?_
      refine wp_storeV V64 0 rfl _ _ rfl rfl (tA nx ny nz) rfl rfl Tryz.szPl (tA_size _ _ _) (tA_size _ _ _) (tA_one _ _ _) (fun w65 V66 => ?_)
      refine hK _ _ (V66.tail) ?_
      clear hK K
      refine wpAnyH_done (by kernel_rfl) ?_ _
      exact HC49 g63 w65 V66
     ·refine wp_allocV V57 12 35 rfl rfl (tA 0 0 0) zeroPl (fun w67 g68 V69 => ?_)
      refine hK _ _ (V69.tail) ?_
      clear hK K
      refine zO 6 1 (by kernel_rfl) rfl (by rfl) fun K hK => ?_
      go_simp
      refine (HQ1.out w67).mono ?_
      rintro e w70 ⟨rfl, q72⟩
      have V71 := V69.call q72
      refine hK _ _ (V71.tail) ?_
      clear hK K q72
      refine zO 8 0 (by kernel_rfl) rfl (by rfl) fun K hK => ?_
      refine wp_storeV V71 0 rfl _ _ rfl rfl (tA nx ny nz) rfl rfl Tryz.szPl (tA_size _ _ _) (tA_size _ _ _) (tA_one _ _ _) (fun w73 V74 => ?_)
      refine hK _ _ (V74.tail) ?_
      clear hK K
      refine wpAnyH_done (by kernel_rfl) ?_ _
      exact HC49 g68 w73 V74
    ·refine wp_allocV V54 12 35 rfl rfl (tA 0 0 0) zeroPl (fun w75 g76 V77 => ?_)
     refine hK _ _ (V77.tail) ?_
     clear hK K
     refine zO 5 2 (by kernel_rfl) rfl (by rfl) fun K hK => ?_
     go_simp
     refine (HM1.out w75 g11 (V77.at 3 rfl)).mono ?_
     rintro e w78 ⟨rfl, q80⟩
     have V79 := V77.call q80
     refine hK _ _ (V79.tail) ?_
     clear hK K q80
     refine zO 6 1 (by kernel_rfl) rfl (by rfl) fun K hK => ?_
     go_simp
     refine (HQ1.out w78).mono ?_
     rintro e w81 ⟨rfl, q83⟩
     have V82 := V79.call q83
     refine hK _ _ (V82.tail) ?_
     clear hK K q83
     refine zO 8 0 (by kernel_rfl) rfl (by rfl) fun K hK => ?_
     refine wp_storeV V82 0 rfl _ _ rfl rfl (tA nx ny nz) rfl rfl Tryz.szPl (tA_size _ _ _) (tA_size _ _ _) (tA_one _ _ _) (fun w84 V85 => ?_)
     refine hK _ _ (V85.tail) ?_
     clear hK K
     refine wpAnyH_done (by kernel_rfl) ?_ _
     exact HC49 g76 w84 V85
   ·refine wp_allocV V51 12 35 rfl rfl (tA 0 0 0) zeroPl (fun w86 g87 V88 => ?_)
    refine hK _ _ (V88.tail) ?_
    clear hK K
    refine zO 4 3 (by kernel_rfl) rfl (by rfl) fun K hK => ?_
    go_simp
    refine (HO2.out w86).mono ?_
    rintro e w89 ⟨rfl, q91⟩
    have V90 := V88.call q91
    refine hK _ _ (V90.tail) ?_
    clear hK K q91
    refine zO 5 2 (by kernel_rfl) rfl (by rfl) fun K hK => ?_
    go_simp
    refine (HM1.out w89 g11 (V90.at 3 rfl)).mono ?_
    rintro e w92 ⟨rfl, q94⟩
    have V93 := V90.call q94
    refine hK _ _ (V93.tail) ?_
    clear hK K q94
    refine zO 6 1 (by kernel_rfl) rfl (by rfl) fun K hK => ?_
    go_simp
    refine (HQ1.out w92).mono ?_
    rintro e w95 ⟨rfl, q97⟩
    have V96 := V93.call q97
    refine hK _ _ (V96.tail) ?_
    clear hK K q97
    refine zO 8 0 (by kernel_rfl) rfl (by rfl) fun K hK => ?_
    refine wp_storeV V96 0 rfl _ _ rfl rfl (tA nx ny nz) rfl rfl Tryz.szPl (tA_size _ _ _) (tA_size _ _ _) (tA_one _ _ _) (fun w98 V99 => ?_)
    refine hK _ _ (V99.tail) ?_
    clear hK K
    refine wpAnyH_done (by kernel_rfl) ?_ _
    exact HC49 g87 w98 V99
  ·refine wp_allocV V48 12 35 rfl rfl (tA 0 0 0) zeroPl (fun w100 g101 V102 => ?_)
   refine hK _ _ (V102.tail) ?_
   clear hK K
   refine zO 1 4 (by kernel_rfl) rfl (by rfl) fun K hK => ?_
   go_simp
   refine (HO3.out w100).mono ?_
   rintro e w103 ⟨rfl, q105⟩
   have V104 := V102.call q105
   refine hK _ _ (V104.tail) ?_
   clear hK K q105
   refine zO 4 3 (by kernel_rfl) rfl (by rfl) fun K hK => ?_
   go_simp
   refine (HO2.out w103).mono ?_
   rintro e w106 ⟨rfl, q108⟩
   have V107 := V104.call q108
   refine hK _ _ (V107.tail) ?_
   clear hK K q108
   refine zO 5 2 (by kernel_rfl) rfl (by rfl) fun K hK => ?_
   go_simp
   refine (HM1.out w106 g11 (V107.at 3 rfl)).mono ?_
   rintro e w109 ⟨rfl, q111⟩
   have V110 := V107.call q111
   refine hK _ _ (V110.tail) ?_
   clear hK K q111
   refine zO 6 1 (by kernel_rfl) rfl (by rfl) fun K hK => ?_
   go_simp
   refine (HQ1.out w109).mono ?_
   rintro e w112 ⟨rfl, q114⟩
   have V113 := V110.call q114
   refine hK _ _ (V113.tail) ?_
   clear hK K q114
   refine zO 8 0 (by kernel_rfl) rfl (by rfl) fun K hK => ?_
   refine wp_storeV V113 0 rfl _ _ rfl rfl (tA nx ny nz) rfl rfl Tryz.szPl (tA_size _ _ _) (tA_size _ _ _) (tA_one _ _ _) (fun w115 V116 => ?_)
   refine hK _ _ (V116.tail) ?_
   clear hK K
   refine wpAnyH_done (by kernel_rfl) ?_ _
   exact HC49 g101 w115 V116
 intro g101 w115 V116
 clear V48
 go_wp2_with (first
  | (refine wpList_exec rfl (exec_loadS V116 1 rfl _ rfl rfl Tryz.underlying35 Tryz.szPl (tA_size _ _ _)) ?_)
  | (refine wpList_exec rfl (exec_loadS V116 0 rfl _ rfl rfl Tryz.underlying35 Tryz.szPl (tA_size _ _ _)) ?_))
 refine (HE.out w115).mono ?_
 rintro e w117 ⟨rfl, q119⟩
 have V118 := V116.call q119
 clear q119 V116
 go_wp2_with fail
 go_ret
 exact ⟨rfl, V118.bel⟩
end Go.Proofs.YthangiocheodoaaGreatDoor.N
