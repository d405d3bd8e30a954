/-
 The code of layer 19 (ed), as it landed: times, packedBase.
-/
import Derived.Test.YthangiocheodoaaGreatDoorPackFb
import Derived.Test.YthangiocheodoaaGreatDoorEdBase
import Derived.Test.YthangiocheodoaaGreatDoorCurveCode6
import Derived.Test.YthangiocheodoaaGreatDoorCurveCode7
namespace Go.Proofs.YthangiocheodoaaGreatDoor.N
open Go.RowKit
set_option linter.unusedVariables false
set_option maxRecDepth 8192

set_option maxHeartbeats 1600000 in
theorem timesE_any (n : Nat) (hn : n < 2 ^ 256) {p : Pt} (hp : OnC p) (w : World) (hd : DAt w) : Calls Tryz.prog 43 #[.agg (bA n), .agg (pA p.x.val p.y.val)] w fun e w' => e = .returned (.agg (pA (ptimes n p).x.val (ptimes n p).y.val)) ∧ Below w.heap.size w w' := by
 have HS : Hid (∀ (w : World) (g : Nat), DAt w → w.heap[g]? = some (.cells (bA n) 22 (0, 0)) → Rt Tryz.prog 79 #[.slice (some ⟨g, 0, none⟩) 32 32, .agg (pA p.x.val p.y.val)] (.tuple #[.agg (pA (ptimes n p).x.val (ptimes n p).y.val), .int .i64 0]) w) := fun w g hd hg => by
  have h := cScale_yes (digL n 32) (digL_dig _ _) (some ⟨g, 0, none⟩) 32 32 hp w hd (row_bA hg) (by decide)
  rw [vB hn] at h
  exact h
 generalize (ptimes n p).x.val = tx at *
 generalize (ptimes n p).y.val = ty at *
 generalize p.x.val = px at *
 generalize p.y.val = py at *
 clear hn hp
 have V0 := Vars.start w
 go_enter Tryz.func43, Tryz.ntmps43
 go_wp2_with (first
  | (refine wpList_boxV V0 2 22 _ rfl rfl rfl (bA n) rfl ?_; intro w1 g2 V3)
  | (refine wpList_boxV V3 3 28 _ rfl rfl rfl (pA px py) rfl ?_; intro w4 g5 V6)
  | (refine wpList_allocV V6 4 28 rfl rfl rfl (pA 0 0) zeroP ?_; intro w7 g8 V9))
 refine av_open (fun w' => Vars w w' [⟨g8, 28, pA 0 0⟩, ⟨g5, 28, pA px py⟩, ⟨g2, 22, bA n⟩]) (by kernel_rfl) ?_
 have V10 := V9.drew
 apply av_once (Vg := fun g w' => Vars w w' [⟨g, 28, pA tx ty⟩, ⟨g8, 28, pA 0 0⟩, ⟨g5, 28, pA px py⟩, ⟨g2, 22, bA n⟩])
 ·intro HC11
  refine zR [0, 1] 7 (by kernel_rfl) (fun _ _ _ _ _ h => h) V10 fun K hK => ?_
  refine zC (.slice (some ⟨g2, 0, none⟩) 32 32) rfl (by rfl) (fun w' hw' => exec_sliceB hw' 2 rfl _ rfl rfl) ?_
  go_simp
  refine zC (.agg (pA px py)) rfl (by rfl) (fun w' hw' => exec_loadS hw' 1 rfl _ rfl rfl Tryz.underlying28 Tryz.szP (pA_size _ _)) ?_
  go_simp
  refine calm_nil (hK.out _ ?_)
  clear hK K
  refine zP 2 6 6 (by kernel_rfl) rfl (by rfl) rfl (by rfl) (fun K hK => ?_) (fun K hK => ?_)
  ·go_simp
   refine (HS.out w7.drew g2 (hd.of V10) (V10.at 2 rfl)).mono ?_
   rintro e w12 ⟨rfl, q14⟩
   have V13 := V10.call q14
   refine hK _ _ (V13) ?_
   clear hK K q14
   refine zR [3, 4, 5] 3 (by kernel_rfl) (fun _ _ _ _ _ h => h) V13 fun K hK => ?_
   go_simp
   refine calm_move _ rfl (by rfl) rfl ?_
   go_simp
   refine zC (.agg (pA tx ty)) rfl (by rfl) (fun w' hw' => ?_) ?_
   ·go_simp
   go_simp
   refine zC (.int .i64 0) rfl (by rfl) (fun w' hw' => ?_) ?_
   ·go_simp
   go_simp
   refine calm_nil (hK.out _ ?_)
   clear hK K
   refine zO 6 2 (by kernel_rfl) rfl (by rfl) fun K hK => ?_
   refine wp_allocV V13 5 28 rfl rfl (pA 0 0) zeroP (fun w15 g16 V17 => ?_)
   refine hK _ _ (V17.tail) ?_
   clear hK K
   refine zO 7 1 (by kernel_rfl) rfl (by rfl) fun K hK => ?_
   refine wp_storeV V17 0 rfl _ _ rfl rfl (pA tx ty) rfl rfl Tryz.szP (pA_size _ _) (pA_size _ _) (pA_one _ _) (fun w18 V19 => ?_)
   refine hK _ _ (V19.tail) ?_
   clear hK K
   refine zR [8] 0 (by kernel_rfl) (fun _ _ _ _ _ h => h) (V19.tail) fun K hK => ?_
   go_simp
   refine calm_assign _ rfl (by rfl) rfl ?_
   go_simp
   refine calm_nil (hK.out _ ?_)
   clear hK K
   refine wpAnyH_done (by kernel_rfl) ?_ _
   exact HC11 g16 w18 V19
  ·refine wp_allocV V10 5 28 rfl rfl (pA 0 0) zeroP (fun w20 g21 V22 => ?_)
   refine hK _ _ (V22.tail) ?_
   clear hK K
   refine zO 2 5 (by kernel_rfl) rfl (by rfl) fun K hK => ?_
   go_simp
   refine (HS.out w20 g2 (hd.of V22) (V22.at 3 rfl)).mono ?_
   rintro e w23 ⟨rfl, q25⟩
   have V24 := V22.call q25
   refine hK _ _ (V24.tail) ?_
   clear hK K q25
   refine zR [3, 4, 5] 2 (by kernel_rfl) (fun _ _ _ _ _ h => h) (V24.tail) fun K hK => ?_
   go_simp
   refine calm_move _ rfl (by rfl) rfl ?_
   go_simp
   refine zC (.agg (pA tx ty)) rfl (by rfl) (fun w' hw' => ?_) ?_
   ·go_simp
   go_simp
   refine zC (.int .i64 0) rfl (by rfl) (fun w' hw' => ?_) ?_
   ·go_simp
   go_simp
   refine calm_nil (hK.out _ ?_)
   clear hK K
   refine zO 7 1 (by kernel_rfl) rfl (by rfl) fun K hK => ?_
   refine wp_storeV V24 0 rfl _ _ rfl rfl (pA tx ty) rfl rfl Tryz.szP (pA_size _ _) (pA_size _ _) (pA_one _ _) (fun w26 V27 => ?_)
   refine hK _ _ (V27.tail) ?_
   clear hK K
   refine zR [8] 0 (by kernel_rfl) (fun _ _ _ _ _ h => h) (V27.tail) fun K hK => ?_
   go_simp
   refine calm_assign _ rfl (by rfl) rfl ?_
   go_simp
   refine calm_nil (hK.out _ ?_)
   clear hK K
   refine wpAnyH_done (by kernel_rfl) ?_ _
   exact HC11 g21 w26 V27
 intro g21 w26 V27
 clear V10
 go_wp2_with (first
  | (refine wpList_exec rfl (exec_loadS V27 0 rfl _ rfl rfl Tryz.underlying28 Tryz.szP (pA_size _ _)) ?_)
  | (refine wpList_storeV V27 1 rfl _ (.tmp 13) rfl rfl rfl (pA tx ty) rfl rfl Tryz.szP (pA_size _ _) (pA_size _ _) (pA_one _ _) ?_; intro w28 V29))
 exact bodyPost_ret (resS1 rfl _ V29 1 rfl rfl Tryz.underlying28 Tryz.szP (pA_size _ _)) rfl ⟨rfl, V29.bel⟩
set_option maxHeartbeats 1600000 in
theorem packedBase_any (n : Nat) (hn : n < 2 ^ 256) (w : World) (hd : DAt w) : Calls Tryz.prog 22 #[.agg (bA n)] w fun e w' => e = .returned (.agg (bA (packN (ptimes n pbase)))) ∧ Below w.heap.size w w' := by
 have HB : Hid (∀ w, DAt w → Rt Tryz.prog 13 #[] (.agg (pA pbase.x.val pbase.y.val)) w) := base_any
 have HT : Hid (∀ w, DAt w → Rt Tryz.prog 43 #[.agg (bA n), .agg (pA pbase.x.val pbase.y.val)] (.agg (pA (ptimes n pbase).x.val (ptimes n pbase).y.val)) w) := fun w hd => timesE_any n hn pbase_on w hd
 have HP : Hid (∀ w, DAt w → Rt Tryz.prog 48 #[.agg (pA (ptimes n pbase).x.val (ptimes n pbase).y.val)] (.tuple #[.agg (bA (packN (ptimes n pbase))), .int .i64 0]) w) := fun w hd => cPack_yes (ptimes_on pbase_on n) w hd
 generalize packN (ptimes n pbase) = r at *
 generalize (ptimes n pbase).x.val = tx at *
 generalize (ptimes n pbase).y.val = ty at *
 generalize pbase.x.val = px at *
 generalize pbase.y.val = py at *
 clear hn
 have V0 := Vars.start w
 go_enter Tryz.func22, Tryz.ntmps22
 go_wp2_with (first
  | (refine wpList_boxV V0 1 22 _ rfl rfl rfl (bA n) rfl ?_; intro w1 g2 V3)
  | (refine zA V3 2 rfl rfl rfl ?_; intro w4 g5 V6))
 refine av_open (fun w' => Vars w w' [⟨g5, 22, bA 0⟩, ⟨g2, 22, bA n⟩]) (by kernel_rfl) ?_
 have V7 := V6.drew
 apply av_once (Vg := fun g w' => Vars w w' [⟨g, 22, bA r⟩, ⟨g5, 22, bA 0⟩, ⟨g2, 22, bA n⟩])
 ·intro HC8
  refine zR [0] 9 (by kernel_rfl) (fun _ _ _ _ _ h => h) V7 fun K hK => ?_
  refine zC (.agg (bA n)) rfl (by rfl) (fun w' hw' => zB hw' 1 rfl _ rfl rfl) ?_
  go_simp
  refine calm_nil (hK.out _ ?_)
  clear hK K
  refine zP 1 7 8 (by kernel_rfl) rfl (by rfl) rfl (by rfl) (fun K hK => ?_) (fun K hK => ?_)
  ·go_simp
   refine (HB.out w4.drew (hd.of V7)).mono ?_
   rintro e w9 ⟨rfl, q11⟩
   have V10 := V7.call q11
   refine hK _ _ (V10) ?_
   clear hK K q11
   refine zP 2 7 7 (by kernel_rfl) rfl (by rfl) rfl (by rfl) (fun K hK => ?_) (fun K hK => ?_)
   ·go_simp
    refine (HT.out w9 (hd.of V10)).mono ?_
    rintro e w12 ⟨rfl, q14⟩
    have V13 := V10.call q14
    refine hK _ _ (V13) ?_
    clear hK K q14
    refine zP 3 7 6 (by kernel_rfl) rfl (by rfl) rfl (by rfl) (fun K hK => ?_) (fun K hK => ?_)
    ·go_simp
     refine (HP.out w12 (hd.of V13)).mono ?_
     rintro e w15 ⟨rfl, q17⟩
     have V16 := V13.call q17
     refine hK _ _ (V16) ?_
     clear hK K q17
     refine zR [4, 5, 6] 3 (by kernel_rfl) (fun _ _ _ _ _ h => h) V16 fun K hK => ?_
     go_simp
     refine calm_move _ rfl (by rfl) rfl ?_
     go_simp
     refine zC (.agg (bA r)) rfl (by rfl) (fun w' hw' => ?_) ?_
     ·go_simp
     go_simp
     refine zC (.int .i64 0) rfl (by rfl) (fun w' hw' => ?_) ?_
     ·go_simp
     go_simp
     refine calm_nil (hK.out _ ?_)
     clear hK K
     refine zO 7 2 (by kernel_rfl) rfl (by rfl) fun K hK => ?_
     refine zN V16 3 rfl rfl (fun w18 g19 V20 => ?_)
     refine hK _ _ (V20.tail) ?_
     clear hK K
     refine zO 8 1 (by kernel_rfl) rfl (by rfl) fun K hK => ?_
     refine zS V20 0 rfl _ _ rfl rfl r rfl rfl (fun w21 V22 => ?_)
     refine hK _ _ (V22.tail) ?_
     clear hK K
     refine zR [9] 0 (by kernel_rfl) (fun _ _ _ _ _ h => h) (V22.tail) fun K hK => ?_
     go_simp
     refine calm_assign _ rfl (by rfl) rfl ?_
     go_simp
     refine calm_nil (hK.out _ ?_)
     clear hK K
     refine wpAnyH_done (by kernel_rfl) ?_ _
     exact HC8 g19 w21 V22
    ·refine zN V13 3 rfl rfl (fun w23 g24 V25 => ?_)
     refine hK _ _ (V25.tail) ?_
     clear hK K
     refine zO 3 5 (by kernel_rfl) rfl (by rfl) fun K hK => ?_
     go_simp
     refine (HP.out w23 (hd.of V25)).mono ?_
     rintro e w26 ⟨rfl, q28⟩
     have V27 := V25.call q28
     refine hK _ _ (V27.tail) ?_
     clear hK K q28
     refine zR [4, 5, 6] 2 (by kernel_rfl) (fun _ _ _ _ _ h => h) (V27.tail) fun K hK => ?_
     go_simp
     refine calm_move _ rfl (by rfl) rfl ?_
     go_simp
     refine zC (.agg (bA r)) rfl (by rfl) (fun w' hw' => ?_) ?_
     ·go_simp
     go_simp
     refine zC (.int .i64 0) rfl (by rfl) (fun w' hw' => ?_) ?_
     ·go_simp
     go_simp
     refine calm_nil (hK.out _ ?_)
     clear hK K
     refine zO 8 1 (by kernel_rfl) rfl (by rfl) fun K hK => ?_
     refine zS V27 0 rfl _ _ rfl rfl r rfl rfl (fun w29 V30 => ?_)
     refine hK _ _ (V30.tail) ?_
     clear hK K
     refine zR [9] 0 (by kernel_rfl) (fun _ _ _ _ _ h => h) (V30.tail) fun K hK => ?_
     go_simp
     refine calm_assign _ rfl (by rfl) rfl ?_
     go_simp
     refine calm_nil (hK.out _ ?_)
     clear hK K
     refine wpAnyH_done (by kernel_rfl) ?_ _
     exact HC8 g24 w29 V30
   ·refine zN V10 3 rfl rfl (fun w31 g32 V33 => ?_)
    refine hK _ _ (V33.tail) ?_
    clear hK K
    refine zO 2 6 (by kernel_rfl) rfl (by rfl) fun K hK => ?_
    go_simp
    refine (HT.out w31 (hd.of V33)).mono ?_
    rintro e w34 ⟨rfl, q36⟩
    have V35 := V33.call q36
    refine hK _ _ (V35.tail) ?_
    clear hK K q36
    refine zO 3 5 (by kernel_rfl) rfl (by rfl) fun K hK => ?_
    go_simp
    refine (HP.out w34 (hd.of V35)).mono ?_
    rintro e w37 ⟨rfl, q39⟩
    have V38 := V35.call q39
    refine hK _ _ (V38.tail) ?_
    clear hK K q39
    refine zR [4, 5, 6] 2 (by kernel_rfl) (fun _ _ _ _ _ h => h) (V38.tail) fun K hK => ?_
    go_simp
    refine calm_move _ rfl (by rfl) rfl ?_
    go_simp
    refine zC (.agg (bA r)) rfl (by rfl) (fun w' hw' => ?_) ?_
    ·go_simp
    go_simp
    refine zC (.int .i64 0) rfl (by rfl) (fun w' hw' => ?_) ?_
    ·go_simp
    go_simp
    refine calm_nil (hK.out _ ?_)
    clear hK K
    refine zO 8 1 (by kernel_rfl) rfl (by rfl) fun K hK => ?_
    refine zS V38 0 rfl _ _ rfl rfl r rfl rfl (fun w40 V41 => ?_)
    refine hK _ _ (V41.tail) ?_
    clear hK K
    refine zR [9] 0 (by kernel_rfl) (fun _ _ _ _ _ h => h) (V41.tail) fun K hK => ?_
    go_simp
    refine calm_assign _ rfl (by rfl) rfl ?_
    go_simp
    refine calm_nil (hK.out _ ?_)
    clear hK K
    refine wpAnyH_done (by kernel_rfl) ?_ _
    exact HC8 g32 w40 V41
  ·refine zN V7 3 rfl rfl (fun w42 g43 V44 => ?_)
   refine hK _ _ (V44.tail) ?_
   clear hK K
   refine zO 1 7 (by kernel_rfl) rfl (by rfl) fun K hK => ?_
   go_simp
   refine (HB.out w42 (hd.of V44)).mono ?_
   rintro e w45 ⟨rfl, q47⟩
   have V46 := V44.call q47
   refine hK _ _ (V46.tail) ?_
   clear hK K q47
   refine zO 2 6 (by kernel_rfl) rfl (by rfl) fun K hK => ?_
   go_simp
   refine (HT.out w45 (hd.of V46)).mono ?_
   rintro e w48 ⟨rfl, q50⟩
   have V49 := V46.call q50
   refine hK _ _ (V49.tail) ?_
   clear hK K q50
   refine zO 3 5 (by kernel_rfl) rfl (by rfl) fun K hK => ?_
   go_simp
   refine (HP.out w48 (hd.of V49)).mono ?_
   rintro e w51 ⟨rfl, q53⟩
   have V52 := V49.call q53
   refine hK _ _ (V52.tail) ?_
   clear hK K q53
   refine zR [4, 5, 6] 2 (by kernel_rfl) (fun _ _ _ _ _ h => h) (V52.tail) fun K hK => ?_
   go_simp
   refine calm_move _ rfl (by rfl) rfl ?_
   go_simp
   refine zC (.agg (bA r)) rfl (by rfl) (fun w' hw' => ?_) ?_
   ·go_simp
   go_simp
   refine zC (.int .i64 0) rfl (by rfl) (fun w' hw' => ?_) ?_
   ·go_simp
   go_simp
   refine calm_nil (hK.out _ ?_)
   clear hK K
   refine zO 8 1 (by kernel_rfl) rfl (by rfl) fun K hK => ?_
   refine zS V52 0 rfl _ _ rfl rfl r rfl rfl (fun w54 V55 => ?_)
   refine hK _ _ (V55.tail) ?_
   clear hK K
   refine zR [9] 0 (by kernel_rfl) (fun _ _ _ _ _ h => h) (V55.tail) fun K hK => ?_
   go_simp
   refine calm_assign _ rfl (by rfl) rfl ?_
   go_simp
   refine calm_nil (hK.out _ ?_)
   clear hK K
   refine wpAnyH_done (by kernel_rfl) ?_ _
   exact HC8 g43 w54 V55
 intro g43 w54 V55
 clear V7
 go_wp2_with (first
  | (refine zD V55 0 rfl 12 _ rfl rfl rfl rfl ?_)
  | (refine zL V55 1 rfl _ (.tmp 12) rfl rfl rfl r rfl rfl ?_; intro w56 V57))
 exact bodyPost_ret (resV1 rfl _ V57 1 rfl rfl Tryz.underlying22 Tryz.szB (bA_size _)) rfl ⟨rfl, V57.bel⟩
end Go.Proofs.YthangiocheodoaaGreatDoor.N
