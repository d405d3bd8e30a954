/-
  The document's answers of layer 17: IsSum.
-/
import Derived.Test.YtacicjnhpklkfaaDoorCurveRef
namespace Go.Proofs.YtacicjnhpklkfaaDoor.N
open Go.RowKit
set_option linter.unusedVariables false
set_option maxRecDepth 8192

set_option maxHeartbeats 6400000 in
theorem rsum_yes {p q r : Pt} (h : SumIs p q r) (w : World) : Calls Tryd.prog 19 #[.agg (pA p.x.val p.y.val), .agg (pA q.x.val q.y.val), .agg (pA r.x.val r.y.val)] w fun e w' => e = .returned (.bool true) ∧ Below w.heap.size w w' := by
  have HX : Hid (∀ w, Calls Tryd.prog 27 #[.agg (bA r.x.val)] w fun e w' => e = .returned (.bool true) ∧ Below w.heap.size w w') := fun w => ris_yes r.x.isLt w
  have HY : Hid (∀ w, Calls Tryd.prog 27 #[.agg (bA r.y.val)] w fun e w' => e = .returned (.bool true) ∧ Below w.heap.size w w') := fun w => ris_yes r.y.isLt w
  have N121666 : Hid (∀ w, Calls Tryd.prog 29 #[.int .i64 121666] w fun e w' => e = .returned (.agg (bA 121666)) ∧ Below w.heap.size w w') := fun w => rnum_any 121666 (by decide) w
  have N121665 : Hid (∀ w, Calls Tryd.prog 29 #[.int .i64 121665] w fun e w' => e = .returned (.agg (bA 121665)) ∧ Below w.heap.size w w') := fun w => rnum_any 121665 (by decide) w
  have H1 : Hid (∀ w, Calls Tryd.prog 28 #[.agg (bA p.x.val), .agg (bA q.y.val)] w fun e w' => e = .returned (.agg (bA (p.x * q.y).val)) ∧ Below w.heap.size w w') := fun w => rmul_any p.x q.y w
  have H2 : Hid (∀ w, Calls Tryd.prog 28 #[.agg (bA p.y.val), .agg (bA q.x.val)] w fun e w' => e = .returned (.agg (bA (p.y * q.x).val)) ∧ Below w.heap.size w w') := fun w => rmul_any p.y q.x w
  have H3 : Hid (∀ w, Calls Tryd.prog 28 #[.agg (bA p.y.val), .agg (bA q.y.val)] w fun e w' => e = .returned (.agg (bA (p.y * q.y).val)) ∧ Below w.heap.size w w') := fun w => rmul_any p.y q.y w
  have H4 : Hid (∀ w, Calls Tryd.prog 28 #[.agg (bA p.x.val), .agg (bA q.x.val)] w fun e w' => e = .returned (.agg (bA (p.x * q.x).val)) ∧ Below w.heap.size w w') := fun w => rmul_any p.x q.x w
  have H5 : Hid (∀ w, Calls Tryd.prog 28 #[.agg (bA (p.x * q.y).val), .agg (bA (p.y * q.x).val)] w fun e w' => e = .returned (.agg (bA ((p.x * q.y) * (p.y * q.x)).val)) ∧ Below w.heap.size w w') := fun w => rmul_any (p.x * q.y) (p.y * q.x) w
  have H6 : Hid (∀ w, Calls Tryd.prog 28 #[.agg (bA 121665), .agg (bA ((p.x * q.y) * (p.y * q.x)).val)] w fun e w' => e = .returned (.agg (bA (n65 * ((p.x * q.y) * (p.y * q.x))).val)) ∧ Below w.heap.size w w') := fun w => rmul_any n65 ((p.x * q.y) * (p.y * q.x)) w
  have H7 : Hid (∀ w, Calls Tryd.prog 30 #[.agg (bA 121666), .agg (bA (n65 * ((p.x * q.y) * (p.y * q.x))).val)] w fun e w' => e = .returned (.agg (bA (n66 - (n65 * ((p.x * q.y) * (p.y * q.x)))).val)) ∧ Below w.heap.size w w') := fun w => rsub_any n66 (n65 * ((p.x * q.y) * (p.y * q.x))) w
  have H8 : Hid (∀ w, Calls Tryd.prog 28 #[.agg (bA r.x.val), .agg (bA (n66 - (n65 * ((p.x * q.y) * (p.y * q.x)))).val)] w fun e w' => e = .returned (.agg (bA (r.x * (n66 - (n65 * ((p.x * q.y) * (p.y * q.x))))).val)) ∧ Below w.heap.size w w') := fun w => rmul_any r.x (n66 - (n65 * ((p.x * q.y) * (p.y * q.x)))) w
  have H9 : Hid (∀ w, Calls Tryd.prog 41 #[.agg (bA 121666), .agg (bA (n65 * ((p.x * q.y) * (p.y * q.x))).val)] w fun e w' => e = .returned (.agg (bA (n66 + (n65 * ((p.x * q.y) * (p.y * q.x)))).val)) ∧ Below w.heap.size w w') := fun w => radd_any n66 (n65 * ((p.x * q.y) * (p.y * q.x))) w
  have H10 : Hid (∀ w, Calls Tryd.prog 28 #[.agg (bA r.y.val), .agg (bA (n66 + (n65 * ((p.x * q.y) * (p.y * q.x)))).val)] w fun e w' => e = .returned (.agg (bA (r.y * (n66 + (n65 * ((p.x * q.y) * (p.y * q.x))))).val)) ∧ Below w.heap.size w w') := fun w => rmul_any r.y (n66 + (n65 * ((p.x * q.y) * (p.y * q.x)))) w
  have H11 : Hid (∀ w, Calls Tryd.prog 41 #[.agg (bA (p.x * q.y).val), .agg (bA (p.y * q.x).val)] w fun e w' => e = .returned (.agg (bA ((p.x * q.y) + (p.y * q.x)).val)) ∧ Below w.heap.size w w') := fun w => radd_any (p.x * q.y) (p.y * q.x) w
  have H12 : Hid (∀ w, Calls Tryd.prog 28 #[.agg (bA 121666), .agg (bA ((p.x * q.y) + (p.y * q.x)).val)] w fun e w' => e = .returned (.agg (bA (n66 * ((p.x * q.y) + (p.y * q.x))).val)) ∧ Below w.heap.size w w') := fun w => rmul_any n66 ((p.x * q.y) + (p.y * q.x)) w
  have H13 : Hid (∀ w, Calls Tryd.prog 41 #[.agg (bA (p.y * q.y).val), .agg (bA (p.x * q.x).val)] w fun e w' => e = .returned (.agg (bA ((p.y * q.y) + (p.x * q.x)).val)) ∧ Below w.heap.size w w') := fun w => radd_any (p.y * q.y) (p.x * q.x) w
  have H14 : Hid (∀ w, Calls Tryd.prog 28 #[.agg (bA 121666), .agg (bA ((p.y * q.y) + (p.x * q.x)).val)] w fun e w' => e = .returned (.agg (bA (n66 * ((p.y * q.y) + (p.x * q.x))).val)) ∧ Below w.heap.size w w') := fun w => rmul_any n66 ((p.y * q.y) + (p.x * q.x)) w
  have HE : Hid (decide ((r.x * (n66 - (n65 * ((p.x * q.y) * (p.y * q.x))))).val = (n66 * ((p.x * q.y) + (p.y * q.x))).val) = true ∧ decide ((r.y * (n66 + (n65 * ((p.x * q.y) * (p.y * q.x))))).val = (n66 * ((p.y * q.y) + (p.x * q.x))).val) = true) := ⟨decide_eq_true (congrArg Fin.val (rsum_x h)), decide_eq_true (congrArg Fin.val (rsum_y h))⟩
  have HL : Hid (((r.x * (n66 - (n65 * ((p.x * q.y) * (p.y * q.x))))).val < 2 ^ 256 ∧ (n66 * ((p.x * q.y) + (p.y * q.x))).val < 2 ^ 256) ∧ (r.y * (n66 + (n65 * ((p.x * q.y) * (p.y * q.x))))).val < 2 ^ 256 ∧ (n66 * ((p.y * q.y) + (p.x * q.x))).val < 2 ^ 256) := ⟨⟨elt256 (Fin.isLt _), elt256 (Fin.isLt _)⟩, elt256 (Fin.isLt _), elt256 (Fin.isLt _)⟩
  clear h
  generalize (r.x * (n66 - (n65 * ((p.x * q.y) * (p.y * q.x))))).val = X at *
  generalize (r.y * (n66 + (n65 * ((p.x * q.y) * (p.y * q.x))))).val = Y at *
  generalize (n66 * ((p.x * q.y) + (p.y * q.x))).val = tx at *
  generalize (n66 * ((p.y * q.y) + (p.x * q.x))).val = uy at *
  generalize ((p.x * q.y) + (p.y * q.x)).val = ts at *
  generalize ((p.y * q.y) + (p.x * q.x)).val = us at *
  generalize (n66 - (n65 * ((p.x * q.y) * (p.y * q.x)))).val = sx at *
  generalize (n66 + (n65 * ((p.x * q.y) * (p.y * q.x)))).val = sy at *
  generalize (n65 * ((p.x * q.y) * (p.y * q.x))).val = al at *
  generalize ((p.x * q.y) * (p.y * q.x)).val = ab at *
  generalize (p.x * q.y).val = a at *
  generalize (p.y * q.x).val = b at *
  generalize (p.y * q.y).val = c at *
  generalize (p.x * q.x).val = e at *
  generalize p.x.val = px at *
  generalize p.y.val = py at *
  generalize q.x.val = qx at *
  generalize q.y.val = qy at *
  generalize r.x.val = rx at *
  generalize r.y.val = ry at *
  have V0 := Vars.start w
  go_enter Tryd.func19, Tryd.ntmps19
  go_wp2_with (first
    | (refine wpList_boxV V0 3 24 _ rfl rfl rfl (pA px py) rfl ?_; intro w1 g2 V3)
    | (refine wpList_boxV V3 4 24 _ rfl rfl rfl (pA qx qy) rfl ?_; intro w4 g5 V6)
    | (refine wpList_boxV V6 5 24 _ rfl rfl rfl (pA rx ry) rfl ?_; intro w7 g8 V9)
    | (refine wpList_exec rfl (exec_loadP V9 0 rfl 0 (pA_part0 _ _) _ rfl rfl Tryd.underlying22 Tryd.szB (bA_size _)) ?_))
  refine (HX.out w7).mono ?_
  rintro e w10 ⟨rfl, q12⟩
  have V11 := V9.call q12
  clear q12 V9
  go_wp2_with (refine wpList_exec rfl (exec_loadP V11 0 rfl 32 (pA_part1 _ _) _ rfl rfl Tryd.underlying22 Tryd.szB (bA_size _)) ?_)
  refine (HY.out w10).mono ?_
  rintro e w13 ⟨rfl, q15⟩
  have V14 := V11.call q15
  clear q15 V11
  go_wp2_with (first
    | (refine wpList_exec rfl (exec_loadP V14 2 rfl 0 (pA_part0 _ _) _ rfl rfl Tryd.underlying22 Tryd.szB (bA_size _)) ?_)
    | (refine wpList_exec rfl (exec_loadP V14 1 rfl 32 (pA_part1 _ _) _ rfl rfl Tryd.underlying22 Tryd.szB (bA_size _)) ?_))
  refine (H1.out w13).mono ?_
  rintro e w16 ⟨rfl, q18⟩
  have V17 := V14.call q18
  clear q18 V14
  go_wp2_with (first
    | (refine wpList_allocV V17 7 22 rfl rfl rfl (bA 0) zeroB ?_; intro w19 g20 V21)
    | (refine wpList_storeV V21 0 rfl _ (.tmp 29) rfl rfl rfl (bA a) rfl rfl Tryd.szB (bA_size _) (bA_size _) (bA_one _) ?_; intro w22 V23)
    | (refine wpList_exec rfl (exec_loadP V23 3 rfl 32 (pA_part1 _ _) _ rfl rfl Tryd.underlying22 Tryd.szB (bA_size _)) ?_)
    | (refine wpList_exec rfl (exec_loadP V23 2 rfl 0 (pA_part0 _ _) _ rfl rfl Tryd.underlying22 Tryd.szB (bA_size _)) ?_))
  refine (H2.out w22).mono ?_
  rintro e w24 ⟨rfl, q26⟩
  have V25 := V23.call q26
  clear q26 V23
  go_wp2_with (first
    | (refine wpList_allocV V25 8 22 rfl rfl rfl (bA 0) zeroB ?_; intro w27 g28 V29)
    | (refine wpList_storeV V29 0 rfl _ (.tmp 34) rfl rfl rfl (bA b) rfl rfl Tryd.szB (bA_size _) (bA_size _) (bA_one _) ?_; intro w30 V31)
    | (refine wpList_exec rfl (exec_loadP V31 4 rfl 32 (pA_part1 _ _) _ rfl rfl Tryd.underlying22 Tryd.szB (bA_size _)) ?_)
    | (refine wpList_exec rfl (exec_loadP V31 3 rfl 32 (pA_part1 _ _) _ rfl rfl Tryd.underlying22 Tryd.szB (bA_size _)) ?_))
  refine (H3.out w30).mono ?_
  rintro e w32 ⟨rfl, q34⟩
  have V33 := V31.call q34
  clear q34 V31
  go_wp2_with (first
    | (refine wpList_allocV V33 9 22 rfl rfl rfl (bA 0) zeroB ?_; intro w35 g36 V37)
    | (refine wpList_storeV V37 0 rfl _ (.tmp 39) rfl rfl rfl (bA c) rfl rfl Tryd.szB (bA_size _) (bA_size _) (bA_one _) ?_; intro w38 V39)
    | (refine wpList_exec rfl (exec_loadP V39 5 rfl 0 (pA_part0 _ _) _ rfl rfl Tryd.underlying22 Tryd.szB (bA_size _)) ?_)
    | (refine wpList_exec rfl (exec_loadP V39 4 rfl 0 (pA_part0 _ _) _ rfl rfl Tryd.underlying22 Tryd.szB (bA_size _)) ?_))
  refine (H4.out w38).mono ?_
  rintro e w40 ⟨rfl, q42⟩
  have V41 := V39.call q42
  clear q42 V39
  go_wp2_with (first
    | (refine wpList_allocV V41 10 22 rfl rfl rfl (bA 0) zeroB ?_; intro w43 g44 V45)
    | (refine wpList_storeV V45 0 rfl _ (.tmp 44) rfl rfl rfl (bA e) rfl rfl Tryd.szB (bA_size _) (bA_size _) (bA_one _) ?_; intro w46 V47))
  refine av_open (fun w' => Vars w w' [⟨g44, 22, bA e⟩, ⟨g36, 22, bA c⟩, ⟨g28, 22, bA b⟩, ⟨g20, 22, bA a⟩, ⟨g8, 24, pA rx ry⟩, ⟨g5, 24, pA qx qy⟩, ⟨g2, 24, pA px py⟩]) (by kernel_rfl) ?_
  have V48 := V47.drew
  apply av_once (Vg := fun g w' => Vars w w' [⟨g, 22, bA al⟩, ⟨g44, 22, bA e⟩, ⟨g36, 22, bA c⟩, ⟨g28, 22, bA b⟩, ⟨g20, 22, bA a⟩, ⟨g8, 24, pA rx ry⟩, ⟨g5, 24, pA qx qy⟩, ⟨g2, 24, pA px py⟩])
  · intro HC49
    refine held_reads (rs := [1, 2]) (fuel := 5) (by kernel_rfl) (fun c d v a w h => by cases d <;> exact h) (by kernel_rfl) (V48) (fun K hK => ?_)
    refine calm_do (.agg (bA a)) rfl (by rfl) (fun w' hw' => exec_loadV hw' 3 rfl _ rfl rfl Tryd.underlying22 Tryd.szB (bA_size _)) ?_
    go_simp
    refine calm_do (.agg (bA b)) rfl (by rfl) (fun w' hw' => exec_loadV hw' 2 rfl _ rfl rfl Tryd.underlying22 Tryd.szB (bA_size _)) ?_
    go_simp
    refine calm_nil (hK.out _ ?_)
    clear hK K
    refine av_op2 (i := 0) (j := 5) (fuel := 4) (by kernel_rfl) rfl (by rfl) rfl (by rfl) (fun K hK => ?_) (fun K hK => ?_)
    · go_simp
      refine (N121665.out w46.drew).mono ?_
      rintro e w50 ⟨rfl, q52⟩
      have V51 := V48.call q52
      refine hK _ _ (V51) ?_
      clear hK K q52
      refine av_op2 (i := 3) (j := 5) (fuel := 3) (by kernel_rfl) rfl (by rfl) rfl (by rfl) (fun K hK => ?_) (fun K hK => ?_)
      · go_simp
        refine (H5.out w50).mono ?_
        rintro e w53 ⟨rfl, q55⟩
        have V54 := V51.call q55
        refine hK _ _ (V54) ?_
        clear hK K q55
        refine av_op2 (i := 4) (j := 5) (fuel := 2) (by kernel_rfl) rfl (by rfl) rfl (by rfl) (fun K hK => ?_) (fun K hK => ?_)
        · go_simp
          refine (H6.out w53).mono ?_
          rintro e w56 ⟨rfl, q58⟩
          have V57 := V54.call q58
          refine hK _ _ (V57) ?_
          clear hK K q58
          refine av_op (i := 5) (fuel := 1) (by kernel_rfl) rfl (by rfl) (fun K hK => ?_)
          refine wp_allocV V57 11 22 rfl rfl (bA 0) zeroB (fun w59 g60 V61 => ?_)
          refine hK _ _ (V61.tail) ?_
          clear hK K
          refine av_op (i := 6) (fuel := 0) (by kernel_rfl) rfl (by rfl) (fun K hK => ?_)
          refine wp_storeV V61 0 rfl _ _ rfl rfl (bA al) rfl rfl Tryd.szB (bA_size _) (bA_size _) (bA_one _) (fun w62 V63 => ?_)
          refine hK _ _ (V63.tail) ?_
          clear hK K
          refine wpAnyH_done (by kernel_rfl) ?_ _
          exact HC49 g60 w62 V63
        · refine wp_allocV V54 11 22 rfl rfl (bA 0) zeroB (fun w64 g65 V66 => ?_)
          refine hK _ _ (V66.tail) ?_
          clear hK K
          refine av_op (i := 4) (fuel := 1) (by kernel_rfl) rfl (by rfl) (fun K hK => ?_)
          go_simp
          refine (H6.out w64).mono ?_
          rintro e w67 ⟨rfl, q69⟩
          have V68 := V66.call q69
          refine hK _ _ (V68.tail) ?_
          clear hK K q69
          refine av_op (i := 6) (fuel := 0) (by kernel_rfl) rfl (by rfl) (fun K hK => ?_)
          refine wp_storeV V68 0 rfl _ _ rfl rfl (bA al) rfl rfl Tryd.szB (bA_size _) (bA_size _) (bA_one _) (fun w70 V71 => ?_)
          refine hK _ _ (V71.tail) ?_
          clear hK K
          refine wpAnyH_done (by kernel_rfl) ?_ _
          exact HC49 g65 w70 V71
      · refine wp_allocV V51 11 22 rfl rfl (bA 0) zeroB (fun w72 g73 V74 => ?_)
        refine hK _ _ (V74.tail) ?_
        clear hK K
        refine av_op (i := 3) (fuel := 2) (by kernel_rfl) rfl (by rfl) (fun K hK => ?_)
        go_simp
        refine (H5.out w72).mono ?_
        rintro e w75 ⟨rfl, q77⟩
        have V76 := V74.call q77
        refine hK _ _ (V76.tail) ?_
        clear hK K q77
        refine av_op (i := 4) (fuel := 1) (by kernel_rfl) rfl (by rfl) (fun K hK => ?_)
        go_simp
        refine (H6.out w75).mono ?_
        rintro e w78 ⟨rfl, q80⟩
        have V79 := V76.call q80
        refine hK _ _ (V79.tail) ?_
        clear hK K q80
        refine av_op (i := 6) (fuel := 0) (by kernel_rfl) rfl (by rfl) (fun K hK => ?_)
        refine wp_storeV V79 0 rfl _ _ rfl rfl (bA al) rfl rfl Tryd.szB (bA_size _) (bA_size _) (bA_one _) (fun w81 V82 => ?_)
        refine hK _ _ (V82.tail) ?_
        clear hK K
        refine wpAnyH_done (by kernel_rfl) ?_ _
        exact HC49 g73 w81 V82
    · refine wp_allocV V48 11 22 rfl rfl (bA 0) zeroB (fun w83 g84 V85 => ?_)
      refine hK _ _ (V85.tail) ?_
      clear hK K
      refine av_op (i := 0) (fuel := 3) (by kernel_rfl) rfl (by rfl) (fun K hK => ?_)
      go_simp
      refine (N121665.out w83).mono ?_
      rintro e w86 ⟨rfl, q88⟩
      have V87 := V85.call q88
      refine hK _ _ (V87.tail) ?_
      clear hK K q88
      refine av_op (i := 3) (fuel := 2) (by kernel_rfl) rfl (by rfl) (fun K hK => ?_)
      go_simp
      refine (H5.out w86).mono ?_
      rintro e w89 ⟨rfl, q91⟩
      have V90 := V87.call q91
      refine hK _ _ (V90.tail) ?_
      clear hK K q91
      refine av_op (i := 4) (fuel := 1) (by kernel_rfl) rfl (by rfl) (fun K hK => ?_)
      go_simp
      refine (H6.out w89).mono ?_
      rintro e w92 ⟨rfl, q94⟩
      have V93 := V90.call q94
      refine hK _ _ (V93.tail) ?_
      clear hK K q94
      refine av_op (i := 6) (fuel := 0) (by kernel_rfl) rfl (by rfl) (fun K hK => ?_)
      refine wp_storeV V93 0 rfl _ _ rfl rfl (bA al) rfl rfl Tryd.szB (bA_size _) (bA_size _) (bA_one _) (fun w95 V96 => ?_)
      refine hK _ _ (V96.tail) ?_
      clear hK K
      refine wpAnyH_done (by kernel_rfl) ?_ _
      exact HC49 g84 w95 V96
  intro g84 w95 V96
  clear V48
  go_wp2_with fail
  refine (N121666.out w95).mono ?_
  rintro e w97 ⟨rfl, q99⟩
  have V98 := V96.call q99
  clear q99 V96
  go_wp2_with (first
    | (refine wpList_allocV V98 12 22 rfl rfl rfl (bA 0) zeroB ?_; intro w100 g101 V102)
    | (refine wpList_storeV V102 0 rfl _ (.tmp 50) rfl rfl rfl (bA 121666) rfl rfl Tryd.szB (bA_size _) (bA_size _) (bA_one _) ?_; intro w103 V104))
  refine av_open (fun w' => Vars w w' [⟨g101, 22, bA 121666⟩, ⟨g84, 22, bA al⟩, ⟨g44, 22, bA e⟩, ⟨g36, 22, bA c⟩, ⟨g28, 22, bA b⟩, ⟨g20, 22, bA a⟩, ⟨g8, 24, pA rx ry⟩, ⟨g5, 24, pA qx qy⟩, ⟨g2, 24, pA px py⟩]) (by kernel_rfl) ?_
  have V105 := V104.drew
  apply av_once (Vg := fun g w' => Vars w w' [⟨g, 22, bA X⟩, ⟨g101, 22, bA 121666⟩, ⟨g84, 22, bA al⟩, ⟨g44, 22, bA e⟩, ⟨g36, 22, bA c⟩, ⟨g28, 22, bA b⟩, ⟨g20, 22, bA a⟩, ⟨g8, 24, pA rx ry⟩, ⟨g5, 24, pA qx qy⟩, ⟨g2, 24, pA px py⟩])
  · intro HC106
    refine held_reads (rs := [0, 1, 2, 3]) (fuel := 4) (by kernel_rfl) (fun c d v a w h => by cases d <;> exact h) (by kernel_rfl) (V105) (fun K hK => ?_)
    refine calm_do (.pointer (some ⟨g8, 0, none⟩)) rfl (by rfl) (fun w' hw' => ?_) ?_
    · go_simp
    go_simp
    refine calm_do (.agg (bA rx)) rfl (by rfl) (fun w' hw' => exec_loadP hw' 6 rfl 0 (pA_part0 _ _) _ rfl rfl Tryd.underlying22 Tryd.szB (bA_size _)) ?_
    go_simp
    refine calm_do (.agg (bA 121666)) rfl (by rfl) (fun w' hw' => exec_loadV hw' 0 rfl _ rfl rfl Tryd.underlying22 Tryd.szB (bA_size _)) ?_
    go_simp
    refine calm_do (.agg (bA al)) rfl (by rfl) (fun w' hw' => exec_loadV hw' 1 rfl _ rfl rfl Tryd.underlying22 Tryd.szB (bA_size _)) ?_
    go_simp
    refine calm_nil (hK.out _ ?_)
    clear hK K
    refine av_op2 (i := 4) (j := 6) (fuel := 3) (by kernel_rfl) rfl (by rfl) rfl (by rfl) (fun K hK => ?_) (fun K hK => ?_)
    · go_simp
      refine (H7.out w103.drew).mono ?_
      rintro e w107 ⟨rfl, q109⟩
      have V108 := V105.call q109
      refine hK _ _ (V108) ?_
      clear hK K q109
      refine av_op2 (i := 5) (j := 6) (fuel := 2) (by kernel_rfl) rfl (by rfl) rfl (by rfl) (fun K hK => ?_) (fun K hK => ?_)
      · go_simp
        refine (H8.out w107).mono ?_
        rintro e w110 ⟨rfl, q112⟩
        have V111 := V108.call q112
        refine hK _ _ (V111) ?_
        clear hK K q112
        refine av_op (i := 6) (fuel := 1) (by kernel_rfl) rfl (by rfl) (fun K hK => ?_)
        refine wp_allocV V111 13 22 rfl rfl (bA 0) zeroB (fun w113 g114 V115 => ?_)
        refine hK _ _ (V115.tail) ?_
        clear hK K
        refine av_op (i := 7) (fuel := 0) (by kernel_rfl) rfl (by rfl) (fun K hK => ?_)
        refine wp_storeV V115 0 rfl _ _ rfl rfl (bA X) rfl rfl Tryd.szB (bA_size _) (bA_size _) (bA_one _) (fun w116 V117 => ?_)
        refine hK _ _ (V117.tail) ?_
        clear hK K
        refine wpAnyH_done (by kernel_rfl) ?_ _
        exact HC106 g114 w116 V117
      · refine wp_allocV V108 13 22 rfl rfl (bA 0) zeroB (fun w118 g119 V120 => ?_)
        refine hK _ _ (V120.tail) ?_
        clear hK K
        refine av_op (i := 5) (fuel := 1) (by kernel_rfl) rfl (by rfl) (fun K hK => ?_)
        go_simp
        refine (H8.out w118).mono ?_
        rintro e w121 ⟨rfl, q123⟩
        have V122 := V120.call q123
        refine hK _ _ (V122.tail) ?_
        clear hK K q123
        refine av_op (i := 7) (fuel := 0) (by kernel_rfl) rfl (by rfl) (fun K hK => ?_)
        refine wp_storeV V122 0 rfl _ _ rfl rfl (bA X) rfl rfl Tryd.szB (bA_size _) (bA_size _) (bA_one _) (fun w124 V125 => ?_)
        refine hK _ _ (V125.tail) ?_
        clear hK K
        refine wpAnyH_done (by kernel_rfl) ?_ _
        exact HC106 g119 w124 V125
    · refine wp_allocV V105 13 22 rfl rfl (bA 0) zeroB (fun w126 g127 V128 => ?_)
      refine hK _ _ (V128.tail) ?_
      clear hK K
      refine av_op (i := 4) (fuel := 2) (by kernel_rfl) rfl (by rfl) (fun K hK => ?_)
      go_simp
      refine (H7.out w126).mono ?_
      rintro e w129 ⟨rfl, q131⟩
      have V130 := V128.call q131
      refine hK _ _ (V130.tail) ?_
      clear hK K q131
      refine av_op (i := 5) (fuel := 1) (by kernel_rfl) rfl (by rfl) (fun K hK => ?_)
      go_simp
      refine (H8.out w129).mono ?_
      rintro e w132 ⟨rfl, q134⟩
      have V133 := V130.call q134
      refine hK _ _ (V133.tail) ?_
      clear hK K q134
      refine av_op (i := 7) (fuel := 0) (by kernel_rfl) rfl (by rfl) (fun K hK => ?_)
      refine wp_storeV V133 0 rfl _ _ rfl rfl (bA X) rfl rfl Tryd.szB (bA_size _) (bA_size _) (bA_one _) (fun w135 V136 => ?_)
      refine hK _ _ (V136.tail) ?_
      clear hK K
      refine wpAnyH_done (by kernel_rfl) ?_ _
      exact HC106 g127 w135 V136
  intro g127 w135 V136
  clear V105
  go_wp2_with fail
  refine av_open (fun w' => Vars w w' [⟨g127, 22, bA X⟩, ⟨g101, 22, bA 121666⟩, ⟨g84, 22, bA al⟩, ⟨g44, 22, bA e⟩, ⟨g36, 22, bA c⟩, ⟨g28, 22, bA b⟩, ⟨g20, 22, bA a⟩, ⟨g8, 24, pA rx ry⟩, ⟨g5, 24, pA qx qy⟩, ⟨g2, 24, pA px py⟩]) (by kernel_rfl) ?_
  have V137 := V136.drew
  apply av_once (Vg := fun g w' => Vars w w' [⟨g, 22, bA Y⟩, ⟨g127, 22, bA X⟩, ⟨g101, 22, bA 121666⟩, ⟨g84, 22, bA al⟩, ⟨g44, 22, bA e⟩, ⟨g36, 22, bA c⟩, ⟨g28, 22, bA b⟩, ⟨g20, 22, bA a⟩, ⟨g8, 24, pA rx ry⟩, ⟨g5, 24, pA qx qy⟩, ⟨g2, 24, pA px py⟩])
  · intro HC138
    refine held_reads (rs := [0, 1, 2, 3]) (fuel := 4) (by kernel_rfl) (fun c d v a w h => by cases d <;> exact h) (by kernel_rfl) (V137) (fun K hK => ?_)
    refine calm_do (.pointer (some ⟨g8, 32, none⟩)) rfl (by rfl) (fun w' hw' => ?_) ?_
    · go_simp
    go_simp
    refine calm_do (.agg (bA ry)) rfl (by rfl) (fun w' hw' => exec_loadP hw' 7 rfl 32 (pA_part1 _ _) _ rfl rfl Tryd.underlying22 Tryd.szB (bA_size _)) ?_
    go_simp
    refine calm_do (.agg (bA 121666)) rfl (by rfl) (fun w' hw' => exec_loadV hw' 1 rfl _ rfl rfl Tryd.underlying22 Tryd.szB (bA_size _)) ?_
    go_simp
    refine calm_do (.agg (bA al)) rfl (by rfl) (fun w' hw' => exec_loadV hw' 2 rfl _ rfl rfl Tryd.underlying22 Tryd.szB (bA_size _)) ?_
    go_simp
    refine calm_nil (hK.out _ ?_)
    clear hK K
    refine av_op2 (i := 4) (j := 6) (fuel := 3) (by kernel_rfl) rfl (by rfl) rfl (by rfl) (fun K hK => ?_) (fun K hK => ?_)
    · go_simp
      refine (H9.out w135.drew).mono ?_
      rintro e w139 ⟨rfl, q141⟩
      have V140 := V137.call q141
      refine hK _ _ (V140) ?_
      clear hK K q141
      refine av_op2 (i := 5) (j := 6) (fuel := 2) (by kernel_rfl) rfl (by rfl) rfl (by rfl) (fun K hK => ?_) (fun K hK => ?_)
      · go_simp
        refine (H10.out w139).mono ?_
        rintro e w142 ⟨rfl, q144⟩
        have V143 := V140.call q144
        refine hK _ _ (V143) ?_
        clear hK K q144
        refine av_op (i := 6) (fuel := 1) (by kernel_rfl) rfl (by rfl) (fun K hK => ?_)
        refine wp_allocV V143 14 22 rfl rfl (bA 0) zeroB (fun w145 g146 V147 => ?_)
        refine hK _ _ (V147.tail) ?_
        clear hK K
        refine av_op (i := 7) (fuel := 0) (by kernel_rfl) rfl (by rfl) (fun K hK => ?_)
        refine wp_storeV V147 0 rfl _ _ rfl rfl (bA Y) rfl rfl Tryd.szB (bA_size _) (bA_size _) (bA_one _) (fun w148 V149 => ?_)
        refine hK _ _ (V149.tail) ?_
        clear hK K
        refine wpAnyH_done (by kernel_rfl) ?_ _
        exact HC138 g146 w148 V149
      · refine wp_allocV V140 14 22 rfl rfl (bA 0) zeroB (fun w150 g151 V152 => ?_)
        refine hK _ _ (V152.tail) ?_
        clear hK K
        refine av_op (i := 5) (fuel := 1) (by kernel_rfl) rfl (by rfl) (fun K hK => ?_)
        go_simp
        refine (H10.out w150).mono ?_
        rintro e w153 ⟨rfl, q155⟩
        have V154 := V152.call q155
        refine hK _ _ (V154.tail) ?_
        clear hK K q155
        refine av_op (i := 7) (fuel := 0) (by kernel_rfl) rfl (by rfl) (fun K hK => ?_)
        refine wp_storeV V154 0 rfl _ _ rfl rfl (bA Y) rfl rfl Tryd.szB (bA_size _) (bA_size _) (bA_one _) (fun w156 V157 => ?_)
        refine hK _ _ (V157.tail) ?_
        clear hK K
        refine wpAnyH_done (by kernel_rfl) ?_ _
        exact HC138 g151 w156 V157
    · refine wp_allocV V137 14 22 rfl rfl (bA 0) zeroB (fun w158 g159 V160 => ?_)
      refine hK _ _ (V160.tail) ?_
      clear hK K
      refine av_op (i := 4) (fuel := 2) (by kernel_rfl) rfl (by rfl) (fun K hK => ?_)
      go_simp
      refine (H9.out w158).mono ?_
      rintro e w161 ⟨rfl, q163⟩
      have V162 := V160.call q163
      refine hK _ _ (V162.tail) ?_
      clear hK K q163
      refine av_op (i := 5) (fuel := 1) (by kernel_rfl) rfl (by rfl) (fun K hK => ?_)
      go_simp
      refine (H10.out w161).mono ?_
      rintro e w164 ⟨rfl, q166⟩
      have V165 := V162.call q166
      refine hK _ _ (V165.tail) ?_
      clear hK K q166
      refine av_op (i := 7) (fuel := 0) (by kernel_rfl) rfl (by rfl) (fun K hK => ?_)
      refine wp_storeV V165 0 rfl _ _ rfl rfl (bA Y) rfl rfl Tryd.szB (bA_size _) (bA_size _) (bA_one _) (fun w167 V168 => ?_)
      refine hK _ _ (V168.tail) ?_
      clear hK K
      refine wpAnyH_done (by kernel_rfl) ?_ _
      exact HC138 g159 w167 V168
  intro g159 w167 V168
  clear V137
  go_wp2_with fail
  refine av_open (fun w' => Vars w w' [⟨g159, 22, bA Y⟩, ⟨g127, 22, bA X⟩, ⟨g101, 22, bA 121666⟩, ⟨g84, 22, bA al⟩, ⟨g44, 22, bA e⟩, ⟨g36, 22, bA c⟩, ⟨g28, 22, bA b⟩, ⟨g20, 22, bA a⟩, ⟨g8, 24, pA rx ry⟩, ⟨g5, 24, pA qx qy⟩, ⟨g2, 24, pA px py⟩]) (by kernel_rfl) ?_
  have V169 := V168.drew
  refine held_reads (rs := [0, 1, 2, 3]) (fuel := 13) (by kernel_rfl) (fun c d v a w h => by cases d <;> exact h) (by kernel_rfl) (V169) (fun K hK => ?_)
  refine calm_do (.agg (bA X)) rfl (by rfl) (fun w' hw' => exec_loadV hw' 1 rfl _ rfl rfl Tryd.underlying22 Tryd.szB (bA_size _)) ?_
  go_simp
  refine calm_do (.agg (bA 121666)) rfl (by rfl) (fun w' hw' => exec_loadV hw' 2 rfl _ rfl rfl Tryd.underlying22 Tryd.szB (bA_size _)) ?_
  go_simp
  refine calm_do (.agg (bA a)) rfl (by rfl) (fun w' hw' => exec_loadV hw' 7 rfl _ rfl rfl Tryd.underlying22 Tryd.szB (bA_size _)) ?_
  go_simp
  refine calm_do (.agg (bA b)) rfl (by rfl) (fun w' hw' => exec_loadV hw' 6 rfl _ rfl rfl Tryd.underlying22 Tryd.szB (bA_size _)) ?_
  go_simp
  refine calm_nil (hK.out _ ?_)
  clear hK K
  refine av_op (i := 4) (fuel := 12) (by kernel_rfl) rfl (by rfl) (fun K hK => ?_)
  go_simp
  refine (H11.out w167.drew).mono ?_
  rintro e w170 ⟨rfl, q172⟩
  have V171 := V169.call q172
  refine hK _ _ (V171) ?_
  clear hK K q172
  refine av_op (i := 5) (fuel := 11) (by kernel_rfl) rfl (by rfl) (fun K hK => ?_)
  go_simp
  refine (H12.out w170).mono ?_
  rintro e w173 ⟨rfl, q175⟩
  have V174 := V171.call q175
  refine hK _ _ (V174) ?_
  clear hK K q175
  refine held_reads (rs := [6, 7, 8, 9, 10, 11]) (fuel := 5) (by kernel_rfl) (fun c d v a w h => by cases d <;> exact h) (by kernel_rfl) (V174) (fun K hK => ?_)
  go_simp
  refine calm_do (.bool true) rfl (by rfl) (fun w' hw' => exec_eqlB _ _ rfl true _ _ HE.out.1 rfl rfl HL.out.1.1 HL.out.1.2) ?_
  go_simp
  refine calm_move _ rfl (by rfl) rfl ?_
  go_simp
  refine calm_do (.agg (bA Y)) rfl (by rfl) (fun w' hw' => exec_loadV hw' 0 rfl _ rfl rfl Tryd.underlying22 Tryd.szB (bA_size _)) ?_
  go_simp
  refine calm_do (.agg (bA 121666)) rfl (by rfl) (fun w' hw' => exec_loadV hw' 2 rfl _ rfl rfl Tryd.underlying22 Tryd.szB (bA_size _)) ?_
  go_simp
  refine calm_do (.agg (bA c)) rfl (by rfl) (fun w' hw' => exec_loadV hw' 5 rfl _ rfl rfl Tryd.underlying22 Tryd.szB (bA_size _)) ?_
  go_simp
  refine calm_do (.agg (bA e)) rfl (by rfl) (fun w' hw' => exec_loadV hw' 4 rfl _ rfl rfl Tryd.underlying22 Tryd.szB (bA_size _)) ?_
  go_simp
  refine calm_nil (hK.out _ ?_)
  clear hK K
  refine av_op (i := 12) (fuel := 4) (by kernel_rfl) rfl (by rfl) (fun K hK => ?_)
  go_simp
  refine (H13.out w173).mono ?_
  rintro e w176 ⟨rfl, q178⟩
  have V177 := V174.call q178
  refine hK _ _ (V177) ?_
  clear hK K q178
  refine av_op (i := 13) (fuel := 3) (by kernel_rfl) rfl (by rfl) (fun K hK => ?_)
  go_simp
  refine (H14.out w176).mono ?_
  rintro e w179 ⟨rfl, q181⟩
  have V180 := V177.call q181
  refine hK _ _ (V180) ?_
  clear hK K q181
  refine held_reads (rs := [14, 15, 16]) (fuel := 0) (by kernel_rfl) (fun c d v a w h => by cases d <;> exact h) (by kernel_rfl) (V180) (fun K hK => ?_)
  go_simp
  refine calm_do (.bool true) rfl (by rfl) (fun w' hw' => exec_eqlB _ _ rfl true _ _ HE.out.2 rfl rfl HL.out.2.1 HL.out.2.2) ?_
  go_simp
  refine calm_do (.bool true) rfl (by rfl) (fun w' hw' => ?_) ?_
  · go_simp
  go_simp
  refine calm_assign _ rfl (by rfl) rfl ?_
  go_simp
  refine calm_nil (hK.out _ ?_)
  clear hK K
  refine wpAnyH_done (by kernel_rfl) ?_ _
  go_wp2_with fail
  go_ret
  exact ⟨rfl, V180.bel⟩
end Go.Proofs.YtacicjnhpklkfaaDoor.N
