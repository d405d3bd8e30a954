/-
  Layer 17's laws: what they share: point, add, scaled, awake.
-/
import Derived.Test.YtacicjnhpklkfaaDoorCurveCode6
import Derived.Test.YtacicjnhpklkfaaDoorCurveCode7
namespace Go.Proofs.YtacicjnhpklkfaaDoor.N
open Go.RowKit
set_option linter.unusedVariables false
set_option maxRecDepth 8192

theorem row_nil17 (w : World) : Row .u8 w none 0 0 (nI []) := ⟨rfl, Nat.le_refl _, Nat.zero_le _, fun _ => rfl, fun h => absurd h (Nat.lt_irrefl _)⟩
theorem dig_nil17 : Dig [] := fun x hx => absurd hx List.not_mem_nil
theorem ptrue (x y : Nat) : (decide (x = x) && decide (y = y)) = true := by simp
theorem ptrue' (x y : Nat) : (decide (x = x) && decide (y = y)) = !false := by simp
theorem pt256 (p : Pt) : p.x.val < 2 ^ 256 ∧ p.y.val < 2 ^ 256 := ⟨elt256 p.x.isLt, elt256 p.y.isLt⟩
theorem small256 {n : Nat} (h : n < 256) : n < 2 ^ 256 := Nat.lt_of_lt_of_le h (by decide)
theorem pz256 : 0 < 2 ^ 256 ∧ 1 < 2 ^ 256 := ⟨small256 (by decide), small256 (by decide)⟩
theorem po256 : 0 < 2 ^ 256 ∧ 0 < 2 ^ 256 := ⟨small256 (by decide), small256 (by decide)⟩
theorem not_on11 : ¬ OnN 1 1 := by
  rintro ⟨⟨x, y⟩, hp, h1, h2⟩
  have e1 : x = ⟨1, by decide⟩ := Fin.ext h1.symm
  have e2 : y = ⟨1, by decide⟩ := Fin.ext h2.symm
  subst e1 e2
  revert hp
  unfold OnC
  decide +kernel
theorem pack_base : packN pbase = baseY := by
  show baseY + 2 ^ 255 * (baseX % 2) = baseY
  rw [baseX_even, Nat.mul_zero, Nat.add_zero]
theorem base_b0 : (bA (packN pbase))[0]? = some (.int .u8 88) := by
  rw [pack_base, bA_get _ 0 (by decide), show baseY / 256 ^ 0 % 256 = 88 from by decide]; rfl
theorem base_b31 : (bA (packN pbase))[31]? = some (.int .u8 102) := by
  rw [pack_base, bA_get _ 31 (by decide), show baseY / 256 ^ 31 % 256 = 102 from by decide]; rfl
set_option maxHeartbeats 800000 in
theorem point17_any (z : List Nat) (dz : Dig z) (ad : Option Addr) (len cap : Nat) (w : World) (hd : DAt w) (hr : Row .u8 w ad len cap (nI z)) (hl : len ≤ 1000) :
    Calls Tryd.prog 18 #[.slice ad len cap] w fun e w' => e = .returned (.agg (pA (ptimes (vL z) pbase).x.val (ptimes (vL z) pbase).y.val)) ∧ Below w.heap.size w w' := by
  have HB : Hid (∀ w, DAt w → Calls Tryd.prog 15 #[] w fun e w' => e = .returned (.agg (pA pbase.x.val pbase.y.val)) ∧ Below w.heap.size w w') := base_any
  have HS : Hid (∀ w, DAt w → Row .u8 w ad len cap (nI z) → Calls Tryd.prog 12 #[.slice ad len cap, .agg (pA pbase.x.val pbase.y.val)] w fun e w' => e = .returned (.tuple #[.agg (pA (ptimes (vL z) pbase).x.val (ptimes (vL z) pbase).y.val), .int .i64 0]) ∧ Below w.heap.size w w') := fun w hd hr => cScale_yes z dz ad len cap pbase_on w hd hr hl
  have HR : Hid (Row .u8 w ad len cap (nI z)) := hr
  clear dz hr hl
  generalize (ptimes (vL z) pbase).x.val = rx at *
  generalize (ptimes (vL z) pbase).y.val = ry at *
  generalize pbase.x.val = x at *
  generalize pbase.y.val = y at *
  have V0 := Vars.start w
  go_enter Tryd.func18, Tryd.ntmps18
  go_wp2_with (refine wpList_allocV V0 2 24 rfl rfl rfl (pA 0 0) zeroP ?_; intro w1 g2 V3)
  refine (HB.out w1 (hd.of V3)).mono ?_
  rintro e w4 ⟨rfl, q6⟩
  have V5 := V3.call q6
  clear q6 V3
  go_wp2_with fail
  refine (HS.out w4 (hd.of V5) (HR.out.below V5.bel (Nat.le_refl _))).mono ?_
  rintro e w7 ⟨rfl, q9⟩
  have V8 := V5.call q9
  clear q9 V5
  go_wp2_with (first
    | (refine wpList_allocV V8 3 24 rfl rfl rfl (pA 0 0) zeroP ?_; intro w10 g11 V12)
    | (refine wpList_storeV V12 0 rfl _ (.tmp 9) rfl rfl rfl (pA rx ry) rfl rfl Tryd.szP (pA_size _ _) (pA_size _ _) (pA_one _ _) ?_; intro w13 V14)
    | (refine wpList_exec rfl (exec_loadS V14 0 rfl _ rfl rfl Tryd.underlying24 Tryd.szP (pA_size _ _)) ?_)
    | (refine wpList_storeV V14 1 rfl _ (.tmp 11) rfl rfl rfl (pA rx ry) rfl rfl Tryd.szP (pA_size _ _) (pA_size _ _) (pA_one _ _) ?_; intro w15 V16))
  exact bodyPost_ret (resS1 rfl _ V16 1 rfl rfl Tryd.underlying24 Tryd.szP (pA_size _ _)) rfl ⟨rfl, V16.bel⟩
set_option maxHeartbeats 800000 in
theorem lscaled17_any (z : List Nat) (dz : Dig z) (ad : Option Addr) (len cap : Nat) {p : Pt} (hp : OnC p) (w : World) (hd : DAt w) (hr : Row .u8 w ad len cap (nI z)) (hl : len ≤ 1000) :
    Calls Tryd.prog 24 #[.slice ad len cap, .agg (pA p.x.val p.y.val)] w fun e w' => e = .returned (.agg (pA (ptimes (vL z) p).x.val (ptimes (vL z) p).y.val)) ∧ Below w.heap.size w w' := by
  have HS : Hid (∀ w, DAt w → Row .u8 w ad len cap (nI z) → Calls Tryd.prog 12 #[.slice ad len cap, .agg (pA p.x.val p.y.val)] w fun e w' => e = .returned (.tuple #[.agg (pA (ptimes (vL z) p).x.val (ptimes (vL z) p).y.val), .int .i64 0]) ∧ Below w.heap.size w w') := fun w hd hr => cScale_yes z dz ad len cap hp w hd hr hl
  have HR : Hid (Row .u8 w ad len cap (nI z)) := hr
  clear dz hr hl hp
  generalize (ptimes (vL z) p).x.val = rx at *
  generalize (ptimes (vL z) p).y.val = ry at *
  generalize p.x.val = x at *
  generalize p.y.val = y at *
  have V0 := Vars.start w
  go_enter Tryd.func24, Tryd.ntmps24
  go_wp2_with (first
    | (refine wpList_boxV V0 3 24 _ rfl rfl rfl (pA x y) rfl ?_; intro w1 g2 V3)
    | (refine wpList_allocV V3 4 24 rfl rfl rfl (pA 0 0) zeroP ?_; intro w4 g5 V6)
    | (refine wpList_exec rfl (exec_loadS V6 1 rfl _ rfl rfl Tryd.underlying24 Tryd.szP (pA_size _ _)) ?_))
  refine (HS.out w4 (hd.of V6) (HR.out.below V6.bel (Nat.le_refl _))).mono ?_
  rintro e w7 ⟨rfl, q9⟩
  have V8 := V6.call q9
  clear q9 V6
  go_wp2_with (first
    | (refine wpList_allocV V8 5 24 rfl rfl rfl (pA 0 0) zeroP ?_; intro w10 g11 V12)
    | (refine wpList_storeV V12 0 rfl _ (.tmp 11) rfl rfl rfl (pA rx ry) rfl rfl Tryd.szP (pA_size _ _) (pA_size _ _) (pA_one _ _) ?_; intro w13 V14)
    | (refine wpList_exec rfl (exec_loadS V14 0 rfl _ rfl rfl Tryd.underlying24 Tryd.szP (pA_size _ _)) ?_)
    | (refine wpList_storeV V14 1 rfl _ (.tmp 13) rfl rfl rfl (pA rx ry) rfl rfl Tryd.szP (pA_size _ _) (pA_size _ _) (pA_one _ _) ?_; intro w15 V16))
  exact bodyPost_ret (resS1 rfl _ V16 1 rfl rfl Tryd.underlying24 Tryd.szP (pA_size _ _)) rfl ⟨rfl, V16.bel⟩
set_option maxHeartbeats 800000 in
theorem ladd17_any {p q : Pt} (hp : OnC p) (hq : OnC q) (w : World) (hd : DAt w) : Calls Tryd.prog 21 #[.agg (pA p.x.val p.y.val), .agg (pA q.x.val q.y.val)] w fun e w' => e = .returned (.agg (pA (psum p q).x.val (psum p q).y.val)) ∧ Below w.heap.size w w' := by
  have HA : Hid (∀ w, DAt w → Calls Tryd.prog 10 #[.agg (pA p.x.val p.y.val), .agg (pA q.x.val q.y.val)] w fun e w' => e = .returned (.tuple #[.agg (pA (psum p q).x.val (psum p q).y.val), .int .i64 0]) ∧ Below w.heap.size w w') := fun w hd => cAdd_yes hp hq w hd
  clear hp hq
  generalize (psum p q).x.val = rx at *
  generalize (psum p q).y.val = ry at *
  generalize p.x.val = x at *
  generalize p.y.val = y at *
  generalize q.x.val = u at *
  generalize q.y.val = v at *
  have V0 := Vars.start w
  go_enter Tryd.func21, Tryd.ntmps21
  go_wp2_with (first
    | (refine wpList_boxV V0 2 24 _ rfl rfl rfl (pA x y) rfl ?_; intro w1 g2 V3)
    | (refine wpList_boxV V3 3 24 _ rfl rfl rfl (pA u v) rfl ?_; intro w4 g5 V6)
    | (refine wpList_allocV V6 4 24 rfl rfl rfl (pA 0 0) zeroP ?_; intro w7 g8 V9)
    | (refine wpList_exec rfl (exec_loadS V9 2 rfl _ rfl rfl Tryd.underlying24 Tryd.szP (pA_size _ _)) ?_)
    | (refine wpList_exec rfl (exec_loadS V9 1 rfl _ rfl rfl Tryd.underlying24 Tryd.szP (pA_size _ _)) ?_))
  refine (HA.out w7 (hd.of V9)).mono ?_
  rintro e w10 ⟨rfl, q12⟩
  have V11 := V9.call q12
  clear q12 V9
  go_wp2_with (first
    | (refine wpList_allocV V11 5 24 rfl rfl rfl (pA 0 0) zeroP ?_; intro w13 g14 V15)
    | (refine wpList_storeV V15 0 rfl _ (.tmp 11) rfl rfl rfl (pA rx ry) rfl rfl Tryd.szP (pA_size _ _) (pA_size _ _) (pA_one _ _) ?_; intro w16 V17)
    | (refine wpList_exec rfl (exec_loadS V17 0 rfl _ rfl rfl Tryd.underlying24 Tryd.szP (pA_size _ _)) ?_)
    | (refine wpList_storeV V17 1 rfl _ (.tmp 13) rfl rfl rfl (pA rx ry) rfl rfl Tryd.szP (pA_size _ _) (pA_size _ _) (pA_one _ _) ?_; intro w18 V19))
  exact bodyPost_ret (resS1 rfl _ V19 1 rfl rfl Tryd.underlying24 Tryd.szP (pA_size _ _)) rfl ⟨rfl, V19.bel⟩
set_option maxHeartbeats 6400000 in
theorem awake17_any (w : World) (hd : DAt w) : Calls Tryd.prog 16 #[] w fun e w' => e = .returned (.bool true) ∧ Below w.heap.size w w' := by
  have HB : Hid (∀ w, DAt w → Calls Tryd.prog 15 #[] w fun e w' => e = .returned (.agg (pA pbase.x.val pbase.y.val)) ∧ Below w.heap.size w w') := base_any
  have HP : Hid (∀ w, DAt w → Calls Tryd.prog 13 #[.agg (pA pbase.x.val pbase.y.val)] w fun e w' => e = .returned (.tuple #[.agg (bA (packN pbase)), .int .i64 0]) ∧ Below w.heap.size w w') := fun w hd => cPack_yes pbase_on w hd
  have HS : Hid (∀ w, DAt w → Calls Tryd.prog 12 #[.slice none 0 0, .agg (pA pbase.x.val pbase.y.val)] w fun e w' => e = .returned (.tuple #[.agg (pA 0 1), .int .i64 0]) ∧ Below w.heap.size w w') := fun w hd => cScale_yes [] dig_nil17 none 0 0 pbase_on w hd (row_nil17 w) (Nat.zero_le _)
  have HN : Hid (∀ w, DAt w → Calls Tryd.prog 11 #[.agg (pA pbase.x.val pbase.y.val)] w fun e w' => e = .returned (.tuple #[.agg (pA (pneg pbase).x.val (pneg pbase).y.val), .int .i64 0]) ∧ Below w.heap.size w w') := fun w hd => cNeg_yes pbase_on w hd
  have HA : Hid (∀ w, DAt w → Calls Tryd.prog 10 #[.agg (pA pbase.x.val pbase.y.val), .agg (pA (pneg pbase).x.val (pneg pbase).y.val)] w fun e w' => e = .returned (.tuple #[.agg (pA 0 1), .int .i64 0]) ∧ Below w.heap.size w w') := fun w hd => by
    have := cAdd_yes pbase_on (pneg_on pbase_on) w hd
    rw [psum_neg pbase_on] at this
    exact this
  have HO : Hid (∀ w, DAt w → Calls Tryd.prog 14 #[.agg (pA pbase.x.val pbase.y.val)] w fun e w' => e = .returned (.bool true) ∧ Below w.heap.size w w') := fun w hd => on_yes pbase_on w hd
  have HO1 : Hid (∀ w, DAt w → Calls Tryd.prog 14 #[.agg (pA 1 1)] w fun e w' => e = .returned (.bool false) ∧ Below w.heap.size w w') := fun w hd => on_no (small256 (by decide)) (small256 (by decide)) not_on11 w hd
  have HK0 : Hid ((bA (packN pbase))[0]? = some (.int .u8 88)) := base_b0
  have HK31 : Hid ((bA (packN pbase))[31]? = some (.int .u8 102)) := base_b31
  generalize packN pbase = k at *
  generalize (pneg pbase).x.val = nx at *
  generalize (pneg pbase).y.val = ny at *
  generalize pbase.x.val = x at *
  generalize pbase.y.val = y at *
  have V0 := Vars.start w
  go_enter Tryd.func16, Tryd.ntmps16
  go_wp2_with fail
  refine (HB.out w (hd.of V0)).mono ?_
  rintro e w1 ⟨rfl, q3⟩
  have V2 := V0.call q3
  clear q3 V0
  go_wp2_with fail
  refine (HP.out w1 (hd.of V2)).mono ?_
  rintro e w4 ⟨rfl, q6⟩
  have V5 := V2.call q6
  clear q6 V2
  go_wp2_with (first
    | (refine wpList_allocV V5 1 22 rfl rfl rfl (bA 0) zeroB ?_; intro w7 g8 V9)
    | (refine wpList_storeV V9 0 rfl _ (.tmp 12) rfl rfl rfl (bA k) rfl rfl Tryd.szB (bA_size _) (bA_size _) (bA_one _) ?_; intro w10 V11))
  refine (HB.out w10 (hd.of V11)).mono ?_
  rintro e w12 ⟨rfl, q14⟩
  have V13 := V11.call q14
  clear q14 V11
  go_wp2_with fail
  refine (HS.out w12 (hd.of V13)).mono ?_
  rintro e w15 ⟨rfl, q17⟩
  have V16 := V13.call q17
  clear q17 V13
  go_wp2_with (first
    | (refine wpList_allocV V16 3 24 rfl rfl rfl (pA 0 0) zeroP ?_; intro w18 g19 V20)
    | (refine wpList_storeV V20 0 rfl _ (.tmp 17) rfl rfl rfl (pA 0 1) rfl rfl Tryd.szP (pA_size _ _) (pA_size _ _) (pA_one _ _) ?_; intro w21 V22))
  refine (HB.out w21 (hd.of V22)).mono ?_
  rintro e w23 ⟨rfl, q25⟩
  have V24 := V22.call q25
  clear q25 V22
  go_wp2_with fail
  refine (HN.out w23 (hd.of V24)).mono ?_
  rintro e w26 ⟨rfl, q28⟩
  have V27 := V24.call q28
  clear q28 V24
  go_wp2_with (first
    | (refine wpList_allocV V27 5 24 rfl rfl rfl (pA 0 0) zeroP ?_; intro w29 g30 V31)
    | (refine wpList_storeV V31 0 rfl _ (.tmp 22) rfl rfl rfl (pA nx ny) rfl rfl Tryd.szP (pA_size _ _) (pA_size _ _) (pA_one _ _) ?_; intro w32 V33))
  refine av_open (fun w' => Vars w w' [⟨g30, 24, pA nx ny⟩, ⟨g19, 24, pA 0 1⟩, ⟨g8, 22, bA k⟩]) (by kernel_rfl) ?_
  have V34 := V33.drew
  apply av_once (Vg := fun g w' => Vars w w' [⟨g, 24, pA 0 1⟩, ⟨g30, 24, pA nx ny⟩, ⟨g19, 24, pA 0 1⟩, ⟨g8, 22, bA k⟩])
  · intro HC35
    refine held_reads (rs := [1]) (fuel := 8) (by kernel_rfl) (fun c d v a w h => by cases d <;> exact h) (by kernel_rfl) (V34) (fun K hK => ?_)
    refine calm_do (.agg (pA nx ny)) rfl (by rfl) (fun w' hw' => exec_loadS hw' 0 rfl _ rfl rfl Tryd.underlying24 Tryd.szP (pA_size _ _)) ?_
    go_simp
    refine calm_nil (hK.out _ ?_)
    clear hK K
    refine av_op2 (i := 0) (j := 6) (fuel := 7) (by kernel_rfl) rfl (by rfl) rfl (by rfl) (fun K hK => ?_) (fun K hK => ?_)
    · go_simp
      refine (HB.out w32.drew (hd.of V34)).mono ?_
      rintro e w36 ⟨rfl, q38⟩
      have V37 := V34.call q38
      refine hK _ _ (V37) ?_
      clear hK K q38
      refine av_op2 (i := 2) (j := 6) (fuel := 6) (by kernel_rfl) rfl (by rfl) rfl (by rfl) (fun K hK => ?_) (fun K hK => ?_)
      · go_simp
        refine (HA.out w36 (hd.of V37)).mono ?_
        rintro e w39 ⟨rfl, q41⟩
        have V40 := V37.call q41
        refine hK _ _ (V40) ?_
        clear hK K q41
        refine held_reads (rs := [3, 4, 5]) (fuel := 3) (by kernel_rfl) (fun c d v a w h => by cases d <;> exact h) (by kernel_rfl) (V40) (fun K hK => ?_)
        go_simp
        refine calm_move _ rfl (by rfl) rfl ?_
        go_simp
        refine calm_do (.agg (pA 0 1)) rfl (by rfl) (fun w' hw' => ?_) ?_
        · go_simp
        go_simp
        refine calm_do (.int .i64 0) rfl (by rfl) (fun w' hw' => ?_) ?_
        · go_simp
        go_simp
        refine calm_nil (hK.out _ ?_)
        clear hK K
        refine av_op (i := 6) (fuel := 2) (by kernel_rfl) rfl (by rfl) (fun K hK => ?_)
        refine wp_allocV V40 7 24 rfl rfl (pA 0 0) zeroP (fun w42 g43 V44 => ?_)
        refine hK _ _ (V44.tail) ?_
        clear hK K
        refine av_op (i := 7) (fuel := 1) (by kernel_rfl) rfl (by rfl) (fun K hK => ?_)
        refine wp_storeV V44 0 rfl _ _ rfl rfl (pA 0 1) rfl rfl Tryd.szP (pA_size _ _) (pA_size _ _) (pA_one _ _) (fun w45 V46 => ?_)
        refine hK _ _ (V46.tail) ?_
        clear hK K
        refine held_reads (rs := [8]) (fuel := 0) (by kernel_rfl) (fun c d v a w h => by cases d <;> exact h) (by kernel_rfl) (V46.tail) (fun K hK => ?_)
        go_simp
        refine calm_assign _ rfl (by rfl) rfl ?_
        go_simp
        refine calm_nil (hK.out _ ?_)
        clear hK K
        refine wpAnyH_done (by kernel_rfl) ?_ _
        exact HC35 g43 w45 V46
      · refine wp_allocV V37 7 24 rfl rfl (pA 0 0) zeroP (fun w47 g48 V49 => ?_)
        refine hK _ _ (V49.tail) ?_
        clear hK K
        refine av_op (i := 2) (fuel := 5) (by kernel_rfl) rfl (by rfl) (fun K hK => ?_)
        go_simp
        refine (HA.out w47 (hd.of V49)).mono ?_
        rintro e w50 ⟨rfl, q52⟩
        have V51 := V49.call q52
        refine hK _ _ (V51.tail) ?_
        clear hK K q52
        refine held_reads (rs := [3, 4, 5]) (fuel := 2) (by kernel_rfl) (fun c d v a w h => by cases d <;> exact h) (by kernel_rfl) (V51.tail) (fun K hK => ?_)
        go_simp
        refine calm_move _ rfl (by rfl) rfl ?_
        go_simp
        refine calm_do (.agg (pA 0 1)) rfl (by rfl) (fun w' hw' => ?_) ?_
        · go_simp
        go_simp
        refine calm_do (.int .i64 0) rfl (by rfl) (fun w' hw' => ?_) ?_
        · go_simp
        go_simp
        refine calm_nil (hK.out _ ?_)
        clear hK K
        refine av_op (i := 7) (fuel := 1) (by kernel_rfl) rfl (by rfl) (fun K hK => ?_)
        refine wp_storeV V51 0 rfl _ _ rfl rfl (pA 0 1) rfl rfl Tryd.szP (pA_size _ _) (pA_size _ _) (pA_one _ _) (fun w53 V54 => ?_)
        refine hK _ _ (V54.tail) ?_
        clear hK K
        refine held_reads (rs := [8]) (fuel := 0) (by kernel_rfl) (fun c d v a w h => by cases d <;> exact h) (by kernel_rfl) (V54.tail) (fun K hK => ?_)
        go_simp
        refine calm_assign _ rfl (by rfl) rfl ?_
        go_simp
        refine calm_nil (hK.out _ ?_)
        clear hK K
        refine wpAnyH_done (by kernel_rfl) ?_ _
        exact HC35 g48 w53 V54
    · refine wp_allocV V34 7 24 rfl rfl (pA 0 0) zeroP (fun w55 g56 V57 => ?_)
      refine hK _ _ (V57.tail) ?_
      clear hK K
      refine av_op (i := 0) (fuel := 6) (by kernel_rfl) rfl (by rfl) (fun K hK => ?_)
      go_simp
      refine (HB.out w55 (hd.of V57)).mono ?_
      rintro e w58 ⟨rfl, q60⟩
      have V59 := V57.call q60
      refine hK _ _ (V59.tail) ?_
      clear hK K q60
      refine av_op (i := 2) (fuel := 5) (by kernel_rfl) rfl (by rfl) (fun K hK => ?_)
      go_simp
      refine (HA.out w58 (hd.of V59)).mono ?_
      rintro e w61 ⟨rfl, q63⟩
      have V62 := V59.call q63
      refine hK _ _ (V62.tail) ?_
      clear hK K q63
      refine held_reads (rs := [3, 4, 5]) (fuel := 2) (by kernel_rfl) (fun c d v a w h => by cases d <;> exact h) (by kernel_rfl) (V62.tail) (fun K hK => ?_)
      go_simp
      refine calm_move _ rfl (by rfl) rfl ?_
      go_simp
      refine calm_do (.agg (pA 0 1)) rfl (by rfl) (fun w' hw' => ?_) ?_
      · go_simp
      go_simp
      refine calm_do (.int .i64 0) rfl (by rfl) (fun w' hw' => ?_) ?_
      · go_simp
      go_simp
      refine calm_nil (hK.out _ ?_)
      clear hK K
      refine av_op (i := 7) (fuel := 1) (by kernel_rfl) rfl (by rfl) (fun K hK => ?_)
      refine wp_storeV V62 0 rfl _ _ rfl rfl (pA 0 1) rfl rfl Tryd.szP (pA_size _ _) (pA_size _ _) (pA_one _ _) (fun w64 V65 => ?_)
      refine hK _ _ (V65.tail) ?_
      clear hK K
      refine held_reads (rs := [8]) (fuel := 0) (by kernel_rfl) (fun c d v a w h => by cases d <;> exact h) (by kernel_rfl) (V65.tail) (fun K hK => ?_)
      go_simp
      refine calm_assign _ rfl (by rfl) rfl ?_
      go_simp
      refine calm_nil (hK.out _ ?_)
      clear hK K
      refine wpAnyH_done (by kernel_rfl) ?_ _
      exact HC35 g56 w64 V65
  intro g56 w64 V65
  clear V34
  go_wp2_with fail
  refine av_open (fun w' => Vars w w' [⟨g56, 24, pA 0 1⟩, ⟨g30, 24, pA nx ny⟩, ⟨g19, 24, pA 0 1⟩, ⟨g8, 22, bA k⟩]) (by kernel_rfl) ?_
  have V66 := V65.drew
  refine av_op (i := 0) (fuel := 51) (by kernel_rfl) rfl (by rfl) (fun K hK => ?_)
  go_simp
  refine (HB.out w64.drew (hd.of V66)).mono ?_
  rintro e w67 ⟨rfl, q69⟩
  have V68 := V66.call q69
  refine hK _ _ (V68) ?_
  clear hK K q69
  refine av_op (i := 1) (fuel := 50) (by kernel_rfl) rfl (by rfl) (fun K hK => ?_)
  go_simp
  refine (HO.out w67 (hd.of V68)).mono ?_
  rintro e w70 ⟨rfl, q72⟩
  have V71 := V68.call q72
  refine hK _ _ (V71) ?_
  clear hK K q72
  refine held_reads (rs := [2, 3, 4, 5]) (fuel := 46) (by kernel_rfl) (fun c d v a w h => by cases d <;> exact h) (by kernel_rfl) (V71) (fun K hK => ?_)
  go_simp
  refine calm_move _ rfl (by rfl) rfl ?_
  go_simp
  refine calm_do (.agg (bA 1)) rfl (by rfl) (fun w' hw' => ?_) ?_
  · refine exec_buildV 22 _ rfl (bA 1) ?_
    exact (built_B 1 (by decide))
  go_simp
  refine calm_do (.agg (bA 1)) rfl (by rfl) (fun w' hw' => ?_) ?_
  · refine exec_buildV 22 _ rfl (bA 1) ?_
    exact (built_B 1 (by decide))
  go_simp
  refine calm_do (.agg (pA 1 1)) rfl (by rfl) (fun w' hw' => ?_) ?_
  · refine exec_buildV 24 _ rfl (pA 1 1) ?_
    exact (built_P _ _)
  go_simp
  refine calm_nil (hK.out _ ?_)
  clear hK K
  refine av_op (i := 6) (fuel := 45) (by kernel_rfl) rfl (by rfl) (fun K hK => ?_)
  go_simp
  refine (HO1.out w70 (hd.of V71)).mono ?_
  rintro e w73 ⟨rfl, q75⟩
  have V74 := V71.call q75
  refine hK _ _ (V74) ?_
  clear hK K q75
  refine held_reads (rs := [7, 8, 9, 10, 11, 12, 13, 14, 15, 16, 17, 18, 19, 20, 21, 22, 23, 24]) (fuel := 27) (by kernel_rfl) (fun c d v a w h => by cases d <;> exact h) (by kernel_rfl) (V74) (fun K hK => ?_)
  go_simp
  refine calm_do (.bool true) rfl (by rfl) (fun w' hw' => ?_) ?_
  · go_simp
  go_simp
  refine calm_do (.bool true) rfl (by rfl) (fun w' hw' => ?_) ?_
  · go_simp
  go_simp
  refine calm_move _ rfl (by rfl) rfl ?_
  go_simp
  refine calm_do (.pointer (some ⟨g8, 0, none⟩)) rfl (by rfl) (fun w' hw' => ?_) ?_
  · go_simp
  go_simp
  refine calm_do (.int .u8 88) rfl (by rfl) (fun w' hw' => ?_) ?_
  · have hcc := cell_byte hw' 3 rfl 0 HK0.out
    go_simp
  go_simp
  refine calm_do (.bool true) rfl (by rfl) (fun w' hw' => ?_) ?_
  · go_simp
  go_simp
  refine calm_do (.bool true) rfl (by rfl) (fun w' hw' => ?_) ?_
  · go_simp
  go_simp
  refine calm_move _ rfl (by rfl) rfl ?_
  go_simp
  refine calm_do (.pointer (some ⟨g8, 31, none⟩)) rfl (by rfl) (fun w' hw' => ?_) ?_
  · go_simp
  go_simp
  refine calm_do (.int .u8 102) rfl (by rfl) (fun w' hw' => ?_) ?_
  · have hcc := cell_byte hw' 3 rfl 31 HK31.out
    go_simp
  go_simp
  refine calm_do (.bool true) rfl (by rfl) (fun w' hw' => ?_) ?_
  · go_simp
  go_simp
  refine calm_do (.bool true) rfl (by rfl) (fun w' hw' => ?_) ?_
  · go_simp
  go_simp
  refine calm_move _ rfl (by rfl) rfl ?_
  go_simp
  refine calm_move _ rfl (by rfl) rfl ?_
  go_simp
  refine calm_do (.bool true) rfl (by rfl) (fun w' hw' => ?_) ?_
  · go_simp
  go_simp
  refine calm_do (.bool true) rfl (by rfl) (fun w' hw' => ?_) ?_
  · go_simp
  go_simp
  refine calm_move _ rfl (by rfl) rfl ?_
  go_simp
  refine calm_do (.agg (pA 0 1)) rfl (by rfl) (fun w' hw' => exec_loadS hw' 2 rfl _ rfl rfl Tryd.underlying24 Tryd.szP (pA_size _ _)) ?_
  go_simp
  refine calm_nil (hK.out _ ?_)
  clear hK K
  refine av_op (i := 25) (fuel := 26) (by kernel_rfl) rfl (by rfl) (fun K hK => ?_)
  go_simp
  refine (czero_any w73).mono ?_
  rintro e w76 ⟨rfl, q78⟩
  have V77 := V74.call q78
  refine hK _ _ (V77) ?_
  clear hK K q78
  refine held_reads (rs := [26, 27, 28, 29, 30, 31, 32, 33, 34, 35, 36, 37]) (fuel := 14) (by kernel_rfl) (fun c d v a w h => by cases d <;> exact h) (by kernel_rfl) (V77) (fun K hK => ?_)
  go_simp
  refine calm_do (.bool true) rfl (by rfl) (fun w' hw' => exec_eqlP _ _ rfl true _ _ _ _ (ptrue _ _) rfl rfl pz256 pz256) ?_
  go_simp
  refine calm_do (.bool true) rfl (by rfl) (fun w' hw' => ?_) ?_
  · go_simp
  go_simp
  refine calm_move _ rfl (by rfl) rfl ?_
  go_simp
  refine calm_move _ rfl (by rfl) rfl ?_
  go_simp
  refine calm_do (.bool true) rfl (by rfl) (fun w' hw' => ?_) ?_
  · go_simp
  go_simp
  refine calm_do (.bool true) rfl (by rfl) (fun w' hw' => ?_) ?_
  · go_simp
  go_simp
  refine calm_move _ rfl (by rfl) rfl ?_
  go_simp
  refine calm_move _ rfl (by rfl) rfl ?_
  go_simp
  refine calm_do (.bool true) rfl (by rfl) (fun w' hw' => ?_) ?_
  · go_simp
  go_simp
  refine calm_do (.bool true) rfl (by rfl) (fun w' hw' => ?_) ?_
  · go_simp
  go_simp
  refine calm_move _ rfl (by rfl) rfl ?_
  go_simp
  refine calm_do (.agg (pA 0 1)) rfl (by rfl) (fun w' hw' => exec_loadS hw' 0 rfl _ rfl rfl Tryd.underlying24 Tryd.szP (pA_size _ _)) ?_
  go_simp
  refine calm_nil (hK.out _ ?_)
  clear hK K
  refine av_op (i := 38) (fuel := 13) (by kernel_rfl) rfl (by rfl) (fun K hK => ?_)
  go_simp
  refine (czero_any w76).mono ?_
  rintro e w79 ⟨rfl, q81⟩
  have V80 := V77.call q81
  refine hK _ _ (V80) ?_
  clear hK K q81
  refine held_reads (rs := [39, 40, 41, 42, 43, 44, 45, 47, 48]) (fuel := 4) (by kernel_rfl) (fun c d v a w h => by cases d <;> exact h) (by kernel_rfl) (V80) (fun K hK => ?_)
  go_simp
  refine calm_do (.bool true) rfl (by rfl) (fun w' hw' => exec_eqlP _ _ rfl true _ _ _ _ (ptrue _ _) rfl rfl pz256 pz256) ?_
  go_simp
  refine calm_do (.bool true) rfl (by rfl) (fun w' hw' => ?_) ?_
  · go_simp
  go_simp
  refine calm_move _ rfl (by rfl) rfl ?_
  go_simp
  refine calm_move _ rfl (by rfl) rfl ?_
  go_simp
  refine calm_do (.bool true) rfl (by rfl) (fun w' hw' => ?_) ?_
  · go_simp
  go_simp
  refine calm_do (.bool true) rfl (by rfl) (fun w' hw' => ?_) ?_
  · go_simp
  go_simp
  refine calm_move _ rfl (by rfl) rfl ?_
  go_simp
  refine calm_do (.agg (bA 1)) rfl (by rfl) (fun w' hw' => ?_) ?_
  · refine exec_buildV 22 _ rfl (bA 1) ?_
    exact (built_B 1 (by decide))
  go_simp
  refine calm_do (.agg (pA 0 1)) rfl (by rfl) (fun w' hw' => ?_) ?_
  · refine exec_buildV 24 _ rfl (pA 0 1) ?_
    exact (built_P1 _)
  go_simp
  refine calm_nil (hK.out _ ?_)
  clear hK K
  refine av_op (i := 46) (fuel := 3) (by kernel_rfl) rfl (by rfl) (fun K hK => ?_)
  go_simp
  refine (czero_any w79).mono ?_
  rintro e w82 ⟨rfl, q84⟩
  have V83 := V80.call q84
  refine hK _ _ (V83) ?_
  clear hK K q84
  refine held_reads (rs := [49, 50, 51]) (fuel := 0) (by kernel_rfl) (fun c d v a w h => by cases d <;> exact h) (by kernel_rfl) (V83) (fun K hK => ?_)
  go_simp
  refine calm_do (.bool true) rfl (by rfl) (fun w' hw' => exec_eqlP _ _ rfl true _ _ _ _ (ptrue _ _) rfl rfl pz256 pz256) ?_
  go_simp
  refine calm_do (.bool true) rfl (by rfl) (fun w' hw' => ?_) ?_
  · go_simp
  go_simp
  refine calm_assign _ rfl (by rfl) rfl ?_
  go_simp
  refine calm_nil (hK.out _ ?_)
  clear hK K
  refine wpAnyH_done (by kernel_rfl) ?_ _
  go_wp2_with fail
  go_ret
  exact ⟨rfl, V83.bel⟩
end Go.Proofs.YtacicjnhpklkfaaDoor.N
