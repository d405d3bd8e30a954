/-
  Layer 17's laws: Orders.
-/
import Derived.Test.YtacicjnhpklkfabDoorCurveMade
namespace Go.Proofs.YtacicjnhpklkfabDoor.N
open Go.RowKit
set_option linter.unusedVariables false
set_option maxRecDepth 8192

set_option maxHeartbeats 800000 in
theorem orders_long0 (w : World) (pa : Option Addr) (la ka : Nat) (hl : 40 < la) : Calls Tryd.prog 3 #[.slice pa la ka] w fun e w' => e = .returned (.bool true) ∧ Below w.heap.size w w' := by
  have hl9 : (40 : Int) < (la : Int) := by omega
  have V0 := Vars.start w
  go_enter Tryd.func3, Tryd.ntmps3
  go_wp2_with fail
  go_ret
  exact ⟨rfl, V0.bel⟩
set_option maxHeartbeats 6400000 in
theorem orders_core (a : List Nat) (da : Dig a) (pa : Option Addr) (la ka : Nat) (w : World) (hd : DAt w) (ra : Row .u8 w pa la ka (nI a)) (h0 : la ≤ 40) : Calls Tryd.prog 3 #[.slice pa la ka] w fun e w' => e = .returned (.bool true) ∧ Below w.heap.size w w' := by
  obtain ⟨p, hp⟩ : ∃ p, p = ptimes (vL a) pbase := ⟨_, rfl⟩
  have op : OnC p := by rw [hp]; exact ptimes_on pbase_on _
  have HPp : Hid (∀ w', DAt w' → Below w.heap.size w w' → Calls Tryd.prog 5 #[.slice pa la ka] w' fun e w'' => e = .returned (.agg (pA p.x.val p.y.val)) ∧ Below w'.heap.size w' w'') := fun w' hd q => by
    rw [hp]
    exact point17_any a da pa la ka w' hd (ra.below q (Nat.le_refl _)) (by omega)
  have HS : Hid (∀ w', DAt w' → Below w.heap.size w w' → Calls Tryd.prog 6 #[.slice pa la ka, .agg (pA 0 1)] w' fun e w'' => e = .returned (.tuple #[.agg (pA 0 1), .int .i64 0]) ∧ Below w'.heap.size w' w'') := fun w' hd q => by
    have h := cScale_yes a da pa la ka pzero_on w' hd (ra.below q (Nat.le_refl _)) (by omega)
    rw [ptimes_zero] at h
    exact h
  have HN : Hid (∀ w, DAt w → Calls Tryd.prog 8 #[.agg (pA p.x.val p.y.val)] w fun e w' => e = .returned (.tuple #[.agg (pA (pneg p).x.val (pneg p).y.val), .int .i64 0]) ∧ Below w.heap.size w w') := fun w hd => cNeg_yes op w hd
  have A1 : Hid (∀ w, DAt w → Calls Tryd.prog 9 #[.agg (pA p.x.val p.y.val), .agg (pA p.x.val p.y.val)] w fun e w' => e = .returned (.agg (pA (psum p p).x.val (psum p p).y.val)) ∧ Below w.heap.size w w') := fun w hd => ladd17_any op op w hd
  have M8 : Hid (∀ (w : World) (g : Nat), DAt w → w.heap[g]? = some (.cells (arr .u8 [8]) 5 (0, 0)) → Calls Tryd.prog 10 #[.slice (some ⟨g, 0, none⟩) 1 1, .agg (pA p.x.val p.y.val)] w fun e w' => e = .returned (.agg (pA (ptimes 8 p).x.val (ptimes 8 p).y.val)) ∧ Below w.heap.size w w') := fun w g hd hg => by
    have h := lscaled17_any [8] (dig_one17 (by decide)) (some ⟨g, 0, none⟩) 1 1 op w hd (row_made hg (by decide)) (by decide)
    exact h
  have M7 : Hid (∀ (w : World) (g : Nat), DAt w → w.heap[g]? = some (.cells (arr .u8 [7]) 5 (0, 0)) → Calls Tryd.prog 10 #[.slice (some ⟨g, 0, none⟩) 1 1, .agg (pA p.x.val p.y.val)] w fun e w' => e = .returned (.agg (pA (ptimes 7 p).x.val (ptimes 7 p).y.val)) ∧ Below w.heap.size w w') := fun w g hd hg => by
    have h := lscaled17_any [7] (dig_one17 (by decide)) (some ⟨g, 0, none⟩) 1 1 op w hd (row_made hg (by decide)) (by decide)
    exact h
  have M4 : Hid (∀ (w : World) (g : Nat), DAt w → w.heap[g]? = some (.cells (arr .u8 [4]) 5 (0, 0)) → Calls Tryd.prog 10 #[.slice (some ⟨g, 0, none⟩) 1 1, .agg (pA p.x.val p.y.val)] w fun e w' => e = .returned (.agg (pA (ptimes 4 p).x.val (ptimes 4 p).y.val)) ∧ Below w.heap.size w w') := fun w g hd hg => by
    have h := lscaled17_any [4] (dig_one17 (by decide)) (some ⟨g, 0, none⟩) 1 1 op w hd (row_made hg (by decide)) (by decide)
    exact h
  have A2 : Hid (∀ w, DAt w → Calls Tryd.prog 9 #[.agg (pA (ptimes 8 p).x.val (ptimes 8 p).y.val), .agg (pA (pneg p).x.val (pneg p).y.val)] w fun e w' => e = .returned (.agg (pA (ptimes 7 p).x.val (ptimes 7 p).y.val)) ∧ Below w.heap.size w w') := fun w hd => by have h := ladd17_any (ptimes_on op 8) (pneg_on op) w hd; rw [pneg_times op 7] at h; exact h
  have A3 : Hid (∀ w, DAt w → Calls Tryd.prog 9 #[.agg (pA (psum p p).x.val (psum p p).y.val), .agg (pA (psum p p).x.val (psum p p).y.val)] w fun e w' => e = .returned (.agg (pA (ptimes 4 p).x.val (ptimes 4 p).y.val)) ∧ Below w.heap.size w w') := fun w hd => by
    have h := ladd17_any (psum_on op op) (psum_on op op) w hd
    have e : ptimes 4 p = psum (psum p p) (psum p p) := by
      rw [show (4 : Nat) = 2 + 2 from rfl, ptimes_add op, show (2 : Nat) = 1 + 1 from rfl, ptimes_add op, ptimes_one op]
    rw [← e] at h
    exact h
  obtain ⟨b, hb1, hb2⟩ : ∃ b : Bool, (decide (p.x.val = (pneg p).x.val) && decide (p.y.val = (pneg p).y.val)) = b ∧ (decide ((psum p p).x.val = 0) && decide ((psum p p).y.val = 1)) = b := by
    refine ⟨_, rfl, ?_⟩
    rw [Bool.eq_iff_iff, Bool.and_eq_true, Bool.and_eq_true, decide_eq_true_iff, decide_eq_true_iff, decide_eq_true_iff, decide_eq_true_iff]
    have h := own_neg op
    constructor
    · rintro ⟨h1, h2⟩
      have h3 := h.2 (Pt.ext (Fin.ext h1) (Fin.ext h2))
      exact ⟨congrArg (fun q : Pt => q.x.val) h3, congrArg (fun q : Pt => q.y.val) h3⟩
    · rintro ⟨h1, h2⟩
      have h3 := h.1 (Pt.ext (Fin.ext h1) (Fin.ext h2))
      exact ⟨congrArg (fun q : Pt => q.x.val) h3, congrArg (fun q : Pt => q.y.val) h3⟩
  have HB1 : Hid ((decide (p.x.val = (pneg p).x.val) && decide (p.y.val = (pneg p).y.val)) = b) := hb1
  have HB2 : Hid ((decide ((psum p p).x.val = 0) && decide ((psum p p).y.val = 1)) = b) := hb2
  clear hb1 hb2
  have L1 : Hid (p.x.val < 2 ^ 256 ∧ p.y.val < 2 ^ 256) := pt256 _
  have L2 : Hid ((pneg p).x.val < 2 ^ 256 ∧ (pneg p).y.val < 2 ^ 256) := pt256 _
  have L3 : Hid ((psum p p).x.val < 2 ^ 256 ∧ (psum p p).y.val < 2 ^ 256) := pt256 _
  have L4 : Hid ((ptimes 7 p).x.val < 2 ^ 256 ∧ (ptimes 7 p).y.val < 2 ^ 256) := pt256 _
  have L5 : Hid ((ptimes 4 p).x.val < 2 ^ 256 ∧ (ptimes 4 p).y.val < 2 ^ 256) := pt256 _
  have hl09 : ¬ (40 : Int) < (la : Int) := by omega
  clear hp op da ra h0
  generalize (psum p p).x.val = dx at *
  generalize (psum p p).y.val = dy at *
  generalize (pneg p).x.val = nx at *
  generalize (pneg p).y.val = ny at *
  generalize (ptimes 8 p).x.val = ex at *
  generalize (ptimes 8 p).y.val = ey at *
  generalize (ptimes 7 p).x.val = fx at *
  generalize (ptimes 7 p).y.val = fy at *
  generalize (ptimes 4 p).x.val = gx at *
  generalize (ptimes 4 p).y.val = gy at *
  generalize p.x.val = px at *
  generalize p.y.val = py at *
  have V0 := Vars.start w
  go_enter Tryd.func3, Tryd.ntmps3
  go_wp2_with fail
  refine (HPp.out w (hd.of V0) V0.bel).mono ?_
  rintro e w1 ⟨rfl, q3⟩
  have V2 := V0.call q3
  clear q3 V0
  go_wp2_with (first
    | (refine wpList_allocV V2 3 25 rfl rfl rfl (pA 0 0) zeroP ?_; intro w4 g5 V6)
    | (refine wpList_storeV V6 0 rfl _ (.tmp 15) rfl rfl rfl (pA px py) rfl rfl Tryd.szP (pA_size _ _) (pA_size _ _) (pA_one _ _) ?_; intro w7 V8))
  refine (czero_any w7).mono ?_
  rintro e w9 ⟨rfl, q11⟩
  have V10 := V8.call q11
  clear q11 V8
  go_wp2_with fail
  refine (HS.out w9 (hd.of V10) V10.bel).mono ?_
  rintro e w12 ⟨rfl, q14⟩
  have V13 := V10.call q14
  clear q14 V10
  go_wp2_with (first
    | (refine wpList_allocV V13 4 25 rfl rfl rfl (pA 0 0) zeroP ?_; intro w15 g16 V17)
    | (refine wpList_storeV V17 0 rfl _ (.tmp 20) rfl rfl rfl (pA 0 1) rfl rfl Tryd.szP (pA_size _ _) (pA_size _ _) (pA_one _ _) ?_; intro w18 V19)
    | (refine wpList_exec rfl (exec_loadS V19 1 rfl _ rfl rfl Tryd.underlying25 Tryd.szP (pA_size _ _)) ?_))
  refine (HN.out w18 (hd.of V19)).mono ?_
  rintro e w20 ⟨rfl, q22⟩
  have V21 := V19.call q22
  clear q22 V19
  go_wp2_with (first
    | (refine wpList_allocV V21 6 25 rfl rfl rfl (pA 0 0) zeroP ?_; intro w23 g24 V25)
    | (refine wpList_storeV V25 0 rfl _ (.tmp 25) rfl rfl rfl (pA nx ny) rfl rfl Tryd.szP (pA_size _ _) (pA_size _ _) (pA_one _ _) ?_; intro w26 V27)
    | (refine wpList_exec rfl (exec_loadS V27 2 rfl _ rfl rfl Tryd.underlying25 Tryd.szP (pA_size _ _)) ?_)
    | (refine wpList_exec rfl (exec_loadS V27 2 rfl _ rfl rfl Tryd.underlying25 Tryd.szP (pA_size _ _)) ?_))
  refine (A1.out w26 (hd.of V27)).mono ?_
  rintro e w28 ⟨rfl, q30⟩
  have V29 := V27.call q30
  clear q30 V27
  go_wp2_with (first
    | (refine wpList_allocV V29 8 25 rfl rfl rfl (pA 0 0) zeroP ?_; intro w31 g32 V33)
    | (refine wpList_storeV V33 0 rfl _ (.tmp 29) rfl rfl rfl (pA dx dy) rfl rfl Tryd.szP (pA_size _ _) (pA_size _ _) (pA_one _ _) ?_; intro w34 V35)
    | (refine wpList_sliceV V35 30 22 1 _ rfl rfl rfl 5 [8] (made1 8) ?_; intro w36 g37 V38)
    | (refine wpList_exec rfl (exec_loadS V38 4 rfl _ rfl rfl Tryd.underlying25 Tryd.szP (pA_size _ _)) ?_))
  refine (M8.out w36 g37 (hd.of V38) (V38.at 0 rfl)).mono ?_
  rintro e w39 ⟨rfl, q41⟩
  have V40 := V38.call q41
  clear q41 V38
  go_wp2_with (first
    | (refine wpList_allocV V40 9 25 rfl rfl rfl (pA 0 0) zeroP ?_; intro w42 g43 V44)
    | (refine wpList_storeV V44 0 rfl _ (.tmp 32) rfl rfl rfl (pA ex ey) rfl rfl Tryd.szP (pA_size _ _) (pA_size _ _) (pA_one _ _) ?_; intro w45 V46)
    | (refine wpList_sliceV V46 33 22 1 _ rfl rfl rfl 5 [7] (made1 7) ?_; intro w47 g48 V49)
    | (refine wpList_exec rfl (exec_loadS V49 6 rfl _ rfl rfl Tryd.underlying25 Tryd.szP (pA_size _ _)) ?_))
  refine (M7.out w47 g48 (hd.of V49) (V49.at 0 rfl)).mono ?_
  rintro e w50 ⟨rfl, q52⟩
  have V51 := V49.call q52
  clear q52 V49
  go_wp2_with (first
    | (refine wpList_allocV V51 10 25 rfl rfl rfl (pA 0 0) zeroP ?_; intro w53 g54 V55)
    | (refine wpList_storeV V55 0 rfl _ (.tmp 35) rfl rfl rfl (pA fx fy) rfl rfl Tryd.szP (pA_size _ _) (pA_size _ _) (pA_one _ _) ?_; intro w56 V57))
  refine av_open (fun w' => Vars w w' [⟨g54, 25, pA fx fy⟩, ⟨g48, 5, arr .u8 [7]⟩, ⟨g43, 25, pA ex ey⟩, ⟨g37, 5, arr .u8 [8]⟩, ⟨g32, 25, pA dx dy⟩, ⟨g24, 25, pA nx ny⟩, ⟨g16, 25, pA 0 1⟩, ⟨g5, 25, pA px py⟩]) (by kernel_rfl) ?_
  have V58 := V57.drew
  apply av_once (Vg := fun g w' => Vars w w' [⟨g, 5, arr .u8 [4]⟩, ⟨g54, 25, pA fx fy⟩, ⟨g48, 5, arr .u8 [7]⟩, ⟨g43, 25, pA ex ey⟩, ⟨g37, 5, arr .u8 [8]⟩, ⟨g32, 25, pA dx dy⟩, ⟨g24, 25, pA nx ny⟩, ⟨g16, 25, pA 0 1⟩, ⟨g5, 25, pA px py⟩])
  · intro HC59
    refine av_op (i := 0) (fuel := 40) (by kernel_rfl) rfl (by rfl) (fun K hK => ?_)
    go_simp
    refine (awake17_any w56.drew (hd.of V58)).mono ?_
    rintro e w60 ⟨rfl, q62⟩
    have V61 := V58.call q62
    refine hK _ _ (V61) ?_
    clear hK K q62
    refine held_reads (rs := [1, 2, 3, 4, 5, 6, 7, 8, 9, 10, 11]) (fuel := 29) (by kernel_rfl) (fun c d v a w h => by cases d <;> exact h) (by kernel_rfl) (V61) (fun K hK => ?_)
    go_simp
    refine calm_move _ rfl (by rfl) rfl ?_
    go_simp
    refine calm_move _ rfl (by rfl) rfl ?_
    go_simp
    refine calm_do (.bool true) rfl (by rfl) (fun w' hw' => ?_) ?_
    · go_simp
    go_simp
    refine calm_do (.bool true) rfl (by rfl) (fun w' hw' => ?_) ?_
    · go_simp
    go_simp
    refine calm_move _ rfl (by rfl) rfl ?_
    go_simp
    refine calm_move _ rfl (by rfl) rfl ?_
    go_simp
    refine calm_move _ rfl (by rfl) rfl ?_
    go_simp
    refine calm_do (.bool true) rfl (by rfl) (fun w' hw' => ?_) ?_
    · go_simp
    go_simp
    refine calm_do (.bool true) rfl (by rfl) (fun w' hw' => ?_) ?_
    · go_simp
    go_simp
    refine calm_move _ rfl (by rfl) rfl ?_
    go_simp
    refine calm_do (.agg (pA 0 1)) rfl (by rfl) (fun w' hw' => exec_loadS hw' 6 rfl _ rfl rfl Tryd.underlying25 Tryd.szP (pA_size _ _)) ?_
    go_simp
    refine calm_nil (hK.out _ ?_)
    clear hK K
    refine av_op (i := 12) (fuel := 28) (by kernel_rfl) rfl (by rfl) (fun K hK => ?_)
    go_simp
    refine (czero_any w60).mono ?_
    rintro e w63 ⟨rfl, q65⟩
    have V64 := V61.call q65
    refine hK _ _ (V64) ?_
    clear hK K q65
    refine held_reads (rs := [13, 14, 15, 16, 17, 19]) (fuel := 22) (by kernel_rfl) (fun c d v a w h => by cases d <;> exact h) (by kernel_rfl) (V64) (fun K hK => ?_)
    go_simp
    refine calm_do (.bool true) rfl (by rfl) (fun w' hw' => exec_eqlP _ _ rfl true _ _ _ _ (ptrue _ _) rfl rfl pz256 pz256) ?_
    go_simp
    refine calm_do (.bool true) rfl (by rfl) (fun w' hw' => ?_) ?_
    · go_simp
    go_simp
    refine calm_move _ rfl (by rfl) rfl ?_
    go_simp
    refine calm_do (.agg (pA ex ey)) rfl (by rfl) (fun w' hw' => exec_loadS hw' 2 rfl _ rfl rfl Tryd.underlying25 Tryd.szP (pA_size _ _)) ?_
    go_simp
    refine calm_do (.agg (pA nx ny)) rfl (by rfl) (fun w' hw' => exec_loadS hw' 5 rfl _ rfl rfl Tryd.underlying25 Tryd.szP (pA_size _ _)) ?_
    go_simp
    refine calm_do (.agg (pA fx fy)) rfl (by rfl) (fun w' hw' => exec_loadS hw' 0 rfl _ rfl rfl Tryd.underlying25 Tryd.szP (pA_size _ _)) ?_
    go_simp
    refine calm_nil (hK.out _ ?_)
    clear hK K
    refine av_op (i := 18) (fuel := 21) (by kernel_rfl) rfl (by rfl) (fun K hK => ?_)
    go_simp
    refine (A2.out w63 (hd.of V64)).mono ?_
    rintro e w66 ⟨rfl, q68⟩
    have V67 := V64.call q68
    refine hK _ _ (V67) ?_
    clear hK K q68
    refine held_reads (rs := [20, 21, 22, 23, 24, 25, 26]) (fuel := 14) (by kernel_rfl) (fun c d v a w h => by cases d <;> exact h) (by kernel_rfl) (V67) (fun K hK => ?_)
    go_simp
    refine calm_do (.bool true) rfl (by rfl) (fun w' hw' => exec_eqlP _ _ rfl true _ _ _ _ (ptrue _ _) rfl rfl L4.out L4.out) ?_
    go_simp
    refine calm_do (.bool true) rfl (by rfl) (fun w' hw' => ?_) ?_
    · go_simp
    go_simp
    refine calm_move _ rfl (by rfl) rfl ?_
    go_simp
    refine calm_do (.agg (pA px py)) rfl (by rfl) (fun w' hw' => exec_loadS hw' 7 rfl _ rfl rfl Tryd.underlying25 Tryd.szP (pA_size _ _)) ?_
    go_simp
    refine calm_do (.agg (pA nx ny)) rfl (by rfl) (fun w' hw' => exec_loadS hw' 5 rfl _ rfl rfl Tryd.underlying25 Tryd.szP (pA_size _ _)) ?_
    go_simp
    refine calm_do (.bool b) rfl (by rfl) (fun w' hw' => exec_eqlP _ _ rfl b _ _ _ _ HB1.out rfl rfl L1.out L2.out) ?_
    go_simp
    refine calm_do (.agg (pA dx dy)) rfl (by rfl) (fun w' hw' => exec_loadS hw' 4 rfl _ rfl rfl Tryd.underlying25 Tryd.szP (pA_size _ _)) ?_
    go_simp
    refine calm_nil (hK.out _ ?_)
    clear hK K
    refine av_op (i := 27) (fuel := 13) (by kernel_rfl) rfl (by rfl) (fun K hK => ?_)
    go_simp
    refine (czero_any w66).mono ?_
    rintro e w69 ⟨rfl, q71⟩
    have V70 := V67.call q71
    refine hK _ _ (V70) ?_
    clear hK K q71
    refine held_reads (rs := [28, 29, 30, 31, 32, 33, 36]) (fuel := 6) (by kernel_rfl) (fun c d v a w h => by cases d <;> exact h) (by kernel_rfl) (V70) (fun K hK => ?_)
    go_simp
    refine calm_do (.bool b) rfl (by rfl) (fun w' hw' => exec_eqlP _ _ rfl b _ _ _ _ HB2.out rfl rfl L3.out pz256) ?_
    go_simp
    refine calm_do (.bool true) rfl (by rfl) (fun w' hw' => ?_) ?_
    · go_simp
    go_simp
    refine calm_do (.bool true) rfl (by rfl) (fun w' hw' => ?_) ?_
    · go_simp
    go_simp
    refine calm_move _ rfl (by rfl) rfl ?_
    go_simp
    refine calm_do (.agg (pA dx dy)) rfl (by rfl) (fun w' hw' => exec_loadS hw' 4 rfl _ rfl rfl Tryd.underlying25 Tryd.szP (pA_size _ _)) ?_
    go_simp
    refine calm_do (.agg (pA dx dy)) rfl (by rfl) (fun w' hw' => exec_loadS hw' 4 rfl _ rfl rfl Tryd.underlying25 Tryd.szP (pA_size _ _)) ?_
    go_simp
    refine calm_do (.agg (pA px py)) rfl (by rfl) (fun w' hw' => exec_loadS hw' 7 rfl _ rfl rfl Tryd.underlying25 Tryd.szP (pA_size _ _)) ?_
    go_simp
    refine calm_nil (hK.out _ ?_)
    clear hK K
    refine av_op2 (i := 34) (j := 35) (fuel := 5) (by kernel_rfl) rfl (by rfl) rfl (by rfl) (fun K hK => ?_) (fun K hK => ?_)
    · go_simp
      refine (A3.out w69 (hd.of V70)).mono ?_
      rintro e w72 ⟨rfl, q74⟩
      have V73 := V70.call q74
      refine hK _ _ (V73) ?_
      clear hK K q74
      refine av_op (i := 35) (fuel := 4) (by kernel_rfl) rfl (by rfl) (fun K hK => ?_)
      refine wp_sliceV V73 71 22 1 _ rfl rfl 5 [4] (made1 4) (fun w75 g76 V77 => ?_)
      refine hK _ _ (V77.tail) ?_
      clear hK K
      try go_simp
      refine av_op (i := 37) (fuel := 3) (by kernel_rfl) rfl (by rfl) (fun K hK => ?_)
      go_simp
      refine (M4.out w75 g76 (hd.of V77) (V77.at 0 rfl)).mono ?_
      rintro e w79 ⟨rfl, q81⟩
      have V80 := V77.call q81
      refine hK _ _ (V80.tail) ?_
      clear hK K q81
      refine held_reads (rs := [38, 39, 40]) (fuel := 0) (by kernel_rfl) (fun c d v a w h => by cases d <;> exact h) (by kernel_rfl) (V80.tail) (fun K hK => ?_)
      go_simp
      refine calm_do (.bool true) rfl (by rfl) (fun w' hw' => exec_eqlP _ _ rfl true _ _ _ _ (ptrue _ _) rfl rfl L5.out L5.out) ?_
      go_simp
      refine calm_do (.bool true) rfl (by rfl) (fun w' hw' => ?_) ?_
      · go_simp
      go_simp
      refine calm_assign _ rfl (by rfl) rfl ?_
      go_simp
      refine calm_nil (hK.out _ ?_)
      clear hK K
      refine wpAnyH_done (by kernel_rfl) ?_ _
      exact HC59 g76 w79 V80
    · refine wp_sliceV V70 71 22 1 _ rfl rfl 5 [4] (made1 4) (fun w82 g83 V84 => ?_)
      refine hK _ _ (V84.tail) ?_
      clear hK K
      try go_simp
      refine av_op (i := 34) (fuel := 4) (by kernel_rfl) rfl (by rfl) (fun K hK => ?_)
      go_simp
      refine (A3.out w82 (hd.of V84)).mono ?_
      rintro e w86 ⟨rfl, q88⟩
      have V87 := V84.call q88
      refine hK _ _ (V87.tail) ?_
      clear hK K q88
      refine av_op (i := 37) (fuel := 3) (by kernel_rfl) rfl (by rfl) (fun K hK => ?_)
      go_simp
      refine (M4.out w86 g83 (hd.of V87) (V87.at 0 rfl)).mono ?_
      rintro e w89 ⟨rfl, q91⟩
      have V90 := V87.call q91
      refine hK _ _ (V90.tail) ?_
      clear hK K q91
      refine held_reads (rs := [38, 39, 40]) (fuel := 0) (by kernel_rfl) (fun c d v a w h => by cases d <;> exact h) (by kernel_rfl) (V90.tail) (fun K hK => ?_)
      go_simp
      refine calm_do (.bool true) rfl (by rfl) (fun w' hw' => exec_eqlP _ _ rfl true _ _ _ _ (ptrue _ _) rfl rfl L5.out L5.out) ?_
      go_simp
      refine calm_do (.bool true) rfl (by rfl) (fun w' hw' => ?_) ?_
      · go_simp
      go_simp
      refine calm_assign _ rfl (by rfl) rfl ?_
      go_simp
      refine calm_nil (hK.out _ ?_)
      clear hK K
      refine wpAnyH_done (by kernel_rfl) ?_ _
      exact HC59 g83 w89 V90
  intro g83 w89 V90
  clear V58
  go_wp2_with fail
  go_ret
  exact ⟨rfl, V90.bel⟩
theorem walk_CurveOrders (a : List Nat) (da : Dig a) (pa : Option Addr) (la ka : Nat) (w : World) (hd : DAt w) (ra : Row .u8 w pa la ka (nI a)) : Calls Tryd.prog 3 #[.slice pa la ka] w fun e w' => e = .returned (.bool true) ∧ Below w.heap.size w w' := by
  by_cases h0 : la ≤ 40
  case neg => exact orders_long0 w pa la ka (by omega)
  exact orders_core a da pa la ka w hd ra h0
end Go.Proofs.YtacicjnhpklkfabDoor.N
