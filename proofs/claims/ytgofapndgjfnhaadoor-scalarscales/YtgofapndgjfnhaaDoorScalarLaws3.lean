/-
  Layer 18's laws: Scales.
-/
import Derived.Test.YtgofapndgjfnhaaDoorScalarFace
import Derived.Test.YtgofapndgjfnhaaDoorScalarOrder
import Derived.Test.YtgofapndgjfnhaaDoorCurveCode6
namespace Go.Proofs.YtgofapndgjfnhaaDoor.N
open Go.RowKit
set_option linter.unusedVariables false
set_option maxRecDepth 8192

theorem spt256 (p : Pt) : p.x.val < 2 ^ 256 ∧ p.y.val < 2 ^ 256 := ⟨elt256 p.x.isLt, elt256 p.y.isLt⟩
theorem sptrue (x y : Nat) : (decide (x = x) && decide (y = y)) = true := by simp
set_option maxHeartbeats 800000 in
theorem scales18_long (pa : Option Addr) (la ka : Nat) (w : World) (hl : 70 < la) : Calls Tryd.prog 5 #[.slice pa la ka] w fun e w' => e = .returned (.bool true) ∧ Below w.heap.size w w' := by
  have hl9 : (70 : Int) < (la : Int) := by omega
  have V0 := Vars.start w
  go_enter Tryd.func5, Tryd.ntmps5
  go_wp2_with fail
  go_ret
  exact ⟨rfl, V0.bel⟩
set_option maxHeartbeats 6400000 in
theorem scales18_core (a : List Nat) (da : Dig a) (pa : Option Addr) (la ka : Nat) (w : World) (hd : DAt w) (ho : OAt w) (ra : Row .u8 w pa la ka (nI a)) (h0 : la ≤ 70) : Calls Tryd.prog 5 #[.slice pa la ka] w fun e w' => e = .returned (.bool true) ∧ Below w.heap.size w w' := by
  have HB : Hid (∀ w', OAt w' → Below w.heap.size w w' → Calls Tryd.prog 8 #[.slice pa la ka] w' fun e w'' => e = .returned (.agg (bA (vL a % oL))) ∧ Below w'.heap.size w' w'') := fun w' ho q => reduce_any a da pa la ka w' ho (ra.below q (Nat.le_refl _)) (by omega)
  obtain ⟨p, hp⟩ : ∃ p, p = ptimes (vL a) pbase := ⟨_, rfl⟩
  have op : OnC p := by rw [hp]; exact ptimes_on pbase_on _
  have HG : Hid (∀ w, DAt w → Calls Tryd.prog 20 #[] w fun e w' => e = .returned (.agg (pA pbase.x.val pbase.y.val)) ∧ Below w.heap.size w w') := base_any
  have HS : Hid (∀ w', DAt w' → Below w.heap.size w w' → Calls Tryd.prog 19 #[.slice pa la ka, .agg (pA pbase.x.val pbase.y.val)] w' fun e w'' => e = .returned (.tuple #[.agg (pA p.x.val p.y.val), .int .i64 0]) ∧ Below w'.heap.size w' w'') := fun w' hd q => by
    rw [hp]
    exact cScale_yes a da pa la ka pbase_on w' hd (ra.below q (Nat.le_refl _)) (by omega)
  have HQ : Hid (∀ (w : World) (g : Nat), DAt w → w.heap[g]? = some (.cells (bA (vL a % oL)) 23 (0, 0)) → Calls Tryd.prog 19 #[.slice (some ⟨g, 0, none⟩) 32 32, .agg (pA pbase.x.val pbase.y.val)] w fun e w' => e = .returned (.tuple #[.agg (pA p.x.val p.y.val), .int .i64 0]) ∧ Below w.heap.size w w') := fun w g hd hg => by
    have h := cScale_yes (digL (vL a % oL) 32) (digL_dig _ _) (some ⟨g, 0, none⟩) 32 32 pbase_on w hd (row_bA hg) (by decide)
    rw [vB (mod_oL256 _), base_mod, ← hp] at h
    exact h
  have HN : Hid (∀ w, DAt w → Calls Tryd.prog 21 #[.agg (pA p.x.val p.y.val)] w fun e w' => e = .returned (.bool true) ∧ Below w.heap.size w w') := fun w hd => on_yes op w hd
  have L1 : Hid (p.x.val < 2 ^ 256 ∧ p.y.val < 2 ^ 256) := spt256 p
  have hl9 : ¬ (70 : Int) < (la : Int) := by omega
  clear hp op da ra h0
  generalize vL a % oL = r at *
  generalize p.x.val = px at *
  generalize p.y.val = py at *
  generalize pbase.x.val = gx at *
  generalize pbase.y.val = gy at *
  have V0 := Vars.start w
  go_enter Tryd.func5, Tryd.ntmps5
  go_wp2_with fail
  refine (HB.out w (ho.of V0) V0.bel).mono ?_
  rintro e w1 ⟨rfl, q3⟩
  have V2 := V0.call q3
  clear q3 V0
  go_wp2_with (first
    | (refine wpList_allocV V2 3 23 rfl rfl rfl (bA 0) zeroB ?_; intro w4 g5 V6)
    | (refine wpList_storeV V6 0 rfl _ (.tmp 12) rfl rfl rfl (bA r) rfl rfl Tryd.szB (bA_size _) (bA_size _) (bA_one _) ?_; intro w7 V8))
  refine (HG.out w7 (hd.of V8)).mono ?_
  rintro e w9 ⟨rfl, q11⟩
  have V10 := V8.call q11
  clear q11 V8
  go_wp2_with fail
  refine (HS.out w9 (hd.of V10) V10.bel).mono ?_
  rintro e w12 ⟨rfl, q14⟩
  have V13 := V10.call q14
  clear q14 V10
  go_wp2_with (first
    | (refine wpList_allocV V13 4 36 rfl rfl rfl (pA 0 0) zeroP ?_; intro w15 g16 V17)
    | (refine wpList_storeV V17 0 rfl _ (.tmp 17) rfl rfl rfl (pA px py) rfl rfl Tryd.szP (pA_size _ _) (pA_size _ _) (pA_one _ _) ?_; intro w18 V19))
  refine av_open (fun w' => Vars w w' [⟨g16, 36, pA px py⟩, ⟨g5, 23, bA r⟩]) (by kernel_rfl) ?_
  have V20 := V19.drew
  apply av_once (Vg := fun g w' => Vars w w' [⟨g, 36, pA px py⟩, ⟨g16, 36, pA px py⟩, ⟨g5, 23, bA r⟩])
  · intro HC21
    refine held_reads (rs := [0]) (fuel := 8) (by kernel_rfl) (fun c d v a w h => by cases d <;> exact h) (by kernel_rfl) (V20) (fun K hK => ?_)
    refine calm_do (.slice (some ⟨g5, 0, none⟩) 32 32) rfl (by rfl) (fun w' hw' => exec_sliceB hw' 1 rfl _ rfl rfl) ?_
    go_simp
    refine calm_nil (hK.out _ ?_)
    clear hK K
    refine av_op2 (i := 1) (j := 6) (fuel := 7) (by kernel_rfl) rfl (by rfl) rfl (by rfl) (fun K hK => ?_) (fun K hK => ?_)
    · go_simp
      refine (HG.out w18.drew (hd.of V20)).mono ?_
      rintro e w22 ⟨rfl, q24⟩
      have V23 := V20.call q24
      refine hK _ _ (V23) ?_
      clear hK K q24
      refine av_op2 (i := 2) (j := 6) (fuel := 6) (by kernel_rfl) rfl (by rfl) rfl (by rfl) (fun K hK => ?_) (fun K hK => ?_)
      · go_simp
        refine (HQ.out w22 g5 (hd.of V23) (V23.at 1 rfl)).mono ?_
        rintro e w25 ⟨rfl, q27⟩
        have V26 := V23.call q27
        refine hK _ _ (V26) ?_
        clear hK K q27
        refine held_reads (rs := [3, 4, 5]) (fuel := 3) (by kernel_rfl) (fun c d v a w h => by cases d <;> exact h) (by kernel_rfl) (V26) (fun K hK => ?_)
        go_simp
        refine calm_move _ rfl (by rfl) rfl ?_
        go_simp
        refine calm_do (.agg (pA px py)) rfl (by rfl) (fun w' hw' => ?_) ?_
        · go_simp
        go_simp
        refine calm_do (.int .i64 0) rfl (by rfl) (fun w' hw' => ?_) ?_
        · go_simp
        go_simp
        refine calm_nil (hK.out _ ?_)
        clear hK K
        refine av_op (i := 6) (fuel := 2) (by kernel_rfl) rfl (by rfl) (fun K hK => ?_)
        refine wp_allocV V26 6 36 rfl rfl (pA 0 0) zeroP (fun w28 g29 V30 => ?_)
        refine hK _ _ (V30.tail) ?_
        clear hK K
        refine av_op (i := 7) (fuel := 1) (by kernel_rfl) rfl (by rfl) (fun K hK => ?_)
        refine wp_storeV V30 0 rfl _ _ rfl rfl (pA px py) rfl rfl Tryd.szP (pA_size _ _) (pA_size _ _) (pA_one _ _) (fun w31 V32 => ?_)
        refine hK _ _ (V32.tail) ?_
        clear hK K
        refine held_reads (rs := [8]) (fuel := 0) (by kernel_rfl) (fun c d v a w h => by cases d <;> exact h) (by kernel_rfl) (V32.tail) (fun K hK => ?_)
        go_simp
        refine calm_assign _ rfl (by rfl) rfl ?_
        go_simp
        refine calm_nil (hK.out _ ?_)
        clear hK K
        refine wpAnyH_done (by kernel_rfl) ?_ _
        exact HC21 g29 w31 V32
      · refine wp_allocV V23 6 36 rfl rfl (pA 0 0) zeroP (fun w33 g34 V35 => ?_)
        refine hK _ _ (V35.tail) ?_
        clear hK K
        refine av_op (i := 2) (fuel := 5) (by kernel_rfl) rfl (by rfl) (fun K hK => ?_)
        go_simp
        refine (HQ.out w33 g5 (hd.of V35) (V35.at 2 rfl)).mono ?_
        rintro e w36 ⟨rfl, q38⟩
        have V37 := V35.call q38
        refine hK _ _ (V37.tail) ?_
        clear hK K q38
        refine held_reads (rs := [3, 4, 5]) (fuel := 2) (by kernel_rfl) (fun c d v a w h => by cases d <;> exact h) (by kernel_rfl) (V37.tail) (fun K hK => ?_)
        go_simp
        refine calm_move _ rfl (by rfl) rfl ?_
        go_simp
        refine calm_do (.agg (pA px py)) rfl (by rfl) (fun w' hw' => ?_) ?_
        · go_simp
        go_simp
        refine calm_do (.int .i64 0) rfl (by rfl) (fun w' hw' => ?_) ?_
        · go_simp
        go_simp
        refine calm_nil (hK.out _ ?_)
        clear hK K
        refine av_op (i := 7) (fuel := 1) (by kernel_rfl) rfl (by rfl) (fun K hK => ?_)
        refine wp_storeV V37 0 rfl _ _ rfl rfl (pA px py) rfl rfl Tryd.szP (pA_size _ _) (pA_size _ _) (pA_one _ _) (fun w39 V40 => ?_)
        refine hK _ _ (V40.tail) ?_
        clear hK K
        refine held_reads (rs := [8]) (fuel := 0) (by kernel_rfl) (fun c d v a w h => by cases d <;> exact h) (by kernel_rfl) (V40.tail) (fun K hK => ?_)
        go_simp
        refine calm_assign _ rfl (by rfl) rfl ?_
        go_simp
        refine calm_nil (hK.out _ ?_)
        clear hK K
        refine wpAnyH_done (by kernel_rfl) ?_ _
        exact HC21 g34 w39 V40
    · refine wp_allocV V20 6 36 rfl rfl (pA 0 0) zeroP (fun w41 g42 V43 => ?_)
      refine hK _ _ (V43.tail) ?_
      clear hK K
      refine av_op (i := 1) (fuel := 6) (by kernel_rfl) rfl (by rfl) (fun K hK => ?_)
      go_simp
      refine (HG.out w41 (hd.of V43)).mono ?_
      rintro e w44 ⟨rfl, q46⟩
      have V45 := V43.call q46
      refine hK _ _ (V45.tail) ?_
      clear hK K q46
      refine av_op (i := 2) (fuel := 5) (by kernel_rfl) rfl (by rfl) (fun K hK => ?_)
      go_simp
      refine (HQ.out w44 g5 (hd.of V45) (V45.at 2 rfl)).mono ?_
      rintro e w47 ⟨rfl, q49⟩
      have V48 := V45.call q49
      refine hK _ _ (V48.tail) ?_
      clear hK K q49
      refine held_reads (rs := [3, 4, 5]) (fuel := 2) (by kernel_rfl) (fun c d v a w h => by cases d <;> exact h) (by kernel_rfl) (V48.tail) (fun K hK => ?_)
      go_simp
      refine calm_move _ rfl (by rfl) rfl ?_
      go_simp
      refine calm_do (.agg (pA px py)) rfl (by rfl) (fun w' hw' => ?_) ?_
      · go_simp
      go_simp
      refine calm_do (.int .i64 0) rfl (by rfl) (fun w' hw' => ?_) ?_
      · go_simp
      go_simp
      refine calm_nil (hK.out _ ?_)
      clear hK K
      refine av_op (i := 7) (fuel := 1) (by kernel_rfl) rfl (by rfl) (fun K hK => ?_)
      refine wp_storeV V48 0 rfl _ _ rfl rfl (pA px py) rfl rfl Tryd.szP (pA_size _ _) (pA_size _ _) (pA_one _ _) (fun w50 V51 => ?_)
      refine hK _ _ (V51.tail) ?_
      clear hK K
      refine held_reads (rs := [8]) (fuel := 0) (by kernel_rfl) (fun c d v a w h => by cases d <;> exact h) (by kernel_rfl) (V51.tail) (fun K hK => ?_)
      go_simp
      refine calm_assign _ rfl (by rfl) rfl ?_
      go_simp
      refine calm_nil (hK.out _ ?_)
      clear hK K
      refine wpAnyH_done (by kernel_rfl) ?_ _
      exact HC21 g42 w50 V51
  intro g42 w50 V51
  clear V20
  go_wp2_with fail
  refine (awake18_any w50 (ho.of V51)).mono ?_
  rintro e w52 ⟨rfl, q54⟩
  have V53 := V51.call q54
  clear q54 V51
  go_wp2_with (first
    | (refine wpList_exec rfl (exec_loadS V53 1 rfl _ rfl rfl Tryd.underlying36 Tryd.szP (pA_size _ _)) ?_)
    | (refine wpList_exec rfl (exec_loadS V53 0 rfl _ rfl rfl Tryd.underlying36 Tryd.szP (pA_size _ _)) ?_)
    | (refine wpList_exec rfl (exec_eqlP _ _ rfl true _ _ _ _ (sptrue _ _) rfl rfl L1.out L1.out) ?_)
    | (refine wpList_exec rfl (exec_loadS V53 1 rfl _ rfl rfl Tryd.underlying36 Tryd.szP (pA_size _ _)) ?_))
  refine (HN.out w52 (hd.of V53)).mono ?_
  rintro e w55 ⟨rfl, q57⟩
  have V56 := V53.call q57
  clear q57 V53
  go_wp2_with fail
  go_ret
  exact ⟨rfl, V56.bel⟩
theorem walk_ScalarScales (a : List Nat) (da : Dig a) (pa : Option Addr) (la ka : Nat) (w : World) (hd : DAt w) (ho : OAt w) (ra : Row .u8 w pa la ka (nI a)) : Calls Tryd.prog 5 #[.slice pa la ka] w fun e w' => e = .returned (.bool true) ∧ Below w.heap.size w w' := by
  by_cases h0 : la ≤ 70
  · exact scales18_core a da pa la ka w hd ho ra h0
  · exact scales18_long pa la ka w (by omega)
end Go.Proofs.YtgofapndgjfnhaaDoor.N
