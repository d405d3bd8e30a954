/-
  Layer 17's laws: Adds.
-/
import Derived.Test.YtacicjnhpklkfaaDoorCurveFace
import Derived.Test.YtacicjnhpklkfaaDoorCurveRef2
namespace Go.Proofs.YtacicjnhpklkfaaDoor.N
open Go.RowKit
set_option linter.unusedVariables false
set_option maxRecDepth 8192

set_option maxHeartbeats 800000 in
theorem adds_long0 (w : World) (pa : Option Addr) (la ka : Nat) (pb : Option Addr) (lb kb : Nat) (hl : 40 < la) : Calls Tryd.prog 4 #[.slice pa la ka, .slice pb lb kb] w fun e w' => e = .returned (.bool true) ∧ Below w.heap.size w w' := by
  have hl9 : (40 : Int) < (la : Int) := by omega
  have V0 := Vars.start w
  go_enter Tryd.func4, Tryd.ntmps4
  go_wp2_with fail
  go_ret
  exact ⟨rfl, V0.bel⟩
set_option maxHeartbeats 800000 in
theorem adds_long1 (w : World) (pa : Option Addr) (la ka : Nat) (pb : Option Addr) (lb kb : Nat) (hl : 40 < lb) (h0 : la ≤ 40) : Calls Tryd.prog 4 #[.slice pa la ka, .slice pb lb kb] w fun e w' => e = .returned (.bool true) ∧ Below w.heap.size w w' := by
  have hl9 : (40 : Int) < (lb : Int) := by omega
  have hl09 : ¬ (40 : Int) < (la : Int) := by omega
  have V0 := Vars.start w
  go_enter Tryd.func4, Tryd.ntmps4
  go_wp2_with fail
  go_ret
  exact ⟨rfl, V0.bel⟩
set_option maxHeartbeats 6400000 in
theorem adds_core (a : List Nat) (da : Dig a) (pa : Option Addr) (la ka : Nat) (b : List Nat) (db : Dig b) (pb : Option Addr) (lb kb : Nat) (w : World) (hd : DAt w) (ra : Row .u8 w pa la ka (nI a)) (rb : Row .u8 w pb lb kb (nI b)) (h0 : la ≤ 40) (h1 : lb ≤ 40) : Calls Tryd.prog 4 #[.slice pa la ka, .slice pb lb kb] w fun e w' => e = .returned (.bool true) ∧ Below w.heap.size w w' := by
  obtain ⟨p, hp⟩ : ∃ p, p = ptimes (vL a) pbase := ⟨_, rfl⟩
  have op : OnC p := by rw [hp]; exact ptimes_on pbase_on _
  have HPp : Hid (∀ w', DAt w' → Below w.heap.size w w' → Calls Tryd.prog 18 #[.slice pa la ka] w' fun e w'' => e = .returned (.agg (pA p.x.val p.y.val)) ∧ Below w'.heap.size w' w'') := fun w' hd q => by
    rw [hp]
    exact point17_any a da pa la ka w' hd (ra.below q (Nat.le_refl _)) (by omega)
  obtain ⟨q, hq⟩ : ∃ p, p = ptimes (vL b) pbase := ⟨_, rfl⟩
  have oq : OnC q := by rw [hq]; exact ptimes_on pbase_on _
  have HPq : Hid (∀ w', DAt w' → Below w.heap.size w w' → Calls Tryd.prog 18 #[.slice pb lb kb] w' fun e w'' => e = .returned (.agg (pA q.x.val q.y.val)) ∧ Below w'.heap.size w' w'') := fun w' hd q => by
    rw [hq]
    exact point17_any b db pb lb kb w' hd (rb.below q (Nat.le_refl _)) (by omega)
  have A1 : Hid (∀ w, DAt w → Calls Tryd.prog 10 #[.agg (pA p.x.val p.y.val), .agg (pA q.x.val q.y.val)] w fun e w' => e = .returned (.tuple #[.agg (pA (psum p q).x.val (psum p q).y.val), .int .i64 0]) ∧ Below w.heap.size w w') := fun w hd => cAdd_yes op oq w hd
  have A2 : Hid (∀ w, DAt w → Calls Tryd.prog 10 #[.agg (pA p.x.val p.y.val), .agg (pA p.x.val p.y.val)] w fun e w' => e = .returned (.tuple #[.agg (pA (psum p p).x.val (psum p p).y.val), .int .i64 0]) ∧ Below w.heap.size w w') := fun w hd => cAdd_yes op op w hd
  have HN : Hid (∀ w, DAt w → Calls Tryd.prog 11 #[.agg (pA p.x.val p.y.val)] w fun e w' => e = .returned (.tuple #[.agg (pA (pneg p).x.val p.y.val), .int .i64 0]) ∧ Below w.heap.size w w') := fun w hd => cNeg_yes op w hd
  have S1 : Hid (∀ w, Calls Tryd.prog 19 #[.agg (pA p.x.val p.y.val), .agg (pA q.x.val q.y.val), .agg (pA (psum p q).x.val (psum p q).y.val)] w fun e w' => e = .returned (.bool true) ∧ Below w.heap.size w w') := fun w => rsum_yes (psum_is op oq) w
  have S2 : Hid (∀ w, Calls Tryd.prog 19 #[.agg (pA p.x.val p.y.val), .agg (pA p.x.val p.y.val), .agg (pA (psum p p).x.val (psum p p).y.val)] w fun e w' => e = .returned (.bool true) ∧ Below w.heap.size w w') := fun w => rsum_yes (psum_is op op) w
  have S3 : Hid (∀ w, Calls Tryd.prog 19 #[.agg (pA p.x.val p.y.val), .agg (pA (pneg p).x.val p.y.val), .agg (pA 0 1)] w fun e w' => e = .returned (.bool true) ∧ Below w.heap.size w w') := fun w => by have h := psum_is op (pneg_on op); rw [psum_neg op] at h; exact rsum_yes h w
  have HO : Hid (∀ w, Calls Tryd.prog 9 #[.agg (pA (psum p q).x.val (psum p q).y.val)] w fun e w' => e = .returned (.bool true) ∧ Below w.heap.size w w') := fun w => ron_yes (psum_on op oq) w
  have L1 : Hid (p.y.val < 2 ^ 256) := (pt256 p).2
  have hl09 : ¬ (40 : Int) < (la : Int) := by omega
  have hl19 : ¬ (40 : Int) < (lb : Int) := by omega
  clear hp op hq oq da db ra rb h0 h1
  generalize (psum p q).x.val = sx at *
  generalize (psum p q).y.val = sy at *
  generalize (psum p p).x.val = dx at *
  generalize (psum p p).y.val = dy at *
  generalize (pneg p).x.val = nx at *
  generalize p.x.val = px at *
  generalize p.y.val = py at *
  generalize q.x.val = qx at *
  generalize q.y.val = qy at *
  have V0 := Vars.start w
  go_enter Tryd.func4, Tryd.ntmps4
  go_wp2_with fail
  refine (HPp.out w (hd.of V0) V0.bel).mono ?_
  rintro e w1 ⟨rfl, q3⟩
  have V2 := V0.call q3
  clear q3 V0
  go_wp2_with (first
    | (refine wpList_allocV V2 5 24 rfl rfl rfl (pA 0 0) zeroP ?_; intro w4 g5 V6)
    | (refine wpList_storeV V6 0 rfl _ (.tmp 22) rfl rfl rfl (pA px py) rfl rfl Tryd.szP (pA_size _ _) (pA_size _ _) (pA_one _ _) ?_; intro w7 V8))
  refine (HPq.out w7 (hd.of V8) V8.bel).mono ?_
  rintro e w9 ⟨rfl, q11⟩
  have V10 := V8.call q11
  clear q11 V8
  go_wp2_with (first
    | (refine wpList_allocV V10 6 24 rfl rfl rfl (pA 0 0) zeroP ?_; intro w12 g13 V14)
    | (refine wpList_storeV V14 0 rfl _ (.tmp 24) rfl rfl rfl (pA qx qy) rfl rfl Tryd.szP (pA_size _ _) (pA_size _ _) (pA_one _ _) ?_; intro w15 V16)
    | (refine wpList_exec rfl (exec_loadS V16 1 rfl _ rfl rfl Tryd.underlying24 Tryd.szP (pA_size _ _)) ?_)
    | (refine wpList_exec rfl (exec_loadS V16 0 rfl _ rfl rfl Tryd.underlying24 Tryd.szP (pA_size _ _)) ?_))
  refine (A1.out w15 (hd.of V16)).mono ?_
  rintro e w17 ⟨rfl, q19⟩
  have V18 := V16.call q19
  clear q19 V16
  go_wp2_with (first
    | (refine wpList_allocV V18 7 24 rfl rfl rfl (pA 0 0) zeroP ?_; intro w20 g21 V22)
    | (refine wpList_storeV V22 0 rfl _ (.tmp 29) rfl rfl rfl (pA sx sy) rfl rfl Tryd.szP (pA_size _ _) (pA_size _ _) (pA_one _ _) ?_; intro w23 V24)
    | (refine wpList_exec rfl (exec_loadS V24 2 rfl _ rfl rfl Tryd.underlying24 Tryd.szP (pA_size _ _)) ?_)
    | (refine wpList_exec rfl (exec_loadS V24 2 rfl _ rfl rfl Tryd.underlying24 Tryd.szP (pA_size _ _)) ?_))
  refine (A2.out w23 (hd.of V24)).mono ?_
  rintro e w25 ⟨rfl, q27⟩
  have V26 := V24.call q27
  clear q27 V24
  go_wp2_with (first
    | (refine wpList_allocV V26 9 24 rfl rfl rfl (pA 0 0) zeroP ?_; intro w28 g29 V30)
    | (refine wpList_storeV V30 0 rfl _ (.tmp 35) rfl rfl rfl (pA dx dy) rfl rfl Tryd.szP (pA_size _ _) (pA_size _ _) (pA_one _ _) ?_; intro w31 V32)
    | (refine wpList_exec rfl (exec_loadS V32 3 rfl _ rfl rfl Tryd.underlying24 Tryd.szP (pA_size _ _)) ?_))
  refine (HN.out w31 (hd.of V32)).mono ?_
  rintro e w33 ⟨rfl, q35⟩
  have V34 := V32.call q35
  clear q35 V32
  go_wp2_with (first
    | (refine wpList_allocV V34 11 24 rfl rfl rfl (pA 0 0) zeroP ?_; intro w36 g37 V38)
    | (refine wpList_storeV V38 0 rfl _ (.tmp 40) rfl rfl rfl (pA nx py) rfl rfl Tryd.szP (pA_size _ _) (pA_size _ _) (pA_one _ _) ?_; intro w39 V40))
  refine av_open (fun w' => Vars w w' [⟨g37, 24, pA nx py⟩, ⟨g29, 24, pA dx dy⟩, ⟨g21, 24, pA sx sy⟩, ⟨g13, 24, pA qx qy⟩, ⟨g5, 24, pA px py⟩]) (by kernel_rfl) ?_
  have V41 := V40.drew
  refine av_op (i := 0) (fuel := 44) (by kernel_rfl) rfl (by rfl) (fun K hK => ?_)
  go_simp
  refine (awake17_any w39.drew (hd.of V41)).mono ?_
  rintro e w42 ⟨rfl, q44⟩
  have V43 := V41.call q44
  refine hK _ _ (V43) ?_
  clear hK K q44
  refine held_reads (rs := [1, 2, 3, 4, 5, 6, 7, 8, 9, 10, 11, 12, 13, 14, 15, 16, 17, 18]) (fuel := 26) (by kernel_rfl) (fun c d v a w h => by cases d <;> exact h) (by kernel_rfl) (V43) (fun K hK => ?_)
  go_simp
  refine calm_move _ rfl (by rfl) rfl ?_
  go_simp
  refine calm_move _ rfl (by rfl) rfl ?_
  go_simp
  refine calm_do (.bool true) rfl (by rfl) (fun w' hw' => ?_) ?_
  · go_simp
  go_simp
  refine calm_do (.bool true) rfl (by rfl) (fun w' hw' => ?_) ?_
  · go_simp
  go_simp
  refine calm_move _ rfl (by rfl) rfl ?_
  go_simp
  refine calm_move _ rfl (by rfl) rfl ?_
  go_simp
  refine calm_move _ rfl (by rfl) rfl ?_
  go_simp
  refine calm_do (.bool true) rfl (by rfl) (fun w' hw' => ?_) ?_
  · go_simp
  go_simp
  refine calm_do (.bool true) rfl (by rfl) (fun w' hw' => ?_) ?_
  · go_simp
  go_simp
  refine calm_move _ rfl (by rfl) rfl ?_
  go_simp
  refine calm_move _ rfl (by rfl) rfl ?_
  go_simp
  refine calm_move _ rfl (by rfl) rfl ?_
  go_simp
  refine calm_do (.bool true) rfl (by rfl) (fun w' hw' => ?_) ?_
  · go_simp
  go_simp
  refine calm_do (.bool true) rfl (by rfl) (fun w' hw' => ?_) ?_
  · go_simp
  go_simp
  refine calm_move _ rfl (by rfl) rfl ?_
  go_simp
  refine calm_do (.agg (pA px py)) rfl (by rfl) (fun w' hw' => exec_loadS hw' 4 rfl _ rfl rfl Tryd.underlying24 Tryd.szP (pA_size _ _)) ?_
  go_simp
  refine calm_do (.agg (pA qx qy)) rfl (by rfl) (fun w' hw' => exec_loadS hw' 3 rfl _ rfl rfl Tryd.underlying24 Tryd.szP (pA_size _ _)) ?_
  go_simp
  refine calm_do (.agg (pA sx sy)) rfl (by rfl) (fun w' hw' => exec_loadS hw' 2 rfl _ rfl rfl Tryd.underlying24 Tryd.szP (pA_size _ _)) ?_
  go_simp
  refine calm_nil (hK.out _ ?_)
  clear hK K
  refine av_op (i := 19) (fuel := 25) (by kernel_rfl) rfl (by rfl) (fun K hK => ?_)
  go_simp
  refine (S1.out w42).mono ?_
  rintro e w45 ⟨rfl, q47⟩
  have V46 := V43.call q47
  refine hK _ _ (V46) ?_
  clear hK K q47
  refine held_reads (rs := [20, 21, 22, 23, 24]) (fuel := 20) (by kernel_rfl) (fun c d v a w h => by cases d <;> exact h) (by kernel_rfl) (V46) (fun K hK => ?_)
  go_simp
  refine calm_do (.bool true) rfl (by rfl) (fun w' hw' => ?_) ?_
  · go_simp
  go_simp
  refine calm_move _ rfl (by rfl) rfl ?_
  go_simp
  refine calm_do (.agg (pA px py)) rfl (by rfl) (fun w' hw' => exec_loadS hw' 4 rfl _ rfl rfl Tryd.underlying24 Tryd.szP (pA_size _ _)) ?_
  go_simp
  refine calm_do (.agg (pA px py)) rfl (by rfl) (fun w' hw' => exec_loadS hw' 4 rfl _ rfl rfl Tryd.underlying24 Tryd.szP (pA_size _ _)) ?_
  go_simp
  refine calm_do (.agg (pA dx dy)) rfl (by rfl) (fun w' hw' => exec_loadS hw' 1 rfl _ rfl rfl Tryd.underlying24 Tryd.szP (pA_size _ _)) ?_
  go_simp
  refine calm_nil (hK.out _ ?_)
  clear hK K
  refine av_op (i := 25) (fuel := 19) (by kernel_rfl) rfl (by rfl) (fun K hK => ?_)
  go_simp
  refine (S2.out w45).mono ?_
  rintro e w48 ⟨rfl, q50⟩
  have V49 := V46.call q50
  refine hK _ _ (V49) ?_
  clear hK K q50
  refine held_reads (rs := [26, 27, 28]) (fuel := 16) (by kernel_rfl) (fun c d v a w h => by cases d <;> exact h) (by kernel_rfl) (V49) (fun K hK => ?_)
  go_simp
  refine calm_do (.bool true) rfl (by rfl) (fun w' hw' => ?_) ?_
  · go_simp
  go_simp
  refine calm_move _ rfl (by rfl) rfl ?_
  go_simp
  refine calm_do (.agg (pA sx sy)) rfl (by rfl) (fun w' hw' => exec_loadS hw' 2 rfl _ rfl rfl Tryd.underlying24 Tryd.szP (pA_size _ _)) ?_
  go_simp
  refine calm_nil (hK.out _ ?_)
  clear hK K
  refine av_op (i := 29) (fuel := 15) (by kernel_rfl) rfl (by rfl) (fun K hK => ?_)
  go_simp
  refine (HO.out w48).mono ?_
  rintro e w51 ⟨rfl, q53⟩
  have V52 := V49.call q53
  refine hK _ _ (V52) ?_
  clear hK K q53
  refine held_reads (rs := [30, 31, 32, 33]) (fuel := 11) (by kernel_rfl) (fun c d v a w h => by cases d <;> exact h) (by kernel_rfl) (V52) (fun K hK => ?_)
  go_simp
  refine calm_do (.bool true) rfl (by rfl) (fun w' hw' => ?_) ?_
  · go_simp
  go_simp
  refine calm_move _ rfl (by rfl) rfl ?_
  go_simp
  refine calm_do (.agg (pA px py)) rfl (by rfl) (fun w' hw' => exec_loadS hw' 4 rfl _ rfl rfl Tryd.underlying24 Tryd.szP (pA_size _ _)) ?_
  go_simp
  refine calm_do (.agg (pA nx py)) rfl (by rfl) (fun w' hw' => exec_loadS hw' 0 rfl _ rfl rfl Tryd.underlying24 Tryd.szP (pA_size _ _)) ?_
  go_simp
  refine calm_nil (hK.out _ ?_)
  clear hK K
  refine av_op (i := 34) (fuel := 10) (by kernel_rfl) rfl (by rfl) (fun K hK => ?_)
  go_simp
  refine (czero_any w51).mono ?_
  rintro e w54 ⟨rfl, q56⟩
  have V55 := V52.call q56
  refine hK _ _ (V55) ?_
  clear hK K q56
  refine av_op (i := 35) (fuel := 9) (by kernel_rfl) rfl (by rfl) (fun K hK => ?_)
  go_simp
  refine (S3.out w54).mono ?_
  rintro e w57 ⟨rfl, q59⟩
  have V58 := V55.call q59
  refine hK _ _ (V58) ?_
  clear hK K q59
  refine held_reads (rs := [36, 37, 38, 39, 40, 41, 42, 43, 44]) (fuel := 0) (by kernel_rfl) (fun c d v a w h => by cases d <;> exact h) (by kernel_rfl) (V58) (fun K hK => ?_)
  go_simp
  refine calm_do (.bool true) rfl (by rfl) (fun w' hw' => ?_) ?_
  · go_simp
  go_simp
  refine calm_move _ rfl (by rfl) rfl ?_
  go_simp
  refine calm_do (.pointer (some ⟨g37, 32, none⟩)) rfl (by rfl) (fun w' hw' => ?_) ?_
  · go_simp
  go_simp
  refine calm_do (.agg (bA py)) rfl (by rfl) (fun w' hw' => exec_loadP hw' 0 rfl 32 (pA_part1 _ _) _ rfl rfl Tryd.underlying22 Tryd.szB (bA_size _)) ?_
  go_simp
  refine calm_do (.pointer (some ⟨g5, 32, none⟩)) rfl (by rfl) (fun w' hw' => ?_) ?_
  · go_simp
  go_simp
  refine calm_do (.agg (bA py)) rfl (by rfl) (fun w' hw' => exec_loadP hw' 4 rfl 32 (pA_part1 _ _) _ rfl rfl Tryd.underlying22 Tryd.szB (bA_size _)) ?_
  go_simp
  refine calm_do (.bool true) rfl (by rfl) (fun w' hw' => exec_eqlB _ _ rfl true _ _ (decide_eq_true rfl) rfl rfl L1.out L1.out) ?_
  go_simp
  refine calm_do (.bool true) rfl (by rfl) (fun w' hw' => ?_) ?_
  · go_simp
  go_simp
  refine calm_assign _ rfl (by rfl) rfl ?_
  go_simp
  refine calm_nil (hK.out _ ?_)
  clear hK K
  refine wpAnyH_done (by kernel_rfl) ?_ _
  go_wp2_with fail
  go_ret
  exact ⟨rfl, V58.bel⟩
theorem walk_CurveAdds (a : List Nat) (da : Dig a) (pa : Option Addr) (la ka : Nat) (b : List Nat) (db : Dig b) (pb : Option Addr) (lb kb : Nat) (w : World) (hd : DAt w) (ra : Row .u8 w pa la ka (nI a)) (rb : Row .u8 w pb lb kb (nI b)) : Calls Tryd.prog 4 #[.slice pa la ka, .slice pb lb kb] w fun e w' => e = .returned (.bool true) ∧ Below w.heap.size w w' := by
  by_cases h0 : la ≤ 40
  case neg => exact adds_long0 w pa la ka pb lb kb (by omega)
  by_cases h1 : lb ≤ 40
  case neg => exact adds_long1 w pa la ka pb lb kb (by omega) h0
  exact adds_core a da pa la ka b db pb lb kb w hd ra rb h0 h1
end Go.Proofs.YtacicjnhpklkfaaDoor.N
