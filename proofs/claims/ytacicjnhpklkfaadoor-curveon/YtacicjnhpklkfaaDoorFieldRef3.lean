/-
  Layer 16's reference: Is, Add, Sub.
-/
import Derived.Test.YtacicjnhpklkfaaDoorFieldRef2
namespace Go.Proofs.YtacicjnhpklkfaaDoor.N
open Go.RowKit
set_option linter.unusedVariables false
set_option maxRecDepth 8192

theorem fP_lt256R : fP < 2 ^ 256 := by have := fP_eq; omega
theorem run_sliceAll {P : Program} (t e : TypeId) (n : Nat) (hu : P.underlying t = some (.array n e)) (he : (P.info? e).map (·.size) = some 1) (b o : Nat) (h3 : 0 < n) (w : World) :
    (Instr.sliceAt t (.pointer (some ⟨b, o, none⟩)) none none none).run P w = .ok (.slice (some ⟨b, o, none⟩) n n) w := by
  have hal : P.arrayLen t = n := by simp [Program.arrayLen, hu]
  have hel : P.elem t = e := by simp [Program.elem, hu]
  obtain ⟨inf, hq, hs⟩ := Option.map_eq_some_iff.1 he
  rw [run_sliceAt_array_all w t ⟨b, o, none⟩ (by rw [hal, hel]; exact hu)]
  rw [hal, hel]
  simp [sizeOf, typeInfo, hq, hs, slicedAt, show ¬ n = 0 by omega, plain_add]
theorem row_bA {w : World} {g : Nat} {T : TypeId} {a : Nat} (h : w.heap[g]? = some (.cells (bA a) T (0, 0))) : Row .u8 w (some ⟨g, 0, none⟩) 32 32 (nI (digL a 32)) := by
  refine ⟨by rw [nI_length, digL_length], Nat.le_refl _, by unfold maxLen; omega, by simp, fun _ => ⟨g, 0, rfl, lt_of_heap h, fun i hi => ?_⟩⟩
  rw [cell_of_row w g _ _ _ _ h, Nat.zero_add, bA_get a i hi, nI_dg, dg_digL hi]
theorem vB {a : Nat} (h : a < 2 ^ 256) : vL (digL a 32) = a := vL_digL_lt (by rw [b256]; exact h)
theorem exec_sliceB {a : Act} {o : Oper} {w w0 : World} {l : List AV} (V : Vars w0 w l) (i : Nat) {g : Nat} {X : Array Value} (hi : l[i]? = some ⟨g, 22, X⟩) (x : Operand) (ho : o.op = .slice 22 x none none none) (hx : a.eval x = .pointer (some ⟨g, 0, none⟩)) :
    (execOp a.eval o).run Tryd.prog w = .ok (.value (.slice (some ⟨g, 0, none⟩) 32 32)) w := by
  unfold execOp
  simp only [ho, hx, Option.map_none, run_sliceAll 22 5 32 Tryd.underlying22 Tryd.sz8 g 0 (by decide) w, Sem.run_bind, Sem.run_pure, Result.andThen_ok]
theorem refP_32 (w : World) : Calls Tryd.prog 45 #[] w fun e w' => ∃ a c, e = .returned (.slice a 32 c) ∧ Row .u8 w' a 32 c (nI (nb fP)) ∧ Below w.heap.size w w' := by
  have h := refP_any w
  unfold Gives at h
  rwa [nb_fP, pL_length, ← nb_fP] at h
set_option maxHeartbeats 800000 in
theorem refIs_any (a : Nat) (w : World) (ha : a < 2 ^ 256) : Calls Tryd.prog 27 #[.agg (bA a)] w fun e w' => e = .returned (.bool (decide (a < fP))) ∧ Below w.heap.size w w' := by
  have HC : Hid (∀ (w : World) (a1 : Option Addr) (c1 : Nat) (g : Nat), w.heap[g]? = some (.cells (bA a) 22 (0, 0)) → Row .u8 w a1 32 c1 (nI (nb fP)) → Calls Tryd.prog 44 #[.slice (some ⟨g, 0, none⟩) 32 32, .slice a1 32 c1] w fun e w' => e = .returned (.int .i64 (cmpN a fP)) ∧ w = w') := by
    intro w a1 c1 g hg hr
    have := refCmp15_any (digL a 32) (nb fP) (some ⟨g, 0, none⟩) a1 32 32 32 c1 w (digL_dig _ _) (dig_nb _) (row_bA hg) hr (by decide) (by decide)
    rwa [vB ha, vL_nb] at this
  have hcb := cmp_bounds a fP
  have hcc : decide (cmpN a fP < 0) = decide (a < fP) := by
    rw [Bool.eq_iff_iff, decide_eq_true_iff, decide_eq_true_iff]
    unfold cmpN
    split
    · omega
    · split <;> omega
  generalize cmpN a fP = cc at *
  generalize decide (a < fP) = b at *
  clear ha
  have V0 := Vars.start w
  go_enter Tryd.func27, Tryd.ntmps27
  go_wp2_with (refine wpList_boxV V0 1 22 _ rfl rfl rfl (bA a) rfl ?_; intro w1 g2 V3)
  refine av_open (fun w' => Vars w w' [⟨g2, 22, bA a⟩]) (by kernel_rfl) ?_
  have V4 := V3.drew
  refine held_reads (rs := [0]) (fuel := 4) (by kernel_rfl) (fun c d v a w h => by cases d <;> exact h) (by kernel_rfl) (V4) (fun K hK => ?_)
  refine calm_do (.slice (some ⟨g2, 0, none⟩) 32 32) rfl (by rfl) (fun w' hw' => exec_sliceB hw' 0 rfl _ rfl rfl) ?_
  go_simp
  refine calm_nil (hK.out _ ?_)
  clear hK K
  refine av_op (i := 1) (fuel := 3) (by kernel_rfl) rfl (by rfl) (fun K hK => ?_)
  go_simp
  refine (refP_32 w1.drew).mono ?_
  rintro e w5 ⟨a8, c9, rfl, r10, q7⟩
  have V6 := V4.call q7
  refine hK _ _ (V6) ?_
  clear hK K q7
  refine av_op (i := 2) (fuel := 2) (by kernel_rfl) rfl (by rfl) (fun K hK => ?_)
  go_simp
  refine (HC.out w5 a8 c9 g2 (V6.at 0 rfl) r10).mono ?_
  rintro e w' ⟨rfl, rfl⟩
  refine hK _ _ (V6) ?_
  clear hK K
  refine held_reads (rs := [3, 4]) (fuel := 0) (by kernel_rfl) (fun c d v a w h => by cases d <;> exact h) (by kernel_rfl) (V6) (fun K hK => ?_)
  go_simp
  refine calm_do (.bool b) rfl (by rfl) (fun w' hw' => ?_) ?_
  · have h9 := hcc
    go_simp
  go_simp
  refine calm_assign _ rfl (by rfl) rfl ?_
  go_simp
  refine calm_nil (hK.out _ ?_)
  clear hK K
  refine wpAnyH_done (by kernel_rfl) ?_ _
  go_wp2_with fail
  go_ret
  exact ⟨rfl, V6.bel⟩
set_option maxHeartbeats 800000 in
theorem refAdd_any (a b : Nat) (w : World) (ha : a < fP) (hb : b < fP) : Calls Tryd.prog 41 #[.agg (bA a), .agg (bA b)] w fun e w' => e = .returned (.agg (bA ((a + b) % fP))) ∧ Below w.heap.size w w' := by
  have ha9 : a < 2 ^ 256 := Nat.lt_trans ha fP_lt256R
  have hb9 : b < 2 ^ 256 := Nat.lt_trans hb fP_lt256R
  obtain ⟨s, hs⟩ : ∃ s, a + b = s := ⟨_, rfl⟩
  obtain ⟨r, hsr⟩ : ∃ r, s % fP = r := ⟨_, rfl⟩
  have hr9 : r < 2 ^ 256 := by rw [← hsr]; exact Nat.lt_trans (mod_fP s) fP_lt256R
  have hs9 : s < 256 ^ 33 := by rw [← hs]; have : (2 : Nat) ^ 256 * 2 < 256 ^ 33 := by decide
                                omega
  rw [hs, hsr]
  have HA : Hid (∀ (w : World) (g h : Nat), w.heap[g]? = some (.cells (bA a) 22 (0, 0)) → w.heap[h]? = some (.cells (bA b) 22 (0, 0)) → Calls Tryd.prog 50 #[.slice (some ⟨g, 0, none⟩) 32 32, .slice (some ⟨h, 0, none⟩) 32 32] w (Gives w (nb s))) := by
    intro w g h hg hh
    have := refAdd15_any (digL a 32) (digL b 32) (some ⟨g, 0, none⟩) (some ⟨h, 0, none⟩) 32 32 32 32 w (digL_dig _ _) (digL_dig _ _) (row_bA hg) (row_bA hh) (by decide) (by decide)
    rwa [vB ha9, vB hb9, hs] at this
  have HF : Hid (∀ (w : World) (a1 : Option Addr) (c1 : Nat), Row .u8 w a1 (nb r).length c1 (nI (nb r)) → Calls Tryd.prog 47 #[.slice a1 (nb r).length c1] w fun e w' => e = .returned (.agg (bA r)) ∧ Below w.heap.size w w') := by
    intro w a1 c1 hr
    have := refFull_any (nb r) (dig_nb r) a1 (nb r).length c1 w hr (nb_len (by rw [b256]; exact hr9))
    rwa [vL_nb] at this
  have HR : Hid (∀ (w : World) (a1 : Option Addr) (c1 : Nat), Row .u8 w a1 (nb s).length c1 (nI (nb s)) → Calls Tryd.prog 48 #[.slice a1 (nb s).length c1] w (Gives w (nb r))) := by
    intro w a1 c1 hr
    have := refRound_any (nb s) (dig_nb s) a1 (nb s).length c1 w hr (Nat.le_trans (nb_len hs9) (by decide))
    rwa [vL_nb, hsr] at this
  generalize hns : (nb s).length = ns at *
  generalize hnr : (nb r).length = nr at *
  have HNS : Hid ((nb s).length = ns ∧ (nb r).length = nr) := ⟨hns, hnr⟩
  unfold Gives at HA HR
  rw [hns] at HA
  rw [hnr] at HR
  clear ha hb ha9 hb9 hs hsr hr9 hs9 hns hnr
  have V0 := Vars.start w
  go_enter Tryd.func41, Tryd.ntmps41
  go_wp2_with (first
    | (refine wpList_boxV V0 2 22 _ rfl rfl rfl (bA a) rfl ?_; intro w1 g2 V3)
    | (refine wpList_boxV V3 3 22 _ rfl rfl rfl (bA b) rfl ?_; intro w4 g5 V6)
    | (refine wpList_allocV V6 4 22 rfl rfl rfl (bA 0) zeroB ?_; intro w7 g8 V9))
  refine av_open (fun w' => Vars w w' [⟨g5, 22, bA b⟩, ⟨g2, 22, bA a⟩]) (by kernel_rfl) ?_
  have V10 := V9.drew
  refine held_reads (rs := [0, 1]) (fuel := 4) (by kernel_rfl) (fun c d v a w h => by cases d <;> exact h) (by kernel_rfl) (V10.tail) (fun K hK => ?_)
  refine calm_do (.slice (some ⟨g2, 0, none⟩) 32 32) rfl (by rfl) (fun w' hw' => exec_sliceB hw' 1 rfl _ rfl rfl) ?_
  go_simp
  refine calm_do (.slice (some ⟨g5, 0, none⟩) 32 32) rfl (by rfl) (fun w' hw' => exec_sliceB hw' 0 rfl _ rfl rfl) ?_
  go_simp
  refine calm_nil (hK.out _ ?_)
  clear hK K
  refine av_op (i := 2) (fuel := 3) (by kernel_rfl) rfl (by rfl) (fun K hK => ?_)
  go_simp
  refine (HA.out w7.drew g2 g5 (V10.at 2 rfl) (V10.at 1 rfl)).mono ?_
  rintro e w11 ⟨a14, c15, rfl, r16, q13⟩
  have V12 := V10.call q13
  refine hK _ _ (V12.tail) ?_
  clear hK K q13
  refine av_op (i := 3) (fuel := 2) (by kernel_rfl) rfl (by rfl) (fun K hK => ?_)
  go_simp
  refine (HR.out w11 a14 c15 r16).mono ?_
  rintro e w17 ⟨a20, c21, rfl, r22, q19⟩
  have V18 := V12.call q19
  refine hK _ _ (V18.tail) ?_
  replace r16 := r16.below q19 (Nat.le_refl _)
  clear hK K q19
  refine av_op (i := 4) (fuel := 1) (by kernel_rfl) rfl (by rfl) (fun K hK => ?_)
  go_simp
  refine (HF.out w17 a20 c21 r22).mono ?_
  rintro e w23 ⟨rfl, q25⟩
  have V24 := V18.call q25
  refine hK _ _ (V24.tail) ?_
  replace r16 := r16.below q25 (Nat.le_refl _)
  replace r22 := r22.below q25 (Nat.le_refl _)
  clear hK K q25
  refine av_op (i := 5) (fuel := 0) (by kernel_rfl) rfl (by rfl) (fun K hK => ?_)
  refine wp_storeV V24 0 rfl _ _ rfl rfl (bA r) rfl rfl Tryd.szB (bA_size _) (bA_size _) (bA_one _) (fun w26 V27 => ?_)
  refine hK _ _ (V27.tail) ?_
  clear hK K
  clear r16 r22
  refine wpAnyH_done (by kernel_rfl) ?_ _
  go_wp2_with fail
  exact bodyPost_ret (resV1 rfl _ V27 0 rfl rfl Tryd.underlying22 Tryd.szB (bA_size _)) rfl ⟨rfl, V27.bel⟩
set_option maxHeartbeats 800000 in
theorem refSub_any (a b : Nat) (w : World) (ha : a < fP) (hb : b < fP) : Calls Tryd.prog 30 #[.agg (bA a), .agg (bA b)] w fun e w' => e = .returned (.agg (bA ((a + (fP - b)) % fP))) ∧ Below w.heap.size w w' := by
  have ha9 : a < 2 ^ 256 := Nat.lt_trans ha fP_lt256R
  have hb9 : b < 2 ^ 256 := Nat.lt_trans hb fP_lt256R
  obtain ⟨d, hd⟩ : ∃ d, fP - b = d := ⟨_, rfl⟩
  obtain ⟨s, hs⟩ : ∃ s, a + d = s := ⟨_, rfl⟩
  obtain ⟨r, hsr⟩ : ∃ r, s % fP = r := ⟨_, rfl⟩
  have hr9 : r < 2 ^ 256 := by rw [← hsr]; exact Nat.lt_trans (mod_fP s) fP_lt256R
  have hd9 : d < 2 ^ 256 := by rw [← hd]; exact Nat.lt_of_le_of_lt (Nat.sub_le _ _) fP_lt256R
  have hs9 : s < 256 ^ 33 := by rw [← hs]; have : (2 : Nat) ^ 256 * 2 < 256 ^ 33 := by decide
                                omega
  have hd33 : (nb d).length ≤ 32 := nb_len (by rw [b256]; exact hd9)
  rw [hd, hs, hsr]
  have HS : Hid (∀ (w : World) (a1 : Option Addr) (c1 h : Nat), Row .u8 w a1 32 c1 (nI (nb fP)) → w.heap[h]? = some (.cells (bA b) 22 (0, 0)) → Calls Tryd.prog 49 #[.slice a1 32 c1, .slice (some ⟨h, 0, none⟩) 32 32] w (Gives w (nb d))) := by
    intro w a1 c1 h hr hh
    have := refSub15_any (nb fP) (digL b 32) a1 (some ⟨h, 0, none⟩) 32 c1 32 32 w (dig_nb _) (digL_dig _ _) hr (row_bA hh) (by decide) (by decide)
    rwa [vL_nb, vB hb9, hd] at this
  have HA : Hid (∀ (w : World) (a1 : Option Addr) (c1 g : Nat), w.heap[g]? = some (.cells (bA a) 22 (0, 0)) → Row .u8 w a1 (nb d).length c1 (nI (nb d)) → Calls Tryd.prog 50 #[.slice (some ⟨g, 0, none⟩) 32 32, .slice a1 (nb d).length c1] w (Gives w (nb s))) := by
    intro w a1 c1 g hg hh
    have := refAdd15_any (digL a 32) (nb d) (some ⟨g, 0, none⟩) a1 32 32 (nb d).length c1 w (digL_dig _ _) (dig_nb _) (row_bA hg) hh (by decide) (by omega)
    rwa [vB ha9, vL_nb, hs] at this
  have HF : Hid (∀ (w : World) (a1 : Option Addr) (c1 : Nat), Row .u8 w a1 (nb r).length c1 (nI (nb r)) → Calls Tryd.prog 47 #[.slice a1 (nb r).length c1] w fun e w' => e = .returned (.agg (bA r)) ∧ Below w.heap.size w w') := by
    intro w a1 c1 hr
    have := refFull_any (nb r) (dig_nb r) a1 (nb r).length c1 w hr (nb_len (by rw [b256]; exact hr9))
    rwa [vL_nb] at this
  have HR : Hid (∀ (w : World) (a1 : Option Addr) (c1 : Nat), Row .u8 w a1 (nb s).length c1 (nI (nb s)) → Calls Tryd.prog 48 #[.slice a1 (nb s).length c1] w (Gives w (nb r))) := by
    intro w a1 c1 hr
    have := refRound_any (nb s) (dig_nb s) a1 (nb s).length c1 w hr (Nat.le_trans (nb_len hs9) (by decide))
    rwa [vL_nb, hsr] at this
  generalize hns : (nb s).length = ns at *
  generalize hnr : (nb r).length = nr at *
  generalize hnd : (nb d).length = nd at *
  unfold Gives at HA HR HS
  rw [hns] at HA
  rw [hnr] at HR
  rw [hnd] at HS
  clear ha hb ha9 hb9 hs hsr hr9 hs9 hns hnr hnd hd hd9 hd33
  have V0 := Vars.start w
  go_enter Tryd.func30, Tryd.ntmps30
  go_wp2_with (first
    | (refine wpList_boxV V0 2 22 _ rfl rfl rfl (bA a) rfl ?_; intro w1 g2 V3)
    | (refine wpList_boxV V3 3 22 _ rfl rfl rfl (bA b) rfl ?_; intro w4 g5 V6)
    | (refine wpList_allocV V6 4 22 rfl rfl rfl (bA 0) zeroB ?_; intro w7 g8 V9))
  refine av_open (fun w' => Vars w w' [⟨g8, 22, bA 0⟩, ⟨g5, 22, bA b⟩, ⟨g2, 22, bA a⟩]) (by kernel_rfl) ?_
  have V10 := V9.drew
  refine held_reads (rs := [1]) (fuel := 3) (by kernel_rfl) (fun c d v a w h => by cases d <;> exact h) (by kernel_rfl) (V10) (fun K hK => ?_)
  refine calm_do (.slice (some ⟨g5, 0, none⟩) 32 32) rfl (by rfl) (fun w' hw' => exec_sliceB hw' 1 rfl _ rfl rfl) ?_
  go_simp
  refine calm_nil (hK.out _ ?_)
  clear hK K
  refine av_op (i := 0) (fuel := 2) (by kernel_rfl) rfl (by rfl) (fun K hK => ?_)
  go_simp
  refine (refP_32 w7.drew).mono ?_
  rintro e w11 ⟨a14, c15, rfl, r16, q13⟩
  have V12 := V10.call q13
  refine hK _ _ (V12) ?_
  clear hK K q13
  refine av_op (i := 2) (fuel := 1) (by kernel_rfl) rfl (by rfl) (fun K hK => ?_)
  go_simp
  refine (HS.out w11 a14 c15 g5 r16 (V12.at 1 rfl)).mono ?_
  rintro e w17 ⟨a20, c21, rfl, r22, q19⟩
  have V18 := V12.call q19
  refine hK _ _ (V18) ?_
  replace r16 := r16.below q19 (Nat.le_refl _)
  clear hK K q19
  refine held_reads (rs := [3]) (fuel := 0) (by kernel_rfl) (fun c d v a w h => by cases d <;> exact h) (by kernel_rfl) (V18) (fun K hK => ?_)
  go_simp
  refine calm_assign _ rfl (by rfl) rfl ?_
  go_simp
  refine calm_nil (hK.out _ ?_)
  clear hK K
  refine wpAnyH_done (by kernel_rfl) ?_ _
  go_wp2_with (refine wpList_exec rfl (exec_sliceB V18 2 rfl _ rfl rfl) ?_)
  refine (HA.out w17 a20 c21 g2 (V18.at 2 rfl) r22).mono ?_
  rintro e w23 ⟨a26, c27, rfl, r28, q25⟩
  have V24 := V18.call q25
  replace r16 := r16.below q25 (Nat.le_refl _)
  replace r22 := r22.below q25 (Nat.le_refl _)
  clear q25 V18
  go_wp2_with fail
  refine (HR.out w23 a26 c27 r28).mono ?_
  rintro e w29 ⟨a32, c33, rfl, r34, q31⟩
  have V30 := V24.call q31
  replace r16 := r16.below q31 (Nat.le_refl _)
  replace r22 := r22.below q31 (Nat.le_refl _)
  replace r28 := r28.below q31 (Nat.le_refl _)
  clear q31 V24
  go_wp2_with fail
  refine (HF.out w29 a32 c33 r34).mono ?_
  rintro e w35 ⟨rfl, q37⟩
  have V36 := V30.call q37
  replace r16 := r16.below q37 (Nat.le_refl _)
  replace r22 := r22.below q37 (Nat.le_refl _)
  replace r28 := r28.below q37 (Nat.le_refl _)
  replace r34 := r34.below q37 (Nat.le_refl _)
  clear q37 V30
  go_wp2_with (refine wpList_storeV V36 0 rfl _ (.tmp 13) rfl rfl rfl (bA r) rfl rfl Tryd.szB (bA_size _) (bA_size _) (bA_one _) ?_; intro w38 V39)
  exact bodyPost_ret (resV1 rfl _ V39 0 rfl rfl Tryd.underlying22 Tryd.szB (bA_size _)) rfl ⟨rfl, V39.bel⟩
end Go.Proofs.YtacicjnhpklkfaaDoor.N
