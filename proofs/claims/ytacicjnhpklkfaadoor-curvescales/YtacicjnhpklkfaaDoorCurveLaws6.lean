/-
  Layer 17's laws: Scales.
-/
import Derived.Test.YtacicjnhpklkfaaDoorCurveMade
import Derived.Test.YtacicjnhpklkfaaDoorNumFace
namespace Go.Proofs.YtacicjnhpklkfaaDoor.N
open Go.RowKit
set_option linter.unusedVariables false
set_option maxRecDepth 8192

set_option maxHeartbeats 800000 in
theorem scales_long0 (w : World) (pa : Option Addr) (la ka : Nat) (pb : Option Addr) (lb kb : Nat) (hl : 40 < la) : Calls Tryd.prog 6 #[.slice pa la ka, .slice pb lb kb] w fun e w' => e = .returned (.bool true) ∧ Below w.heap.size w w' := by
  have hl9 : (40 : Int) < (la : Int) := by omega
  have V0 := Vars.start w
  go_enter Tryd.func6, Tryd.ntmps6
  go_wp2_with fail
  go_ret
  exact ⟨rfl, V0.bel⟩
set_option maxHeartbeats 800000 in
theorem scales_long1 (w : World) (pa : Option Addr) (la ka : Nat) (pb : Option Addr) (lb kb : Nat) (hl : 40 < lb) (h0 : la ≤ 40) : Calls Tryd.prog 6 #[.slice pa la ka, .slice pb lb kb] w fun e w' => e = .returned (.bool true) ∧ Below w.heap.size w w' := by
  have hl9 : (40 : Int) < (lb : Int) := by omega
  have hl09 : ¬ (40 : Int) < (la : Int) := by omega
  have V0 := Vars.start w
  go_enter Tryd.func6, Tryd.ntmps6
  go_wp2_with fail
  go_ret
  exact ⟨rfl, V0.bel⟩
set_option maxHeartbeats 12800000 in
theorem scales_core (a : List Nat) (da : Dig a) (pa : Option Addr) (la ka : Nat) (b : List Nat) (db : Dig b) (pb : Option Addr) (lb kb : Nat) (w : World) (hd : DAt w) (ra : Row .u8 w pa la ka (nI a)) (rb : Row .u8 w pb lb kb (nI b)) (h0 : la ≤ 40) (h1 : lb ≤ 40) : Calls Tryd.prog 6 #[.slice pa la ka, .slice pb lb kb] w fun e w' => e = .returned (.bool true) ∧ Below w.heap.size w w' := by
  obtain ⟨p, hp⟩ : ∃ p, p = ptimes (vL a) pbase := ⟨_, rfl⟩
  have op : OnC p := by rw [hp]; exact ptimes_on pbase_on _
  have HPp : Hid (∀ w', DAt w' → Below w.heap.size w w' → Calls Tryd.prog 18 #[.slice pa la ka] w' fun e w'' => e = .returned (.agg (pA p.x.val p.y.val)) ∧ Below w'.heap.size w' w'') := fun w' hd q => by
    rw [hp]
    exact point17_any a da pa la ka w' hd (ra.below q (Nat.le_refl _)) (by omega)
  obtain ⟨q, hq⟩ : ∃ p, p = ptimes (vL b) pbase := ⟨_, rfl⟩
  have oq : OnC q := by rw [hq]; exact ptimes_on pbase_on _
  have HPq : Hid (∀ w', DAt w' → Below w.heap.size w w' → Calls Tryd.prog 18 #[.slice pb lb kb] w' fun e w'' => e = .returned (.agg (pA q.x.val q.y.val)) ∧ Below w'.heap.size w' w'') := fun w' hd q => by
    rw [hq]
    exact point17_any b db pb lb kb w' hd (rb.below q (Nat.le_refl _)) (by omega)
  obtain ⟨t, ht⟩ : ∃ t, t = ptimes (vL b) p := ⟨_, rfl⟩
  have ot : OnC t := by rw [ht]; exact ptimes_on op _
  have HS : Hid (∀ w', DAt w' → Below w.heap.size w w' → Calls Tryd.prog 12 #[.slice pb lb kb, .agg (pA p.x.val p.y.val)] w' fun e w'' => e = .returned (.tuple #[.agg (pA t.x.val t.y.val), .int .i64 0]) ∧ Below w'.heap.size w' w'') := fun w' hd q => by
    rw [ht]
    exact cScale_yes b db pb lb kb op w' hd (rb.below q (Nat.le_refl _)) (by omega)
  have HZ : Hid (∀ (w : World) (g : Nat), DAt w → w.heap[g]? = some (.cells (arr .u8 [0, 0]) 5 (0, 0)) → Calls Tryd.prog 12 #[.slice (some ⟨g, 0, none⟩) 2 2, .agg (pA p.x.val p.y.val)] w fun e w' => e = .returned (.tuple #[.agg (pA 0 1), .int .i64 0]) ∧ Below w.heap.size w w') := fun w g hd hg => by
    have h := cScale_yes [0, 0] (dig_two17 (by decide) (by decide)) (some ⟨g, 0, none⟩) 2 2 op w hd (row_made hg (by decide)) (by decide)
    exact h
  have HO : Hid (∀ (w : World) (g : Nat), DAt w → w.heap[g]? = some (.cells (arr .u8 [1]) 5 (0, 0)) → Calls Tryd.prog 12 #[.slice (some ⟨g, 0, none⟩) 1 1, .agg (pA p.x.val p.y.val)] w fun e w' => e = .returned (.tuple #[.agg (pA p.x.val p.y.val), .int .i64 0]) ∧ Below w.heap.size w w') := fun w g hd hg => by
    have h := cScale_yes [1] (dig_one17 (by decide)) (some ⟨g, 0, none⟩) 1 1 op w hd (row_made hg (by decide)) (by decide)
    rw [show vL [1] = 1 from rfl, ptimes_one op] at h
    exact h
  have ela : a.length = la := by have := ra.hlen; rwa [nI_length] at this
  have elb : b.length = lb := by have := rb.hlen; rwa [nI_length] at this
  have m1 := nb_len_vL da
  have m2 := nb_len_vL db
  have m3 := nb_len_add (vL a) (vL b)
  have m4 := nb_len_mul (vL a) (vL b)
  have m5 := nb_len_add (vL b) 1
  have m6 : (nb 1).length ≤ 1 := nb_len (by decide)
  obtain ⟨z1, hz1⟩ : ∃ z, z = nb (vL a + vL b) := ⟨_, rfl⟩
  obtain ⟨n1, hn1⟩ : ∃ n, z1.length = n := ⟨_, rfl⟩
  have hv1 : vL z1 = vL a + vL b := by rw [hz1, vL_nb]
  have dz1 : Dig z1 := by rw [hz1]; exact dig_nb _
  have hb1 : n1 ≤ 1000 := by rw [← hn1, hz1]; omega
  have G1 : Hid (∀ w', Below w.heap.size w w' → Calls Tryd.prog 22 #[.slice pa la ka, .slice pb lb kb] w' fun e w'' => ∃ a c, e = .returned (.slice a n1 c) ∧ Row .u8 w'' a n1 c (nI z1) ∧ Below w'.heap.size w' w'') := fun w' q => by
    have h := add_any a b pa pb la ka lb kb w' da db (ra.below q (Nat.le_refl _)) (rb.below q (Nat.le_refl _)) (by omega) (by omega)
    unfold Gives at h
    rw [← hz1, hn1] at h
    exact h
  have Q1 : Hid (∀ (w : World) (a : Option Addr) (c : Nat), DAt w → Row .u8 w a n1 c (nI z1) → Calls Tryd.prog 18 #[.slice a n1 c] w fun e w' => e = .returned (.agg (pA (psum p q).x.val (psum p q).y.val)) ∧ Below w.heap.size w w') := fun w a c hd hr => by
    have h := point17_any z1 dz1 a n1 c w hd hr hb1
    rw [hv1, ptimes_add pbase_on, ← hp, ← hq] at h
    exact h
  obtain ⟨z2, hz2⟩ : ∃ z, z = nb (vL a * vL b) := ⟨_, rfl⟩
  obtain ⟨n2, hn2⟩ : ∃ n, z2.length = n := ⟨_, rfl⟩
  have hv2 : vL z2 = vL a * vL b := by rw [hz2, vL_nb]
  have dz2 : Dig z2 := by rw [hz2]; exact dig_nb _
  have hb2 : n2 ≤ 1000 := by rw [← hn2, hz2]; omega
  have G2 : Hid (∀ w', Below w.heap.size w w' → Calls Tryd.prog 23 #[.slice pa la ka, .slice pb lb kb] w' fun e w'' => ∃ a c, e = .returned (.slice a n2 c) ∧ Row .u8 w'' a n2 c (nI z2) ∧ Below w'.heap.size w' w'') := fun w' q => by
    have h := mul_any a b pa pb la ka lb kb w' da db (ra.below q (Nat.le_refl _)) (rb.below q (Nat.le_refl _)) (by omega) (by omega)
    unfold Gives at h
    rw [← hz2, hn2] at h
    exact h
  have Q2 : Hid (∀ (w : World) (a : Option Addr) (c : Nat), DAt w → Row .u8 w a n2 c (nI z2) → Calls Tryd.prog 18 #[.slice a n2 c] w fun e w' => e = .returned (.agg (pA t.x.val t.y.val)) ∧ Below w.heap.size w w') := fun w a c hd hr => by
    have h := point17_any z2 dz2 a n2 c w hd hr hb2
    rw [hv2, ptimes_mul pbase_on, ← hp, ← ht] at h
    exact h
  obtain ⟨z3, hz3⟩ : ∃ z, z = nb (vL b + 1) := ⟨_, rfl⟩
  obtain ⟨n3, hn3⟩ : ∃ n, z3.length = n := ⟨_, rfl⟩
  have hv3 : vL z3 = vL b + 1 := by rw [hz3, vL_nb]
  have dz3 : Dig z3 := by rw [hz3]; exact dig_nb _
  have hb3 : n3 ≤ 1000 := by rw [← hn3, hz3]; omega
  have G3 : Hid (∀ (w' : World) (g : Nat), Below w.heap.size w w' → w'.heap[g]? = some (.cells (arr .u8 [1]) 5 (0, 0)) → Calls Tryd.prog 22 #[.slice pb lb kb, .slice (some ⟨g, 0, none⟩) 1 1] w' fun e w'' => ∃ a c, e = .returned (.slice a n3 c) ∧ Row .u8 w'' a n3 c (nI z3) ∧ Below w'.heap.size w' w'') := fun w' g q hg => by
    have h := add_any b [1] pb (some ⟨g, 0, none⟩) lb kb 1 1 w' db (dig_one17 (by decide)) (rb.below q (Nat.le_refl _)) (row_made hg (by decide)) (by omega) (by decide)
    unfold Gives at h
    rw [show vL [1] = 1 from rfl, ← hz3, hn3] at h
    exact h
  have Q3 : Hid (∀ (w : World) (a : Option Addr) (c : Nat), DAt w → Row .u8 w a n3 c (nI z3) → Calls Tryd.prog 24 #[.slice a n3 c, .agg (pA p.x.val p.y.val)] w fun e w' => e = .returned (.agg (pA (psum t p).x.val (psum t p).y.val)) ∧ Below w.heap.size w w') := fun w a c hd hr => by
    have h := lscaled17_any z3 dz3 a n3 c op w hd hr hb3
    rw [hv3, show ptimes (vL b + 1) p = psum t p from by rw [ht]; rfl] at h
    exact h
  have A1 : Hid (∀ w, DAt w → Calls Tryd.prog 21 #[.agg (pA p.x.val p.y.val), .agg (pA q.x.val q.y.val)] w fun e w' => e = .returned (.agg (pA (psum p q).x.val (psum p q).y.val)) ∧ Below w.heap.size w w') := fun w hd => ladd17_any op oq w hd
  have A2 : Hid (∀ w, DAt w → Calls Tryd.prog 21 #[.agg (pA t.x.val t.y.val), .agg (pA p.x.val p.y.val)] w fun e w' => e = .returned (.agg (pA (psum t p).x.val (psum t p).y.val)) ∧ Below w.heap.size w w') := fun w hd => ladd17_any ot op w hd
  have L1 : Hid ((psum p q).x.val < 2 ^ 256 ∧ (psum p q).y.val < 2 ^ 256) := pt256 _
  have L2 : Hid (t.x.val < 2 ^ 256 ∧ t.y.val < 2 ^ 256) := pt256 _
  have L3 : Hid (p.x.val < 2 ^ 256 ∧ p.y.val < 2 ^ 256) := pt256 _
  have L4 : Hid ((psum t p).x.val < 2 ^ 256 ∧ (psum t p).y.val < 2 ^ 256) := pt256 _
  have hl09 : ¬ (40 : Int) < (la : Int) := by omega
  have hl19 : ¬ (40 : Int) < (lb : Int) := by omega
  clear hv1 hv2 hv3 dz1 dz2 dz3 hb1 hb2 hb3 hz1 hz2 hz3 hn1 hn2 hn3 m1 m2 m3 m4 m5 m6 ela elb ht ot
  clear hp op hq oq da db ra rb h0 h1
  generalize (psum p q).x.val = sx at *
  generalize (psum p q).y.val = sy at *
  generalize (psum t p).x.val = ux at *
  generalize (psum t p).y.val = uy at *
  generalize t.x.val = tx at *
  generalize t.y.val = ty at *
  generalize p.x.val = px at *
  generalize p.y.val = py at *
  generalize q.x.val = qx at *
  generalize q.y.val = qy at *
  have V0 := Vars.start w
  go_enter Tryd.func6, Tryd.ntmps6
  go_wp2_with fail
  refine (HPp.out w (hd.of V0) V0.bel).mono ?_
  rintro e w1 ⟨rfl, q3⟩
  have V2 := V0.call q3
  clear q3 V0
  go_wp2_with (first
    | (refine wpList_allocV V2 5 24 rfl rfl rfl (pA 0 0) zeroP ?_; intro w4 g5 V6)
    | (refine wpList_storeV V6 0 rfl _ (.tmp 21) rfl rfl rfl (pA px py) rfl rfl Tryd.szP (pA_size _ _) (pA_size _ _) (pA_one _ _) ?_; intro w7 V8)
    | (refine wpList_exec rfl (exec_loadS V8 0 rfl _ rfl rfl Tryd.underlying24 Tryd.szP (pA_size _ _)) ?_))
  refine (HS.out w7 (hd.of V8) V8.bel).mono ?_
  rintro e w9 ⟨rfl, q11⟩
  have V10 := V8.call q11
  clear q11 V8
  go_wp2_with (first
    | (refine wpList_allocV V10 6 24 rfl rfl rfl (pA 0 0) zeroP ?_; intro w12 g13 V14)
    | (refine wpList_storeV V14 0 rfl _ (.tmp 26) rfl rfl rfl (pA tx ty) rfl rfl Tryd.szP (pA_size _ _) (pA_size _ _) (pA_one _ _) ?_; intro w15 V16)
    | (refine wpList_sliceV V16 29 25 2 _ rfl rfl rfl 5 [0, 0] (made2 0 0) ?_; intro w17 g18 V19)
    | (refine wpList_exec rfl (exec_loadS V19 2 rfl _ rfl rfl Tryd.underlying24 Tryd.szP (pA_size _ _)) ?_))
  refine (HZ.out w17 g18 (hd.of V19) (V19.at 0 rfl)).mono ?_
  rintro e w20 ⟨rfl, q22⟩
  have V21 := V19.call q22
  clear q22 V19
  go_wp2_with (first
    | (refine wpList_allocV V21 8 24 rfl rfl rfl (pA 0 0) zeroP ?_; intro w23 g24 V25)
    | (refine wpList_storeV V25 0 rfl _ (.tmp 32) rfl rfl rfl (pA 0 1) rfl rfl Tryd.szP (pA_size _ _) (pA_size _ _) (pA_one _ _) ?_; intro w26 V27)
    | (refine wpList_sliceV V27 35 25 1 _ rfl rfl rfl 5 [1] (made1 1) ?_; intro w28 g29 V30)
    | (refine wpList_exec rfl (exec_loadS V30 4 rfl _ rfl rfl Tryd.underlying24 Tryd.szP (pA_size _ _)) ?_))
  refine (HO.out w28 g29 (hd.of V30) (V30.at 0 rfl)).mono ?_
  rintro e w31 ⟨rfl, q33⟩
  have V32 := V30.call q33
  clear q33 V30
  go_wp2_with (first
    | (refine wpList_allocV V32 10 24 rfl rfl rfl (pA 0 0) zeroP ?_; intro w34 g35 V36)
    | (refine wpList_storeV V36 0 rfl _ (.tmp 38) rfl rfl rfl (pA px py) rfl rfl Tryd.szP (pA_size _ _) (pA_size _ _) (pA_one _ _) ?_; intro w37 V38))
  refine av_open (fun w' => Vars w w' [⟨g35, 24, pA px py⟩, ⟨g29, 5, arr .u8 [1]⟩, ⟨g24, 24, pA 0 1⟩, ⟨g18, 5, arr .u8 [0, 0]⟩, ⟨g13, 24, pA tx ty⟩, ⟨g5, 24, pA px py⟩]) (by kernel_rfl) ?_
  have V39 := V38.drew
  refine av_op (i := 0) (fuel := 55) (by kernel_rfl) rfl (by rfl) (fun K hK => ?_)
  go_simp
  refine (awake17_any w37.drew (hd.of V39)).mono ?_
  rintro e w41 ⟨rfl, q43⟩
  have V42 := V39.call q43
  refine hK _ _ (V42) ?_
  clear hK K q43
  refine held_reads (rs := [1, 2, 3, 4, 5, 6, 7, 8, 9, 10, 11, 12, 13, 14, 15, 16, 17, 20, 21]) (fuel := 36) (by kernel_rfl) (fun c d v a w h => by cases d <;> exact h) (by kernel_rfl) (V42) (fun K hK => ?_)
  go_simp
  refine calm_move _ rfl (by rfl) rfl ?_
  go_simp
  refine calm_move _ rfl (by rfl) rfl ?_
  go_simp
  refine calm_do (.bool true) rfl (by rfl) (fun w' hw' => ?_) ?_
  · go_simp
  go_simp
  refine calm_do (.bool true) rfl (by rfl) (fun w' hw' => ?_) ?_
  · go_simp
  go_simp
  refine calm_move _ rfl (by rfl) rfl ?_
  go_simp
  refine calm_move _ rfl (by rfl) rfl ?_
  go_simp
  refine calm_move _ rfl (by rfl) rfl ?_
  go_simp
  refine calm_do (.bool true) rfl (by rfl) (fun w' hw' => ?_) ?_
  · go_simp
  go_simp
  refine calm_do (.bool true) rfl (by rfl) (fun w' hw' => ?_) ?_
  · go_simp
  go_simp
  refine calm_move _ rfl (by rfl) rfl ?_
  go_simp
  refine calm_move _ rfl (by rfl) rfl ?_
  go_simp
  refine calm_move _ rfl (by rfl) rfl ?_
  go_simp
  refine calm_do (.bool true) rfl (by rfl) (fun w' hw' => ?_) ?_
  · go_simp
  go_simp
  refine calm_do (.bool true) rfl (by rfl) (fun w' hw' => ?_) ?_
  · go_simp
  go_simp
  refine calm_move _ rfl (by rfl) rfl ?_
  go_simp
  refine calm_move _ rfl (by rfl) rfl ?_
  go_simp
  refine calm_move _ rfl (by rfl) rfl ?_
  go_simp
  refine calm_do (.agg (pA px py)) rfl (by rfl) (fun w' hw' => exec_loadS hw' 5 rfl _ rfl rfl Tryd.underlying24 Tryd.szP (pA_size _ _)) ?_
  go_simp
  refine calm_move _ rfl (by rfl) rfl ?_
  go_simp
  refine calm_nil (hK.out _ ?_)
  clear hK K
  refine av_op (i := 18) (fuel := 35) (by kernel_rfl) rfl (by rfl) (fun K hK => ?_)
  go_simp
  refine (G1.out w41 V42.bel).mono ?_
  rintro e w44 ⟨a47, c48, rfl, r49, q46⟩
  have V45 := V42.call q46
  refine hK _ _ (V45) ?_
  clear hK K q46
  refine av_op (i := 19) (fuel := 34) (by kernel_rfl) rfl (by rfl) (fun K hK => ?_)
  go_simp
  refine (Q1.out w44 a47 c48 (hd.of V45) r49).mono ?_
  rintro e w50 ⟨rfl, q52⟩
  have V51 := V45.call q52
  refine hK _ _ (V51) ?_
  replace r49 := r49.below q52 (Nat.le_refl _)
  clear hK K q52
  refine av_op (i := 22) (fuel := 33) (by kernel_rfl) rfl (by rfl) (fun K hK => ?_)
  go_simp
  refine (HPq.out w50 (hd.of V51) V51.bel).mono ?_
  rintro e w53 ⟨rfl, q55⟩
  have V54 := V51.call q55
  refine hK _ _ (V54) ?_
  replace r49 := r49.below q55 (Nat.le_refl _)
  clear hK K q55
  refine av_op (i := 23) (fuel := 32) (by kernel_rfl) rfl (by rfl) (fun K hK => ?_)
  go_simp
  refine (A1.out w53 (hd.of V54)).mono ?_
  rintro e w56 ⟨rfl, q58⟩
  have V57 := V54.call q58
  refine hK _ _ (V57) ?_
  replace r49 := r49.below q58 (Nat.le_refl _)
  clear hK K q58
  refine held_reads (rs := [24, 25, 26, 27, 28, 29]) (fuel := 26) (by kernel_rfl) (fun c d v a w h => by cases d <;> exact h) (by kernel_rfl) (V57) (fun K hK => ?_)
  go_simp
  refine calm_do (.bool true) rfl (by rfl) (fun w' hw' => exec_eqlP _ _ rfl true _ _ _ _ (ptrue _ _) rfl rfl L1.out L1.out) ?_
  go_simp
  refine calm_do (.bool true) rfl (by rfl) (fun w' hw' => ?_) ?_
  · go_simp
  go_simp
  refine calm_move _ rfl (by rfl) rfl ?_
  go_simp
  refine calm_do (.agg (pA tx ty)) rfl (by rfl) (fun w' hw' => exec_loadS hw' 4 rfl _ rfl rfl Tryd.underlying24 Tryd.szP (pA_size _ _)) ?_
  go_simp
  refine calm_move _ rfl (by rfl) rfl ?_
  go_simp
  refine calm_move _ rfl (by rfl) rfl ?_
  go_simp
  refine calm_nil (hK.out _ ?_)
  clear hK K
  refine av_op (i := 30) (fuel := 25) (by kernel_rfl) rfl (by rfl) (fun K hK => ?_)
  go_simp
  refine (G2.out w56 V57.bel).mono ?_
  rintro e w59 ⟨a62, c63, rfl, r64, q61⟩
  have V60 := V57.call q61
  refine hK _ _ (V60) ?_
  replace r49 := r49.below q61 (Nat.le_refl _)
  clear hK K q61
  refine av_op (i := 31) (fuel := 24) (by kernel_rfl) rfl (by rfl) (fun K hK => ?_)
  go_simp
  refine (Q2.out w59 a62 c63 (hd.of V60) r64).mono ?_
  rintro e w65 ⟨rfl, q67⟩
  have V66 := V60.call q67
  refine hK _ _ (V66) ?_
  replace r49 := r49.below q67 (Nat.le_refl _)
  replace r64 := r64.below q67 (Nat.le_refl _)
  clear hK K q67
  refine held_reads (rs := [32, 33, 34, 35]) (fuel := 20) (by kernel_rfl) (fun c d v a w h => by cases d <;> exact h) (by kernel_rfl) (V66) (fun K hK => ?_)
  go_simp
  refine calm_do (.bool true) rfl (by rfl) (fun w' hw' => exec_eqlP _ _ rfl true _ _ _ _ (ptrue _ _) rfl rfl L2.out L2.out) ?_
  go_simp
  refine calm_do (.bool true) rfl (by rfl) (fun w' hw' => ?_) ?_
  · go_simp
  go_simp
  refine calm_move _ rfl (by rfl) rfl ?_
  go_simp
  refine calm_do (.agg (pA 0 1)) rfl (by rfl) (fun w' hw' => exec_loadS hw' 2 rfl _ rfl rfl Tryd.underlying24 Tryd.szP (pA_size _ _)) ?_
  go_simp
  refine calm_nil (hK.out _ ?_)
  clear hK K
  refine av_op (i := 36) (fuel := 19) (by kernel_rfl) rfl (by rfl) (fun K hK => ?_)
  go_simp
  refine (czero_any w65).mono ?_
  rintro e w68 ⟨rfl, q70⟩
  have V69 := V66.call q70
  refine hK _ _ (V69) ?_
  replace r49 := r49.below q70 (Nat.le_refl _)
  replace r64 := r64.below q70 (Nat.le_refl _)
  clear hK K q70
  refine held_reads (rs := [37, 38, 39, 40, 41, 42, 43, 44, 45, 46, 48, 51]) (fuel := 7) (by kernel_rfl) (fun c d v a w h => by cases d <;> exact h) (by kernel_rfl) (V69) (fun K hK => ?_)
  go_simp
  refine calm_do (.bool true) rfl (by rfl) (fun w' hw' => exec_eqlP _ _ rfl true _ _ _ _ (ptrue _ _) rfl rfl pz256 pz256) ?_
  go_simp
  refine calm_do (.bool true) rfl (by rfl) (fun w' hw' => ?_) ?_
  · go_simp
  go_simp
  refine calm_move _ rfl (by rfl) rfl ?_
  go_simp
  refine calm_do (.agg (pA px py)) rfl (by rfl) (fun w' hw' => exec_loadS hw' 0 rfl _ rfl rfl Tryd.underlying24 Tryd.szP (pA_size _ _)) ?_
  go_simp
  refine calm_do (.agg (pA px py)) rfl (by rfl) (fun w' hw' => exec_loadS hw' 5 rfl _ rfl rfl Tryd.underlying24 Tryd.szP (pA_size _ _)) ?_
  go_simp
  refine calm_do (.bool true) rfl (by rfl) (fun w' hw' => exec_eqlP _ _ rfl true _ _ _ _ (ptrue _ _) rfl rfl L3.out L3.out) ?_
  go_simp
  refine calm_do (.bool true) rfl (by rfl) (fun w' hw' => ?_) ?_
  · go_simp
  go_simp
  refine calm_move _ rfl (by rfl) rfl ?_
  go_simp
  refine calm_do (.agg (pA tx ty)) rfl (by rfl) (fun w' hw' => exec_loadS hw' 4 rfl _ rfl rfl Tryd.underlying24 Tryd.szP (pA_size _ _)) ?_
  go_simp
  refine calm_do (.agg (pA px py)) rfl (by rfl) (fun w' hw' => exec_loadS hw' 5 rfl _ rfl rfl Tryd.underlying24 Tryd.szP (pA_size _ _)) ?_
  go_simp
  refine calm_move _ rfl (by rfl) rfl ?_
  go_simp
  refine calm_do (.agg (pA px py)) rfl (by rfl) (fun w' hw' => exec_loadS hw' 5 rfl _ rfl rfl Tryd.underlying24 Tryd.szP (pA_size _ _)) ?_
  go_simp
  refine calm_nil (hK.out _ ?_)
  clear hK K
  refine av_op2 (i := 47) (j := 49) (fuel := 6) (by kernel_rfl) rfl (by rfl) rfl (by rfl) (fun K hK => ?_) (fun K hK => ?_)
  · go_simp
    refine (A2.out w68 (hd.of V69)).mono ?_
    rintro e w71 ⟨rfl, q73⟩
    have V72 := V69.call q73
    refine hK _ _ (V72) ?_
    replace r49 := r49.below q73 (Nat.le_refl _)
    replace r64 := r64.below q73 (Nat.le_refl _)
    clear hK K q73
    refine av_op (i := 49) (fuel := 5) (by kernel_rfl) rfl (by rfl) (fun K hK => ?_)
    refine wp_sliceV V72 89 25 1 _ rfl rfl 5 [1] (made1 1) (fun w74 g75 V76 => ?_)
    refine hK _ _ (V76.tail) ?_
    clear hK K
    try go_simp
    clear r49 r64
    refine av_op (i := 50) (fuel := 4) (by kernel_rfl) rfl (by rfl) (fun K hK => ?_)
    go_simp
    refine (G3.out w74 g75 V76.bel (V76.at 0 rfl)).mono ?_
    rintro e w78 ⟨a81, c82, rfl, r83, q80⟩
    have V79 := V76.call q80
    refine hK _ _ (V79.tail) ?_
    clear hK K q80
    refine av_op (i := 52) (fuel := 3) (by kernel_rfl) rfl (by rfl) (fun K hK => ?_)
    go_simp
    refine (Q3.out w78 a81 c82 (hd.of V79) r83).mono ?_
    rintro e w84 ⟨rfl, q86⟩
    have V85 := V79.call q86
    refine hK _ _ (V85.tail) ?_
    replace r83 := r83.below q86 (Nat.le_refl _)
    clear hK K q86
    refine held_reads (rs := [53, 54, 55]) (fuel := 0) (by kernel_rfl) (fun c d v a w h => by cases d <;> exact h) (by kernel_rfl) (V85.tail) (fun K hK => ?_)
    go_simp
    refine calm_do (.bool true) rfl (by rfl) (fun w' hw' => exec_eqlP _ _ rfl true _ _ _ _ (ptrue _ _) rfl rfl L4.out L4.out) ?_
    go_simp
    refine calm_do (.bool true) rfl (by rfl) (fun w' hw' => ?_) ?_
    · go_simp
    go_simp
    refine calm_assign _ rfl (by rfl) rfl ?_
    go_simp
    refine calm_nil (hK.out _ ?_)
    clear hK K
    refine wpAnyH_done (by kernel_rfl) ?_ _
    go_wp2_with fail
    go_ret
    exact ⟨rfl, V85.bel⟩
  · refine wp_sliceV V69 89 25 1 _ rfl rfl 5 [1] (made1 1) (fun w87 g88 V89 => ?_)
    refine hK _ _ (V89.tail) ?_
    clear hK K
    try go_simp
    clear r49 r64
    refine av_op (i := 47) (fuel := 5) (by kernel_rfl) rfl (by rfl) (fun K hK => ?_)
    go_simp
    refine (A2.out w87 (hd.of V89)).mono ?_
    rintro e w91 ⟨rfl, q93⟩
    have V92 := V89.call q93
    refine hK _ _ (V92.tail) ?_
    clear hK K q93
    refine av_op (i := 50) (fuel := 4) (by kernel_rfl) rfl (by rfl) (fun K hK => ?_)
    go_simp
    refine (G3.out w91 g88 V92.bel (V92.at 0 rfl)).mono ?_
    rintro e w94 ⟨a97, c98, rfl, r99, q96⟩
    have V95 := V92.call q96
    refine hK _ _ (V95.tail) ?_
    clear hK K q96
    refine av_op (i := 52) (fuel := 3) (by kernel_rfl) rfl (by rfl) (fun K hK => ?_)
    go_simp
    refine (Q3.out w94 a97 c98 (hd.of V95) r99).mono ?_
    rintro e w100 ⟨rfl, q102⟩
    have V101 := V95.call q102
    refine hK _ _ (V101.tail) ?_
    replace r99 := r99.below q102 (Nat.le_refl _)
    clear hK K q102
    refine held_reads (rs := [53, 54, 55]) (fuel := 0) (by kernel_rfl) (fun c d v a w h => by cases d <;> exact h) (by kernel_rfl) (V101.tail) (fun K hK => ?_)
    go_simp
    refine calm_do (.bool true) rfl (by rfl) (fun w' hw' => exec_eqlP _ _ rfl true _ _ _ _ (ptrue _ _) rfl rfl L4.out L4.out) ?_
    go_simp
    refine calm_do (.bool true) rfl (by rfl) (fun w' hw' => ?_) ?_
    · go_simp
    go_simp
    refine calm_assign _ rfl (by rfl) rfl ?_
    go_simp
    refine calm_nil (hK.out _ ?_)
    clear hK K
    refine wpAnyH_done (by kernel_rfl) ?_ _
    go_wp2_with fail
    go_ret
    exact ⟨rfl, V101.bel⟩
theorem walk_CurveScales (a : List Nat) (da : Dig a) (pa : Option Addr) (la ka : Nat) (b : List Nat) (db : Dig b) (pb : Option Addr) (lb kb : Nat) (w : World) (hd : DAt w) (ra : Row .u8 w pa la ka (nI a)) (rb : Row .u8 w pb lb kb (nI b)) : Calls Tryd.prog 6 #[.slice pa la ka, .slice pb lb kb] w fun e w' => e = .returned (.bool true) ∧ Below w.heap.size w w' := by
  by_cases h0 : la ≤ 40
  case neg => exact scales_long0 w pa la ka pb lb kb (by omega)
  by_cases h1 : lb ≤ 40
  case neg => exact scales_long1 w pa la ka pb lb kb (by omega) h0
  exact scales_core a da pa la ka b db pb lb kb w hd ra rb h0 h1
end Go.Proofs.YtacicjnhpklkfaaDoor.N
