/-
  Layer 18's laws: Reckons.
-/
import Derived.Test.YtgofapndgjfnhaaDoorScalarFace
import Derived.Test.YtgofapndgjfnhaaDoorScalarRef
namespace Go.Proofs.YtgofapndgjfnhaaDoor.N
open Go.RowKit
set_option linter.unusedVariables false
set_option maxRecDepth 8192

/-- A row that the call itself made, beside its variables. -/
theorem own_var {w0 w1 w2 : World} {l : List AV} (V : Vars w0 w1 l) {e : TypeId} {v : Value} {n : Nat} {z : List Nat} (h : w2.ownsRow w1.heap.size e 1 v n ((nI z).map (Value.int .u8))) (q : Below w1.heap.size w1 w2) :
    ∃ a cap m, v = .slice a n cap ∧ Vars w0 w2 (l ++ m) ∧ ∀ w' : World, (∀ u ∈ m, w'.heap[u.g]? = some (.cells u.X u.T (0, 0))) → Row .u8 w' a n cap (nI z) := by
  have V2 := V.call q
  rcases h.2 with ⟨rfl, hn⟩ | ⟨g, cap, cur, rfl, hg, hh, hr⟩
  · subst hn
    refine ⟨none, 0, [], rfl, by rw [List.append_nil]; exact V2, fun w' _ => ?_⟩
    have hz : z = [] := by
      have := h.1
      simpa [nI] using this
    rw [hz]
    exact ⟨rfl, Nat.le_refl _, Nat.zero_le _, fun _ => rfl, fun h => absurd h (Nat.lt_irrefl _)⟩
  · refine ⟨some ⟨g, 0, none⟩, cap, [⟨g, e, cur⟩], rfl, ⟨V2.bel, fun u hu => ?_, fun u hu => ?_, List.pairwise_append.2 ⟨V2.apart, List.pairwise_singleton _ _, fun u hu x hx => ?_⟩⟩, fun w' hw => ?_⟩
    · rcases List.mem_append.1 hu with h1 | h1
      · exact V2.low u h1
      · rw [List.mem_singleton.1 h1]; exact Nat.le_trans V.size hg
    · rcases List.mem_append.1 hu with h1 | h1
      · exact V2.holds u h1
      · rw [List.mem_singleton.1 h1]; exact hh
    · rw [List.mem_singleton.1 hx]
      exact Nat.ne_of_lt (Nat.lt_of_lt_of_le (lt_of_heap (V.holds u hu)) hg)
    · have h3 : w'.ownsRow w1.heap.size e 1 (.slice (some ⟨g, 0, none⟩) n cap) n ((nI z).map (Value.int .u8)) := ⟨h.1, .inr ⟨g, cap, cur, rfl, hg, hw ⟨g, e, cur⟩ (List.mem_singleton.2 rfl), hr⟩⟩
      obtain ⟨a', c', e', r⟩ := row_of_owns h3
      cases e'
      exact r
set_option maxHeartbeats 800000 in
theorem reckons18_long (x y z : Nat) (pa : Option Addr) (la ka : Nat) (w : World) (hl : 100 < la) : Calls Tryd.prog 3 #[.slice pa la ka, .agg (bA x), .agg (bA y), .agg (bA z)] w fun e w' => e = .returned (.bool true) ∧ Below w.heap.size w w' := by
  have hl9 : (100 : Int) < (la : Int) := by omega
  have V0 := Vars.start w
  go_enter Tryd.func3, Tryd.ntmps3
  go_wp2_with (first
    | (refine wpList_boxV V0 5 23 _ rfl rfl rfl (bA x) rfl ?_; intro w1 g2 V3)
    | (refine wpList_boxV V3 6 23 _ rfl rfl rfl (bA y) rfl ?_; intro w4 g5 V6)
    | (refine wpList_boxV V6 7 23 _ rfl rfl rfl (bA z) rfl ?_; intro w7 g8 V9))
  go_ret
  exact ⟨rfl, V9.bel⟩
set_option maxHeartbeats 6400000 in
theorem reckons18_core (a : List Nat) (da : Dig a) (pa : Option Addr) (la ka : Nat) (x y z : Nat) (hx : x < 2 ^ 256) (hy : y < 2 ^ 256) (hz : z < 2 ^ 256) (w : World) (ho : OAt w) (ra : Row .u8 w pa la ka (nI a)) (h0 : la ≤ 100) : Calls Tryd.prog 3 #[.slice pa la ka, .agg (bA x), .agg (bA y), .agg (bA z)] w fun e w' => e = .returned (.bool true) ∧ Below w.heap.size w w' := by
  obtain ⟨i0, hi0, hz0, hz1, hz2⟩ := info_parts Tryd.info5
  have HO : Hid (∀ w, OAt w → Calls Tryd.prog 7 #[] w fun e w' => e = .returned (.agg (bA oL)) ∧ Below w.heap.size w w') := fun w ho => order18_any w ho
  have HRO : Hid (∀ w : World, Calls Tryd.prog 11 #[] w (Gives w (nb oL))) := refOrder_any
  have HC1 : Hid (∀ (w : World) (g : Nat) (a1 : Option Addr) (c1 : Nat), w.heap[g]? = some (.cells (bA oL) 23 (0, 0)) → Row .u8 w a1 (nb oL).length c1 (nI (nb oL)) → Calls Tryd.prog 10 #[.slice (some ⟨g, 0, none⟩) 32 32, .slice a1 (nb oL).length c1] w fun e w' => e = .returned (.int .i64 0) ∧ w = w') := fun w g a1 c1 hg hr => by
    have hlo : (nb oL).length ≤ 32 := nb_len (by rw [b256]; exact oL_lt256)
    have h := refCmp15_any (digL oL 32) (nb oL) (some ⟨g, 0, none⟩) a1 32 32 _ c1 w (digL_dig _ _) (dig_nb _) (row_bA hg) hr (by decide) (by omega)
    rw [vB oL_lt256, vL_nb, show cmpN oL oL = 0 from by decide +kernel] at h
    exact h
  have HC2 : Hid (∀ (w : World) (g : Nat) (a1 : Option Addr) (c1 : Nat), w.heap[g]? = some (.cells (bA x) 23 (0, 0)) → Row .u8 w a1 (nb oL).length c1 (nI (nb oL)) → Calls Tryd.prog 10 #[.slice (some ⟨g, 0, none⟩) 32 32, .slice a1 (nb oL).length c1] w fun e w' => e = .returned (.int .i64 (cmpN x oL)) ∧ w = w') := fun w g a1 c1 hg hr => by
    have hlo : (nb oL).length ≤ 32 := nb_len (by rw [b256]; exact oL_lt256)
    have h := refCmp15_any (digL x 32) (nb oL) (some ⟨g, 0, none⟩) a1 32 32 _ c1 w (digL_dig _ _) (dig_nb _) (row_bA hg) hr (by decide) (by omega)
    rw [vB hx, vL_nb] at h
    exact h
  have hcb := cmp_bounds x oL
  have hcc : decide (cmpN x oL < 0) = decide (x < oL) := by
    rw [Bool.eq_iff_iff, decide_eq_true_iff, decide_eq_true_iff]
    unfold cmpN
    split
    · omega
    · split <;> omega
  have HI : Hid (∀ w, OAt w → Calls Tryd.prog 12 #[.agg (bA x)] w fun e w' => e = .returned (.bool (decide (x < oL))) ∧ Below w.heap.size w w') := fun w ho => is18_any x w ho hx
  have HB : Hid (∀ (w' : World) (ao : Option Addr) (co : Nat), OAt w' → Row .u8 w' ao la co (nI a) → Calls Tryd.prog 8 #[.slice ao la co] w' fun e w'' => e = .returned (.agg (bA (vL a % oL))) ∧ Below w'.heap.size w' w'') := fun w' ao co ho hr => reduce_any a da ao la co w' ho hr (by omega)
  have HBR : Hid (∀ w', Below w.heap.size w w' → Calls Tryd.prog 13 #[.slice pa la ka] w' fun e w'' => e = .returned (.agg (bA (vL a % oL))) ∧ Below w'.heap.size w' w'') := fun w' q => refReduce_any a da pa la ka w' (ra.below q (Nat.le_refl _)) (by omega)
  have M1 : Hid (∀ w, OAt w → Calls Tryd.prog 14 #[.agg (bA x), .agg (bA y), .agg (bA z)] w fun e w' => e = .returned (.agg (bA ((x * y + z) % oL))) ∧ Below w.heap.size w w') := fun w ho => mulAdd_any x y z w ho hx hy hz
  have M2 : Hid (∀ w, Calls Tryd.prog 15 #[.agg (bA x), .agg (bA y), .agg (bA z)] w fun e w' => e = .returned (.agg (bA ((x * y + z) % oL))) ∧ Below w.heap.size w w') := fun w => refMulAdd_any x y z w hx hy hz
  have C1 : Hid (∀ w, Calls Tryd.prog 16 #[.agg (bA x)] w fun e w' => e = .returned (.agg (bA (clampN x))) ∧ Below w.heap.size w w') := fun w => clamp_any x hx w
  have C2 : Hid (∀ w, Calls Tryd.prog 17 #[.agg (bA x)] w fun e w' => e = .returned (.agg (bA (clampN x))) ∧ Below w.heap.size w w') := fun w => refClamp_any x w
  have L1 : Hid (vL a % oL < 2 ^ 256) := mod_oL256 _
  have L2 : Hid ((x * y + z) % oL < 2 ^ 256) := mod_oL256 _
  have L3 : Hid (clampN x < 2 ^ 256) := clamp_lt x
  have hl9 : ¬ (100 : Int) < (la : Int) := by omega
  unfold Gives at HRO
  generalize nb oL = zo at *
  generalize zo.length = no at *
  generalize cmpN x oL = cc at *
  generalize decide (x < oL) = b at *
  generalize (x * y + z) % oL = m at *
  generalize clampN x = cl at *
  generalize vL a % oL = r at *
  clear hx hy hz da
  have V0 := Vars.start w
  go_enter Tryd.func3, Tryd.ntmps3
  go_upto_region 3 with (first
    | (refine wpList_boxV V0 5 23 _ rfl rfl rfl (bA x) rfl ?_; intro w1 g2 V3)
    | (refine wpList_boxV V3 6 23 _ rfl rfl rfl (bA y) rfl ?_; intro w4 g5 V6)
    | (refine wpList_boxV V6 7 23 _ rfl rfl rfl (bA z) rfl ?_; intro w7 g8 V9))
  have hown0 := World.ownsRow_lit (base := w7.heap.size) (e := 5) (size := 1) w7 #[] 0 (Nat.le_refl _) (Nat.zero_le _) rfl
  have qA := below_one w7 (.cells #[] 5)
  have rd := (ra.below V9.bel (Nat.le_refl _)).below qA (Nat.le_refl _)
  go_upto_region 4 with (at_builtin; refine wpList_append_row _ rfl _ _ 22 rfl w7.heap.size 5 i0 (.int .u8 0) 1 Tryd.underlying22 hi0 hz0 hz1 hz2 rfl _ 0 [] rfl hown0 .u8 pa la ka _ rfl rd (by unfold maxLen; omega) (by omega) (by simp) ?_; intro v1 wo own1 hg1)
  have q1 : Below w7.heap.size w7 wo := qA.grown hg1 (by simp) (fun k hk => (hown0.lt k hk).1)
  rw [List.nil_append, Nat.zero_add] at own1
  obtain ⟨ao, co, ml, rfl, VO, RO⟩ := own_var V9 own1 q1
  have HRW : Hid (∀ w' : World, (∀ u ∈ ml, w'.heap[u.g]? = some (.cells u.X u.T (0, 0))) → Row .u8 w' ao la co (nI a)) := RO
  have VO2 : Vars w wo (⟨g8, 23, bA z⟩ :: ⟨g5, 23, bA y⟩ :: ⟨g2, 23, bA x⟩ :: ml) := VO
  clear own1 hg1 hown0 qA rd RO VO q1 V9 hi0 hz0 hz1 hz2
  go_wp2_with fail
  refine (HO.out wo (ho.of VO2)).mono ?_
  rintro e w10 ⟨rfl, q12⟩
  have V11 := VO2.call q12
  clear q12 VO2
  go_wp2_with (first
    | (refine wpList_allocV V11 10 23 rfl rfl rfl (bA 0) zeroB ?_; intro w13 g14 V15)
    | (refine wpList_storeV V15 0 rfl _ (.tmp 18) rfl rfl rfl (bA oL) rfl rfl Tryd.szB (bA_size _) (bA_size _) (bA_one _) ?_; intro w16 V17))
  refine (HB.out w16 ao co (ho.of V17) (HRW.out w16 V17.tail.tail.tail.tail.holds)).mono ?_
  rintro e w18 ⟨rfl, q20⟩
  have V19 := V17.call q20
  clear q20 V17
  go_wp2_with (first
    | (refine wpList_allocV V19 11 23 rfl rfl rfl (bA 0) zeroB ?_; intro w21 g22 V23)
    | (refine wpList_storeV V23 0 rfl _ (.tmp 20) rfl rfl rfl (bA r) rfl rfl Tryd.szB (bA_size _) (bA_size _) (bA_one _) ?_; intro w24 V25))
  refine av_open (fun w' => Vars w w' (⟨g22, 23, bA r⟩ :: ⟨g14, 23, bA oL⟩ :: ⟨g8, 23, bA z⟩ :: ⟨g5, 23, bA y⟩ :: ⟨g2, 23, bA x⟩ :: ml)) (by kernel_rfl) ?_
  have V26 := V25.drew
  refine av_op (i := 0) (fuel := 47) (by kernel_rfl) rfl (by rfl) (fun K hK => ?_)
  go_simp
  refine (awake18_any w24.drew (ho.of V26)).mono ?_
  rintro e w27 ⟨rfl, q29⟩
  have V28 := V26.call q29
  refine hK _ _ (V28) ?_
  clear hK K q29
  refine held_reads (rs := [1, 2, 3, 4, 5, 6, 7, 8, 9]) (fuel := 38) (by kernel_rfl) (fun c d v a w h => by cases d <;> exact h) (by kernel_rfl) (V28) (fun K hK => ?_)
  go_simp
  refine calm_move _ rfl (by rfl) rfl ?_
  go_simp
  refine calm_move _ rfl (by rfl) rfl ?_
  go_simp
  refine calm_do (.string (strOfNums (nI a))) rfl (by rfl) (fun w' hw' => ?_) ?_
  · have hcv := conv_row Tryd.underlying22 Tryd.underlying5 Tryd.underlying9 (HRW.out w' hw'.tail.tail.tail.tail.tail.holds)
    go_simp
  go_simp
  refine calm_move _ rfl (by rfl) rfl ?_
  go_simp
  refine calm_do (.string (strOfNums (nI a))) rfl (by rfl) (fun w' hw' => ?_) ?_
  · have hcv := conv_row Tryd.underlying22 Tryd.underlying5 Tryd.underlying9 (ra.below hw'.bel (Nat.le_refl _))
    go_simp
  go_simp
  refine calm_do (.bool true) rfl (by rfl) (fun w' hw' => ?_) ?_
  · go_simp
  go_simp
  refine calm_do (.bool true) rfl (by rfl) (fun w' hw' => ?_) ?_
  · go_simp
  go_simp
  refine calm_move _ rfl (by rfl) rfl ?_
  go_simp
  refine calm_do (.slice (some ⟨g14, 0, none⟩) 32 32) rfl (by rfl) (fun w' hw' => exec_sliceB hw' 1 rfl _ rfl rfl) ?_
  go_simp
  refine calm_nil (hK.out _ ?_)
  clear hK K
  refine av_op (i := 10) (fuel := 37) (by kernel_rfl) rfl (by rfl) (fun K hK => ?_)
  go_simp
  refine (HRO.out w27).mono ?_
  rintro e w30 ⟨a33, c34, rfl, r35, q32⟩
  have V31 := V28.call q32
  refine hK _ _ (V31) ?_
  clear hK K q32
  refine av_op (i := 11) (fuel := 36) (by kernel_rfl) rfl (by rfl) (fun K hK => ?_)
  go_simp
  refine (HC1.out w30 g14 a33 c34 (V31.at 1 rfl) r35).mono ?_
  rintro e w' ⟨rfl, rfl⟩
  refine hK _ _ (V31) ?_
  clear hK K
  refine held_reads (rs := [12, 13, 14, 15, 17]) (fuel := 31) (by kernel_rfl) (fun c d v a w h => by cases d <;> exact h) (by kernel_rfl) (V31) (fun K hK => ?_)
  go_simp
  refine calm_do (.bool true) rfl (by rfl) (fun w' hw' => ?_) ?_
  · go_simp
  go_simp
  refine calm_do (.bool true) rfl (by rfl) (fun w' hw' => ?_) ?_
  · go_simp
  go_simp
  refine calm_move _ rfl (by rfl) rfl ?_
  go_simp
  refine calm_do (.agg (bA x)) rfl (by rfl) (fun w' hw' => exec_loadV hw' 4 rfl _ rfl rfl Tryd.underlying23 Tryd.szB (bA_size _)) ?_
  go_simp
  refine calm_do (.slice (some ⟨g2, 0, none⟩) 32 32) rfl (by rfl) (fun w' hw' => exec_sliceB hw' 4 rfl _ rfl rfl) ?_
  go_simp
  refine calm_nil (hK.out _ ?_)
  clear hK K
  refine av_op (i := 16) (fuel := 30) (by kernel_rfl) rfl (by rfl) (fun K hK => ?_)
  go_simp
  refine (HI.out w30 (ho.of V31)).mono ?_
  rintro e w39 ⟨rfl, q41⟩
  have V40 := V31.call q41
  refine hK _ _ (V40) ?_
  replace r35 := r35.below q41 (Nat.le_refl _)
  clear hK K q41
  refine av_op (i := 18) (fuel := 29) (by kernel_rfl) rfl (by rfl) (fun K hK => ?_)
  go_simp
  refine (HRO.out w39).mono ?_
  rintro e w42 ⟨a45, c46, rfl, r47, q44⟩
  have V43 := V40.call q44
  refine hK _ _ (V43) ?_
  replace r35 := r35.below q44 (Nat.le_refl _)
  clear hK K q44
  refine av_op (i := 19) (fuel := 28) (by kernel_rfl) rfl (by rfl) (fun K hK => ?_)
  go_simp
  refine (HC2.out w42 g2 a45 c46 (V43.at 4 rfl) r47).mono ?_
  rintro e w' ⟨rfl, rfl⟩
  refine hK _ _ (V43) ?_
  clear hK K
  refine held_reads (rs := [20, 21, 22, 23, 24, 25]) (fuel := 22) (by kernel_rfl) (fun c d v a w h => by cases d <;> exact h) (by kernel_rfl) (V43) (fun K hK => ?_)
  go_simp
  refine calm_do (.bool b) rfl (by rfl) (fun w' hw' => ?_) ?_
  · have h9 := hcc
    go_simp
  go_simp
  refine calm_do (.bool true) rfl (by rfl) (fun w' hw' => ?_) ?_
  · go_simp
  go_simp
  refine calm_do (.bool true) rfl (by rfl) (fun w' hw' => ?_) ?_
  · go_simp
  go_simp
  refine calm_move _ rfl (by rfl) rfl ?_
  go_simp
  refine calm_do (.agg (bA r)) rfl (by rfl) (fun w' hw' => exec_loadV hw' 0 rfl _ rfl rfl Tryd.underlying23 Tryd.szB (bA_size _)) ?_
  go_simp
  refine calm_move _ rfl (by rfl) rfl ?_
  go_simp
  refine calm_nil (hK.out _ ?_)
  clear hK K
  refine av_op (i := 26) (fuel := 21) (by kernel_rfl) rfl (by rfl) (fun K hK => ?_)
  go_simp
  refine (HBR.out w42 V43.bel).mono ?_
  rintro e w51 ⟨rfl, q53⟩
  have V52 := V43.call q53
  refine hK _ _ (V52) ?_
  replace r35 := r35.below q53 (Nat.le_refl _)
  replace r47 := r47.below q53 (Nat.le_refl _)
  clear hK K q53
  refine held_reads (rs := [27, 28, 29, 30, 31, 32, 34, 35, 36]) (fuel := 12) (by kernel_rfl) (fun c d v a w h => by cases d <;> exact h) (by kernel_rfl) (V52) (fun K hK => ?_)
  go_simp
  refine calm_do (.bool true) rfl (by rfl) (fun w' hw' => exec_eqlB _ _ rfl true _ _ (decide_eq_true rfl) rfl rfl L1.out L1.out) ?_
  go_simp
  refine calm_do (.bool true) rfl (by rfl) (fun w' hw' => ?_) ?_
  · go_simp
  go_simp
  refine calm_move _ rfl (by rfl) rfl ?_
  go_simp
  refine calm_do (.agg (bA x)) rfl (by rfl) (fun w' hw' => exec_loadV hw' 4 rfl _ rfl rfl Tryd.underlying23 Tryd.szB (bA_size _)) ?_
  go_simp
  refine calm_do (.agg (bA y)) rfl (by rfl) (fun w' hw' => exec_loadV hw' 3 rfl _ rfl rfl Tryd.underlying23 Tryd.szB (bA_size _)) ?_
  go_simp
  refine calm_do (.agg (bA z)) rfl (by rfl) (fun w' hw' => exec_loadV hw' 2 rfl _ rfl rfl Tryd.underlying23 Tryd.szB (bA_size _)) ?_
  go_simp
  refine calm_do (.agg (bA x)) rfl (by rfl) (fun w' hw' => exec_loadV hw' 4 rfl _ rfl rfl Tryd.underlying23 Tryd.szB (bA_size _)) ?_
  go_simp
  refine calm_do (.agg (bA y)) rfl (by rfl) (fun w' hw' => exec_loadV hw' 3 rfl _ rfl rfl Tryd.underlying23 Tryd.szB (bA_size _)) ?_
  go_simp
  refine calm_do (.agg (bA z)) rfl (by rfl) (fun w' hw' => exec_loadV hw' 2 rfl _ rfl rfl Tryd.underlying23 Tryd.szB (bA_size _)) ?_
  go_simp
  refine calm_nil (hK.out _ ?_)
  clear hK K
  refine av_op (i := 33) (fuel := 11) (by kernel_rfl) rfl (by rfl) (fun K hK => ?_)
  go_simp
  refine (M1.out w51 (ho.of V52)).mono ?_
  rintro e w54 ⟨rfl, q56⟩
  have V55 := V52.call q56
  refine hK _ _ (V55) ?_
  replace r35 := r35.below q56 (Nat.le_refl _)
  replace r47 := r47.below q56 (Nat.le_refl _)
  clear hK K q56
  refine av_op (i := 37) (fuel := 10) (by kernel_rfl) rfl (by rfl) (fun K hK => ?_)
  go_simp
  refine (M2.out w54).mono ?_
  rintro e w57 ⟨rfl, q59⟩
  have V58 := V55.call q59
  refine hK _ _ (V58) ?_
  replace r35 := r35.below q59 (Nat.le_refl _)
  replace r47 := r47.below q59 (Nat.le_refl _)
  clear hK K q59
  refine held_reads (rs := [38, 39, 40, 41, 43]) (fuel := 5) (by kernel_rfl) (fun c d v a w h => by cases d <;> exact h) (by kernel_rfl) (V58) (fun K hK => ?_)
  go_simp
  refine calm_do (.bool true) rfl (by rfl) (fun w' hw' => exec_eqlB _ _ rfl true _ _ (decide_eq_true rfl) rfl rfl L2.out L2.out) ?_
  go_simp
  refine calm_do (.bool true) rfl (by rfl) (fun w' hw' => ?_) ?_
  · go_simp
  go_simp
  refine calm_move _ rfl (by rfl) rfl ?_
  go_simp
  refine calm_do (.agg (bA x)) rfl (by rfl) (fun w' hw' => exec_loadV hw' 4 rfl _ rfl rfl Tryd.underlying23 Tryd.szB (bA_size _)) ?_
  go_simp
  refine calm_do (.agg (bA x)) rfl (by rfl) (fun w' hw' => exec_loadV hw' 4 rfl _ rfl rfl Tryd.underlying23 Tryd.szB (bA_size _)) ?_
  go_simp
  refine calm_nil (hK.out _ ?_)
  clear hK K
  refine av_op (i := 42) (fuel := 4) (by kernel_rfl) rfl (by rfl) (fun K hK => ?_)
  go_simp
  refine (C1.out w57).mono ?_
  rintro e w60 ⟨rfl, q62⟩
  have V61 := V58.call q62
  refine hK _ _ (V61) ?_
  replace r35 := r35.below q62 (Nat.le_refl _)
  replace r47 := r47.below q62 (Nat.le_refl _)
  clear hK K q62
  refine av_op (i := 44) (fuel := 3) (by kernel_rfl) rfl (by rfl) (fun K hK => ?_)
  go_simp
  refine (C2.out w60).mono ?_
  rintro e w63 ⟨rfl, q65⟩
  have V64 := V61.call q65
  refine hK _ _ (V64) ?_
  replace r35 := r35.below q65 (Nat.le_refl _)
  replace r47 := r47.below q65 (Nat.le_refl _)
  clear hK K q65
  refine held_reads (rs := [45, 46, 47]) (fuel := 0) (by kernel_rfl) (fun c d v a w h => by cases d <;> exact h) (by kernel_rfl) (V64) (fun K hK => ?_)
  go_simp
  refine calm_do (.bool true) rfl (by rfl) (fun w' hw' => exec_eqlB _ _ rfl true _ _ (decide_eq_true rfl) rfl rfl L3.out L3.out) ?_
  go_simp
  refine calm_do (.bool true) rfl (by rfl) (fun w' hw' => ?_) ?_
  · go_simp
  go_simp
  refine calm_assign _ rfl (by rfl) rfl ?_
  go_simp
  refine calm_nil (hK.out _ ?_)
  clear hK K
  refine wpAnyH_done (by kernel_rfl) ?_ _
  go_wp2_with fail
  go_ret
  exact ⟨rfl, V64.bel⟩
theorem walk_ScalarReckons (a : List Nat) (da : Dig a) (pa : Option Addr) (la ka : Nat) (x y z : Nat) (hx : x < 2 ^ 256) (hy : y < 2 ^ 256) (hz : z < 2 ^ 256) (w : World) (ho : OAt w) (ra : Row .u8 w pa la ka (nI a)) : Calls Tryd.prog 3 #[.slice pa la ka, .agg (bA x), .agg (bA y), .agg (bA z)] w fun e w' => e = .returned (.bool true) ∧ Below w.heap.size w w' := by
  by_cases h0 : la ≤ 100
  · exact reckons18_core a da pa la ka x y z hx hy hz w ho ra h0
  · exact reckons18_long x y z pa la ka w (by omega)
end Go.Proofs.YtgofapndgjfnhaaDoor.N
