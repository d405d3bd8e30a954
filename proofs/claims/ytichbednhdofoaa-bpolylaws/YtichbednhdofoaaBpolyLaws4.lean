/-
  The walk of layer 4's law BpolyLaws, out of the face of bpoly: it returns true; nothing old turns. (Written by tools/gen/bpoly_laws.py.)
-/
import Derived.Test.YtichbednhdofoaaBpolyLaws2
namespace Go.Proofs.Ytichbednhdofoaa
open Go.RowKit
set_option linter.unusedVariables false

theorem nb_mul_eqv {p p' q q' : List Nat} (hp : Is01 p) (hp' : Is01 p') (hq : Is01 q) (h : Eqv p p') (k : Eqv q q') : nb (mulL p q) = nb (mulL p' q') :=
  nb_ext ((mulL_left q hp.isP hp'.isP hq.isP h).trans (mulL_right p' k))
theorem nb_add_eqv {p p' q q' : List Nat} (h : Eqv p p') (k : Eqv q q') : nb (addL p q) = nb (addL p' q') := nb_ext (eqv_addL h k)
theorem bl_comm (p q : List Int) : nb (mulL (bts q) (bts p)) = nb (mulL (bts p) (bts q)) := nb_ext (mulL_comm _ _ (is01_bts q).isP (is01_bts p).isP)
theorem bl_assoc (p q r : List Int) : nb (mulL (bts p) (bts (nb (mulL (bts q) (bts r))))) = nb (mulL (bts (nb (mulL (bts p) (bts q)))) (bts r)) := by
  rw [nb_mul_eqv (is01_bts p) (is01_bts p) (is01_bts _) (Eqv.refl _) (bts_nb (is01_pmul q r)), nb_mul_eqv (is01_bts _) (is01_pmul p q) (is01_bts r) (bts_nb (is01_pmul p q)) (Eqv.refl _)]
  exact nb_ext (mulL_assoc _ _ _ (is01_bts p).isP (is01_bts q).isP (is01_bts r).isP).symm
theorem bl_dist (p q r : List Int) : nb (addL (bts (nb (mulL (bts p) (bts q)))) (bts (nb (mulL (bts p) (bts r))))) = nb (mulL (bts p) (bts (nb (addL (bts q) (bts r))))) := by
  rw [nb_add_eqv (bts_nb (is01_pmul p q)) (bts_nb (is01_pmul p r)), nb_mul_eqv (is01_bts p) (is01_bts p) (is01_bts _) (Eqv.refl _) (bts_nb (is01_padd q r))]
  exact nb_ext (mulL_add_right _ _ _).symm
theorem bl_val (p q : List Int) (y : Nat) (hy : y < 8192) : evl (bts (nb (mulL (bts p) (bts q)))) y = gmul (evl (bts p) y) (evl (bts q) y) := by
  rw [evl_eqv y (bts_nb (is01_pmul p q)), evl_mul _ _ y (is01_bts p).isP (is01_bts q).isP hy]
/-- Rests of a sum are sums of rests. -/
theorem bl_rest (p q r : List Int) (u v s : List Nat) (hu : IsMod (bts p) (bts r) u) (hv : IsMod (bts q) (bts r) v) (hs : IsMod (bts (nb (addL (bts p) (bts q)))) (bts r) s) : nb (addL (bts (nb u)) (bts (nb v))) = nb s := by
  have h1 : IsMod (addL (bts p) (bts q)) (bts r) s := hs.eqv (bts_nb (is01_padd p q)) (Eqv.refl _) (is01_bts r) (is01_bts r) (Eqv.refl _) hs.hr
  rw [nb_add_eqv (bts_nb hu.hr) (bts_nb hv.hr)]
  exact nb_ext (IsMod.unique (is01_bts r) (hu.add hv) h1)
theorem bl_none (p r : List Int) (s : List Nat) (hn : norm (bts r) ≠ []) (hs : IsMod (bts (nb (mulL (bts p) (bts r)))) (bts r) s) : nb s = [] := by
  have h1 : IsMod (mulL (bts p) (bts r)) (bts r) s := hs.eqv (bts_nb (is01_pmul p r)) (Eqv.refl _) (is01_bts r) (is01_bts r) (Eqv.refl _) hs.hr
  have h2 := IsMod.unique (is01_bts r) h1 (IsMod.prod (is01_bts p) (is01_bts r) hn)
  rw [nb_ext h2]
  rfl
theorem bl_short (p r : List Int) (u : List Nat) (hu : IsMod (bts p) (bts r) u) : (norm (bts (nb u))).length < (norm (bts r)).length := by
  rw [norm_bts_nb hu.hr]; exact hu.short
theorem bl_rest_len (p r : List Int) (u : List Nat) (hu : IsMod (bts p) (bts r) u) : (nb u).length ≤ r.length := by
  apply Nat.le_trans (m := ((norm (bts r)).length + 7) / 8)
  · rw [length_nb]; have := hu.short; omega
  · have := norm_length_le (bts r); rw [length_bts] at this; omega

set_option maxHeartbeats 6400000 in
set_option maxRecDepth 100000 in
theorem walk_bpolyLaws (hD : BDegC) (hA : BAddC) (hM : BMulC) (hO : BModC) (hN : BMinC) (hG : BGenC) (hV : BValC) (a c d : Option Addr) (len cap len' cap' len2 cap2 : Nat) (p q r : List Int) (x : Int) (w : World)
    (rp : Row .u8 w a len cap p) (bp : IsB p) (rq : Row .u8 w c len' cap' q) (bq : IsB q) (rr : Row .u8 w d len2 cap2 r) (br : IsB r) :
    Calls Try.prog 4 #[.slice a len cap, .slice c len' cap', .slice d len2 cap2, .int .i64 x] w fun e w' => e = .returned (.bool true) ∧ Below w.heap.size w w' := by
  have hmax : len ≤ maxLen := Nat.le_trans rp.hcap rp.hmax
  have hmax' : len' ≤ maxLen := Nat.le_trans rq.hcap rq.hmax
  have hmax2 : len2 ≤ maxLen := Nat.le_trans rr.hcap rr.hmax
  have hmax2' : len2 ≤ 9223372036854775807 := by unfold maxLen at hmax2; omega
  by_cases hs : len ≤ 60 ∧ len' ≤ 60
  case neg =>
    have hsm := small4_no hs
    go_enter Try.func4, Try.ntmps4
    go_wp2_with fail
    refine (small4_any _ _ _ _ _ _ _ hmax hmax').mono ?_
    rintro e w' ⟨rfl, rfl⟩
    rw [hsm]
    go_wp2_with fail
    go_ret
    exact ⟨rfl, Below.refl _ _⟩
  have hsm := small4_yes hs.1 hs.2
  obtain ⟨hs1, hs2⟩ := hs
  by_cases hs3 : len2 ≤ 60
  case neg =>
    have hs3' : (60 : Int) < (len2 : Int) := by omega
    go_enter Try.func4, Try.ntmps4
    go_wp2_with fail
    refine (small4_any _ _ _ _ _ _ _ hmax hmax').mono ?_
    rintro e w' ⟨rfl, rfl⟩
    rw [hsm]
    go_wp2_with fail
    go_ret
    exact ⟨rfl, Below.refl _ _⟩
  have hs3' : (len2 : Int) ≤ 60 := by omega
  cases hx : isE x
  case false =>
    go_enter Try.func4, Try.ntmps4
    go_wp2_with fail
    refine (small4_any _ _ _ _ _ _ _ hmax hmax').mono ?_
    rintro e w' ⟨rfl, rfl⟩
    rw [hsm]
    go_wp2_with fail
    refine (is_any x _).mono ?_
    rintro e w' ⟨rfl, rfl⟩
    rw [hx]
    go_wp2_with fail
    go_ret
    exact ⟨rfl, Below.refl _ _⟩
  obtain ⟨y, rfl, hy⟩ := isE_true hx
  have HLp : Hid (p.length = len) := rp.hlen
  have HLq : Hid (q.length = len') := rq.hlen
  have HLr : Hid (r.length = len2) := rr.hlen
  have lm : (nb (mulL (bts p) (bts q))).length ≤ 120 := by have := nb_mul_len p q; have := HLp.out; have := HLq.out; omega
  have lqr : (nb (mulL (bts q) (bts r))).length ≤ 120 := by have := nb_mul_len q r; have := HLq.out; have := HLr.out; omega
  have lpr : (nb (mulL (bts p) (bts r))).length ≤ 120 := by have := nb_mul_len p r; have := HLp.out; have := HLr.out; omega
  have lsqr : (nb (addL (bts q) (bts r))).length ≤ 60 := by have := nb_add_len q r; have := HLq.out; have := HLr.out; omega
  have lspq : (nb (addL (bts p) (bts q))).length ≤ 60 := by have := nb_add_len p q; have := HLp.out; have := HLq.out; omega
  have bm := isB_nb (is01_pmul p q)
  have bqr := isB_nb (is01_pmul q r)
  have bpr := isB_nb (is01_pmul p r)
  have bsqr := isB_nb (is01_padd q r)
  have bspq := isB_nb (is01_padd p q)
  have E1 := bl_comm p q
  have E2 := bl_assoc p q r
  have E3 := bl_dist p q r
  have E4 := bl_val p q y hy
  have E5 : Hid (∀ u v s, IsMod (bts p) (bts r) u → IsMod (bts q) (bts r) v → IsMod (bts (nb (addL (bts p) (bts q)))) (bts r) s → nb (addL (bts (nb u)) (bts (nb v))) = nb s) := fun u v s => bl_rest p q r u v s
  have E6 : Hid (norm (bts r) ≠ [] → ∀ s, IsMod (bts (nb (mulL (bts p) (bts r)))) (bts r) s → nb s = []) := fun h s => bl_none p r s h
  have h1 := evl_lt (is01_bts p).isP y hy
  have h2 := evl_lt (is01_bts q).isP y hy
  have cV0 := hV.yes a len cap p y
  have cV1 := hV.yes c len' cap' q y
  have cV2 := fun b cp => hV.yes b (nb (mulL (bts p) (bts q))).length cp (nb (mulL (bts p) (bts q))) y
  rw [E4] at cV2
  have cM0 := hM a c len cap len' cap' p q
  have cM1 := hM c a len' cap' len cap q p
  rw [E1] at cM1
  have cM2 := fun b cp => hM b d (nb (mulL (bts p) (bts q))).length cp len2 cap2 (nb (mulL (bts p) (bts q))) r
  have cM3 := hM c d len' cap' len2 cap2 q r
  have cM4 := fun b cp => hM a b len cap (nb (mulL (bts q) (bts r))).length cp p (nb (mulL (bts q) (bts r)))
  rw [E2] at cM4
  have cA5 := hA c d len' cap' len2 cap2 q r
  have cM6 := fun b cp => hM a b len cap (nb (addL (bts q) (bts r))).length cp p (nb (addL (bts q) (bts r)))
  have cM7 := hM a d len cap len2 cap2 p r
  have cA8 := fun b cp b' cp' => hA b b' (nb (mulL (bts p) (bts q))).length cp (nb (mulL (bts p) (bts r))).length cp' (nb (mulL (bts p) (bts q))) (nb (mulL (bts p) (bts r)))
  rw [E3] at cA8
  have cA9 := hA a c len cap len' cap' p q
  have cO0 := hO.yes a d len cap len2 cap2 p r
  have cO1 := hO.yes c d len' cap' len2 cap2 q r
  have cO2 := fun b cp => hO.yes b d (nb (addL (bts p) (bts q))).length cp len2 cap2 (nb (addL (bts p) (bts q))) r
  have cO3 := fun b cp => hO.yes b d (nb (mulL (bts p) (bts r))).length cp len2 cap2 (nb (mulL (bts p) (bts r))) r
  clear E1 E2 E3 E4
  generalize nb (mulL (bts (nb (mulL (bts p) (bts q)))) (bts r)) = z1 at *
  generalize nb (mulL (bts p) (bts (nb (addL (bts q) (bts r))))) = z2 at *
  generalize nb (mulL (bts p) (bts q)) = zm at *
  generalize nb (mulL (bts q) (bts r)) = zqr at *
  generalize nb (mulL (bts p) (bts r)) = zpr at *
  generalize nb (addL (bts q) (bts r)) = zs at *
  generalize nb (addL (bts p) (bts q)) = zpq at *
  generalize evl (bts p) y = vp at *
  generalize evl (bts q) y = vq at *
  have hdl : (norm (bts r)).length ≤ 1000 := by have := norm_length_le (bts r); rw [length_bts] at this; have := HLr.out; omega
  go_enter Try.func4, Try.ntmps4
  go_wp2_with fail
  refine (small4_any _ _ _ _ _ _ _ hmax hmax').mono ?_
  rintro e w' ⟨rfl, rfl⟩
  rw [hsm]
  go_wp2_with fail
  refine (is_any _ _).mono ?_
  rintro e w' ⟨rfl, rfl⟩
  rw [hx]
  go_wp2_with fail
  refine (cM0 _ rp rq bp bq (by omega) (by omega)).mono ?_
  rintro e w1 ⟨a1, cp1, rfl, rm, q1⟩
  replace rp := rp.below q1 (Nat.le_refl _)
  replace rq := rq.below q1 (Nat.le_refl _)
  replace rr := rr.below q1 (Nat.le_refl _)
  go_wp2_with fail
  refine (cV0 _ rp bp (by omega) hy).mono ?_
  rintro e w2 ⟨rfl, qq⟩
  replace rp := rp.below qq (Nat.le_refl _)
  replace rq := rq.below qq (Nat.le_refl _)
  replace rr := rr.below qq (Nat.le_refl _)
  replace rm := rm.below qq (Nat.le_refl _)
  replace q1 := btrans q1 qq
  clear qq
  go_wp2_with fail
  refine (cV1 _ rq bq (by omega) hy).mono ?_
  rintro e w3 ⟨rfl, qq⟩
  replace rp := rp.below qq (Nat.le_refl _)
  replace rq := rq.below qq (Nat.le_refl _)
  replace rr := rr.below qq (Nat.le_refl _)
  replace rm := rm.below qq (Nat.le_refl _)
  replace q1 := btrans q1 qq
  clear qq
  go_wp2_with fail
  refine (cV2 _ _ _ rm bm (by omega) hy).mono ?_
  rintro e w4 ⟨rfl, qq⟩
  replace rp := rp.below qq (Nat.le_refl _)
  replace rq := rq.below qq (Nat.le_refl _)
  replace rr := rr.below qq (Nat.le_refl _)
  replace rm := rm.below qq (Nat.le_refl _)
  replace q1 := btrans q1 qq
  clear qq
  go_wp2_with fail
  refine held_begin (by kernel_rfl) ?_
  refine held_reads (rs := [0, 1, 2, 3, 4, 5, 6]) (fuel := 39) (by kernel_rfl) (fun c d v a w h => by cases d <;> exact h) (by kernel_rfl) (Since.drew _) (fun K hK => ?_)
  refine calm_move _ rfl (by rfl) rfl ?_
  go_simp
  refine calm_do (.bool false) rfl (by rfl) (fun w' hw' => ?_) ?_
  · go_simp
  go_simp
  refine calm_move _ rfl (by rfl) rfl ?_
  go_simp
  refine calm_move _ rfl (by rfl) rfl ?_
  go_simp
  refine calm_do (.string (strOfNums zm)) rfl (by rfl) (fun w' hw' => ?_) ?_
  · have hcc := conv_row Try.underlying22 Try.underlying5 Try.underlying9 (rm.below hw' (Nat.le_refl _))
    go_simp
  go_simp
  refine calm_move _ rfl (by rfl) rfl ?_
  go_simp
  refine calm_move _ rfl (by rfl) rfl ?_
  go_simp
  refine calm_nil (hK.out _ ?_)
  clear hK K
  refine held_call (i := 7) (fuel := 38) (by kernel_rfl) rfl (by rfl) (fun K hK => ?_)
  go_simp
  have qd := Since.drew w4
  replace rp := rp.below qd (Nat.le_refl _)
  replace rq := rq.below qd (Nat.le_refl _)
  replace rr := rr.below qd (Nat.le_refl _)
  replace rm := rm.below qd (Nat.le_refl _)
  replace q1 := btrans q1 qd
  clear qd
  refine (cM1 _ rq rp bq bp (by omega) (by omega)).mono ?_
  rintro e w5 ⟨a5, cp5, rfl, r5, qq0⟩
  refine hK _ _ (Since.trans (Since.drew _) qq0) ?_
  have qq : Since _ _ := qq0
  clear hK K qq0
  replace rp := rp.below qq (Nat.le_refl _)
  replace rq := rq.below qq (Nat.le_refl _)
  replace rr := rr.below qq (Nat.le_refl _)
  replace rm := rm.below qq (Nat.le_refl _)
  replace q1 := btrans q1 qq
  clear qq
  refine held_reads (rs := [8, 9, 10, 11, 12, 13, 16, 17, 18]) (fuel := 29) (by kernel_rfl) (fun c d v a w h => by cases d <;> exact h) (by kernel_rfl) (Since.refl _) (fun K hK => ?_)
  go_simp
  refine calm_do (.string (strOfNums zm)) rfl (by rfl) (fun w' hw' => ?_) ?_
  · have hcc := conv_row Try.underlying22 Try.underlying5 Try.underlying9 (r5.below hw' (Nat.le_refl _))
    go_simp
  go_simp
  refine calm_do (.bool false) rfl (by rfl) (fun w' hw' => ?_) ?_
  · go_simp
  go_simp
  refine calm_do (.bool false) rfl (by rfl) (fun w' hw' => ?_) ?_
  · go_simp
  go_simp
  refine calm_move _ rfl (by rfl) rfl ?_
  go_simp
  refine calm_move _ rfl (by rfl) rfl ?_
  go_simp
  refine calm_move _ rfl (by rfl) rfl ?_
  go_simp
  refine calm_move _ rfl (by rfl) rfl ?_
  go_simp
  refine calm_move _ rfl (by rfl) rfl ?_
  go_simp
  refine calm_move _ rfl (by rfl) rfl ?_
  go_simp
  refine calm_nil (hK.out _ ?_)
  clear hK K
  refine held_call (i := 14) (fuel := 28) (by kernel_rfl) rfl (by rfl) (fun K hK => ?_)
  go_simp
  refine (cM2 _ _ _ rm rr bm br (by omega) (by omega)).mono ?_
  rintro e w6 ⟨a6, cp6, rfl, r6, qq0⟩
  refine hK _ _ (Since.trans (Since.refl _) qq0) ?_
  have qq : Since _ _ := qq0
  clear hK K qq0
  replace rp := rp.below qq (Nat.le_refl _)
  replace rq := rq.below qq (Nat.le_refl _)
  replace rr := rr.below qq (Nat.le_refl _)
  replace rm := rm.below qq (Nat.le_refl _)
  replace r5 := r5.below qq (Nat.le_refl _)
  replace q1 := btrans q1 qq
  clear qq
  clear r5
  refine held_reads (rs := [15]) (fuel := 27) (by kernel_rfl) (fun c d v a w h => by cases d <;> exact h) (by kernel_rfl) (Since.refl _) (fun K hK => ?_)
  go_simp
  refine calm_do (.string (strOfNums z1)) rfl (by rfl) (fun w' hw' => ?_) ?_
  · have hcc := conv_row Try.underlying22 Try.underlying5 Try.underlying9 (r6.below hw' (Nat.le_refl _))
    go_simp
  go_simp
  refine calm_nil (hK.out _ ?_)
  clear hK K
  refine held_call (i := 19) (fuel := 26) (by kernel_rfl) rfl (by rfl) (fun K hK => ?_)
  go_simp
  refine (cM3 _ rq rr bq br (by omega) (by omega)).mono ?_
  rintro e w7 ⟨a7, cp7, rfl, r7, qq0⟩
  refine hK _ _ (Since.trans (Since.refl _) qq0) ?_
  have qq : Since _ _ := qq0
  clear hK K qq0
  replace rp := rp.below qq (Nat.le_refl _)
  replace rq := rq.below qq (Nat.le_refl _)
  replace rr := rr.below qq (Nat.le_refl _)
  replace rm := rm.below qq (Nat.le_refl _)
  replace r6 := r6.below qq (Nat.le_refl _)
  replace q1 := btrans q1 qq
  clear qq
  refine held_call (i := 20) (fuel := 25) (by kernel_rfl) rfl (by rfl) (fun K hK => ?_)
  go_simp
  refine (cM4 _ _ _ rp r7 bp bqr (by omega) (by omega)).mono ?_
  rintro e w8 ⟨a8, cp8, rfl, r8, qq0⟩
  refine hK _ _ (Since.trans (Since.refl _) qq0) ?_
  have qq : Since _ _ := qq0
  clear hK K qq0
  replace rp := rp.below qq (Nat.le_refl _)
  replace rq := rq.below qq (Nat.le_refl _)
  replace rr := rr.below qq (Nat.le_refl _)
  replace rm := rm.below qq (Nat.le_refl _)
  replace r6 := r6.below qq (Nat.le_refl _)
  replace r7 := r7.below qq (Nat.le_refl _)
  replace q1 := btrans q1 qq
  clear qq
  clear r6 r7
  refine held_reads (rs := [21, 22, 23, 24, 25, 26, 27, 31, 32, 33]) (fuel := 15) (by kernel_rfl) (fun c d v a w h => by cases d <;> exact h) (by kernel_rfl) (Since.refl _) (fun K hK => ?_)
  go_simp
  refine calm_do (.string (strOfNums z1)) rfl (by rfl) (fun w' hw' => ?_) ?_
  · have hcc := conv_row Try.underlying22 Try.underlying5 Try.underlying9 (r8.below hw' (Nat.le_refl _))
    go_simp
  go_simp
  refine calm_do (.bool false) rfl (by rfl) (fun w' hw' => ?_) ?_
  · go_simp
  go_simp
  refine calm_do (.bool false) rfl (by rfl) (fun w' hw' => ?_) ?_
  · go_simp
  go_simp
  refine calm_move _ rfl (by rfl) rfl ?_
  go_simp
  refine calm_move _ rfl (by rfl) rfl ?_
  go_simp
  refine calm_move _ rfl (by rfl) rfl ?_
  go_simp
  refine calm_move _ rfl (by rfl) rfl ?_
  go_simp
  refine calm_move _ rfl (by rfl) rfl ?_
  go_simp
  refine calm_move _ rfl (by rfl) rfl ?_
  go_simp
  refine calm_move _ rfl (by rfl) rfl ?_
  go_simp
  refine calm_nil (hK.out _ ?_)
  clear hK K
  refine held_call (i := 28) (fuel := 14) (by kernel_rfl) rfl (by rfl) (fun K hK => ?_)
  go_simp
  refine (cA5 _ rq rr bq br (by omega) (by omega)).mono ?_
  rintro e w9 ⟨a9, cp9, rfl, r9, qq0⟩
  refine hK _ _ (Since.trans (Since.refl _) qq0) ?_
  have qq : Since _ _ := qq0
  clear hK K qq0
  replace rp := rp.below qq (Nat.le_refl _)
  replace rq := rq.below qq (Nat.le_refl _)
  replace rr := rr.below qq (Nat.le_refl _)
  replace rm := rm.below qq (Nat.le_refl _)
  replace r8 := r8.below qq (Nat.le_refl _)
  replace q1 := btrans q1 qq
  clear qq
  clear r8
  refine held_call (i := 29) (fuel := 13) (by kernel_rfl) rfl (by rfl) (fun K hK => ?_)
  go_simp
  refine (cM6 _ _ _ rp r9 bp bsqr (by omega) (by omega)).mono ?_
  rintro e w10 ⟨a10, cp10, rfl, r10, qq0⟩
  refine hK _ _ (Since.trans (Since.refl _) qq0) ?_
  have qq : Since _ _ := qq0
  clear hK K qq0
  replace rp := rp.below qq (Nat.le_refl _)
  replace rq := rq.below qq (Nat.le_refl _)
  replace rr := rr.below qq (Nat.le_refl _)
  replace rm := rm.below qq (Nat.le_refl _)
  replace r9 := r9.below qq (Nat.le_refl _)
  replace q1 := btrans q1 qq
  clear qq
  clear r9
  refine held_reads (rs := [30]) (fuel := 12) (by kernel_rfl) (fun c d v a w h => by cases d <;> exact h) (by kernel_rfl) (Since.refl _) (fun K hK => ?_)
  go_simp
  refine calm_do (.string (strOfNums z2)) rfl (by rfl) (fun w' hw' => ?_) ?_
  · have hcc := conv_row Try.underlying22 Try.underlying5 Try.underlying9 (r10.below hw' (Nat.le_refl _))
    go_simp
  go_simp
  refine calm_nil (hK.out _ ?_)
  clear hK K
  refine held_call (i := 34) (fuel := 11) (by kernel_rfl) rfl (by rfl) (fun K hK => ?_)
  go_simp
  refine (cM7 _ rp rr bp br (by omega) (by omega)).mono ?_
  rintro e w11 ⟨a11, cp11, rfl, r11, qq0⟩
  refine hK _ _ (Since.trans (Since.refl _) qq0) ?_
  have qq : Since _ _ := qq0
  clear hK K qq0
  replace rp := rp.below qq (Nat.le_refl _)
  replace rq := rq.below qq (Nat.le_refl _)
  replace rr := rr.below qq (Nat.le_refl _)
  replace rm := rm.below qq (Nat.le_refl _)
  replace r10 := r10.below qq (Nat.le_refl _)
  replace q1 := btrans q1 qq
  clear qq
  refine held_call (i := 35) (fuel := 10) (by kernel_rfl) rfl (by rfl) (fun K hK => ?_)
  go_simp
  refine (cA8 _ _ _ _ _ rm r11 bm bpr (by omega) (by omega)).mono ?_
  rintro e w12 ⟨a12, cp12, rfl, r12, qq0⟩
  refine hK _ _ (Since.trans (Since.refl _) qq0) ?_
  have qq : Since _ _ := qq0
  clear hK K qq0
  replace rp := rp.below qq (Nat.le_refl _)
  replace rq := rq.below qq (Nat.le_refl _)
  replace rr := rr.below qq (Nat.le_refl _)
  replace rm := rm.below qq (Nat.le_refl _)
  replace r10 := r10.below qq (Nat.le_refl _)
  replace r11 := r11.below qq (Nat.le_refl _)
  replace q1 := btrans q1 qq
  clear qq
  clear r10 r11
  refine held_reads (rs := [36, 37, 38, 39, 40, 41, 42]) (fuel := 3) (by kernel_rfl) (fun c d v a w h => by cases d <;> exact h) (by kernel_rfl) (Since.refl _) (fun K hK => ?_)
  go_simp
  refine calm_do (.string (strOfNums z2)) rfl (by rfl) (fun w' hw' => ?_) ?_
  · have hcc := conv_row Try.underlying22 Try.underlying5 Try.underlying9 (r12.below hw' (Nat.le_refl _))
    go_simp
  go_simp
  refine calm_do (.bool false) rfl (by rfl) (fun w' hw' => ?_) ?_
  · go_simp
  go_simp
  refine calm_do (.bool false) rfl (by rfl) (fun w' hw' => ?_) ?_
  · go_simp
  go_simp
  refine calm_move _ rfl (by rfl) rfl ?_
  go_simp
  refine calm_move _ rfl (by rfl) rfl ?_
  go_simp
  refine calm_move _ rfl (by rfl) rfl ?_
  go_simp
  refine calm_move _ rfl (by rfl) rfl ?_
  go_simp
  refine calm_nil (hK.out _ ?_)
  clear hK K
  refine held_call (i := 43) (fuel := 2) (by kernel_rfl) rfl (by rfl) (fun K hK => ?_)
  go_simp
  refine (refMul_any vp vq _ h1 h2).mono ?_
  rintro e w' ⟨rfl, rfl⟩
  refine hK _ _ (Since.refl _) ?_
  clear hK K
  refine held_reads (rs := [44, 45]) (fuel := 0) (by kernel_rfl) (fun c d v a w h => by cases d <;> exact h) (by kernel_rfl) (Since.refl _) (fun K hK => ?_)
  go_simp
  refine calm_do (.bool false) rfl (by rfl) (fun w' hw' => ?_) ?_
  · go_simp
  go_simp
  refine calm_do (.bool false) rfl (by rfl) (fun w' hw' => ?_) ?_
  · go_simp
  go_simp
  refine calm_nil (hK.out _ ?_)
  clear hK K
  refine wpAnyH_done (by kernel_rfl) ?_ _
  clear r12
  by_cases hdr : (norm (bts r)).length = 0
  · go_wp2_with fail
    refine (hD _ _ _ r _ rr br (by omega)).mono ?_
    rintro e w13 ⟨rfl, qq⟩
    replace rp := rp.below qq (Nat.le_refl _)
    replace rq := rq.below qq (Nat.le_refl _)
    replace rr := rr.below qq (Nat.le_refl _)
    replace rm := rm.below qq (Nat.le_refl _)
    replace q1 := btrans q1 qq
    clear qq
    rw [hdr]
    clear hdr
    go_wp2_with fail
    refine (awake4_any hD hM hO hN hG _).mono ?_
    rintro e w14 ⟨rfl, qq⟩
    replace rp := rp.below qq (Nat.le_refl _)
    replace rq := rq.below qq (Nat.le_refl _)
    replace rr := rr.below qq (Nat.le_refl _)
    replace rm := rm.below qq (Nat.le_refl _)
    replace q1 := btrans q1 qq
    clear qq
    go_wp2_with fail
    go_ret
    exact ⟨rfl, q1⟩
  · have hnr : norm (bts r) ≠ [] := fun e => hdr (by rw [e]; rfl)
    have hdp : ¬ (((norm (bts r)).length : Int) - 1 < 0) := by omega
    have cD := hD d len2 cap2 r
    have HDR : Hid (∀ u, IsMod (bts p) (bts r) u → (norm (bts (nb u))).length < (norm (bts r)).length) := fun u => bl_short p r u
    have HUL : Hid (∀ u, IsMod (bts p) (bts r) u → (nb u).length ≤ 60) := fun u hu => by have := bl_rest_len p r u hu; have := HLr.out; omega
    have HVL : Hid (∀ u, IsMod (bts q) (bts r) u → (nb u).length ≤ 60) := fun u hu => by have := bl_rest_len q r u hu; have := HLr.out; omega
    generalize (norm (bts r)).length = dr at *
    go_wp2_with fail
    refine (cD _ rr br (by omega)).mono ?_
    rintro e w13 ⟨rfl, qq⟩
    replace rp := rp.below qq (Nat.le_refl _)
    replace rq := rq.below qq (Nat.le_refl _)
    replace rr := rr.below qq (Nat.le_refl _)
    replace rm := rm.below qq (Nat.le_refl _)
    replace q1 := btrans q1 qq
    clear qq
    go_wp2_with fail
    refine (cO0 _ rp rr bp br (by omega) (by omega) hnr).mono ?_
    rintro e w14 ⟨u, hu, au, cpu, rfl, ru, qq⟩
    replace rp := rp.below qq (Nat.le_refl _)
    replace rq := rq.below qq (Nat.le_refl _)
    replace rr := rr.below qq (Nat.le_refl _)
    replace rm := rm.below qq (Nat.le_refl _)
    replace q1 := btrans q1 qq
    clear qq
    have HU : Hid (IsMod (bts p) (bts r) u) := hu
    have lu := HUL.out u hu
    have bu := isB_nb hu.hr
    have hsu := HDR.out u hu
    clear hu
    go_wp2_with fail
    refine (cO1 _ rq rr bq br (by omega) (by omega) hnr).mono ?_
    rintro e w15 ⟨v, hv, av, cpv, rfl, rv, qq⟩
    replace rp := rp.below qq (Nat.le_refl _)
    replace rq := rq.below qq (Nat.le_refl _)
    replace rr := rr.below qq (Nat.le_refl _)
    replace rm := rm.below qq (Nat.le_refl _)
    replace ru := ru.below qq (Nat.le_refl _)
    replace q1 := btrans q1 qq
    clear qq
    have HV : Hid (IsMod (bts q) (bts r) v) := hv
    have lv := HVL.out v hv
    have bv := isB_nb hv.hr
    clear hv
    go_wp2_with fail
    refine (cA9 _ rp rq bp bq (by omega) (by omega)).mono ?_
    rintro e w16 ⟨as1, cps, rfl, rs, qq⟩
    replace rp := rp.below qq (Nat.le_refl _)
    replace rq := rq.below qq (Nat.le_refl _)
    replace rr := rr.below qq (Nat.le_refl _)
    replace rm := rm.below qq (Nat.le_refl _)
    replace ru := ru.below qq (Nat.le_refl _)
    replace rv := rv.below qq (Nat.le_refl _)
    replace q1 := btrans q1 qq
    clear qq
    go_wp2_with fail
    refine (cO2 _ _ _ rs rr bspq br (by omega) (by omega) hnr).mono ?_
    rintro e w17 ⟨s, hs, at1, cpt, rfl, rt, qq⟩
    replace rp := rp.below qq (Nat.le_refl _)
    replace rq := rq.below qq (Nat.le_refl _)
    replace rr := rr.below qq (Nat.le_refl _)
    replace rm := rm.below qq (Nat.le_refl _)
    replace ru := ru.below qq (Nat.le_refl _)
    replace rv := rv.below qq (Nat.le_refl _)
    replace rs := rs.below qq (Nat.le_refl _)
    replace q1 := btrans q1 qq
    clear qq
    have ES := E5.out u v s HU.out HV.out hs
    clear hs
    clear rs
    go_wp2_with fail
    refine (cM7 _ rp rr bp br (by omega) (by omega)).mono ?_
    rintro e w18 ⟨ag, cpg, rfl, rg, qq⟩
    replace rp := rp.below qq (Nat.le_refl _)
    replace rq := rq.below qq (Nat.le_refl _)
    replace rr := rr.below qq (Nat.le_refl _)
    replace rm := rm.below qq (Nat.le_refl _)
    replace ru := ru.below qq (Nat.le_refl _)
    replace rv := rv.below qq (Nat.le_refl _)
    replace rt := rt.below qq (Nat.le_refl _)
    replace q1 := btrans q1 qq
    clear qq
    go_wp2_with fail
    refine (cO3 _ _ _ rg rr bpr br (by omega) (by omega) hnr).mono ?_
    rintro e w19 ⟨k, hk, ak, cpk, rfl, rk, qq⟩
    replace rp := rp.below qq (Nat.le_refl _)
    replace rq := rq.below qq (Nat.le_refl _)
    replace rr := rr.below qq (Nat.le_refl _)
    replace rm := rm.below qq (Nat.le_refl _)
    replace ru := ru.below qq (Nat.le_refl _)
    replace rv := rv.below qq (Nat.le_refl _)
    replace rt := rt.below qq (Nat.le_refl _)
    replace rg := rg.below qq (Nat.le_refl _)
    replace q1 := btrans q1 qq
    clear qq
    have EK := E6.out hnr k hk
    rw [EK] at rk ⊢
    rw [show ([] : List Int).length = 0 from rfl] at rk ⊢
    clear hk rk EK
    clear rg
    have cA := fun wx => hA au av (nb u).length cpu (nb v).length cpv (nb u) (nb v) wx
    rw [ES] at cA
    clear ES HU HV
    generalize nb u = zu at *
    generalize nb v = zv at *
    generalize nb s = zt at *
    have cDu := fun wx => hD au zu.length cpu zu wx
    generalize (norm (bts zu)).length = du at *
    have hlt : ((du : Int) - 1 < (dr : Int) - 1) := by omega
    go_wp2_with fail
    refine held_begin (by kernel_rfl) ?_
    refine held_call (i := 0) (fuel := 41) (by kernel_rfl) rfl (by rfl) (fun K hK => ?_)
    go_simp
    have qd := Since.drew w19
    replace rp := rp.below qd (Nat.le_refl _)
    replace rq := rq.below qd (Nat.le_refl _)
    replace rr := rr.below qd (Nat.le_refl _)
    replace rm := rm.below qd (Nat.le_refl _)
    replace ru := ru.below qd (Nat.le_refl _)
    replace rv := rv.below qd (Nat.le_refl _)
    replace rt := rt.below qd (Nat.le_refl _)
    replace q1 := btrans q1 qd
    clear qd
    refine (awake4_any hD hM hO hN hG _).mono ?_
    rintro e w20 ⟨rfl, qq0⟩
    refine hK _ _ (Since.trans (Since.drew _) qq0) ?_
    have qq : Since _ _ := qq0
    clear hK K qq0
    replace rp := rp.below qq (Nat.le_refl _)
    replace rq := rq.below qq (Nat.le_refl _)
    replace rr := rr.below qq (Nat.le_refl _)
    replace rm := rm.below qq (Nat.le_refl _)
    replace ru := ru.below qq (Nat.le_refl _)
    replace rv := rv.below qq (Nat.le_refl _)
    replace rt := rt.below qq (Nat.le_refl _)
    replace q1 := btrans q1 qq
    clear qq
    refine held_reads (rs := [1, 2, 3, 4, 5, 6, 7, 8, 9, 10, 11, 12, 13, 14, 15, 16, 17, 18, 19, 20, 21, 22, 23, 24]) (fuel := 17) (by kernel_rfl) (fun c d v a w h => by cases d <;> exact h) (by kernel_rfl) (Since.refl _) (fun K hK => ?_)
    go_simp
    refine calm_move _ rfl (by rfl) rfl ?_
    go_simp
    refine calm_move _ rfl (by rfl) rfl ?_
    go_simp
    refine calm_do (.bool true) rfl (by rfl) (fun w' hw' => ?_) ?_
    · go_simp
    go_simp
    refine calm_do (.bool true) rfl (by rfl) (fun w' hw' => ?_) ?_
    · go_simp
    go_simp
    refine calm_move _ rfl (by rfl) rfl ?_
    go_simp
    refine calm_move _ rfl (by rfl) rfl ?_
    go_simp
    refine calm_move _ rfl (by rfl) rfl ?_
    go_simp
    refine calm_do (.bool true) rfl (by rfl) (fun w' hw' => ?_) ?_
    · go_simp
    go_simp
    refine calm_do (.bool true) rfl (by rfl) (fun w' hw' => ?_) ?_
    · go_simp
    go_simp
    refine calm_move _ rfl (by rfl) rfl ?_
    go_simp
    refine calm_move _ rfl (by rfl) rfl ?_
    go_simp
    refine calm_move _ rfl (by rfl) rfl ?_
    go_simp
    refine calm_do (.bool true) rfl (by rfl) (fun w' hw' => ?_) ?_
    · go_simp
    go_simp
    refine calm_do (.bool true) rfl (by rfl) (fun w' hw' => ?_) ?_
    · go_simp
    go_simp
    refine calm_move _ rfl (by rfl) rfl ?_
    go_simp
    refine calm_move _ rfl (by rfl) rfl ?_
    go_simp
    refine calm_move _ rfl (by rfl) rfl ?_
    go_simp
    refine calm_do (.bool true) rfl (by rfl) (fun w' hw' => ?_) ?_
    · go_simp
    go_simp
    refine calm_do (.bool true) rfl (by rfl) (fun w' hw' => ?_) ?_
    · go_simp
    go_simp
    refine calm_move _ rfl (by rfl) rfl ?_
    go_simp
    refine calm_move _ rfl (by rfl) rfl ?_
    go_simp
    refine calm_do (.string (strOfNums zt)) rfl (by rfl) (fun w' hw' => ?_) ?_
    · have hcc := conv_row Try.underlying22 Try.underlying5 Try.underlying9 (rt.below hw' (Nat.le_refl _))
      go_simp
    go_simp
    refine calm_move _ rfl (by rfl) rfl ?_
    go_simp
    refine calm_move _ rfl (by rfl) rfl ?_
    go_simp
    refine calm_nil (hK.out _ ?_)
    clear hK K
    refine held_call (i := 25) (fuel := 16) (by kernel_rfl) rfl (by rfl) (fun K hK => ?_)
    go_simp
    refine (cA _ ru rv bu bv (by omega) (by omega)).mono ?_
    rintro e w21 ⟨az, cpz, rfl, rz, qq0⟩
    refine hK _ _ (Since.trans (Since.refl _) qq0) ?_
    have qq : Since _ _ := qq0
    clear hK K qq0
    replace rp := rp.below qq (Nat.le_refl _)
    replace rq := rq.below qq (Nat.le_refl _)
    replace rr := rr.below qq (Nat.le_refl _)
    replace rm := rm.below qq (Nat.le_refl _)
    replace ru := ru.below qq (Nat.le_refl _)
    replace rv := rv.below qq (Nat.le_refl _)
    replace rt := rt.below qq (Nat.le_refl _)
    replace q1 := btrans q1 qq
    clear qq
    refine held_reads (rs := [26, 27, 28, 29, 30, 31, 32, 33, 34, 35, 37]) (fuel := 5) (by kernel_rfl) (fun c d v a w h => by cases d <;> exact h) (by kernel_rfl) (Since.refl _) (fun K hK => ?_)
    go_simp
    refine calm_do (.string (strOfNums zt)) rfl (by rfl) (fun w' hw' => ?_) ?_
    · have hcc := conv_row Try.underlying22 Try.underlying5 Try.underlying9 (rz.below hw' (Nat.le_refl _))
      go_simp
    go_simp
    refine calm_do (.bool true) rfl (by rfl) (fun w' hw' => ?_) ?_
    · go_simp
    go_simp
    refine calm_do (.bool true) rfl (by rfl) (fun w' hw' => ?_) ?_
    · go_simp
    go_simp
    refine calm_move _ rfl (by rfl) rfl ?_
    go_simp
    refine calm_move _ rfl (by rfl) rfl ?_
    go_simp
    refine calm_do (.int .i64 0) rfl (by rfl) (fun w' hw' => ?_) ?_
    · go_simp
    go_simp
    refine calm_do (.bool true) rfl (by rfl) (fun w' hw' => ?_) ?_
    · go_simp
    go_simp
    refine calm_do (.bool true) rfl (by rfl) (fun w' hw' => ?_) ?_
    · go_simp
    go_simp
    refine calm_move _ rfl (by rfl) rfl ?_
    go_simp
    refine calm_move _ rfl (by rfl) rfl ?_
    go_simp
    refine calm_move _ rfl (by rfl) rfl ?_
    go_simp
    refine calm_nil (hK.out _ ?_)
    clear hK K
    refine held_call (i := 36) (fuel := 4) (by kernel_rfl) rfl (by rfl) (fun K hK => ?_)
    go_simp
    refine (cDu _ ru bu (by omega)).mono ?_
    rintro e w22 ⟨rfl, qq0⟩
    refine hK _ _ (Since.trans (Since.refl _) qq0) ?_
    have qq : Since _ _ := qq0
    clear hK K qq0
    replace rp := rp.below qq (Nat.le_refl _)
    replace rq := rq.below qq (Nat.le_refl _)
    replace rr := rr.below qq (Nat.le_refl _)
    replace rm := rm.below qq (Nat.le_refl _)
    replace ru := ru.below qq (Nat.le_refl _)
    replace rv := rv.below qq (Nat.le_refl _)
    replace rt := rt.below qq (Nat.le_refl _)
    replace rz := rz.below qq (Nat.le_refl _)
    replace q1 := btrans q1 qq
    clear qq
    refine held_call (i := 38) (fuel := 3) (by kernel_rfl) rfl (by rfl) (fun K hK => ?_)
    go_simp
    refine (cD _ rr br (by omega)).mono ?_
    rintro e w23 ⟨rfl, qq0⟩
    refine hK _ _ (Since.trans (Since.refl _) qq0) ?_
    have qq : Since _ _ := qq0
    clear hK K qq0
    replace rp := rp.below qq (Nat.le_refl _)
    replace rq := rq.below qq (Nat.le_refl _)
    replace rr := rr.below qq (Nat.le_refl _)
    replace rm := rm.below qq (Nat.le_refl _)
    replace ru := ru.below qq (Nat.le_refl _)
    replace rv := rv.below qq (Nat.le_refl _)
    replace rt := rt.below qq (Nat.le_refl _)
    replace rz := rz.below qq (Nat.le_refl _)
    replace q1 := btrans q1 qq
    clear qq
    refine held_reads (rs := [39, 40, 41]) (fuel := 0) (by kernel_rfl) (fun c d v a w h => by cases d <;> exact h) (by kernel_rfl) (Since.refl _) (fun K hK => ?_)
    go_simp
    refine calm_do (.bool true) rfl (by rfl) (fun w' hw' => ?_) ?_
    · go_simp
    go_simp
    refine calm_do (.bool true) rfl (by rfl) (fun w' hw' => ?_) ?_
    · go_simp
    go_simp
    refine calm_assign _ rfl (by rfl) rfl ?_
    go_simp
    refine calm_nil (hK.out _ ?_)
    clear hK K
    refine wpAnyH_done (by kernel_rfl) ?_ _
    go_wp2
    go_ret
    exact ⟨rfl, q1⟩

end Go.Proofs.Ytichbednhdofoaa
