/-
  The walks of layer 3's laws, out of the face of poly: each returns true; nothing old turns.
-/
import Derived.Test.YtmkjgacimbfblaaPolyFace
namespace Go.Proofs.Ytmkjgacimbfblaa
open Go.RowKit
set_option linter.unusedVariables false

theorem len_add (p q : List Nat) : (norm (addL p q)).length ≤ p.length + q.length := norm_len_le _ _ fun i hi => by
  rw [cf_addL, cf_big p i (by omega), cf_big q i (by omega)]; rfl
theorem len_mul (p q : List Nat) : (norm (mulL p q)).length ≤ p.length + q.length := norm_len_le _ _ fun i hi => mulL_high p q i hi
theorem len_der (p : List Nat) : (norm (derL p)).length ≤ p.length := norm_len_le _ _ fun i hi => by
  rw [cf_derL, cf_big p (i + 1) (by omega)]; split <;> rfl
theorem eq_len {k : IntKind} {w : World} {a : Option Addr} {len cap : Nat} {p : List Nat} (h : Row k w a len cap (ints p)) : p.length = len := by have := h.hlen; rwa [length_ints] at this

theorem pl_assoc_add (p q r : List Nat) : norm (addL (norm (addL p q)) r) = norm (addL p (norm (addL q r))) :=
  norm_ext ((eqv_addL (norm_eqv _) (Eqv.refl r)).trans ((addL_assoc p q r).trans (eqv_addL (Eqv.refl p) (norm_eqv _).symm)))
theorem pl_comm_mul (p q : List Nat) (hp : IsP p) (hq : IsP q) : norm (mulL p q) = norm (mulL q p) := norm_ext (mulL_comm p q hp hq)
theorem pl_assoc_mul (p q r : List Nat) (hp : IsP p) (hq : IsP q) (hr : IsP r) : norm (mulL (norm (mulL p q)) r) = norm (mulL p (norm (mulL q r))) :=
  norm_ext ((mulL_left r (isP_norm (isP_mulL q hp)) (isP_mulL q hp) hr (norm_eqv _)).trans ((mulL_assoc p q r hp hq hr).trans (mulL_right p (norm_eqv _).symm)))
theorem pl_dist (p q r : List Nat) : norm (mulL p (norm (addL q r))) = norm (addL (norm (mulL p q)) (norm (mulL p r))) :=
  norm_ext ((mulL_right p (norm_eqv _)).trans ((mulL_add_right p q r).trans (eqv_addL (norm_eqv _).symm (norm_eqv _).symm)))

set_option maxHeartbeats 3200000 in
set_option maxRecDepth 100000 in
theorem walk_polyLaws (hA : AddC) (hM : PMulC) (hD : DivC) (hE : EvalC) (a b c : Option Addr) (l1 c1 l2 c2 l3 c3 : Nat) (xs ys zs : List Int) (w : World) (row_p : Row .i64 w a l1 c1 xs) (row_q : Row .i64 w b l2 c2 ys) (row_r : Row .i64 w c l3 c3 zs) :
    Calls Try.prog 5 #[.slice a l1 c1, .slice b l2 c2, .slice c l3 c3] w fun e w' => e = .returned (.bool true) ∧ Below w.heap.size w w' := by
  have m1 : l1 ≤ maxLen := Nat.le_trans row_p.hcap row_p.hmax
  have m2 : l2 ≤ maxLen := Nat.le_trans row_q.hcap row_q.hmax
  have m3 : l3 ≤ maxLen := Nat.le_trans row_r.hcap row_r.hmax
  by_cases hs1 : l1 ≤ 60 ∧ l2 ≤ 60
  case neg =>
    have hb := small3_no hs1
    go_enter Try.func5, Try.ntmps5
    go_wp2_with fail
    refine (small3_any _ _ l1 _ l2 _ _ m1 m2).mono ?_
    rintro e w' ⟨rfl, rfl⟩
    rw [hb]
    go_wp2_with fail
    go_ret
    exact ⟨rfl, Below.refl _ _⟩
  have hb1 := small3_yes hs1.1 hs1.2
  by_cases hs2 : l3 ≤ 60 ∧ 0 ≤ 60
  case neg =>
    have hb := small3_no hs2
    go_enter Try.func5, Try.ntmps5
    go_wp2_with fail
    refine (small3_any _ _ l1 _ l2 _ _ m1 m2).mono ?_
    rintro e w' ⟨rfl, rfl⟩
    rw [hb1]
    go_wp2_with fail
    refine (small3_any _ _ l3 _ 0 _ _ m3 (Nat.zero_le _)).mono ?_
    rintro e w' ⟨rfl, rfl⟩
    rw [hb]
    go_wp2_with fail
    go_ret
    exact ⟨rfl, Below.refl _ _⟩
  have hb2 := small3_yes hs2.1 hs2.2
  cases hx : allE xs
  case false =>
    go_enter Try.func5, Try.ntmps5
    go_wp2_with fail
    refine (small3_any _ _ l1 _ l2 _ _ m1 m2).mono ?_
    rintro e w' ⟨rfl, rfl⟩
    rw [hb1]
    go_wp2_with fail
    refine (small3_any _ _ l3 _ 0 _ _ m3 (Nat.zero_le _)).mono ?_
    rintro e w' ⟨rfl, rfl⟩
    rw [hb2]
    go_wp2_with fail
    refine (isP_any _ _ _ xs _ row_p).mono ?_
    rintro e w' ⟨rfl, rfl⟩
    rw [hx]
    go_wp2_with fail
    go_ret
    exact ⟨rfl, Below.refl _ _⟩
  cases hy : allE ys
  case false =>
    go_enter Try.func5, Try.ntmps5
    go_wp2_with fail
    refine (small3_any _ _ l1 _ l2 _ _ m1 m2).mono ?_
    rintro e w' ⟨rfl, rfl⟩
    rw [hb1]
    go_wp2_with fail
    refine (small3_any _ _ l3 _ 0 _ _ m3 (Nat.zero_le _)).mono ?_
    rintro e w' ⟨rfl, rfl⟩
    rw [hb2]
    go_wp2_with fail
    refine (isP_any _ _ _ xs _ row_p).mono ?_
    rintro e w' ⟨rfl, rfl⟩
    rw [hx]
    go_wp2_with fail
    refine (isP_any _ _ _ ys _ row_q).mono ?_
    rintro e w' ⟨rfl, rfl⟩
    rw [hy]
    go_wp2_with fail
    go_ret
    exact ⟨rfl, Below.refl _ _⟩
  cases hz : allE zs
  case false =>
    go_enter Try.func5, Try.ntmps5
    go_wp2_with fail
    refine (small3_any _ _ l1 _ l2 _ _ m1 m2).mono ?_
    rintro e w' ⟨rfl, rfl⟩
    rw [hb1]
    go_wp2_with fail
    refine (small3_any _ _ l3 _ 0 _ _ m3 (Nat.zero_le _)).mono ?_
    rintro e w' ⟨rfl, rfl⟩
    rw [hb2]
    go_wp2_with fail
    refine (isP_any _ _ _ xs _ row_p).mono ?_
    rintro e w' ⟨rfl, rfl⟩
    rw [hx]
    go_wp2_with fail
    refine (isP_any _ _ _ ys _ row_q).mono ?_
    rintro e w' ⟨rfl, rfl⟩
    rw [hy]
    go_wp2_with fail
    refine (isP_any _ _ _ zs _ row_r).mono ?_
    rintro e w' ⟨rfl, rfl⟩
    rw [hz]
    go_wp2_with fail
    go_ret
    exact ⟨rfl, Below.refl _ _⟩
  obtain ⟨p, rfl, hp⟩ := allE_true hx
  obtain ⟨q', rfl, hq⟩ := allE_true hy
  obtain ⟨r, rfl, hr⟩ := allE_true hz
  have HE1 := norm_ext (addL_comm p q')
  have HE2 := pl_assoc_add p q' r
  have HE3 := pl_comm_mul p q' hp hq
  have HE4 := pl_assoc_mul p q' r hp hq hr
  have HE5 := pl_dist p q' r
  have H1 : Hid _ := HE1
  have H2 : Hid _ := HE2
  have H3 : Hid _ := HE3
  have H4 : Hid _ := HE4
  have H5 : Hid _ := HE5
  clear HE1 HE2 HE3 HE4 HE5
  have e1 := eq_len row_p
  have e2 := eq_len row_q
  have e3 := eq_len row_r
  have L1 : p.length ≤ 60 := by omega
  have L2 : q'.length ≤ 60 := by omega
  have L3 : r.length ≤ 60 := by omega
  clear e1 e2 e3
  go_enter Try.func5, Try.ntmps5
  go_wp2_with fail
  refine (small3_any _ _ l1 _ l2 _ _ m1 m2).mono ?_
  rintro e w' ⟨rfl, rfl⟩
  rw [hb1]
  go_wp2_with fail
  refine (small3_any _ _ l3 _ 0 _ _ m3 (Nat.zero_le _)).mono ?_
  rintro e w' ⟨rfl, rfl⟩
  rw [hb2]
  go_wp2_with fail
  refine (isP_any _ _ _ (ints p) _ row_p).mono ?_
  rintro e w' ⟨rfl, rfl⟩
  rw [hx]
  go_wp2_with fail
  refine (isP_any _ _ _ (ints q') _ row_q).mono ?_
  rintro e w' ⟨rfl, rfl⟩
  rw [hy]
  go_wp2_with fail
  refine (isP_any _ _ _ (ints r) _ row_r).mono ?_
  rintro e w' ⟨rfl, rfl⟩
  rw [hz]
  clear hx hy hz hb1 hb2 m1 m2 m3
  go_wp2_with fail
  refine (awake_any hM hD hE _).mono ?_
  rintro e wN ⟨rfl, q2⟩
  replace row_p := row_p.below q2 (Nat.le_refl _)
  replace row_q := row_q.below q2 (Nat.le_refl _)
  replace row_r := row_r.below q2 (Nat.le_refl _)
  have q := q2
  clear q2
  have len_u1 := len_add p q'
  go_wp2_with fail
  refine (addp_any hA _ _ _ _ _ _ p q' _ row_p row_q (by omega) (by omega) hp hq).mono ?_
  rintro e wN ⟨b_u1, cp_u1, rfl, row_u1, q2⟩
  replace row_p := row_p.below q2 (Nat.le_refl _)
  replace row_q := row_q.below q2 (Nat.le_refl _)
  replace row_r := row_r.below q2 (Nat.le_refl _)
  replace q := btrans q q2
  clear q2
  have len_u2 := len_add q' p
  go_wp2_with fail
  refine (addp_any hA _ _ _ _ _ _ q' p _ row_q row_p (by omega) (by omega) hq hp).mono ?_
  rintro e wN ⟨b_u2, cp_u2, rfl, row_u2, q2⟩
  replace row_p := row_p.below q2 (Nat.le_refl _)
  replace row_q := row_q.below q2 (Nat.le_refl _)
  replace row_r := row_r.below q2 (Nat.le_refl _)
  replace row_u1 := row_u1.below q2 (Nat.le_refl _)
  replace q := btrans q q2
  clear q2
  go_wp2_with fail
  refine (ints_any _ _ _ _ _ _ (ints (norm (addL p q'))) (ints (norm (addL q' p))) _ row_u1 row_u2).mono ?_
  rintro e wN ⟨rfl, q2⟩
  replace row_p := row_p.below q2 (Nat.le_refl _)
  replace row_q := row_q.below q2 (Nat.le_refl _)
  replace row_r := row_r.below q2 (Nat.le_refl _)
  replace row_u1 := row_u1.below q2 (Nat.le_refl _)
  replace row_u2 := row_u2.below q2 (Nat.le_refl _)
  replace q := btrans q q2
  clear q2
  rw [show decide (ints (norm (addL p q')) = ints (norm (addL q' p))) = true from by rw [H1.out]; simp]
  clear row_u1 row_u2
  have len_u3 := len_add p q'
  go_wp2_with fail
  refine (addp_any hA _ _ _ _ _ _ p q' _ row_p row_q (by omega) (by omega) hp hq).mono ?_
  rintro e wN ⟨b_u3, cp_u3, rfl, row_u3, q2⟩
  replace row_p := row_p.below q2 (Nat.le_refl _)
  replace row_q := row_q.below q2 (Nat.le_refl _)
  replace row_r := row_r.below q2 (Nat.le_refl _)
  replace q := btrans q q2
  clear q2
  have len_u4 := len_add (norm (addL p q')) r
  go_wp2_with fail
  refine (addp_any hA _ _ _ _ _ _ (norm (addL p q')) r _ row_u3 row_r (by omega) (by omega) (isP_norm (isP_addL hp hq)) hr).mono ?_
  rintro e wN ⟨b_u4, cp_u4, rfl, row_u4, q2⟩
  replace row_p := row_p.below q2 (Nat.le_refl _)
  replace row_q := row_q.below q2 (Nat.le_refl _)
  replace row_r := row_r.below q2 (Nat.le_refl _)
  replace row_u3 := row_u3.below q2 (Nat.le_refl _)
  replace q := btrans q q2
  clear q2
  have len_u5 := len_add q' r
  go_wp2_with fail
  refine (addp_any hA _ _ _ _ _ _ q' r _ row_q row_r (by omega) (by omega) hq hr).mono ?_
  rintro e wN ⟨b_u5, cp_u5, rfl, row_u5, q2⟩
  replace row_p := row_p.below q2 (Nat.le_refl _)
  replace row_q := row_q.below q2 (Nat.le_refl _)
  replace row_r := row_r.below q2 (Nat.le_refl _)
  replace row_u3 := row_u3.below q2 (Nat.le_refl _)
  replace row_u4 := row_u4.below q2 (Nat.le_refl _)
  replace q := btrans q q2
  clear q2
  have len_u6 := len_add p (norm (addL q' r))
  go_wp2_with fail
  refine (addp_any hA _ _ _ _ _ _ p (norm (addL q' r)) _ row_p row_u5 (by omega) (by omega) hp (isP_norm (isP_addL hq hr))).mono ?_
  rintro e wN ⟨b_u6, cp_u6, rfl, row_u6, q2⟩
  replace row_p := row_p.below q2 (Nat.le_refl _)
  replace row_q := row_q.below q2 (Nat.le_refl _)
  replace row_r := row_r.below q2 (Nat.le_refl _)
  replace row_u3 := row_u3.below q2 (Nat.le_refl _)
  replace row_u4 := row_u4.below q2 (Nat.le_refl _)
  replace row_u5 := row_u5.below q2 (Nat.le_refl _)
  replace q := btrans q q2
  clear q2
  go_wp2_with fail
  refine (ints_any _ _ _ _ _ _ (ints (norm (addL (norm (addL p q')) r))) (ints (norm (addL p (norm (addL q' r))))) _ row_u4 row_u6).mono ?_
  rintro e wN ⟨rfl, q2⟩
  replace row_p := row_p.below q2 (Nat.le_refl _)
  replace row_q := row_q.below q2 (Nat.le_refl _)
  replace row_r := row_r.below q2 (Nat.le_refl _)
  replace row_u3 := row_u3.below q2 (Nat.le_refl _)
  replace row_u4 := row_u4.below q2 (Nat.le_refl _)
  replace row_u5 := row_u5.below q2 (Nat.le_refl _)
  replace row_u6 := row_u6.below q2 (Nat.le_refl _)
  replace q := btrans q q2
  clear q2
  rw [show decide (ints (norm (addL (norm (addL p q')) r)) = ints (norm (addL p (norm (addL q' r))))) = true from by rw [H2.out]; simp]
  clear row_u3 row_u4 row_u5 row_u6
  have len_u7 := len_mul p q'
  go_wp2_with fail
  refine (mulp_any hM _ _ _ _ _ _ p q' _ row_p row_q (by omega) (by omega) hp hq).mono ?_
  rintro e wN ⟨b_u7, cp_u7, rfl, row_u7, q2⟩
  replace row_p := row_p.below q2 (Nat.le_refl _)
  replace row_q := row_q.below q2 (Nat.le_refl _)
  replace row_r := row_r.below q2 (Nat.le_refl _)
  replace q := btrans q q2
  clear q2
  have len_u8 := len_mul q' p
  go_wp2_with fail
  refine (mulp_any hM _ _ _ _ _ _ q' p _ row_q row_p (by omega) (by omega) hq hp).mono ?_
  rintro e wN ⟨b_u8, cp_u8, rfl, row_u8, q2⟩
  replace row_p := row_p.below q2 (Nat.le_refl _)
  replace row_q := row_q.below q2 (Nat.le_refl _)
  replace row_r := row_r.below q2 (Nat.le_refl _)
  replace row_u7 := row_u7.below q2 (Nat.le_refl _)
  replace q := btrans q q2
  clear q2
  go_wp2_with fail
  refine (ints_any _ _ _ _ _ _ (ints (norm (mulL p q'))) (ints (norm (mulL q' p))) _ row_u7 row_u8).mono ?_
  rintro e wN ⟨rfl, q2⟩
  replace row_p := row_p.below q2 (Nat.le_refl _)
  replace row_q := row_q.below q2 (Nat.le_refl _)
  replace row_r := row_r.below q2 (Nat.le_refl _)
  replace row_u7 := row_u7.below q2 (Nat.le_refl _)
  replace row_u8 := row_u8.below q2 (Nat.le_refl _)
  replace q := btrans q q2
  clear q2
  rw [show decide (ints (norm (mulL p q')) = ints (norm (mulL q' p))) = true from by rw [H3.out]; simp]
  clear row_u7 row_u8
  have len_u9 := len_mul p q'
  go_wp2_with fail
  refine (mulp_any hM _ _ _ _ _ _ p q' _ row_p row_q (by omega) (by omega) hp hq).mono ?_
  rintro e wN ⟨b_u9, cp_u9, rfl, row_u9, q2⟩
  replace row_p := row_p.below q2 (Nat.le_refl _)
  replace row_q := row_q.below q2 (Nat.le_refl _)
  replace row_r := row_r.below q2 (Nat.le_refl _)
  replace q := btrans q q2
  clear q2
  have len_v1 := len_mul (norm (mulL p q')) r
  go_wp2_with fail
  refine (mulp_any hM _ _ _ _ _ _ (norm (mulL p q')) r _ row_u9 row_r (by omega) (by omega) (isP_norm (isP_mulL _ hp)) hr).mono ?_
  rintro e wN ⟨b_v1, cp_v1, rfl, row_v1, q2⟩
  replace row_p := row_p.below q2 (Nat.le_refl _)
  replace row_q := row_q.below q2 (Nat.le_refl _)
  replace row_r := row_r.below q2 (Nat.le_refl _)
  replace row_u9 := row_u9.below q2 (Nat.le_refl _)
  replace q := btrans q q2
  clear q2
  have len_v2 := len_mul q' r
  go_wp2_with fail
  refine (mulp_any hM _ _ _ _ _ _ q' r _ row_q row_r (by omega) (by omega) hq hr).mono ?_
  rintro e wN ⟨b_v2, cp_v2, rfl, row_v2, q2⟩
  replace row_p := row_p.below q2 (Nat.le_refl _)
  replace row_q := row_q.below q2 (Nat.le_refl _)
  replace row_r := row_r.below q2 (Nat.le_refl _)
  replace row_u9 := row_u9.below q2 (Nat.le_refl _)
  replace row_v1 := row_v1.below q2 (Nat.le_refl _)
  replace q := btrans q q2
  clear q2
  have len_v3 := len_mul p (norm (mulL q' r))
  go_wp2_with fail
  refine (mulp_any hM _ _ _ _ _ _ p (norm (mulL q' r)) _ row_p row_v2 (by omega) (by omega) hp (isP_norm (isP_mulL _ hq))).mono ?_
  rintro e wN ⟨b_v3, cp_v3, rfl, row_v3, q2⟩
  replace row_p := row_p.below q2 (Nat.le_refl _)
  replace row_q := row_q.below q2 (Nat.le_refl _)
  replace row_r := row_r.below q2 (Nat.le_refl _)
  replace row_u9 := row_u9.below q2 (Nat.le_refl _)
  replace row_v1 := row_v1.below q2 (Nat.le_refl _)
  replace row_v2 := row_v2.below q2 (Nat.le_refl _)
  replace q := btrans q q2
  clear q2
  go_wp2_with fail
  refine (ints_any _ _ _ _ _ _ (ints (norm (mulL (norm (mulL p q')) r))) (ints (norm (mulL p (norm (mulL q' r))))) _ row_v1 row_v3).mono ?_
  rintro e wN ⟨rfl, q2⟩
  replace row_p := row_p.below q2 (Nat.le_refl _)
  replace row_q := row_q.below q2 (Nat.le_refl _)
  replace row_r := row_r.below q2 (Nat.le_refl _)
  replace row_u9 := row_u9.below q2 (Nat.le_refl _)
  replace row_v1 := row_v1.below q2 (Nat.le_refl _)
  replace row_v2 := row_v2.below q2 (Nat.le_refl _)
  replace row_v3 := row_v3.below q2 (Nat.le_refl _)
  replace q := btrans q q2
  clear q2
  rw [show decide (ints (norm (mulL (norm (mulL p q')) r)) = ints (norm (mulL p (norm (mulL q' r))))) = true from by rw [H4.out]; simp]
  clear row_u9 row_v1 row_v2 row_v3
  have len_v4 := len_add q' r
  go_wp2_with fail
  refine (addp_any hA _ _ _ _ _ _ q' r _ row_q row_r (by omega) (by omega) hq hr).mono ?_
  rintro e wN ⟨b_v4, cp_v4, rfl, row_v4, q2⟩
  replace row_p := row_p.below q2 (Nat.le_refl _)
  replace row_q := row_q.below q2 (Nat.le_refl _)
  replace row_r := row_r.below q2 (Nat.le_refl _)
  replace q := btrans q q2
  clear q2
  have len_v5 := len_mul p (norm (addL q' r))
  go_wp2_with fail
  refine (mulp_any hM _ _ _ _ _ _ p (norm (addL q' r)) _ row_p row_v4 (by omega) (by omega) hp (isP_norm (isP_addL hq hr))).mono ?_
  rintro e wN ⟨b_v5, cp_v5, rfl, row_v5, q2⟩
  replace row_p := row_p.below q2 (Nat.le_refl _)
  replace row_q := row_q.below q2 (Nat.le_refl _)
  replace row_r := row_r.below q2 (Nat.le_refl _)
  replace row_v4 := row_v4.below q2 (Nat.le_refl _)
  replace q := btrans q q2
  clear q2
  have len_v6 := len_mul p q'
  go_wp2_with fail
  refine (mulp_any hM _ _ _ _ _ _ p q' _ row_p row_q (by omega) (by omega) hp hq).mono ?_
  rintro e wN ⟨b_v6, cp_v6, rfl, row_v6, q2⟩
  replace row_p := row_p.below q2 (Nat.le_refl _)
  replace row_q := row_q.below q2 (Nat.le_refl _)
  replace row_r := row_r.below q2 (Nat.le_refl _)
  replace row_v4 := row_v4.below q2 (Nat.le_refl _)
  replace row_v5 := row_v5.below q2 (Nat.le_refl _)
  replace q := btrans q q2
  clear q2
  have len_v7 := len_mul p r
  go_wp2_with fail
  refine (mulp_any hM _ _ _ _ _ _ p r _ row_p row_r (by omega) (by omega) hp hr).mono ?_
  rintro e wN ⟨b_v7, cp_v7, rfl, row_v7, q2⟩
  replace row_p := row_p.below q2 (Nat.le_refl _)
  replace row_q := row_q.below q2 (Nat.le_refl _)
  replace row_r := row_r.below q2 (Nat.le_refl _)
  replace row_v4 := row_v4.below q2 (Nat.le_refl _)
  replace row_v5 := row_v5.below q2 (Nat.le_refl _)
  replace row_v6 := row_v6.below q2 (Nat.le_refl _)
  replace q := btrans q q2
  clear q2
  have len_v8 := len_add (norm (mulL p q')) (norm (mulL p r))
  go_wp2_with fail
  refine (addp_any hA _ _ _ _ _ _ (norm (mulL p q')) (norm (mulL p r)) _ row_v6 row_v7 (by omega) (by omega) (isP_norm (isP_mulL _ hp)) (isP_norm (isP_mulL _ hp))).mono ?_
  rintro e wN ⟨b_v8, cp_v8, rfl, row_v8, q2⟩
  replace row_p := row_p.below q2 (Nat.le_refl _)
  replace row_q := row_q.below q2 (Nat.le_refl _)
  replace row_r := row_r.below q2 (Nat.le_refl _)
  replace row_v4 := row_v4.below q2 (Nat.le_refl _)
  replace row_v5 := row_v5.below q2 (Nat.le_refl _)
  replace row_v6 := row_v6.below q2 (Nat.le_refl _)
  replace row_v7 := row_v7.below q2 (Nat.le_refl _)
  replace q := btrans q q2
  clear q2
  go_wp2_with fail
  refine (ints_any _ _ _ _ _ _ (ints (norm (mulL p (norm (addL q' r))))) (ints (norm (addL (norm (mulL p q')) (norm (mulL p r))))) _ row_v5 row_v8).mono ?_
  rintro e wN ⟨rfl, q2⟩
  replace row_p := row_p.below q2 (Nat.le_refl _)
  replace row_q := row_q.below q2 (Nat.le_refl _)
  replace row_r := row_r.below q2 (Nat.le_refl _)
  replace row_v4 := row_v4.below q2 (Nat.le_refl _)
  replace row_v5 := row_v5.below q2 (Nat.le_refl _)
  replace row_v6 := row_v6.below q2 (Nat.le_refl _)
  replace row_v7 := row_v7.below q2 (Nat.le_refl _)
  replace row_v8 := row_v8.below q2 (Nat.le_refl _)
  replace q := btrans q q2
  clear q2
  rw [show decide (ints (norm (mulL p (norm (addL q' r)))) = ints (norm (addL (norm (mulL p q')) (norm (mulL p r))))) = true from by rw [H5.out]; simp]
  clear row_v4 row_v5 row_v6 row_v7 row_v8
  go_wp2_with fail
  go_ret
  exact ⟨rfl, q⟩

end Go.Proofs.Ytmkjgacimbfblaa
