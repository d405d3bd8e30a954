/-
  The walk of layer 3's law PolyValues, out of the face of poly: it returns true; nothing old turns.
-/
import Derived.Test.YtmkjgacimbfblaaPolyLaws
namespace Go.Proofs.Ytmkjgacimbfblaa
open Go.RowKit
set_option linter.unusedVariables false

theorem norm_lin (x : Nat) : norm [x, 1] = [x, 1] := norm_of_last _ (.inr (by show 1 ≠ 0; decide))
theorem isP_lin {x : Nat} (h : x < 8192) : IsP [x, 1] := by
  intro y hy
  simp at hy
  omega
theorem evl_lin (x y : Nat) (hy : y < 8192) : evl [x, 1] y = x ^^^ y := by
  show x ^^^ gmul y (1 ^^^ gmul y 0) = _
  rw [gmul_zero, Nat.xor_zero, gmul_one y hy]
theorem rest_lin {p r s : List Nat} {x : Nat} (hx : x < 8192) (h : IsDiv p [x, 1] r s) : evl s 0 = evl p x := by
  have hl := h.short
  rw [norm_lin] at hl
  rw [← evl_eqv x h.back, evl_add, evl_mul _ _ x (isP_lin hx) h.hr hx, evl_lin x x hx, Nat.xor_self, zero_gmul _ (evl_lt h.hr x hx), Nat.zero_xor]
  match s, hl with
  | [], _ => rfl
  | [c], _ =>
    show c ^^^ gmul 0 0 = c ^^^ gmul x 0
    rw [gmul_zero, gmul_zero]
theorem rest_len {p r s : List Nat} {x : Nat} (h : IsDiv p [x, 1] r s) : s.length < 2 := by have := h.short; rwa [norm_lin] at this
theorem val_add (p q : List Nat) (x : Nat) : evl (norm (addL p q)) x = evl p x ^^^ evl q x := by rw [evl_eqv x (norm_eqv _), evl_add]
theorem val_mul (p q : List Nat) (x : Nat) (hp : IsP p) (hq : IsP q) (hx : x < 8192) : evl (norm (mulL p q)) x = gmul (evl p x) (evl q x) := by rw [evl_eqv x (norm_eqv _), evl_mul p q x hp hq hx]
theorem der_prod (p q : List Nat) (hp : IsP p) (hq : IsP q) : norm (derL (norm (mulL p q))) = norm (addL (norm (mulL (norm (derL p)) q)) (norm (mulL p (norm (derL q))))) :=
  norm_ext ((eqv_derL (norm_eqv _)).trans ((derL_mul p q hp hq).trans (eqv_addL ((mulL_left q (isP_derL hp) (isP_norm (isP_derL hp)) hq (norm_eqv _).symm).trans (norm_eqv _).symm) ((mulL_right p (norm_eqv _).symm).trans (norm_eqv _).symm))))

set_option maxHeartbeats 3200000 in
set_option maxRecDepth 100000 in
theorem walk_polyValues (hA : AddC) (hM : PMulC) (hD : DivC) (hE : EvalC) (hR : DeriveC) (a b : Option Addr) (l1 c1 l2 c2 : Nat) (xs ys : List Int) (x : Int) (w : World) (row_p : Row .i64 w a l1 c1 xs) (row_q : Row .i64 w b l2 c2 ys) :
    Calls Try.prog 6 #[.slice a l1 c1, .slice b l2 c2, .int .i64 x] w fun e w' => e = .returned (.bool true) ∧ Below w.heap.size w w' := by
  have m1 : l1 ≤ maxLen := Nat.le_trans row_p.hcap row_p.hmax
  have m2 : l2 ≤ maxLen := Nat.le_trans row_q.hcap row_q.hmax
  by_cases hs1 : l1 ≤ 60 ∧ l2 ≤ 60
  case neg =>
    have hb := small3_no hs1
    go_enter Try.func6, Try.ntmps6
    go_wp2_with fail
    refine (small3_any _ _ l1 _ l2 _ _ m1 m2).mono ?_
    rintro e w' ⟨rfl, rfl⟩
    rw [hb]
    go_wp2_with fail
    go_ret
    exact ⟨rfl, Below.refl _ _⟩
  have hb1 := small3_yes hs1.1 hs1.2
  cases hx : allE xs
  case false =>
    go_enter Try.func6, Try.ntmps6
    go_wp2_with fail
    refine (small3_any _ _ l1 _ l2 _ _ m1 m2).mono ?_
    rintro e w' ⟨rfl, rfl⟩
    rw [hb1]
    go_wp2_with fail
    refine (isP_any _ _ _ xs _ row_p).mono ?_
    rintro e w' ⟨rfl, rfl⟩
    rw [hx]
    go_wp2_with fail
    go_ret
    exact ⟨rfl, Below.refl _ _⟩
  cases hy : allE ys
  case false =>
    go_enter Try.func6, Try.ntmps6
    go_wp2_with fail
    refine (small3_any _ _ l1 _ l2 _ _ m1 m2).mono ?_
    rintro e w' ⟨rfl, rfl⟩
    rw [hb1]
    go_wp2_with fail
    refine (isP_any _ _ _ xs _ row_p).mono ?_
    rintro e w' ⟨rfl, rfl⟩
    rw [hx]
    go_wp2_with fail
    refine (isP_any _ _ _ ys _ row_q).mono ?_
    rintro e w' ⟨rfl, rfl⟩
    rw [hy]
    go_wp2_with fail
    go_ret
    exact ⟨rfl, Below.refl _ _⟩
  cases hxe : isE x
  case false =>
    go_enter Try.func6, Try.ntmps6
    go_wp2_with fail
    refine (small3_any _ _ l1 _ l2 _ _ m1 m2).mono ?_
    rintro e w' ⟨rfl, rfl⟩
    rw [hb1]
    go_wp2_with fail
    refine (isP_any _ _ _ xs _ row_p).mono ?_
    rintro e w' ⟨rfl, rfl⟩
    rw [hx]
    go_wp2_with fail
    refine (isP_any _ _ _ ys _ row_q).mono ?_
    rintro e w' ⟨rfl, rfl⟩
    rw [hy]
    go_wp2_with fail
    refine (is_any x _).mono ?_
    rintro e w' ⟨rfl, rfl⟩
    rw [hxe]
    go_wp2_with fail
    go_ret
    exact ⟨rfl, Below.refl _ _⟩
  obtain ⟨p, rfl, hp⟩ := allE_true hx
  obtain ⟨q', rfl, hq⟩ := allE_true hy
  have e1 := eq_len row_p
  have e2 := eq_len row_q
  have L1 : p.length ≤ 60 := by omega
  have L2 : q'.length ≤ 60 := by omega
  have Lp : l1 ≤ 10000 := by omega
  have Lq : l2 ≤ 10000 := by omega
  clear e1 e2
  obtain ⟨n, rfl, hn⟩ := isE_true hxe
  have hv1 := evl_lt hp n hn
  have hv2 := evl_lt hq n hn
  have H1 : Hid (evl (norm (addL p q')) n = evl p n ^^^ evl q' n) := val_add p q' n
  have H2 : Hid (evl (norm (mulL p q')) n = gmul (evl p n) (evl q' n)) := val_mul p q' n hp hq hn
  have H3 : Hid (∀ r s, IsDiv p [n, 1] r s → evl s 0 = evl p n ∧ s.length < 2) := fun r s h => ⟨rest_lin hn h, rest_len h⟩
  have H4 : Hid _ := der_prod p q' hp hq
  go_enter Try.func6, Try.ntmps6
  go_wp2_with fail
  refine (small3_any _ _ l1 _ l2 _ _ m1 m2).mono ?_
  rintro e w' ⟨rfl, rfl⟩
  rw [hb1]
  go_wp2_with fail
  refine (isP_any _ _ _ (ints p) _ row_p).mono ?_
  rintro e w' ⟨rfl, rfl⟩
  rw [hx]
  go_wp2_with fail
  refine (isP_any _ _ _ (ints q') _ row_q).mono ?_
  rintro e w' ⟨rfl, rfl⟩
  rw [hy]
  go_wp2_with fail
  refine (is_any n _).mono ?_
  rintro e w' ⟨rfl, rfl⟩
  rw [hxe]
  clear hx hy hxe hb1 m1 m2
  go_wp2_with fail
  refine (hE.yes _ _ _ p n _ row_p (by omega) hp hn).mono ?_
  rintro e wN ⟨rfl, q2⟩
  replace row_p := row_p.below q2 (Nat.le_refl _)
  replace row_q := row_q.below q2 (Nat.le_refl _)
  have q := q2
  clear q2
  go_wp2_with fail
  refine (hE.yes _ _ _ q' n _ row_q (by omega) hq hn).mono ?_
  rintro e wN ⟨rfl, q2⟩
  replace row_p := row_p.below q2 (Nat.le_refl _)
  replace row_q := row_q.below q2 (Nat.le_refl _)
  replace q := btrans q q2
  clear q2
  have len_u := len_add p q'
  go_wp2_with fail
  refine (addp_any hA _ _ _ _ _ _ p q' _ row_p row_q (by omega) (by omega) hp hq).mono ?_
  rintro e wN ⟨b_u, cp_u, rfl, row_u, q2⟩
  replace row_p := row_p.below q2 (Nat.le_refl _)
  replace row_q := row_q.below q2 (Nat.le_refl _)
  replace q := btrans q q2
  clear q2
  go_wp2_with fail
  refine (hE.yes _ _ _ (norm (addL p q')) n _ row_u (by omega) (isP_norm (isP_addL hp hq)) hn).mono ?_
  rintro e wN ⟨rfl, q2⟩
  replace row_p := row_p.below q2 (Nat.le_refl _)
  replace row_q := row_q.below q2 (Nat.le_refl _)
  replace row_u := row_u.below q2 (Nat.le_refl _)
  replace q := btrans q q2
  clear q2
  rw [H1.out]
  clear row_u
  have len_v := len_mul p q'
  go_wp2_with fail
  refine (mulp_any hM _ _ _ _ _ _ p q' _ row_p row_q (by omega) (by omega) hp hq).mono ?_
  rintro e wN ⟨b_v, cp_v, rfl, row_v, q2⟩
  replace row_p := row_p.below q2 (Nat.le_refl _)
  replace row_q := row_q.below q2 (Nat.le_refl _)
  replace q := btrans q q2
  clear q2
  go_wp2_with fail
  refine (hE.yes _ _ _ (norm (mulL p q')) n _ row_v (by omega) (isP_norm (isP_mulL _ hp)) hn).mono ?_
  rintro e wN ⟨rfl, q2⟩
  replace row_p := row_p.below q2 (Nat.le_refl _)
  replace row_q := row_q.below q2 (Nat.le_refl _)
  replace row_v := row_v.below q2 (Nat.le_refl _)
  replace q := btrans q q2
  clear q2
  rw [H2.out]
  clear row_v
  go_wp2_with fail
  have hrp := row_p.below (below_one wN (Obj.cells #[.int .i64 (n : Int), .int .i64 1] 3)) (Nat.le_refl _)
  have hrn := row_new .i64 wN 3 wN.heap.size rfl (ints [n, 1]) 2 rfl (by decide) #[.int .i64 (n : Int), .int .i64 1] rfl
  refine (hD.yes _ _ _ _ _ _ p [n, 1] _ hrp hrn Lp (by decide) hp (isP_lin hn) (by rw [norm_lin]; simp)).mono ?_
  clear hrp hrn
  rintro e wM ⟨r, s, hdiv, a_d, cp_d, c_d, cq_d, rfl, _, row_s, q2⟩
  replace q2 := btrans (below_one wN _) q2
  obtain ⟨hs1, hs2⟩ := H3.out r s hdiv
  have his := hdiv.hs
  have HS : Hid (evl s 0 = evl p n) := hs1
  clear hdiv hs1
  replace row_p := row_p.below q2 (Nat.le_refl _)
  replace row_q := row_q.below q2 (Nat.le_refl _)
  replace q := btrans q q2
  clear q2
  go_wp2_with fail
  refine (hE.yes _ _ _ s 0 _ row_s (by omega) his (by decide)).mono ?_
  rintro e wN ⟨rfl, q2⟩
  replace row_p := row_p.below q2 (Nat.le_refl _)
  replace row_q := row_q.below q2 (Nat.le_refl _)
  replace row_s := row_s.below q2 (Nat.le_refl _)
  replace q := btrans q q2
  clear q2
  rw [HS.out]
  clear row_s
  have len_v2 := len_mul p q'
  go_wp2_with fail
  refine (mulp_any hM _ _ _ _ _ _ p q' _ row_p row_q (by omega) (by omega) hp hq).mono ?_
  rintro e wN ⟨b_v2, cp_v2, rfl, row_v2, q2⟩
  replace row_p := row_p.below q2 (Nat.le_refl _)
  replace row_q := row_q.below q2 (Nat.le_refl _)
  replace q := btrans q q2
  clear q2
  have len_d := len_der (norm (mulL p q'))
  go_wp2_with fail
  refine (hR.yes _ _ _ (norm (mulL p q')) _ row_v2 (by omega) (isP_norm (isP_mulL _ hp))).mono ?_
  rintro e wN ⟨b_d, cp_d, rfl, row_d, q2⟩
  replace row_p := row_p.below q2 (Nat.le_refl _)
  replace row_q := row_q.below q2 (Nat.le_refl _)
  replace row_v2 := row_v2.below q2 (Nat.le_refl _)
  replace q := btrans q q2
  clear q2
  clear row_v2
  have len_du := len_der p
  go_wp2_with fail
  refine (hR.yes _ _ _ p _ row_p (by omega) hp).mono ?_
  rintro e wN ⟨b_du, cp_du, rfl, row_du, q2⟩
  replace row_p := row_p.below q2 (Nat.le_refl _)
  replace row_q := row_q.below q2 (Nat.le_refl _)
  replace row_d := row_d.below q2 (Nat.le_refl _)
  replace q := btrans q q2
  clear q2
  have len_dv := len_der q'
  go_wp2_with fail
  refine (hR.yes _ _ _ q' _ row_q (by omega) hq).mono ?_
  rintro e wN ⟨b_dv, cp_dv, rfl, row_dv, q2⟩
  replace row_p := row_p.below q2 (Nat.le_refl _)
  replace row_q := row_q.below q2 (Nat.le_refl _)
  replace row_d := row_d.below q2 (Nat.le_refl _)
  replace row_du := row_du.below q2 (Nat.le_refl _)
  replace q := btrans q q2
  clear q2
  go_wp2_with fail
  refine (awake_any hM hD hE _).mono ?_
  rintro e wN ⟨rfl, q2⟩
  replace row_p := row_p.below q2 (Nat.le_refl _)
  replace row_q := row_q.below q2 (Nat.le_refl _)
  replace row_d := row_d.below q2 (Nat.le_refl _)
  replace row_du := row_du.below q2 (Nat.le_refl _)
  replace row_dv := row_dv.below q2 (Nat.le_refl _)
  replace q := btrans q q2
  clear q2
  go_wp2_with fail
  refine (sum_any (evl p n) (evl q' n) _ (by omega) (by omega)).mono ?_
  rintro e w' ⟨rfl, rfl⟩
  go_wp2_with fail
  refine (refMul_any (evl p n) (evl q' n) _ hv1 hv2).mono ?_
  rintro e w' ⟨rfl, rfl⟩
  have len_x1 := len_mul (norm (derL p)) q'
  go_wp2_with fail
  refine (mulp_any hM _ _ _ _ _ _ (norm (derL p)) q' _ row_du row_q (by omega) (by omega) (isP_norm (isP_derL hp)) hq).mono ?_
  rintro e wN ⟨b_x1, cp_x1, rfl, row_x1, q2⟩
  replace row_p := row_p.below q2 (Nat.le_refl _)
  replace row_q := row_q.below q2 (Nat.le_refl _)
  replace row_d := row_d.below q2 (Nat.le_refl _)
  replace row_du := row_du.below q2 (Nat.le_refl _)
  replace row_dv := row_dv.below q2 (Nat.le_refl _)
  replace q := btrans q q2
  clear q2
  have len_x2 := len_mul p (norm (derL q'))
  go_wp2_with fail
  refine (mulp_any hM _ _ _ _ _ _ p (norm (derL q')) _ row_p row_dv (by omega) (by omega) hp (isP_norm (isP_derL hq))).mono ?_
  rintro e wN ⟨b_x2, cp_x2, rfl, row_x2, q2⟩
  replace row_p := row_p.below q2 (Nat.le_refl _)
  replace row_q := row_q.below q2 (Nat.le_refl _)
  replace row_d := row_d.below q2 (Nat.le_refl _)
  replace row_du := row_du.below q2 (Nat.le_refl _)
  replace row_dv := row_dv.below q2 (Nat.le_refl _)
  replace row_x1 := row_x1.below q2 (Nat.le_refl _)
  replace q := btrans q q2
  clear q2
  have len_x3 := len_add (norm (mulL (norm (derL p)) q')) (norm (mulL p (norm (derL q'))))
  go_wp2_with fail
  refine (addp_any hA _ _ _ _ _ _ (norm (mulL (norm (derL p)) q')) (norm (mulL p (norm (derL q')))) _ row_x1 row_x2 (by omega) (by omega) (isP_norm (isP_mulL _ (isP_norm (isP_derL hp)))) (isP_norm (isP_mulL _ hp))).mono ?_
  rintro e wN ⟨b_x3, cp_x3, rfl, row_x3, q2⟩
  replace row_p := row_p.below q2 (Nat.le_refl _)
  replace row_q := row_q.below q2 (Nat.le_refl _)
  replace row_d := row_d.below q2 (Nat.le_refl _)
  replace row_du := row_du.below q2 (Nat.le_refl _)
  replace row_dv := row_dv.below q2 (Nat.le_refl _)
  replace row_x1 := row_x1.below q2 (Nat.le_refl _)
  replace row_x2 := row_x2.below q2 (Nat.le_refl _)
  replace q := btrans q q2
  clear q2
  go_wp2_with fail
  refine (ints_any _ _ _ _ _ _ (ints (norm (derL (norm (mulL p q'))))) (ints (norm (addL (norm (mulL (norm (derL p)) q')) (norm (mulL p (norm (derL q'))))))) _ row_d row_x3).mono ?_
  rintro e wN ⟨rfl, q2⟩
  replace row_p := row_p.below q2 (Nat.le_refl _)
  replace row_q := row_q.below q2 (Nat.le_refl _)
  replace row_d := row_d.below q2 (Nat.le_refl _)
  replace row_du := row_du.below q2 (Nat.le_refl _)
  replace row_dv := row_dv.below q2 (Nat.le_refl _)
  replace row_x1 := row_x1.below q2 (Nat.le_refl _)
  replace row_x2 := row_x2.below q2 (Nat.le_refl _)
  replace row_x3 := row_x3.below q2 (Nat.le_refl _)
  replace q := btrans q q2
  clear q2
  rw [show decide (ints (norm (derL (norm (mulL p q')))) = ints (norm (addL (norm (mulL (norm (derL p)) q')) (norm (mulL p (norm (derL q'))))))) = true from by rw [H4.out]; simp]
  go_wp2_with fail
  go_ret
  exact ⟨rfl, q⟩

end Go.Proofs.Ytmkjgacimbfblaa
