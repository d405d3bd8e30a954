/-
  The walk of layer 3's law PolyReckons, out of the face of poly: it returns true; nothing old turns.
-/
import Derived.Test.YtmkjgacimbfblaaPolyLaws
namespace Go.Proofs.Ytmkjgacimbfblaa
open Go.RowKit
set_option linter.unusedVariables false

set_option maxHeartbeats 3200000 in
set_option maxRecDepth 100000 in
theorem walk_polyReckons (hA : AddC) (hM : PMulC) (hD : DivC) (hE : EvalC) (hN : NormC) (hR : DeriveC) (a b : Option Addr) (l1 c1 l2 c2 : Nat) (xs ys : List Int) (x : Int) (w : World) (row_p : Row .i64 w a l1 c1 xs) (row_q : Row .i64 w b l2 c2 ys) :
    Calls Try.prog 3 #[.slice a l1 c1, .slice b l2 c2, .int .i64 x] w fun e w' => e = .returned (.bool true) ∧ Below w.heap.size w w' := by
  have m1 : l1 ≤ maxLen := Nat.le_trans row_p.hcap row_p.hmax
  have m2 : l2 ≤ maxLen := Nat.le_trans row_q.hcap row_q.hmax
  by_cases hs1 : l1 ≤ 60 ∧ l2 ≤ 60
  case neg =>
    have hb := small3_no hs1
    go_enter Try.func3, Try.ntmps3
    go_wp2_with fail
    refine (small3_any _ _ l1 _ l2 _ _ m1 m2).mono ?_
    rintro e w' ⟨rfl, rfl⟩
    rw [hb]
    go_wp2_with fail
    go_ret
    exact ⟨rfl, Below.refl _ _⟩
  have hb1 := small3_yes hs1.1 hs1.2
  have Lp : l1 ≤ 10000 := by omega
  have Lq : l2 ≤ 10000 := by omega
  obtain ⟨i0, hi0, hz0, hz1, hz2⟩ := info_parts Try.info3
  have hown0 := World.ownsRow_lit (base := w.heap.size) (e := 3) (size := 1) w #[] 0 (Nat.le_refl _) (Nat.zero_le _) rfl
  cases hx : allE xs
  case false =>
    go_enter Try.func3, Try.ntmps3
    go_wp2_with fail
    refine (small3_any _ _ l1 _ l2 _ _ m1 m2).mono ?_
    rintro e w' ⟨rfl, rfl⟩
    rw [hb1]
    have hr0 := row_p.below (below_one w (Obj.cells #[] 3)) (Nat.le_refl _)
    go_wp2_with (at_builtin; refine wpList_append_row _ rfl _ _ 22 rfl w.heap.size 3 i0 (.int .i64 0) 8 Try.underlying22 hi0 hz0 hz1 hz2 rfl _ 0 [] rfl hown0 .i64 a l1 c1 xs rfl hr0 (by unfold maxLen; omega) (by omega) (by simp) ?_)
    intro v w1 hown1 hgrow1
    have q2 : Below w.heap.size w w1 := (below_one w (Obj.cells #[] 3)).grown hgrow1 (by simp) (fun k hk => by simp [Value.ownBlock] at hk; omega)
    have hown1' : w1.ownsRow w.heap.size 3 1 v l1 (xs.map (Value.int .i64)) := by simpa using hown1
    obtain ⟨ao, capo, rfl, row_o⟩ := row_of_owns hown1'
    clear hown1 hown1' hgrow1 hr0 hown0
    replace row_p := row_p.below q2 (Nat.le_refl _)
    replace row_q := row_q.below q2 (Nat.le_refl _)
    have q := q2
    clear q2
    go_wp2_with fail
    refine (hN.no _ _ _ xs _ row_o Lp hx).mono ?_
    rintro e wN ⟨b_n, cp_n, rfl, _, q2⟩
    replace row_p := row_p.below q2 (Nat.le_refl _)
    replace row_q := row_q.below q2 (Nat.le_refl _)
    replace row_o := row_o.below q2 (Nat.le_refl _)
    replace q := btrans q q2
    clear q2
    go_wp2_with fail
    refine (hA.no _ _ _ _ _ _ xs ys _ row_o row_q Lp Lq (by rw [hx]; rfl)).mono ?_
    rintro e wN ⟨b_s, cp_s, rfl, _, q2⟩
    replace row_p := row_p.below q2 (Nat.le_refl _)
    replace row_q := row_q.below q2 (Nat.le_refl _)
    replace row_o := row_o.below q2 (Nat.le_refl _)
    replace q := btrans q q2
    clear q2
    go_wp2_with fail
    refine (hM.no _ _ _ _ _ _ xs ys _ row_o row_q Lp Lq (by rw [hx]; rfl)).mono ?_
    rintro e wN ⟨b_m, cp_m, rfl, _, q2⟩
    replace row_p := row_p.below q2 (Nat.le_refl _)
    replace row_q := row_q.below q2 (Nat.le_refl _)
    replace row_o := row_o.below q2 (Nat.le_refl _)
    replace q := btrans q q2
    clear q2
    go_wp2_with fail
    refine (hR.no _ _ _ xs _ row_o Lp hx).mono ?_
    rintro e wN ⟨b_d, cp_d, rfl, _, q2⟩
    replace row_p := row_p.below q2 (Nat.le_refl _)
    replace row_q := row_q.below q2 (Nat.le_refl _)
    replace row_o := row_o.below q2 (Nat.le_refl _)
    replace q := btrans q q2
    clear q2
    go_wp2_with fail
    refine (hE.no _ _ _ xs x _ row_o Lp (by rw [hx]; rfl)).mono ?_
    rintro e wN ⟨rfl, q2⟩
    replace row_p := row_p.below q2 (Nat.le_refl _)
    replace row_q := row_q.below q2 (Nat.le_refl _)
    replace row_o := row_o.below q2 (Nat.le_refl _)
    replace q := btrans q q2
    clear q2
    go_wp2_with fail
    refine (ints_any _ _ _ _ _ _ xs xs _ row_o row_p).mono ?_
    rintro e wN ⟨rfl, q2⟩
    replace row_p := row_p.below q2 (Nat.le_refl _)
    replace row_q := row_q.below q2 (Nat.le_refl _)
    replace row_o := row_o.below q2 (Nat.le_refl _)
    replace q := btrans q q2
    clear q2
    rw [show decide (xs = xs) = true from by simp]
    go_wp2_with fail
    refine (isP_any _ _ _ xs _ row_p).mono ?_
    rintro e w' ⟨rfl, rfl⟩
    rw [hx]
    go_wp2_with fail
    refine (awake_any hM hD hE _).mono ?_
    rintro e wN ⟨rfl, q2⟩
    replace row_p := row_p.below q2 (Nat.le_refl _)
    replace row_q := row_q.below q2 (Nat.le_refl _)
    replace row_o := row_o.below q2 (Nat.le_refl _)
    replace q := btrans q q2
    clear q2
    go_wp2_with fail
    go_ret
    exact ⟨rfl, q⟩
  obtain ⟨p, rfl, hp⟩ := allE_true hx
  have e1 := eq_len row_p
  have L1 : p.length ≤ 60 := by omega
  clear e1
  cases hxe : isE x
  case false =>
    cases hy : allE ys
    case false =>
      go_enter Try.func3, Try.ntmps3
      go_wp2_with fail
      refine (small3_any _ _ l1 _ l2 _ _ m1 m2).mono ?_
      rintro e w' ⟨rfl, rfl⟩
      rw [hb1]
      have hr0 := row_p.below (below_one w (Obj.cells #[] 3)) (Nat.le_refl _)
      go_wp2_with (at_builtin; refine wpList_append_row _ rfl _ _ 22 rfl w.heap.size 3 i0 (.int .i64 0) 8 Try.underlying22 hi0 hz0 hz1 hz2 rfl _ 0 [] rfl hown0 .i64 a l1 c1 (ints p) rfl hr0 (by unfold maxLen; omega) (by omega) (by simp) ?_)
      intro v w1 hown1 hgrow1
      have q2 : Below w.heap.size w w1 := (below_one w (Obj.cells #[] 3)).grown hgrow1 (by simp) (fun k hk => by simp [Value.ownBlock] at hk; omega)
      have hown1' : w1.ownsRow w.heap.size 3 1 v l1 ((ints p).map (Value.int .i64)) := by simpa using hown1
      obtain ⟨ao, capo, rfl, row_o⟩ := row_of_owns hown1'
      clear hown1 hown1' hgrow1 hr0 hown0
      replace row_p := row_p.below q2 (Nat.le_refl _)
      replace row_q := row_q.below q2 (Nat.le_refl _)
      have q := q2
      clear q2
      have len_n := norm_length_le p
      have len_d := len_der p
      go_wp2_with fail
      refine (hN.yes _ _ _ p _ row_o Lp hp).mono ?_
      rintro e wN ⟨b_n, cp_n, rfl, row_n, q2⟩
      replace row_p := row_p.below q2 (Nat.le_refl _)
      replace row_q := row_q.below q2 (Nat.le_refl _)
      replace row_o := row_o.below q2 (Nat.le_refl _)
      replace q := btrans q q2
      clear q2
      go_wp2_with fail
      refine (hA.no _ _ _ _ _ _ (ints p) ys _ row_o row_q Lp Lq (by rw [hx, hy]; rfl)).mono ?_
      rintro e wN ⟨b_s, cp_s, rfl, _, q2⟩
      replace row_p := row_p.below q2 (Nat.le_refl _)
      replace row_q := row_q.below q2 (Nat.le_refl _)
      replace row_o := row_o.below q2 (Nat.le_refl _)
      replace row_n := row_n.below q2 (Nat.le_refl _)
      replace q := btrans q q2
      clear q2
      go_wp2_with fail
      refine (hM.no _ _ _ _ _ _ (ints p) ys _ row_o row_q Lp Lq (by rw [hx, hy]; rfl)).mono ?_
      rintro e wN ⟨b_m, cp_m, rfl, _, q2⟩
      replace row_p := row_p.below q2 (Nat.le_refl _)
      replace row_q := row_q.below q2 (Nat.le_refl _)
      replace row_o := row_o.below q2 (Nat.le_refl _)
      replace row_n := row_n.below q2 (Nat.le_refl _)
      replace q := btrans q q2
      clear q2
      go_wp2_with fail
      refine (hR.yes _ _ _ p _ row_o Lp hp).mono ?_
      rintro e wN ⟨b_d, cp_d, rfl, row_d, q2⟩
      replace row_p := row_p.below q2 (Nat.le_refl _)
      replace row_q := row_q.below q2 (Nat.le_refl _)
      replace row_o := row_o.below q2 (Nat.le_refl _)
      replace row_n := row_n.below q2 (Nat.le_refl _)
      replace q := btrans q q2
      clear q2
      go_wp2_with fail
      refine (hE.no _ _ _ (ints p) x _ row_o Lp (by rw [hx, hxe]; rfl)).mono ?_
      rintro e wN ⟨rfl, q2⟩
      replace row_p := row_p.below q2 (Nat.le_refl _)
      replace row_q := row_q.below q2 (Nat.le_refl _)
      replace row_o := row_o.below q2 (Nat.le_refl _)
      replace row_n := row_n.below q2 (Nat.le_refl _)
      replace row_d := row_d.below q2 (Nat.le_refl _)
      replace q := btrans q q2
      clear q2
      go_wp2_with fail
      refine (ints_any _ _ _ _ _ _ (ints p) (ints p) _ row_o row_p).mono ?_
      rintro e wN ⟨rfl, q2⟩
      replace row_p := row_p.below q2 (Nat.le_refl _)
      replace row_q := row_q.below q2 (Nat.le_refl _)
      replace row_o := row_o.below q2 (Nat.le_refl _)
      replace row_n := row_n.below q2 (Nat.le_refl _)
      replace row_d := row_d.below q2 (Nat.le_refl _)
      replace q := btrans q q2
      clear q2
      rw [show decide (ints p = ints p) = true from by simp]
      clear row_o
      go_wp2_with fail
      refine (isP_any _ _ _ (ints p) _ row_p).mono ?_
      rintro e w' ⟨rfl, rfl⟩
      rw [hx]
      have len_rn := norm_length_le p
      go_wp2_with fail
      refine (refNorm_any _ _ _ p _ row_p (by omega)).mono ?_
      rintro e wN ⟨v_rn, rfl, own_rn, q2⟩
      obtain ⟨b_rn, cp_rn, rfl, row_rn⟩ := row_of_owns own_rn
      clear own_rn
      replace row_p := row_p.below q2 (Nat.le_refl _)
      replace row_q := row_q.below q2 (Nat.le_refl _)
      replace row_n := row_n.below q2 (Nat.le_refl _)
      replace row_d := row_d.below q2 (Nat.le_refl _)
      replace q := btrans q q2
      clear q2
      go_wp2_with fail
      refine (ints_any _ _ _ _ _ _ (ints (norm p)) (ints (norm p)) _ row_n row_rn).mono ?_
      rintro e wN ⟨rfl, q2⟩
      replace row_p := row_p.below q2 (Nat.le_refl _)
      replace row_q := row_q.below q2 (Nat.le_refl _)
      replace row_n := row_n.below q2 (Nat.le_refl _)
      replace row_d := row_d.below q2 (Nat.le_refl _)
      replace row_rn := row_rn.below q2 (Nat.le_refl _)
      replace q := btrans q q2
      clear q2
      rw [show decide (ints (norm p) = ints (norm p)) = true from by rw [show norm p = norm p from rfl]; simp]
      have len_rd := len_der p
      go_wp2_with fail
      refine (refDerive_any _ _ _ p _ row_p (by omega)).mono ?_
      rintro e wN ⟨v_rd, rfl, own_rd, q2⟩
      obtain ⟨b_rd, cp_rd, rfl, row_rd⟩ := row_of_owns own_rd
      clear own_rd
      replace row_p := row_p.below q2 (Nat.le_refl _)
      replace row_q := row_q.below q2 (Nat.le_refl _)
      replace row_n := row_n.below q2 (Nat.le_refl _)
      replace row_d := row_d.below q2 (Nat.le_refl _)
      replace row_rn := row_rn.below q2 (Nat.le_refl _)
      replace q := btrans q q2
      clear q2
      go_wp2_with fail
      refine (ints_any _ _ _ _ _ _ (ints (norm (derL p))) (ints (norm (derL p))) _ row_d row_rd).mono ?_
      rintro e wN ⟨rfl, q2⟩
      replace row_p := row_p.below q2 (Nat.le_refl _)
      replace row_q := row_q.below q2 (Nat.le_refl _)
      replace row_n := row_n.below q2 (Nat.le_refl _)
      replace row_d := row_d.below q2 (Nat.le_refl _)
      replace row_rn := row_rn.below q2 (Nat.le_refl _)
      replace row_rd := row_rd.below q2 (Nat.le_refl _)
      replace q := btrans q q2
      clear q2
      rw [show decide (ints (norm (derL p)) = ints (norm (derL p))) = true from by rw [show norm (derL p) = norm (derL p) from rfl]; simp]
      clear row_rn row_rd row_n row_d
      go_wp2_with fail
      refine (is_any x _).mono ?_
      rintro e w' ⟨rfl, rfl⟩
      rw [hxe]
      go_wp2_with fail
      refine (isP_any _ _ _ ys _ row_q).mono ?_
      rintro e w' ⟨rfl, rfl⟩
      rw [hy]
      go_wp2_with fail
      refine (awake_any hM hD hE _).mono ?_
      rintro e wN ⟨rfl, q2⟩
      replace row_p := row_p.below q2 (Nat.le_refl _)
      replace row_q := row_q.below q2 (Nat.le_refl _)
      replace q := btrans q q2
      clear q2
      go_wp2_with fail
      go_ret
      exact ⟨rfl, q⟩
    obtain ⟨q', rfl, hq⟩ := allE_true hy
    have e2 := eq_len row_q
    have L2 : q'.length ≤ 60 := by omega
    clear e2
    go_enter Try.func3, Try.ntmps3
    go_wp2_with fail
    refine (small3_any _ _ l1 _ l2 _ _ m1 m2).mono ?_
    rintro e w' ⟨rfl, rfl⟩
    rw [hb1]
    have hr0 := row_p.below (below_one w (Obj.cells #[] 3)) (Nat.le_refl _)
    go_wp2_with (at_builtin; refine wpList_append_row _ rfl _ _ 22 rfl w.heap.size 3 i0 (.int .i64 0) 8 Try.underlying22 hi0 hz0 hz1 hz2 rfl _ 0 [] rfl hown0 .i64 a l1 c1 (ints p) rfl hr0 (by unfold maxLen; omega) (by omega) (by simp) ?_)
    intro v w1 hown1 hgrow1
    have q2 : Below w.heap.size w w1 := (below_one w (Obj.cells #[] 3)).grown hgrow1 (by simp) (fun k hk => by simp [Value.ownBlock] at hk; omega)
    have hown1' : w1.ownsRow w.heap.size 3 1 v l1 ((ints p).map (Value.int .i64)) := by simpa using hown1
    obtain ⟨ao, capo, rfl, row_o⟩ := row_of_owns hown1'
    clear hown1 hown1' hgrow1 hr0 hown0
    replace row_p := row_p.below q2 (Nat.le_refl _)
    replace row_q := row_q.below q2 (Nat.le_refl _)
    have q := q2
    clear q2
    have len_n := norm_length_le p
    have len_d := len_der p
    go_wp2_with fail
    refine (hN.yes _ _ _ p _ row_o Lp hp).mono ?_
    rintro e wN ⟨b_n, cp_n, rfl, row_n, q2⟩
    replace row_p := row_p.below q2 (Nat.le_refl _)
    replace row_q := row_q.below q2 (Nat.le_refl _)
    replace row_o := row_o.below q2 (Nat.le_refl _)
    replace q := btrans q q2
    clear q2
    have len_s := len_add p q'
    have len_m := len_mul p q'
    go_wp2_with fail
    refine (hA.yes _ _ _ _ _ _ p q' _ row_o row_q Lp Lq hp hq).mono ?_
    rintro e wN ⟨b_s, cp_s, rfl, row_s, q2⟩
    replace row_p := row_p.below q2 (Nat.le_refl _)
    replace row_q := row_q.below q2 (Nat.le_refl _)
    replace row_o := row_o.below q2 (Nat.le_refl _)
    replace row_n := row_n.below q2 (Nat.le_refl _)
    replace q := btrans q q2
    clear q2
    go_wp2_with fail
    refine (hM.yes _ _ _ _ _ _ p q' _ row_o row_q Lp Lq hp hq).mono ?_
    rintro e wN ⟨b_m, cp_m, rfl, row_m, q2⟩
    replace row_p := row_p.below q2 (Nat.le_refl _)
    replace row_q := row_q.below q2 (Nat.le_refl _)
    replace row_o := row_o.below q2 (Nat.le_refl _)
    replace row_n := row_n.below q2 (Nat.le_refl _)
    replace row_s := row_s.below q2 (Nat.le_refl _)
    replace q := btrans q q2
    clear q2
    go_wp2_with fail
    refine (hR.yes _ _ _ p _ row_o Lp hp).mono ?_
    rintro e wN ⟨b_d, cp_d, rfl, row_d, q2⟩
    replace row_p := row_p.below q2 (Nat.le_refl _)
    replace row_q := row_q.below q2 (Nat.le_refl _)
    replace row_o := row_o.below q2 (Nat.le_refl _)
    replace row_n := row_n.below q2 (Nat.le_refl _)
    replace row_s := row_s.below q2 (Nat.le_refl _)
    replace row_m := row_m.below q2 (Nat.le_refl _)
    replace q := btrans q q2
    clear q2
    go_wp2_with fail
    refine (hE.no _ _ _ (ints p) x _ row_o Lp (by rw [hx, hxe]; rfl)).mono ?_
    rintro e wN ⟨rfl, q2⟩
    replace row_p := row_p.below q2 (Nat.le_refl _)
    replace row_q := row_q.below q2 (Nat.le_refl _)
    replace row_o := row_o.below q2 (Nat.le_refl _)
    replace row_n := row_n.below q2 (Nat.le_refl _)
    replace row_s := row_s.below q2 (Nat.le_refl _)
    replace row_m := row_m.below q2 (Nat.le_refl _)
    replace row_d := row_d.below q2 (Nat.le_refl _)
    replace q := btrans q q2
    clear q2
    go_wp2_with fail
    refine (ints_any _ _ _ _ _ _ (ints p) (ints p) _ row_o row_p).mono ?_
    rintro e wN ⟨rfl, q2⟩
    replace row_p := row_p.below q2 (Nat.le_refl _)
    replace row_q := row_q.below q2 (Nat.le_refl _)
    replace row_o := row_o.below q2 (Nat.le_refl _)
    replace row_n := row_n.below q2 (Nat.le_refl _)
    replace row_s := row_s.below q2 (Nat.le_refl _)
    replace row_m := row_m.below q2 (Nat.le_refl _)
    replace row_d := row_d.below q2 (Nat.le_refl _)
    replace q := btrans q q2
    clear q2
    rw [show decide (ints p = ints p) = true from by simp]
    clear row_o
    go_wp2_with fail
    refine (isP_any _ _ _ (ints p) _ row_p).mono ?_
    rintro e w' ⟨rfl, rfl⟩
    rw [hx]
    have len_rn := norm_length_le p
    go_wp2_with fail
    refine (refNorm_any _ _ _ p _ row_p (by omega)).mono ?_
    rintro e wN ⟨v_rn, rfl, own_rn, q2⟩
    obtain ⟨b_rn, cp_rn, rfl, row_rn⟩ := row_of_owns own_rn
    clear own_rn
    replace row_p := row_p.below q2 (Nat.le_refl _)
    replace row_q := row_q.below q2 (Nat.le_refl _)
    replace row_n := row_n.below q2 (Nat.le_refl _)
    replace row_s := row_s.below q2 (Nat.le_refl _)
    replace row_m := row_m.below q2 (Nat.le_refl _)
    replace row_d := row_d.below q2 (Nat.le_refl _)
    replace q := btrans q q2
    clear q2
    go_wp2_with fail
    refine (ints_any _ _ _ _ _ _ (ints (norm p)) (ints (norm p)) _ row_n row_rn).mono ?_
    rintro e wN ⟨rfl, q2⟩
    replace row_p := row_p.below q2 (Nat.le_refl _)
    replace row_q := row_q.below q2 (Nat.le_refl _)
    replace row_n := row_n.below q2 (Nat.le_refl _)
    replace row_s := row_s.below q2 (Nat.le_refl _)
    replace row_m := row_m.below q2 (Nat.le_refl _)
    replace row_d := row_d.below q2 (Nat.le_refl _)
    replace row_rn := row_rn.below q2 (Nat.le_refl _)
    replace q := btrans q q2
    clear q2
    rw [show decide (ints (norm p) = ints (norm p)) = true from by rw [show norm p = norm p from rfl]; simp]
    have len_rd := len_der p
    go_wp2_with fail
    refine (refDerive_any _ _ _ p _ row_p (by omega)).mono ?_
    rintro e wN ⟨v_rd, rfl, own_rd, q2⟩
    obtain ⟨b_rd, cp_rd, rfl, row_rd⟩ := row_of_owns own_rd
    clear own_rd
    replace row_p := row_p.below q2 (Nat.le_refl _)
    replace row_q := row_q.below q2 (Nat.le_refl _)
    replace row_n := row_n.below q2 (Nat.le_refl _)
    replace row_s := row_s.below q2 (Nat.le_refl _)
    replace row_m := row_m.below q2 (Nat.le_refl _)
    replace row_d := row_d.below q2 (Nat.le_refl _)
    replace row_rn := row_rn.below q2 (Nat.le_refl _)
    replace q := btrans q q2
    clear q2
    go_wp2_with fail
    refine (ints_any _ _ _ _ _ _ (ints (norm (derL p))) (ints (norm (derL p))) _ row_d row_rd).mono ?_
    rintro e wN ⟨rfl, q2⟩
    replace row_p := row_p.below q2 (Nat.le_refl _)
    replace row_q := row_q.below q2 (Nat.le_refl _)
    replace row_n := row_n.below q2 (Nat.le_refl _)
    replace row_s := row_s.below q2 (Nat.le_refl _)
    replace row_m := row_m.below q2 (Nat.le_refl _)
    replace row_d := row_d.below q2 (Nat.le_refl _)
    replace row_rn := row_rn.below q2 (Nat.le_refl _)
    replace row_rd := row_rd.below q2 (Nat.le_refl _)
    replace q := btrans q q2
    clear q2
    rw [show decide (ints (norm (derL p)) = ints (norm (derL p))) = true from by rw [show norm (derL p) = norm (derL p) from rfl]; simp]
    clear row_rn row_rd row_n row_d
    go_wp2_with fail
    refine (is_any x _).mono ?_
    rintro e w' ⟨rfl, rfl⟩
    rw [hxe]
    go_wp2_with fail
    refine (isP_any _ _ _ (ints q') _ row_q).mono ?_
    rintro e w' ⟨rfl, rfl⟩
    rw [hy]
    go_wp2_with fail
    refine (awake_any hM hD hE _).mono ?_
    rintro e wN ⟨rfl, q2⟩
    replace row_p := row_p.below q2 (Nat.le_refl _)
    replace row_q := row_q.below q2 (Nat.le_refl _)
    replace row_s := row_s.below q2 (Nat.le_refl _)
    replace row_m := row_m.below q2 (Nat.le_refl _)
    replace q := btrans q q2
    clear q2
    have len_ra := len_add p q'
    go_wp2_with fail
    refine (refAdd_any _ _ _ _ _ _ p q' _ row_p hp row_q hq (by omega) (by omega)).mono ?_
    rintro e wN ⟨v_ra, rfl, own_ra, q2⟩
    obtain ⟨b_ra, cp_ra, rfl, row_ra⟩ := row_of_owns own_ra
    clear own_ra
    replace row_p := row_p.below q2 (Nat.le_refl _)
    replace row_q := row_q.below q2 (Nat.le_refl _)
    replace row_s := row_s.below q2 (Nat.le_refl _)
    replace row_m := row_m.below q2 (Nat.le_refl _)
    replace q := btrans q q2
    clear q2
    go_wp2_with fail
    refine (ints_any _ _ _ _ _ _ (ints (norm (addL p q'))) (ints (norm (addL p q'))) _ row_s row_ra).mono ?_
    rintro e wN ⟨rfl, q2⟩
    replace row_p := row_p.below q2 (Nat.le_refl _)
    replace row_q := row_q.below q2 (Nat.le_refl _)
    replace row_s := row_s.below q2 (Nat.le_refl _)
    replace row_m := row_m.below q2 (Nat.le_refl _)
    replace row_ra := row_ra.below q2 (Nat.le_refl _)
    replace q := btrans q q2
    clear q2
    rw [show decide (ints (norm (addL p q')) = ints (norm (addL p q'))) = true from by rw [show norm (addL p q') = norm (addL p q') from rfl]; simp]
    have len_rm := len_mul p q'
    go_wp2_with fail
    refine (refMulP_any _ _ _ _ _ _ p q' _ row_p hp row_q hq (by omega) (by omega)).mono ?_
    rintro e wN ⟨v_rm, rfl, own_rm, q2⟩
    obtain ⟨b_rm, cp_rm, rfl, row_rm⟩ := row_of_owns own_rm
    clear own_rm
    replace row_p := row_p.below q2 (Nat.le_refl _)
    replace row_q := row_q.below q2 (Nat.le_refl _)
    replace row_s := row_s.below q2 (Nat.le_refl _)
    replace row_m := row_m.below q2 (Nat.le_refl _)
    replace row_ra := row_ra.below q2 (Nat.le_refl _)
    replace q := btrans q q2
    clear q2
    go_wp2_with fail
    refine (ints_any _ _ _ _ _ _ (ints (norm (mulL p q'))) (ints (norm (mulL p q'))) _ row_m row_rm).mono ?_
    rintro e wN ⟨rfl, q2⟩
    replace row_p := row_p.below q2 (Nat.le_refl _)
    replace row_q := row_q.below q2 (Nat.le_refl _)
    replace row_s := row_s.below q2 (Nat.le_refl _)
    replace row_m := row_m.below q2 (Nat.le_refl _)
    replace row_ra := row_ra.below q2 (Nat.le_refl _)
    replace row_rm := row_rm.below q2 (Nat.le_refl _)
    replace q := btrans q q2
    clear q2
    rw [show decide (ints (norm (mulL p q')) = ints (norm (mulL p q'))) = true from by rw [show norm (mulL p q') = norm (mulL p q') from rfl]; simp]
    go_wp2_with fail
    go_ret
    exact ⟨rfl, q⟩
  obtain ⟨n, rfl, hn⟩ := isE_true hxe
  cases hy : allE ys
  case false =>
    go_enter Try.func3, Try.ntmps3
    go_wp2_with fail
    refine (small3_any _ _ l1 _ l2 _ _ m1 m2).mono ?_
    rintro e w' ⟨rfl, rfl⟩
    rw [hb1]
    have hr0 := row_p.below (below_one w (Obj.cells #[] 3)) (Nat.le_refl _)
    go_wp2_with (at_builtin; refine wpList_append_row _ rfl _ _ 22 rfl w.heap.size 3 i0 (.int .i64 0) 8 Try.underlying22 hi0 hz0 hz1 hz2 rfl _ 0 [] rfl hown0 .i64 a l1 c1 (ints p) rfl hr0 (by unfold maxLen; omega) (by omega) (by simp) ?_)
    intro v w1 hown1 hgrow1
    have q2 : Below w.heap.size w w1 := (below_one w (Obj.cells #[] 3)).grown hgrow1 (by simp) (fun k hk => by simp [Value.ownBlock] at hk; omega)
    have hown1' : w1.ownsRow w.heap.size 3 1 v l1 ((ints p).map (Value.int .i64)) := by simpa using hown1
    obtain ⟨ao, capo, rfl, row_o⟩ := row_of_owns hown1'
    clear hown1 hown1' hgrow1 hr0 hown0
    replace row_p := row_p.below q2 (Nat.le_refl _)
    replace row_q := row_q.below q2 (Nat.le_refl _)
    have q := q2
    clear q2
    have len_n := norm_length_le p
    have len_d := len_der p
    go_wp2_with fail
    refine (hN.yes _ _ _ p _ row_o Lp hp).mono ?_
    rintro e wN ⟨b_n, cp_n, rfl, row_n, q2⟩
    replace row_p := row_p.below q2 (Nat.le_refl _)
    replace row_q := row_q.below q2 (Nat.le_refl _)
    replace row_o := row_o.below q2 (Nat.le_refl _)
    replace q := btrans q q2
    clear q2
    go_wp2_with fail
    refine (hA.no _ _ _ _ _ _ (ints p) ys _ row_o row_q Lp Lq (by rw [hx, hy]; rfl)).mono ?_
    rintro e wN ⟨b_s, cp_s, rfl, _, q2⟩
    replace row_p := row_p.below q2 (Nat.le_refl _)
    replace row_q := row_q.below q2 (Nat.le_refl _)
    replace row_o := row_o.below q2 (Nat.le_refl _)
    replace row_n := row_n.below q2 (Nat.le_refl _)
    replace q := btrans q q2
    clear q2
    go_wp2_with fail
    refine (hM.no _ _ _ _ _ _ (ints p) ys _ row_o row_q Lp Lq (by rw [hx, hy]; rfl)).mono ?_
    rintro e wN ⟨b_m, cp_m, rfl, _, q2⟩
    replace row_p := row_p.below q2 (Nat.le_refl _)
    replace row_q := row_q.below q2 (Nat.le_refl _)
    replace row_o := row_o.below q2 (Nat.le_refl _)
    replace row_n := row_n.below q2 (Nat.le_refl _)
    replace q := btrans q q2
    clear q2
    go_wp2_with fail
    refine (hR.yes _ _ _ p _ row_o Lp hp).mono ?_
    rintro e wN ⟨b_d, cp_d, rfl, row_d, q2⟩
    replace row_p := row_p.below q2 (Nat.le_refl _)
    replace row_q := row_q.below q2 (Nat.le_refl _)
    replace row_o := row_o.below q2 (Nat.le_refl _)
    replace row_n := row_n.below q2 (Nat.le_refl _)
    replace q := btrans q q2
    clear q2
    go_wp2_with fail
    refine (hE.yes _ _ _ p n _ row_o Lp hp hn).mono ?_
    rintro e wN ⟨rfl, q2⟩
    replace row_p := row_p.below q2 (Nat.le_refl _)
    replace row_q := row_q.below q2 (Nat.le_refl _)
    replace row_o := row_o.below q2 (Nat.le_refl _)
    replace row_n := row_n.below q2 (Nat.le_refl _)
    replace row_d := row_d.below q2 (Nat.le_refl _)
    replace q := btrans q q2
    clear q2
    go_wp2_with fail
    refine (ints_any _ _ _ _ _ _ (ints p) (ints p) _ row_o row_p).mono ?_
    rintro e wN ⟨rfl, q2⟩
    replace row_p := row_p.below q2 (Nat.le_refl _)
    replace row_q := row_q.below q2 (Nat.le_refl _)
    replace row_o := row_o.below q2 (Nat.le_refl _)
    replace row_n := row_n.below q2 (Nat.le_refl _)
    replace row_d := row_d.below q2 (Nat.le_refl _)
    replace q := btrans q q2
    clear q2
    rw [show decide (ints p = ints p) = true from by simp]
    clear row_o
    go_wp2_with fail
    refine (isP_any _ _ _ (ints p) _ row_p).mono ?_
    rintro e w' ⟨rfl, rfl⟩
    rw [hx]
    have len_rn := norm_length_le p
    go_wp2_with fail
    refine (refNorm_any _ _ _ p _ row_p (by omega)).mono ?_
    rintro e wN ⟨v_rn, rfl, own_rn, q2⟩
    obtain ⟨b_rn, cp_rn, rfl, row_rn⟩ := row_of_owns own_rn
    clear own_rn
    replace row_p := row_p.below q2 (Nat.le_refl _)
    replace row_q := row_q.below q2 (Nat.le_refl _)
    replace row_n := row_n.below q2 (Nat.le_refl _)
    replace row_d := row_d.below q2 (Nat.le_refl _)
    replace q := btrans q q2
    clear q2
    go_wp2_with fail
    refine (ints_any _ _ _ _ _ _ (ints (norm p)) (ints (norm p)) _ row_n row_rn).mono ?_
    rintro e wN ⟨rfl, q2⟩
    replace row_p := row_p.below q2 (Nat.le_refl _)
    replace row_q := row_q.below q2 (Nat.le_refl _)
    replace row_n := row_n.below q2 (Nat.le_refl _)
    replace row_d := row_d.below q2 (Nat.le_refl _)
    replace row_rn := row_rn.below q2 (Nat.le_refl _)
    replace q := btrans q q2
    clear q2
    rw [show decide (ints (norm p) = ints (norm p)) = true from by rw [show norm p = norm p from rfl]; simp]
    have len_rd := len_der p
    go_wp2_with fail
    refine (refDerive_any _ _ _ p _ row_p (by omega)).mono ?_
    rintro e wN ⟨v_rd, rfl, own_rd, q2⟩
    obtain ⟨b_rd, cp_rd, rfl, row_rd⟩ := row_of_owns own_rd
    clear own_rd
    replace row_p := row_p.below q2 (Nat.le_refl _)
    replace row_q := row_q.below q2 (Nat.le_refl _)
    replace row_n := row_n.below q2 (Nat.le_refl _)
    replace row_d := row_d.below q2 (Nat.le_refl _)
    replace row_rn := row_rn.below q2 (Nat.le_refl _)
    replace q := btrans q q2
    clear q2
    go_wp2_with fail
    refine (ints_any _ _ _ _ _ _ (ints (norm (derL p))) (ints (norm (derL p))) _ row_d row_rd).mono ?_
    rintro e wN ⟨rfl, q2⟩
    replace row_p := row_p.below q2 (Nat.le_refl _)
    replace row_q := row_q.below q2 (Nat.le_refl _)
    replace row_n := row_n.below q2 (Nat.le_refl _)
    replace row_d := row_d.below q2 (Nat.le_refl _)
    replace row_rn := row_rn.below q2 (Nat.le_refl _)
    replace row_rd := row_rd.below q2 (Nat.le_refl _)
    replace q := btrans q q2
    clear q2
    rw [show decide (ints (norm (derL p)) = ints (norm (derL p))) = true from by rw [show norm (derL p) = norm (derL p) from rfl]; simp]
    clear row_rn row_rd row_n row_d
    go_wp2_with fail
    refine (is_any n _).mono ?_
    rintro e w' ⟨rfl, rfl⟩
    rw [hxe]
    go_wp2_with fail
    refine (refEval_any _ _ _ p n _ row_p hp hn Lp).mono ?_
    rintro e wN ⟨rfl, q2⟩
    replace row_p := row_p.below q2 (Nat.le_refl _)
    replace row_q := row_q.below q2 (Nat.le_refl _)
    replace q := btrans q q2
    clear q2
    go_wp2_with fail
    refine (isP_any _ _ _ ys _ row_q).mono ?_
    rintro e w' ⟨rfl, rfl⟩
    rw [hy]
    go_wp2_with fail
    refine (awake_any hM hD hE _).mono ?_
    rintro e wN ⟨rfl, q2⟩
    replace row_p := row_p.below q2 (Nat.le_refl _)
    replace row_q := row_q.below q2 (Nat.le_refl _)
    replace q := btrans q q2
    clear q2
    go_wp2_with fail
    go_ret
    exact ⟨rfl, q⟩
  obtain ⟨q', rfl, hq⟩ := allE_true hy
  have e2 := eq_len row_q
  have L2 : q'.length ≤ 60 := by omega
  clear e2
  go_enter Try.func3, Try.ntmps3
  go_wp2_with fail
  refine (small3_any _ _ l1 _ l2 _ _ m1 m2).mono ?_
  rintro e w' ⟨rfl, rfl⟩
  rw [hb1]
  have hr0 := row_p.below (below_one w (Obj.cells #[] 3)) (Nat.le_refl _)
  go_wp2_with (at_builtin; refine wpList_append_row _ rfl _ _ 22 rfl w.heap.size 3 i0 (.int .i64 0) 8 Try.underlying22 hi0 hz0 hz1 hz2 rfl _ 0 [] rfl hown0 .i64 a l1 c1 (ints p) rfl hr0 (by unfold maxLen; omega) (by omega) (by simp) ?_)
  intro v w1 hown1 hgrow1
  have q2 : Below w.heap.size w w1 := (below_one w (Obj.cells #[] 3)).grown hgrow1 (by simp) (fun k hk => by simp [Value.ownBlock] at hk; omega)
  have hown1' : w1.ownsRow w.heap.size 3 1 v l1 ((ints p).map (Value.int .i64)) := by simpa using hown1
  obtain ⟨ao, capo, rfl, row_o⟩ := row_of_owns hown1'
  clear hown1 hown1' hgrow1 hr0 hown0
  replace row_p := row_p.below q2 (Nat.le_refl _)
  replace row_q := row_q.below q2 (Nat.le_refl _)
  have q := q2
  clear q2
  have len_n := norm_length_le p
  have len_d := len_der p
  go_wp2_with fail
  refine (hN.yes _ _ _ p _ row_o Lp hp).mono ?_
  rintro e wN ⟨b_n, cp_n, rfl, row_n, q2⟩
  replace row_p := row_p.below q2 (Nat.le_refl _)
  replace row_q := row_q.below q2 (Nat.le_refl _)
  replace row_o := row_o.below q2 (Nat.le_refl _)
  replace q := btrans q q2
  clear q2
  have len_s := len_add p q'
  have len_m := len_mul p q'
  go_wp2_with fail
  refine (hA.yes _ _ _ _ _ _ p q' _ row_o row_q Lp Lq hp hq).mono ?_
  rintro e wN ⟨b_s, cp_s, rfl, row_s, q2⟩
  replace row_p := row_p.below q2 (Nat.le_refl _)
  replace row_q := row_q.below q2 (Nat.le_refl _)
  replace row_o := row_o.below q2 (Nat.le_refl _)
  replace row_n := row_n.below q2 (Nat.le_refl _)
  replace q := btrans q q2
  clear q2
  go_wp2_with fail
  refine (hM.yes _ _ _ _ _ _ p q' _ row_o row_q Lp Lq hp hq).mono ?_
  rintro e wN ⟨b_m, cp_m, rfl, row_m, q2⟩
  replace row_p := row_p.below q2 (Nat.le_refl _)
  replace row_q := row_q.below q2 (Nat.le_refl _)
  replace row_o := row_o.below q2 (Nat.le_refl _)
  replace row_n := row_n.below q2 (Nat.le_refl _)
  replace row_s := row_s.below q2 (Nat.le_refl _)
  replace q := btrans q q2
  clear q2
  go_wp2_with fail
  refine (hR.yes _ _ _ p _ row_o Lp hp).mono ?_
  rintro e wN ⟨b_d, cp_d, rfl, row_d, q2⟩
  replace row_p := row_p.below q2 (Nat.le_refl _)
  replace row_q := row_q.below q2 (Nat.le_refl _)
  replace row_o := row_o.below q2 (Nat.le_refl _)
  replace row_n := row_n.below q2 (Nat.le_refl _)
  replace row_s := row_s.below q2 (Nat.le_refl _)
  replace row_m := row_m.below q2 (Nat.le_refl _)
  replace q := btrans q q2
  clear q2
  go_wp2_with fail
  refine (hE.yes _ _ _ p n _ row_o Lp hp hn).mono ?_
  rintro e wN ⟨rfl, q2⟩
  replace row_p := row_p.below q2 (Nat.le_refl _)
  replace row_q := row_q.below q2 (Nat.le_refl _)
  replace row_o := row_o.below q2 (Nat.le_refl _)
  replace row_n := row_n.below q2 (Nat.le_refl _)
  replace row_s := row_s.below q2 (Nat.le_refl _)
  replace row_m := row_m.below q2 (Nat.le_refl _)
  replace row_d := row_d.below q2 (Nat.le_refl _)
  replace q := btrans q q2
  clear q2
  go_wp2_with fail
  refine (ints_any _ _ _ _ _ _ (ints p) (ints p) _ row_o row_p).mono ?_
  rintro e wN ⟨rfl, q2⟩
  replace row_p := row_p.below q2 (Nat.le_refl _)
  replace row_q := row_q.below q2 (Nat.le_refl _)
  replace row_o := row_o.below q2 (Nat.le_refl _)
  replace row_n := row_n.below q2 (Nat.le_refl _)
  replace row_s := row_s.below q2 (Nat.le_refl _)
  replace row_m := row_m.below q2 (Nat.le_refl _)
  replace row_d := row_d.below q2 (Nat.le_refl _)
  replace q := btrans q q2
  clear q2
  rw [show decide (ints p = ints p) = true from by simp]
  clear row_o
  go_wp2_with fail
  refine (isP_any _ _ _ (ints p) _ row_p).mono ?_
  rintro e w' ⟨rfl, rfl⟩
  rw [hx]
  have len_rn := norm_length_le p
  go_wp2_with fail
  refine (refNorm_any _ _ _ p _ row_p (by omega)).mono ?_
  rintro e wN ⟨v_rn, rfl, own_rn, q2⟩
  obtain ⟨b_rn, cp_rn, rfl, row_rn⟩ := row_of_owns own_rn
  clear own_rn
  replace row_p := row_p.below q2 (Nat.le_refl _)
  replace row_q := row_q.below q2 (Nat.le_refl _)
  replace row_n := row_n.below q2 (Nat.le_refl _)
  replace row_s := row_s.below q2 (Nat.le_refl _)
  replace row_m := row_m.below q2 (Nat.le_refl _)
  replace row_d := row_d.below q2 (Nat.le_refl _)
  replace q := btrans q q2
  clear q2
  go_wp2_with fail
  refine (ints_any _ _ _ _ _ _ (ints (norm p)) (ints (norm p)) _ row_n row_rn).mono ?_
  rintro e wN ⟨rfl, q2⟩
  replace row_p := row_p.below q2 (Nat.le_refl _)
  replace row_q := row_q.below q2 (Nat.le_refl _)
  replace row_n := row_n.below q2 (Nat.le_refl _)
  replace row_s := row_s.below q2 (Nat.le_refl _)
  replace row_m := row_m.below q2 (Nat.le_refl _)
  replace row_d := row_d.below q2 (Nat.le_refl _)
  replace row_rn := row_rn.below q2 (Nat.le_refl _)
  replace q := btrans q q2
  clear q2
  rw [show decide (ints (norm p) = ints (norm p)) = true from by rw [show norm p = norm p from rfl]; simp]
  have len_rd := len_der p
  go_wp2_with fail
  refine (refDerive_any _ _ _ p _ row_p (by omega)).mono ?_
  rintro e wN ⟨v_rd, rfl, own_rd, q2⟩
  obtain ⟨b_rd, cp_rd, rfl, row_rd⟩ := row_of_owns own_rd
  clear own_rd
  replace row_p := row_p.below q2 (Nat.le_refl _)
  replace row_q := row_q.below q2 (Nat.le_refl _)
  replace row_n := row_n.below q2 (Nat.le_refl _)
  replace row_s := row_s.below q2 (Nat.le_refl _)
  replace row_m := row_m.below q2 (Nat.le_refl _)
  replace row_d := row_d.below q2 (Nat.le_refl _)
  replace row_rn := row_rn.below q2 (Nat.le_refl _)
  replace q := btrans q q2
  clear q2
  go_wp2_with fail
  refine (ints_any _ _ _ _ _ _ (ints (norm (derL p))) (ints (norm (derL p))) _ row_d row_rd).mono ?_
  rintro e wN ⟨rfl, q2⟩
  replace row_p := row_p.below q2 (Nat.le_refl _)
  replace row_q := row_q.below q2 (Nat.le_refl _)
  replace row_n := row_n.below q2 (Nat.le_refl _)
  replace row_s := row_s.below q2 (Nat.le_refl _)
  replace row_m := row_m.below q2 (Nat.le_refl _)
  replace row_d := row_d.below q2 (Nat.le_refl _)
  replace row_rn := row_rn.below q2 (Nat.le_refl _)
  replace row_rd := row_rd.below q2 (Nat.le_refl _)
  replace q := btrans q q2
  clear q2
  rw [show decide (ints (norm (derL p)) = ints (norm (derL p))) = true from by rw [show norm (derL p) = norm (derL p) from rfl]; simp]
  clear row_rn row_rd row_n row_d
  go_wp2_with fail
  refine (is_any n _).mono ?_
  rintro e w' ⟨rfl, rfl⟩
  rw [hxe]
  go_wp2_with fail
  refine (refEval_any _ _ _ p n _ row_p hp hn Lp).mono ?_
  rintro e wN ⟨rfl, q2⟩
  replace row_p := row_p.below q2 (Nat.le_refl _)
  replace row_q := row_q.below q2 (Nat.le_refl _)
  replace row_s := row_s.below q2 (Nat.le_refl _)
  replace row_m := row_m.below q2 (Nat.le_refl _)
  replace q := btrans q q2
  clear q2
  go_wp2_with fail
  refine (isP_any _ _ _ (ints q') _ row_q).mono ?_
  rintro e w' ⟨rfl, rfl⟩
  rw [hy]
  go_wp2_with fail
  refine (awake_any hM hD hE _).mono ?_
  rintro e wN ⟨rfl, q2⟩
  replace row_p := row_p.below q2 (Nat.le_refl _)
  replace row_q := row_q.below q2 (Nat.le_refl _)
  replace row_s := row_s.below q2 (Nat.le_refl _)
  replace row_m := row_m.below q2 (Nat.le_refl _)
  replace q := btrans q q2
  clear q2
  have len_ra := len_add p q'
  go_wp2_with fail
  refine (refAdd_any _ _ _ _ _ _ p q' _ row_p hp row_q hq (by omega) (by omega)).mono ?_
  rintro e wN ⟨v_ra, rfl, own_ra, q2⟩
  obtain ⟨b_ra, cp_ra, rfl, row_ra⟩ := row_of_owns own_ra
  clear own_ra
  replace row_p := row_p.below q2 (Nat.le_refl _)
  replace row_q := row_q.below q2 (Nat.le_refl _)
  replace row_s := row_s.below q2 (Nat.le_refl _)
  replace row_m := row_m.below q2 (Nat.le_refl _)
  replace q := btrans q q2
  clear q2
  go_wp2_with fail
  refine (ints_any _ _ _ _ _ _ (ints (norm (addL p q'))) (ints (norm (addL p q'))) _ row_s row_ra).mono ?_
  rintro e wN ⟨rfl, q2⟩
  replace row_p := row_p.below q2 (Nat.le_refl _)
  replace row_q := row_q.below q2 (Nat.le_refl _)
  replace row_s := row_s.below q2 (Nat.le_refl _)
  replace row_m := row_m.below q2 (Nat.le_refl _)
  replace row_ra := row_ra.below q2 (Nat.le_refl _)
  replace q := btrans q q2
  clear q2
  rw [show decide (ints (norm (addL p q')) = ints (norm (addL p q'))) = true from by rw [show norm (addL p q') = norm (addL p q') from rfl]; simp]
  have len_rm := len_mul p q'
  go_wp2_with fail
  refine (refMulP_any _ _ _ _ _ _ p q' _ row_p hp row_q hq (by omega) (by omega)).mono ?_
  rintro e wN ⟨v_rm, rfl, own_rm, q2⟩
  obtain ⟨b_rm, cp_rm, rfl, row_rm⟩ := row_of_owns own_rm
  clear own_rm
  replace row_p := row_p.below q2 (Nat.le_refl _)
  replace row_q := row_q.below q2 (Nat.le_refl _)
  replace row_s := row_s.below q2 (Nat.le_refl _)
  replace row_m := row_m.below q2 (Nat.le_refl _)
  replace row_ra := row_ra.below q2 (Nat.le_refl _)
  replace q := btrans q q2
  clear q2
  go_wp2_with fail
  refine (ints_any _ _ _ _ _ _ (ints (norm (mulL p q'))) (ints (norm (mulL p q'))) _ row_m row_rm).mono ?_
  rintro e wN ⟨rfl, q2⟩
  replace row_p := row_p.below q2 (Nat.le_refl _)
  replace row_q := row_q.below q2 (Nat.le_refl _)
  replace row_s := row_s.below q2 (Nat.le_refl _)
  replace row_m := row_m.below q2 (Nat.le_refl _)
  replace row_ra := row_ra.below q2 (Nat.le_refl _)
  replace row_rm := row_rm.below q2 (Nat.le_refl _)
  replace q := btrans q q2
  clear q2
  rw [show decide (ints (norm (mulL p q')) = ints (norm (mulL p q'))) = true from by rw [show norm (mulL p q') = norm (mulL p q') from rfl]; simp]
  go_wp2_with fail
  go_ret
  exact ⟨rfl, q⟩

end Go.Proofs.Ytmkjgacimbfblaa
