/-
  The walks of layer 2's laws, out of the face of gf: each returns true; nothing old turns.
-/
import Derived.Test.YtaffkibccedgdaaGfFace
namespace Go.Proofs.Ytaffkibccedgdaa
open Go.RowKit
set_option linter.unusedVariables false

set_option maxHeartbeats 1600000 in
set_option maxRecDepth 100000 in
theorem walk_logs (hM : MulC) (hI : InvC) (hL : LogC) (hE : ExpC) (a : Int) (w : World) :
    Calls Try.prog 4 #[.int .i64 a] w fun e w' => e = .returned (.bool true) ∧ Below w.heap.size w w' := by
  cases ha : isE a
  · go_enter Try.func4, Try.ntmps4
    go_wp2_with fail
    refine (hL.no a _ ha).mono ?_
    rintro e w1 ⟨rfl, q1⟩
    go_wp2_with fail
    refine (is_any a _).mono ?_
    rintro e w' ⟨rfl, rfl⟩
    rw [ha]
    go_wp2_with fail
    refine (awake_any hM hI hL hE _).mono ?_
    rintro e w2 ⟨rfl, q2⟩
    go_wp2_with fail
    go_ret
    exact ⟨rfl, btrans q1 q2⟩
  · obtain ⟨n, rfl, hn⟩ := isE_true ha
    by_cases h0 : n = 0
    · subst h0
      go_enter Try.func4, Try.ntmps4
      go_wp2_with fail
      refine (hL.zero _).mono ?_
      rintro e w1 ⟨rfl, q1⟩
      go_wp2_with fail
      refine (is_any 0 _).mono ?_
      rintro e w' ⟨rfl, rfl⟩
      rw [show isE 0 = true from by decide]
      go_wp2_with fail
      refine (awake_any hM hI hL hE _).mono ?_
      rintro e w2 ⟨rfl, q2⟩
      go_wp2_with fail
      go_ret
      exact ⟨rfl, btrans q1 q2⟩
    · have hz : ((n : Int) == 0) = false := by simp; omega
      go_enter Try.func4, Try.ntmps4
      go_wp2_with fail
      refine (hL.yes n _ hn h0).mono ?_
      rintro e w1 ⟨⟨l, hl, hp, rfl⟩, q1⟩
      have HP : Hid (gpow 2 l = n) := hp
      clear hp
      go_wp2_with fail
      refine (is_any n _).mono ?_
      rintro e w' ⟨rfl, rfl⟩
      rw [ha]
      go_wp2_with fail
      refine (awake_any hM hI hL hE _).mono ?_
      rintro e w2 ⟨rfl, q2⟩
      go_wp2_with fail
      refine (refExp_any l _ (by omega) (by omega)).mono ?_
      rintro e w' ⟨rfl, rfl⟩
      rw [gz_nat 2 l (by decide) (by decide), HP.out]
      go_wp2_with fail
      go_ret
      exact ⟨rfl, btrans q1 q2⟩

set_option maxHeartbeats 1600000 in
set_option maxRecDepth 100000 in
theorem walk_laws (hM : MulC) (hI : InvC) (hL : LogC) (hE : ExpC) (a b c : Int) (w : World) :
    Calls Try.prog 5 #[.int .i64 a, .int .i64 b, .int .i64 c] w fun e w' => e = .returned (.bool true) ∧ Below w.heap.size w w' := by
  cases ha : isE a
  · go_enter Try.func5, Try.ntmps5
    go_wp2_with (go_at_call 14; refine (is_any a _).mono ?_; rintro e w' ⟨rfl, rfl⟩; rw [ha])
    go_ret
    exact ⟨rfl, Below.refl _ _⟩
  cases hb : isE b
  · go_enter Try.func5, Try.ntmps5
    go_wp2_with fail
    refine (is_any a _).mono ?_
    rintro e w' ⟨rfl, rfl⟩
    rw [ha]
    go_wp2_with fail
    refine (is_any b _).mono ?_
    rintro e w' ⟨rfl, rfl⟩
    rw [hb]
    go_wp2_with fail
    go_ret
    exact ⟨rfl, Below.refl _ _⟩
  cases hc : isE c
  · go_enter Try.func5, Try.ntmps5
    go_wp2_with fail
    refine (is_any a _).mono ?_
    rintro e w' ⟨rfl, rfl⟩
    rw [ha]
    go_wp2_with fail
    refine (is_any b _).mono ?_
    rintro e w' ⟨rfl, rfl⟩
    rw [hb]
    go_wp2_with fail
    refine (is_any c _).mono ?_
    rintro e w' ⟨rfl, rfl⟩
    rw [hc]
    go_wp2_with fail
    go_ret
    exact ⟨rfl, Below.refl _ _⟩
  obtain ⟨x, rfl, hx⟩ := isE_true ha
  obtain ⟨y, rfl, hy⟩ := isE_true hb
  obtain ⟨z, rfl, hz⟩ := isE_true hc
  have hxy := xor_lt x y hx hy
  have m1 := gmul_lt x y hx
  have m2 := gmul_lt y z hy
  have m3 := gmul_lt x z hx
  have m4 := gmul_lt x x hx
  have m5 := gmul_lt y y hy
  have e1 : gmul y x = gmul x y := gmul_comm y x hy hx
  have e2 : gmul x (gmul y z) = gmul (gmul x y) z := (gmul_assoc x y z hx hy hz).symm
  have e3 : gmul x z ^^^ gmul y z = gmul (x ^^^ y) z := (gmul_left x y z hx hy).symm
  have e4 : gmul x x ^^^ gmul y y = gmul (x ^^^ y) (x ^^^ y) := (gsq_xor x y hx hy).symm
  have e5 : gmul x 1 = x := gmul_one x hx
  have e6 : gmul x 0 = 0 := gmul_zero x
  have E1 := e1
  have H1 : Hid (gmul y x = gmul x y) := e1
  have H2 : Hid (gmul x (gmul y z) = gmul (gmul x y) z) := e2
  have H3 : Hid (gmul x z ^^^ gmul y z = gmul (x ^^^ y) z) := e3
  have H4 : Hid (gmul x x ^^^ gmul y y = gmul (x ^^^ y) (x ^^^ y)) := e4
  have H5 : Hid (gmul x 1 = x) := e5
  have H6 : Hid (gmul x 0 = 0) := e6
  clear e1 e2 e3 e4 e5 e6 E1
  go_enter Try.func5, Try.ntmps5
  go_wp2_with fail
  refine (is_any x _).mono ?_
  rintro e w' ⟨rfl, rfl⟩
  rw [ha]
  go_wp2_with fail
  refine (is_any y _).mono ?_
  rintro e w' ⟨rfl, rfl⟩
  rw [hb]
  go_wp2_with fail
  refine (is_any z _).mono ?_
  rintro e w' ⟨rfl, rfl⟩
  rw [hc]
  clear ha hb hc
  go_wp2_with fail
  refine (sum_any x y _ (by omega) (by omega)).mono ?_
  rintro e w' ⟨rfl, rfl⟩
  generalize hs : x ^^^ y = s at *
  clear hs
  go_wp2_with fail
  refine (awake_any hM hI hL hE _).mono ?_
  rintro e w1 ⟨rfl, q⟩
  go_wp2_with fail
  refine (mul_from hM w _ q _ _ (by omega) (by omega) (by omega) (by omega)).mono ?_
  rintro e wN ⟨rfl, q⟩
  go_wp2_with fail
  refine (mul_from hM w _ q _ _ (by omega) (by omega) (by omega) (by omega)).mono ?_
  rintro e wN ⟨rfl, q⟩
  rw [show gmul (y : Int).toNat (x : Int).toNat = gmul x y from H1.out]
  go_wp2_with fail
  refine (mul_from hM w _ q _ _ (by omega) (by omega) (by omega) (by omega)).mono ?_
  rintro e wN ⟨rfl, q⟩
  go_wp2_with fail
  refine (mul_from hM w _ q _ _ (by omega) (by omega) (by omega) (by omega)).mono ?_
  rintro e wN ⟨rfl, q⟩
  go_wp2_with fail
  refine (mul_from hM w _ q _ _ (by omega) (by omega) (by omega) (by omega)).mono ?_
  rintro e wN ⟨rfl, q⟩
  go_wp2_with fail
  refine (mul_from hM w _ q _ _ (by omega) (by omega) (by omega) (by omega)).mono ?_
  rintro e wN ⟨rfl, q⟩
  rw [show gmul (x : Int).toNat ((gmul y z : Nat) : Int).toNat = gmul (gmul x y) z from H2.out]
  go_wp2_with fail
  refine (mul_from hM w _ q _ _ (by omega) (by omega) (by omega) (by omega)).mono ?_
  rintro e wN ⟨rfl, q⟩
  go_wp2_with fail
  refine (mul_from hM w _ q _ _ (by omega) (by omega) (by omega) (by omega)).mono ?_
  rintro e wN ⟨rfl, q⟩
  go_wp2_with fail
  refine (mul_from hM w _ q _ _ (by omega) (by omega) (by omega) (by omega)).mono ?_
  rintro e wN ⟨rfl, q⟩
  go_wp2_with fail
  refine (sum_int _ _ _ (by omega) (by omega) (by omega) (by omega)).mono ?_
  rintro e w' ⟨rfl, rfl⟩
  rw [show ((gmul x z : Nat) : Int).toNat ^^^ ((gmul y z : Nat) : Int).toNat = gmul s z from H3.out]
  go_wp2_with fail
  refine (mul_from hM w _ q _ _ (by omega) (by omega) (by omega) (by omega)).mono ?_
  rintro e wN ⟨rfl, q⟩
  go_wp2_with fail
  refine (mul_from hM w _ q _ _ (by omega) (by omega) (by omega) (by omega)).mono ?_
  rintro e wN ⟨rfl, q⟩
  go_wp2_with fail
  refine (mul_from hM w _ q _ _ (by omega) (by omega) (by omega) (by omega)).mono ?_
  rintro e wN ⟨rfl, q⟩
  go_wp2_with fail
  refine (sum_int _ _ _ (by omega) (by omega) (by omega) (by omega)).mono ?_
  rintro e w' ⟨rfl, rfl⟩
  rw [show ((gmul x x : Nat) : Int).toNat ^^^ ((gmul y y : Nat) : Int).toNat = gmul s s from H4.out]
  go_wp2_with fail
  refine (mul_from hM w _ q _ _ (by omega) (by omega) (by omega) (by omega)).mono ?_
  rintro e wN ⟨rfl, q⟩
  rw [show gmul (x : Int).toNat (1 : Int).toNat = x from H5.out]
  go_wp2_with fail
  refine (mul_from hM w _ q _ _ (by omega) (by omega) (by omega) (by omega)).mono ?_
  rintro e wN ⟨rfl, q⟩
  rw [show gmul (x : Int).toNat (0 : Int).toNat = 0 from H6.out]
  go_wp2_with fail
  go_ret
  exact ⟨rfl, q⟩

set_option maxHeartbeats 1600000 in
set_option maxRecDepth 100000 in
theorem walk_inverts (hM : MulC) (hI : InvC) (hL : LogC) (hE : ExpC) (a b : Int) (w : World) :
    Calls Try.prog 6 #[.int .i64 a, .int .i64 b] w fun e w' => e = .returned (.bool true) ∧ Below w.heap.size w w' := by
  cases ha : isE a
  · go_enter Try.func6, Try.ntmps6
    go_wp2_with fail
    refine (is_any a _).mono ?_
    rintro e w' ⟨rfl, rfl⟩
    rw [ha]
    go_wp2_with fail
    go_ret
    exact ⟨rfl, Below.refl _ _⟩
  cases hb : isE b
  · go_enter Try.func6, Try.ntmps6
    go_wp2_with fail
    refine (is_any a _).mono ?_
    rintro e w' ⟨rfl, rfl⟩
    rw [ha]
    go_wp2_with fail
    refine (is_any b _).mono ?_
    rintro e w' ⟨rfl, rfl⟩
    rw [hb]
    go_wp2_with fail
    go_ret
    exact ⟨rfl, Below.refl _ _⟩
  obtain ⟨x, rfl, hx⟩ := isE_true ha
  obtain ⟨y, rfl, hy⟩ := isE_true hb
  by_cases hx0 : x = 0
  · subst hx0
    go_enter Try.func6, Try.ntmps6
    go_wp2_with fail
    refine (is_any 0 _).mono ?_
    rintro e w' ⟨rfl, rfl⟩
    rw [show isE 0 = true from by decide]
    go_wp2_with fail
    refine (is_any y _).mono ?_
    rintro e w' ⟨rfl, rfl⟩
    rw [hb]
    go_wp2_with fail
    go_ret
    exact ⟨rfl, Below.refl _ _⟩
  have hx1 : ((x : Int) == 0) = false := by simp; omega
  by_cases hy0 : y = 0
  · subst hy0
    go_enter Try.func6, Try.ntmps6
    go_wp2_with fail
    refine (is_any x _).mono ?_
    rintro e w' ⟨rfl, rfl⟩
    rw [ha]
    go_wp2_with fail
    refine (is_any 0 _).mono ?_
    rintro e w' ⟨rfl, rfl⟩
    rw [show isE 0 = true from by decide]
    go_wp2_with fail
    go_ret
    exact ⟨rfl, Below.refl _ _⟩
  have hy1 : ((y : Int) == 0) = false := by simp; omega
  have m1 := gmul_lt x y hx
  have m2 := ginv_lt x hx
  have m3 := ginv_lt y hy
  have hne := gmul_ne_zero x y hx hy hx0 hy0
  have hne1 : (((gmul x y : Nat) : Int) != 0) = true := by simp; omega
  have H1 : Hid (gmul x (ginv x) = 1) := gmul_ginv x hx hx0
  have H2 : Hid (gmul (ginv x) (ginv y) = ginv (gmul x y)) := (ginv_gmul x y hx hy).symm
  go_enter Try.func6, Try.ntmps6
  go_wp2_with fail
  refine (is_any x _).mono ?_
  rintro e w' ⟨rfl, rfl⟩
  rw [ha]
  go_wp2_with fail
  refine (is_any y _).mono ?_
  rintro e w' ⟨rfl, rfl⟩
  rw [hb]
  clear ha hb
  go_wp2_with fail
  refine (hI.yes x _ hx hx0).mono ?_
  rintro e w1 ⟨rfl, q⟩
  go_wp2_with fail
  refine (hI.yes y _ hy hy0).mono ?_
  rintro e w2 ⟨rfl, q2⟩
  replace q := btrans q q2
  clear q2
  go_wp2_with fail
  refine (mul_from hM w _ q _ _ (by omega) (by omega) (by omega) (by omega)).mono ?_
  rintro e wN ⟨rfl, q⟩
  go_wp2_with fail
  refine (hI.yes (gmul x y) _ m1 hne).mono ?_
  rintro e w4 ⟨rfl, q2⟩
  replace q := btrans q q2
  clear q2
  go_wp2_with fail
  refine (awake_any hM hI hL hE _).mono ?_
  rintro e w5 ⟨rfl, q2⟩
  replace q := btrans q q2
  clear q2
  go_wp2_with fail
  refine (mul_from hM w _ q _ _ (by omega) (by omega) (by omega) (by omega)).mono ?_
  rintro e wN ⟨rfl, q⟩
  rw [show gmul (x : Int).toNat ((ginv x : Nat) : Int).toNat = 1 from H1.out]
  go_wp2_with fail
  refine (mul_from hM w _ q _ _ (by omega) (by omega) (by omega) (by omega)).mono ?_
  rintro e wN ⟨rfl, q⟩
  rw [show gmul ((ginv x : Nat) : Int).toNat ((ginv y : Nat) : Int).toNat = ginv (gmul x y) from H2.out]
  go_wp2_with fail
  refine (mul_from hM w _ q _ _ (by omega) (by omega) (by omega) (by omega)).mono ?_
  rintro e wN ⟨rfl, q⟩
  go_wp2_with fail
  go_ret
  exact ⟨rfl, q⟩

end Go.Proofs.Ytaffkibccedgdaa
