/-
  The walks of layer 2's laws, out of the face of gf: each returns true; nothing old turns.
-/
import Derived.Test.YtaffkibccedgdabGfFace
namespace Go.Proofs.Ytaffkibccedgdab
open Go.RowKit
set_option linter.unusedVariables false


theorem log_sum (x y z a b : Nat) (hz : z < 8191) (h1 : gpow 2 x = a) (h2 : gpow 2 y = b) (h3 : gpow 2 z = gmul a b) : (x + y) % 8191 = z := by
  refine two_inj _ _ (Nat.mod_lt _ (by decide)) hz ?_
  rw [← gpow_mod 2 (x + y) (by decide) (by decide), gpow_add 2 x y (by decide), h1, h2, h3]
theorem log_inv (x v a : Nat) (ha : a < 8192) (h0 : a ≠ 0) (h1 : gpow 2 x = a) (h2 : gpow 2 v = ginv a) : (x + v) % 8191 = 0 := by
  rw [← two_pow_iff, gpow_add 2 x v (by decide), h1, h2]
  exact gmul_ginv a ha h0
set_option maxHeartbeats 1600000 in
set_option maxRecDepth 100000 in
theorem walk_least (hM : MulC) (hI : InvC) (hL : LogC) (hE : ExpC) (a b : Int) (w : World) :
    Calls Try.prog 3 #[.int .i64 a, .int .i64 b] w fun e w' => e = .returned (.bool true) ∧ Below w.heap.size w w' := by
  cases ha : isE a
  · go_enter Try.func3, Try.ntmps3
    go_wp2_with fail
    refine (is_any a _).mono ?_
    rintro e w' ⟨rfl, rfl⟩
    rw [ha]
    go_wp2_with fail
    go_ret
    exact ⟨rfl, Below.refl _ _⟩
  cases hb : isE b
  · go_enter Try.func3, Try.ntmps3
    go_wp2_with fail
    refine (is_any a _).mono ?_
    rintro e w' ⟨rfl, rfl⟩
    rw [ha]
    go_wp2_with fail
    refine (is_any b _).mono ?_
    rintro e w' ⟨rfl, rfl⟩
    rw [hb]
    go_wp2_with fail
    go_ret
    exact ⟨rfl, Below.refl _ _⟩
  obtain ⟨x, rfl, hx⟩ := isE_true ha
  obtain ⟨y, rfl, hy⟩ := isE_true hb
  by_cases hx0 : x = 0
  · subst hx0
    go_enter Try.func3, Try.ntmps3
    go_wp2_with fail
    refine (is_any 0 _).mono ?_
    rintro e w' ⟨rfl, rfl⟩
    rw [show isE 0 = true from by decide]
    go_wp2_with fail
    refine (is_any y _).mono ?_
    rintro e w' ⟨rfl, rfl⟩
    rw [hb]
    go_wp2_with fail
    go_ret
    exact ⟨rfl, Below.refl _ _⟩
  have hx1 : ((x : Int) == 0) = false := by simp; omega
  by_cases hy0 : y = 0
  · subst hy0
    go_enter Try.func3, Try.ntmps3
    go_wp2_with fail
    refine (is_any x _).mono ?_
    rintro e w' ⟨rfl, rfl⟩
    rw [ha]
    go_wp2_with fail
    refine (is_any 0 _).mono ?_
    rintro e w' ⟨rfl, rfl⟩
    rw [show isE 0 = true from by decide]
    go_wp2_with fail
    go_ret
    exact ⟨rfl, Below.refl _ _⟩
  have hy1 : ((y : Int) == 0) = false := by simp; omega
  have m1 := gmul_lt x y hx
  have m2 := ginv_lt x hx
  have hne := gmul_ne_zero x y hx hy hx0 hy0
  have hni := ginv_ne_zero x hx hx0
  go_enter Try.func3, Try.ntmps3
  go_wp2_with fail
  refine (is_any x _).mono ?_
  rintro e w' ⟨rfl, rfl⟩
  rw [ha]
  go_wp2_with fail
  refine (is_any y _).mono ?_
  rintro e w' ⟨rfl, rfl⟩
  rw [hb]
  clear ha hb
  go_wp2_with fail
  refine (hI.yes x _ hx hx0).mono ?_
  rintro e wN ⟨rfl, q2⟩
  have q := q2
  clear q2
  go_wp2_with fail
  refine (hL.yes x _ hx hx0).mono ?_
  rintro e wN ⟨⟨l1, hl1, hp1, rfl⟩, q2⟩
  have HP1 : Hid (gpow 2 l1 = x) := hp1
  clear hp1
  replace q := btrans q q2
  clear q2
  go_wp2_with fail
  refine (hL.yes y _ hy hy0).mono ?_
  rintro e wN ⟨⟨l2, hl2, hp2, rfl⟩, q2⟩
  have HP2 : Hid (gpow 2 l2 = y) := hp2
  clear hp2
  replace q := btrans q q2
  clear q2
  go_wp2_with fail
  refine (mul_from hM w _ q _ _ (by omega) (by omega) (by omega) (by omega)).mono ?_
  rintro e wN ⟨rfl, q⟩
  go_wp2_with fail
  refine (hL.yes (gmul x y) _ m1 hne).mono ?_
  rintro e wN ⟨⟨l3, hl3, hp3, rfl⟩, q2⟩
  have HP3 : Hid (gpow 2 l3 = (gmul x y)) := hp3
  clear hp3
  replace q := btrans q q2
  clear q2
  go_wp2_with fail
  refine (hL.yes (ginv x) _ m2 hni).mono ?_
  rintro e wN ⟨⟨l4, hl4, hp4, rfl⟩, q2⟩
  have HP4 : Hid (gpow 2 l4 = (ginv x)) := hp4
  clear hp4
  replace q := btrans q q2
  clear q2
  have E1 := log_sum l1 l2 l3 x y hl3 HP1.out HP2.out HP3.out
  have E2 := log_inv l1 l4 x hx hx0 HP1.out HP4.out
  have hq1 : ((((l1 : Int) + (l2 : Int)) % 8191) == (l3 : Int)) = true := by simp; omega
  have hq2 : ((((l1 : Int) + (l4 : Int)) % 8191) == 0) = true := by simp; omega
  clear E1 E2
  go_wp2_with fail
  refine (awake_any hM hI hL hE _).mono ?_
  rintro e wN ⟨rfl, q2⟩
  replace q := btrans q q2
  clear q2
  go_wp2_with fail
  go_ret
  exact ⟨rfl, q⟩

end Go.Proofs.Ytaffkibccedgdab
