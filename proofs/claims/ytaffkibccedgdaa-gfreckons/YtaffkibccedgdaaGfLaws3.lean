/-
  The walks of layer 2's laws, out of the face of gf: each returns true; nothing old turns.
-/
import Derived.Test.YtaffkibccedgdaaGfFace
namespace Go.Proofs.Ytaffkibccedgdaa
open Go.RowKit
set_option linter.unusedVariables false


set_option maxHeartbeats 6400000 in
set_option maxRecDepth 100000 in
theorem walk_reckons (hM : MulC) (hI : InvC) (hL : LogC) (hE : ExpC) (hP : PowC) (a b n : Int) (w : World) (h1 : -9223372036854775808 ≤ n) (h2 : n ≤ 9223372036854775807) :
    Calls Try.prog 3 #[.int .i64 a, .int .i64 b, .int .i64 n] w fun e w' => e = .returned (.bool true) ∧ Below w.heap.size w w' := by
  cases ha : isE a
  · go_enter Try.func3, Try.ntmps3
    go_wp2_with fail
    refine (hM.no a b _ (by rw [ha]; rfl)).mono ?_
    rintro e wN ⟨rfl, q2⟩
    have q := q2
    clear q2
    go_wp2_with fail
    refine (hI.no a _ ha).mono ?_
    rintro e wN ⟨rfl, q2⟩
    replace q := btrans q q2
    clear q2
    go_wp2_with fail
    refine (hP.no a n _ ha h1 h2).mono ?_
    rintro e wN ⟨rfl, q2⟩
    replace q := btrans q q2
    clear q2
    go_wp2_with fail
    refine (hE n _ h1 h2).mono ?_
    rintro e wN ⟨rfl, q2⟩
    replace q := btrans q q2
    clear q2
    go_wp2_with fail
    refine (refExp_any n _ h1 h2).mono ?_
    rintro e w' ⟨rfl, rfl⟩
    go_wp2_with fail
    refine (is_any a _).mono ?_
    rintro e w' ⟨rfl, rfl⟩
    rw [ha]
    go_wp2_with fail
    refine (awake_any hM hI hL hE _).mono ?_
    rintro e wN ⟨rfl, q2⟩
    replace q := btrans q q2
    clear q2
    go_wp2_with fail
    go_ret
    exact ⟨rfl, q⟩
  obtain ⟨x, rfl, hx⟩ := isE_true ha
  by_cases hx0 : x = 0
  · subst hx0
    rcases Int.lt_trichotomy n 0 with hn | hn | hn
    · cases hb : isE b
      · go_enter Try.func3, Try.ntmps3
        go_wp2_with fail
        refine (hM.no 0 b _ (by rw [hb]; simp)).mono ?_
        rintro e wN ⟨rfl, q2⟩
        have q := q2
        clear q2
        go_wp2_with fail
        refine (hI.zero _).mono ?_
        rintro e wN ⟨rfl, q2⟩
        replace q := btrans q q2
        clear q2
        go_wp2_with fail
        refine (hP.zneg n _ hn h1).mono ?_
        rintro e wN ⟨rfl, q2⟩
        replace q := btrans q q2
        clear q2
        go_wp2_with fail
        refine (hE n _ h1 h2).mono ?_
        rintro e wN ⟨rfl, q2⟩
        replace q := btrans q q2
        clear q2
        go_wp2_with fail
        refine (refExp_any n _ h1 h2).mono ?_
        rintro e w' ⟨rfl, rfl⟩
        go_wp2_with fail
        refine (is_any 0 _).mono ?_
        rintro e w' ⟨rfl, rfl⟩
        rw [show isE 0 = true from by decide]
        go_wp2_with fail
        refine (is_any b _).mono ?_
        rintro e w' ⟨rfl, rfl⟩
        rw [hb]
        go_wp2_with fail
        refine (awake_any hM hI hL hE _).mono ?_
        rintro e wN ⟨rfl, q2⟩
        replace q := btrans q q2
        clear q2
        go_wp2_with fail
        go_ret
        exact ⟨rfl, q⟩
      · obtain ⟨y, rfl, hy⟩ := isE_true hb
        go_enter Try.func3, Try.ntmps3
        go_wp2_with fail
        refine (hM.int 0 y _ (by omega) (by omega) (by omega) (by omega)).mono ?_
        rintro e wN ⟨rfl, q2⟩
        have q := q2
        clear q2
        go_wp2_with fail
        refine (hI.zero _).mono ?_
        rintro e wN ⟨rfl, q2⟩
        replace q := btrans q q2
        clear q2
        go_wp2_with fail
        refine (hP.zneg n _ hn h1).mono ?_
        rintro e wN ⟨rfl, q2⟩
        replace q := btrans q q2
        clear q2
        go_wp2_with fail
        refine (hE n _ h1 h2).mono ?_
        rintro e wN ⟨rfl, q2⟩
        replace q := btrans q q2
        clear q2
        go_wp2_with fail
        refine (refExp_any n _ h1 h2).mono ?_
        rintro e w' ⟨rfl, rfl⟩
        go_wp2_with fail
        refine (is_any 0 _).mono ?_
        rintro e w' ⟨rfl, rfl⟩
        rw [show isE 0 = true from by decide]
        go_wp2_with fail
        refine (is_any y _).mono ?_
        rintro e w' ⟨rfl, rfl⟩
        rw [hb]
        go_wp2_with fail
        refine (refMul_int 0 y _ (by omega) (by omega) (by omega) (by omega)).mono ?_
        rintro e w' ⟨rfl, rfl⟩
        go_wp2_with fail
        refine (awake_any hM hI hL hE _).mono ?_
        rintro e wN ⟨rfl, q2⟩
        replace q := btrans q q2
        clear q2
        go_wp2_with fail
        go_ret
        exact ⟨rfl, q⟩
    · subst hn
      cases hb : isE b
      · go_enter Try.func3, Try.ntmps3
        go_wp2_with fail
        refine (hM.no 0 b _ (by rw [hb]; simp)).mono ?_
        rintro e wN ⟨rfl, q2⟩
        have q := q2
        clear q2
        go_wp2_with fail
        refine (hI.zero _).mono ?_
        rintro e wN ⟨rfl, q2⟩
        replace q := btrans q q2
        clear q2
        go_wp2_with fail
        refine (hP.zzero _).mono ?_
        rintro e wN ⟨rfl, q2⟩
        replace q := btrans q q2
        clear q2
        go_wp2_with fail
        refine (hE 0 _ (by omega) (by omega)).mono ?_
        rintro e wN ⟨rfl, q2⟩
        replace q := btrans q q2
        clear q2
        go_wp2_with fail
        refine (refExp_any 0 _ (by omega) (by omega)).mono ?_
        rintro e w' ⟨rfl, rfl⟩
        go_wp2_with fail
        refine (is_any 0 _).mono ?_
        rintro e w' ⟨rfl, rfl⟩
        rw [show isE 0 = true from by decide]
        go_wp2_with fail
        refine (is_any b _).mono ?_
        rintro e w' ⟨rfl, rfl⟩
        rw [hb]
        go_wp2_with fail
        refine (awake_any hM hI hL hE _).mono ?_
        rintro e wN ⟨rfl, q2⟩
        replace q := btrans q q2
        clear q2
        go_wp2_with fail
        go_ret
        exact ⟨rfl, q⟩
      · obtain ⟨y, rfl, hy⟩ := isE_true hb
        go_enter Try.func3, Try.ntmps3
        go_wp2_with fail
        refine (hM.int 0 y _ (by omega) (by omega) (by omega) (by omega)).mono ?_
        rintro e wN ⟨rfl, q2⟩
        have q := q2
        clear q2
        go_wp2_with fail
        refine (hI.zero _).mono ?_
        rintro e wN ⟨rfl, q2⟩
        replace q := btrans q q2
        clear q2
        go_wp2_with fail
        refine (hP.zzero _).mono ?_
        rintro e wN ⟨rfl, q2⟩
        replace q := btrans q q2
        clear q2
        go_wp2_with fail
        refine (hE 0 _ (by omega) (by omega)).mono ?_
        rintro e wN ⟨rfl, q2⟩
        replace q := btrans q q2
        clear q2
        go_wp2_with fail
        refine (refExp_any 0 _ (by omega) (by omega)).mono ?_
        rintro e w' ⟨rfl, rfl⟩
        go_wp2_with fail
        refine (is_any 0 _).mono ?_
        rintro e w' ⟨rfl, rfl⟩
        rw [show isE 0 = true from by decide]
        go_wp2_with fail
        refine (is_any y _).mono ?_
        rintro e w' ⟨rfl, rfl⟩
        rw [hb]
        go_wp2_with fail
        refine (refMul_int 0 y _ (by omega) (by omega) (by omega) (by omega)).mono ?_
        rintro e w' ⟨rfl, rfl⟩
        go_wp2_with fail
        refine (awake_any hM hI hL hE _).mono ?_
        rintro e wN ⟨rfl, q2⟩
        replace q := btrans q q2
        clear q2
        go_wp2_with fail
        go_ret
        exact ⟨rfl, q⟩
    · have hnz : (n == 0) = false := by simp; omega
      cases hb : isE b
      · go_enter Try.func3, Try.ntmps3
        go_wp2_with fail
        refine (hM.no 0 b _ (by rw [hb]; simp)).mono ?_
        rintro e wN ⟨rfl, q2⟩
        have q := q2
        clear q2
        go_wp2_with fail
        refine (hI.zero _).mono ?_
        rintro e wN ⟨rfl, q2⟩
        replace q := btrans q q2
        clear q2
        go_wp2_with fail
        refine (hP.zpos n _ hn h2).mono ?_
        rintro e wN ⟨rfl, q2⟩
        replace q := btrans q q2
        clear q2
        go_wp2_with fail
        refine (hE n _ h1 h2).mono ?_
        rintro e wN ⟨rfl, q2⟩
        replace q := btrans q q2
        clear q2
        go_wp2_with fail
        refine (refExp_any n _ h1 h2).mono ?_
        rintro e w' ⟨rfl, rfl⟩
        go_wp2_with fail
        refine (is_any 0 _).mono ?_
        rintro e w' ⟨rfl, rfl⟩
        rw [show isE 0 = true from by decide]
        go_wp2_with fail
        refine (is_any b _).mono ?_
        rintro e w' ⟨rfl, rfl⟩
        rw [hb]
        go_wp2_with fail
        refine (awake_any hM hI hL hE _).mono ?_
        rintro e wN ⟨rfl, q2⟩
        replace q := btrans q q2
        clear q2
        go_wp2_with fail
        go_ret
        exact ⟨rfl, q⟩
      · obtain ⟨y, rfl, hy⟩ := isE_true hb
        go_enter Try.func3, Try.ntmps3
        go_wp2_with fail
        refine (hM.int 0 y _ (by omega) (by omega) (by omega) (by omega)).mono ?_
        rintro e wN ⟨rfl, q2⟩
        have q := q2
        clear q2
        go_wp2_with fail
        refine (hI.zero _).mono ?_
        rintro e wN ⟨rfl, q2⟩
        replace q := btrans q q2
        clear q2
        go_wp2_with fail
        refine (hP.zpos n _ hn h2).mono ?_
        rintro e wN ⟨rfl, q2⟩
        replace q := btrans q q2
        clear q2
        go_wp2_with fail
        refine (hE n _ h1 h2).mono ?_
        rintro e wN ⟨rfl, q2⟩
        replace q := btrans q q2
        clear q2
        go_wp2_with fail
        refine (refExp_any n _ h1 h2).mono ?_
        rintro e w' ⟨rfl, rfl⟩
        go_wp2_with fail
        refine (is_any 0 _).mono ?_
        rintro e w' ⟨rfl, rfl⟩
        rw [show isE 0 = true from by decide]
        go_wp2_with fail
        refine (is_any y _).mono ?_
        rintro e w' ⟨rfl, rfl⟩
        rw [hb]
        go_wp2_with fail
        refine (refMul_int 0 y _ (by omega) (by omega) (by omega) (by omega)).mono ?_
        rintro e w' ⟨rfl, rfl⟩
        go_wp2_with fail
        refine (awake_any hM hI hL hE _).mono ?_
        rintro e wN ⟨rfl, q2⟩
        replace q := btrans q q2
        clear q2
        go_wp2_with fail
        go_ret
        exact ⟨rfl, q⟩
  have hx1 : ((x : Int) == 0) = false := by simp; omega
  by_cases hn : 0 ≤ n
  · have HG : Hid (gpow x (n % 8191).toNat = gz x n) := rfl
    cases hb : isE b
    · go_enter Try.func3, Try.ntmps3
      go_wp2_with fail
      refine (hM.no x b _ (by rw [hb]; simp)).mono ?_
      rintro e wN ⟨rfl, q2⟩
      have q := q2
      clear q2
      go_wp2_with fail
      refine (hI.yes x _ hx hx0).mono ?_
      rintro e wN ⟨rfl, q2⟩
      replace q := btrans q q2
      clear q2
      go_wp2_with fail
      refine (hP.yes x n _ hx hx0 h1 h2).mono ?_
      rintro e wN ⟨rfl, q2⟩
      replace q := btrans q q2
      clear q2
      go_wp2_with fail
      refine (hE n _ h1 h2).mono ?_
      rintro e wN ⟨rfl, q2⟩
      replace q := btrans q q2
      clear q2
      go_wp2_with fail
      refine (refExp_any n _ h1 h2).mono ?_
      rintro e w' ⟨rfl, rfl⟩
      go_wp2_with fail
      refine (is_any x _).mono ?_
      rintro e w' ⟨rfl, rfl⟩
      rw [ha]
      go_wp2_with fail
      refine (is_any b _).mono ?_
      rintro e w' ⟨rfl, rfl⟩
      rw [hb]
      go_wp2_with fail
      refine (refInv_any x _ hx).mono ?_
      rintro e w' ⟨rfl, rfl⟩
      go_wp2_with fail
      refine (awake_any hM hI hL hE _).mono ?_
      rintro e wN ⟨rfl, q2⟩
      replace q := btrans q q2
      clear q2
      go_wp2_with fail
      refine (refPow_int x (n % 8191) _ hx (by omega) (by omega)).mono ?_
      rintro e w' ⟨rfl, rfl⟩
      rw [show gpow x (n % 8191).toNat = gz x n from HG.out]
      go_wp2_with fail
      go_ret
      exact ⟨rfl, q⟩
    · obtain ⟨y, rfl, hy⟩ := isE_true hb
      go_enter Try.func3, Try.ntmps3
      go_wp2_with fail
      refine (hM.int x y _ (by omega) (by omega) (by omega) (by omega)).mono ?_
      rintro e wN ⟨rfl, q2⟩
      have q := q2
      clear q2
      go_wp2_with fail
      refine (hI.yes x _ hx hx0).mono ?_
      rintro e wN ⟨rfl, q2⟩
      replace q := btrans q q2
      clear q2
      go_wp2_with fail
      refine (hP.yes x n _ hx hx0 h1 h2).mono ?_
      rintro e wN ⟨rfl, q2⟩
      replace q := btrans q q2
      clear q2
      go_wp2_with fail
      refine (hE n _ h1 h2).mono ?_
      rintro e wN ⟨rfl, q2⟩
      replace q := btrans q q2
      clear q2
      go_wp2_with fail
      refine (refExp_any n _ h1 h2).mono ?_
      rintro e w' ⟨rfl, rfl⟩
      go_wp2_with fail
      refine (is_any x _).mono ?_
      rintro e w' ⟨rfl, rfl⟩
      rw [ha]
      go_wp2_with fail
      refine (is_any y _).mono ?_
      rintro e w' ⟨rfl, rfl⟩
      rw [hb]
      go_wp2_with fail
      refine (refMul_int x y _ (by omega) (by omega) (by omega) (by omega)).mono ?_
      rintro e w' ⟨rfl, rfl⟩
      go_wp2_with fail
      refine (refInv_any x _ hx).mono ?_
      rintro e w' ⟨rfl, rfl⟩
      go_wp2_with fail
      refine (awake_any hM hI hL hE _).mono ?_
      rintro e wN ⟨rfl, q2⟩
      replace q := btrans q q2
      clear q2
      go_wp2_with fail
      refine (refPow_int x (n % 8191) _ hx (by omega) (by omega)).mono ?_
      rintro e w' ⟨rfl, rfl⟩
      rw [show gpow x (n % 8191).toNat = gz x n from HG.out]
      go_wp2_with fail
      go_ret
      exact ⟨rfl, q⟩
  have htm := tmod_neg n (by omega)
  have hb1 : -8190 ≤ n.tmod 8191 := by omega
  have hb2 : n.tmod 8191 ≤ 0 := by omega
  by_cases hr : n.tmod 8191 < 0
  · have HG : Hid (gpow x (n.tmod 8191 + 8191).toNat = gz x n) := by
      show _ = gpow x (n % 8191).toNat
      congr 1
      omega
    clear htm
    cases hb : isE b
    · go_enter Try.func3, Try.ntmps3
      go_wp2_with fail
      refine (hM.no x b _ (by rw [hb]; simp)).mono ?_
      rintro e wN ⟨rfl, q2⟩
      have q := q2
      clear q2
      go_wp2_with fail
      refine (hI.yes x _ hx hx0).mono ?_
      rintro e wN ⟨rfl, q2⟩
      replace q := btrans q q2
      clear q2
      go_wp2_with fail
      refine (hP.yes x n _ hx hx0 h1 h2).mono ?_
      rintro e wN ⟨rfl, q2⟩
      replace q := btrans q q2
      clear q2
      go_wp2_with fail
      refine (hE n _ h1 h2).mono ?_
      rintro e wN ⟨rfl, q2⟩
      replace q := btrans q q2
      clear q2
      go_wp2_with fail
      refine (refExp_any n _ h1 h2).mono ?_
      rintro e w' ⟨rfl, rfl⟩
      go_wp2_with fail
      refine (is_any x _).mono ?_
      rintro e w' ⟨rfl, rfl⟩
      rw [ha]
      go_wp2_with fail
      refine (is_any b _).mono ?_
      rintro e w' ⟨rfl, rfl⟩
      rw [hb]
      go_wp2_with fail
      refine (refInv_any x _ hx).mono ?_
      rintro e w' ⟨rfl, rfl⟩
      go_wp2_with fail
      refine (awake_any hM hI hL hE _).mono ?_
      rintro e wN ⟨rfl, q2⟩
      replace q := btrans q q2
      clear q2
      go_wp2_with fail
      refine (refPow_int x (n.tmod 8191 + 8191) _ hx (by omega) (by omega)).mono ?_
      rintro e w' ⟨rfl, rfl⟩
      rw [show gpow x (n.tmod 8191 + 8191).toNat = gz x n from HG.out]
      go_wp2_with fail
      go_ret
      exact ⟨rfl, q⟩
    · obtain ⟨y, rfl, hy⟩ := isE_true hb
      go_enter Try.func3, Try.ntmps3
      go_wp2_with fail
      refine (hM.int x y _ (by omega) (by omega) (by omega) (by omega)).mono ?_
      rintro e wN ⟨rfl, q2⟩
      have q := q2
      clear q2
      go_wp2_with fail
      refine (hI.yes x _ hx hx0).mono ?_
      rintro e wN ⟨rfl, q2⟩
      replace q := btrans q q2
      clear q2
      go_wp2_with fail
      refine (hP.yes x n _ hx hx0 h1 h2).mono ?_
      rintro e wN ⟨rfl, q2⟩
      replace q := btrans q q2
      clear q2
      go_wp2_with fail
      refine (hE n _ h1 h2).mono ?_
      rintro e wN ⟨rfl, q2⟩
      replace q := btrans q q2
      clear q2
      go_wp2_with fail
      refine (refExp_any n _ h1 h2).mono ?_
      rintro e w' ⟨rfl, rfl⟩
      go_wp2_with fail
      refine (is_any x _).mono ?_
      rintro e w' ⟨rfl, rfl⟩
      rw [ha]
      go_wp2_with fail
      refine (is_any y _).mono ?_
      rintro e w' ⟨rfl, rfl⟩
      rw [hb]
      go_wp2_with fail
      refine (refMul_int x y _ (by omega) (by omega) (by omega) (by omega)).mono ?_
      rintro e w' ⟨rfl, rfl⟩
      go_wp2_with fail
      refine (refInv_any x _ hx).mono ?_
      rintro e w' ⟨rfl, rfl⟩
      go_wp2_with fail
      refine (awake_any hM hI hL hE _).mono ?_
      rintro e wN ⟨rfl, q2⟩
      replace q := btrans q q2
      clear q2
      go_wp2_with fail
      refine (refPow_int x (n.tmod 8191 + 8191) _ hx (by omega) (by omega)).mono ?_
      rintro e w' ⟨rfl, rfl⟩
      rw [show gpow x (n.tmod 8191 + 8191).toNat = gz x n from HG.out]
      go_wp2_with fail
      go_ret
      exact ⟨rfl, q⟩
  · have HG : Hid (gpow x (n.tmod 8191).toNat = gz x n) := by
      show _ = gpow x (n % 8191).toNat
      congr 1
      omega
    clear htm
    cases hb : isE b
    · go_enter Try.func3, Try.ntmps3
      go_wp2_with fail
      refine (hM.no x b _ (by rw [hb]; simp)).mono ?_
      rintro e wN ⟨rfl, q2⟩
      have q := q2
      clear q2
      go_wp2_with fail
      refine (hI.yes x _ hx hx0).mono ?_
      rintro e wN ⟨rfl, q2⟩
      replace q := btrans q q2
      clear q2
      go_wp2_with fail
      refine (hP.yes x n _ hx hx0 h1 h2).mono ?_
      rintro e wN ⟨rfl, q2⟩
      replace q := btrans q q2
      clear q2
      go_wp2_with fail
      refine (hE n _ h1 h2).mono ?_
      rintro e wN ⟨rfl, q2⟩
      replace q := btrans q q2
      clear q2
      go_wp2_with fail
      refine (refExp_any n _ h1 h2).mono ?_
      rintro e w' ⟨rfl, rfl⟩
      go_wp2_with fail
      refine (is_any x _).mono ?_
      rintro e w' ⟨rfl, rfl⟩
      rw [ha]
      go_wp2_with fail
      refine (is_any b _).mono ?_
      rintro e w' ⟨rfl, rfl⟩
      rw [hb]
      go_wp2_with fail
      refine (refInv_any x _ hx).mono ?_
      rintro e w' ⟨rfl, rfl⟩
      go_wp2_with fail
      refine (awake_any hM hI hL hE _).mono ?_
      rintro e wN ⟨rfl, q2⟩
      replace q := btrans q q2
      clear q2
      go_wp2_with fail
      refine (refPow_int x (n.tmod 8191) _ hx (by omega) (by omega)).mono ?_
      rintro e w' ⟨rfl, rfl⟩
      rw [show gpow x (n.tmod 8191).toNat = gz x n from HG.out]
      go_wp2_with fail
      go_ret
      exact ⟨rfl, q⟩
    · obtain ⟨y, rfl, hy⟩ := isE_true hb
      go_enter Try.func3, Try.ntmps3
      go_wp2_with fail
      refine (hM.int x y _ (by omega) (by omega) (by omega) (by omega)).mono ?_
      rintro e wN ⟨rfl, q2⟩
      have q := q2
      clear q2
      go_wp2_with fail
      refine (hI.yes x _ hx hx0).mono ?_
      rintro e wN ⟨rfl, q2⟩
      replace q := btrans q q2
      clear q2
      go_wp2_with fail
      refine (hP.yes x n _ hx hx0 h1 h2).mono ?_
      rintro e wN ⟨rfl, q2⟩
      replace q := btrans q q2
      clear q2
      go_wp2_with fail
      refine (hE n _ h1 h2).mono ?_
      rintro e wN ⟨rfl, q2⟩
      replace q := btrans q q2
      clear q2
      go_wp2_with fail
      refine (refExp_any n _ h1 h2).mono ?_
      rintro e w' ⟨rfl, rfl⟩
      go_wp2_with fail
      refine (is_any x _).mono ?_
      rintro e w' ⟨rfl, rfl⟩
      rw [ha]
      go_wp2_with fail
      refine (is_any y _).mono ?_
      rintro e w' ⟨rfl, rfl⟩
      rw [hb]
      go_wp2_with fail
      refine (refMul_int x y _ (by omega) (by omega) (by omega) (by omega)).mono ?_
      rintro e w' ⟨rfl, rfl⟩
      go_wp2_with fail
      refine (refInv_any x _ hx).mono ?_
      rintro e w' ⟨rfl, rfl⟩
      go_wp2_with fail
      refine (awake_any hM hI hL hE _).mono ?_
      rintro e wN ⟨rfl, q2⟩
      replace q := btrans q q2
      clear q2
      go_wp2_with fail
      refine (refPow_int x (n.tmod 8191) _ hx (by omega) (by omega)).mono ?_
      rintro e w' ⟨rfl, rfl⟩
      rw [show gpow x (n.tmod 8191).toNat = gz x n from HG.out]
      go_wp2_with fail
      go_ret
      exact ⟨rfl, q⟩

end Go.Proofs.Ytaffkibccedgdaa
