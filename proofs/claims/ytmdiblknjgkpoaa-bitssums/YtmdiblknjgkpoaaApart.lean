/-
  The walk of BitsApart: for every two rows of bytes the law returns true; nothing old turns.
-/
import Derived.Test.YtmdiblknjgkpoaaTells
namespace Go.Proofs.Ytmdiblknjgkpoaa
open Go.RowKit
set_option linter.unusedVariables false

theorem smallB_yes {n m : Nat} (h : n ≤ 200) (h' : m ≤ 300) : smallB n m = true := by unfold smallB; simp; omega
theorem smallB_no {n m : Nat} (h : ¬ n ≤ 200) : smallB n m = false := by unfold smallB; simp; omega
theorem smallB_no2 {n m : Nat} (h : ¬ m ≤ 300) : smallB n m = false := by unfold smallB; simp; omega

set_option maxHeartbeats 1600000 in
theorem walk_apart (a c : Option Addr) (len cap len' cap' : Nat) (x y : List Int) (w : World) (hr : Row .u8 w a len cap x) (hb : IsB x) (hr' : Row .u8 w c len' cap' y) (hb' : IsB y) :
    Calls Try.prog 5 #[.slice a len cap, .slice c len' cap'] w fun e w' => e = .returned (.bool true) ∧ Below w.heap.size w w' := by
  have hmax : len ≤ maxLen := Nat.le_trans hr.hcap hr.hmax
  have hmax' : len' ≤ maxLen := Nat.le_trans hr'.hcap hr'.hmax
  by_cases hs : len ≤ 200
  · have hsm : smallB len 0 = true := smallB_yes hs (by omega)
    by_cases hs' : len' ≤ 200
    · have hsm' : smallB len' 0 = true := smallB_yes hs' (by omega)
      by_cases hne : len = len'
      · subst hne
        have hq : ((len : Int) != (len : Int)) = false := by simp
        have h1000 : len ≤ 1000 := by omega
        go_enter Try.func5, Try.ntmps5
        go_wp2_with fail
        refine (small_any _ _ len _ 0 _ _ hmax (Nat.zero_le _)).mono ?_
        rintro e w' ⟨rfl, rfl⟩
        rw [hsm]
        go_wp2_with fail
        refine (small_any _ _ len _ 0 _ _ hmax (Nat.zero_le _)).mono ?_
        rintro e w' ⟨rfl, rfl⟩
        rw [hsm]
        go_wp2_with fail
        refine (apart_yes _ _ len _ _ x y _ hr hb hr' hb' h1000).mono ?_
        rintro e w1 ⟨v, rfl, hown1, hb1⟩
        obtain ⟨a1, cap1, rfl, hrow1⟩ := row_of_owns hown1
        clear hown1
        have hr1 := hr.below hb1 (Nat.le_refl _)
        have hr1' := hr'.below hb1 (Nat.le_refl _)
        go_wp2_with fail
        refine (awake_any _).mono ?_
        rintro e w2 ⟨rfl, hb2⟩
        have hr2 := hr1.below hb2 (Nat.le_refl _)
        have hr2' := hr1'.below hb2 (Nat.le_refl _)
        have hrow2 := hrow1.below hb2 (Nat.le_refl _)
        go_wp2_with fail
        refine (refApart_any _ _ len _ _ x y _ hr2 hb hr2' hb' h1000).mono ?_
        rintro e w3 ⟨v, rfl, hown3, hb3⟩
        obtain ⟨a3, cap3, rfl, hrow3⟩ := row_of_owns hown3
        clear hown3
        have hrow23 := hrow2.below hb3 (Nat.le_refl _)
        have hbw : Below w.heap.size w w3 := hb1.trans ((hb2.mono hb1.size).trans (hb3.mono (Nat.le_trans hb1.size hb2.size)))
        clear hr hr' hr1 hr1' hr2 hr2' hrow1 hrow2
        go_wp2_with fail
        refine (ints_any _ _ _ _ _ _ _ _ _ hrow23 hrow3).mono ?_
        rintro e w4 ⟨rfl, hb4⟩
        rw [show decide (apartTo x y (8 * len) = apartTo x y (8 * len)) = true from by simp]
        go_wp2
        go_ret
        exact ⟨rfl, hbw.trans (hb4.mono hbw.size)⟩
      · have hq : ((len : Int) != (len' : Int)) = true := by simp; omega
        go_enter Try.func5, Try.ntmps5
        go_wp2_with fail
        refine (small_any _ _ len _ 0 _ _ hmax (Nat.zero_le _)).mono ?_
        rintro e w' ⟨rfl, rfl⟩
        rw [hsm]
        go_wp2_with fail
        refine (small_any _ _ len' _ 0 _ _ hmax' (Nat.zero_le _)).mono ?_
        rintro e w' ⟨rfl, rfl⟩
        rw [hsm']
        go_wp2_with fail
        refine (apart_no _ _ len _ len' _ _ hmax hmax' hne).mono ?_
        rintro e w' ⟨rfl, rfl⟩
        go_wp2_with fail
        refine (awake_any _).mono ?_
        rintro e w2 ⟨rfl, hb2⟩
        go_wp2
        go_ret
        exact ⟨rfl, hb2⟩
    · have hsm' : smallB len' 0 = false := smallB_no hs'
      go_enter Try.func5, Try.ntmps5
      go_wp2_with fail
      refine (small_any _ _ len _ 0 _ _ hmax (Nat.zero_le _)).mono ?_
      rintro e w' ⟨rfl, rfl⟩
      rw [hsm]
      go_wp2_with fail
      refine (small_any _ _ len' _ 0 _ _ hmax' (Nat.zero_le _)).mono ?_
      rintro e w' ⟨rfl, rfl⟩
      rw [hsm']
      go_wp2
      go_ret
      exact ⟨rfl, Below.refl _ _⟩
  · have hsm : smallB len 0 = false := smallB_no hs
    go_enter Try.func5, Try.ntmps5
    go_wp2_with fail
    refine (small_any _ _ len _ 0 _ _ hmax (Nat.zero_le _)).mono ?_
    rintro e w' ⟨rfl, rfl⟩
    rw [hsm]
    go_wp2
    go_ret
    exact ⟨rfl, Below.refl _ _⟩

end Go.Proofs.Ytmdiblknjgkpoaa
