/-
  The walks of layer 5's laws BchSums and BchApart, out of the face of bch: each returns true; nothing old turns.
-/
import Derived.Test.YtjiaomkjebbkpaaBchFace
namespace Go.Proofs.Ytjiaomkjebbkpaa
open Go.RowKit
set_option linter.unusedVariables false

set_option maxHeartbeats 3200000 in
set_option maxRecDepth 100000 in
theorem walk_bchSums (hB : HBitsC) (hE : HEncC) (hD : HDecC) (hS : HSumsC) (t : Int) (a c : Option Addr) (len cap len' cap' : Nat) (x m : List Int) (w : World) (t1 : -9223372036854775808 ≤ t) (t2 : t ≤ 9223372036854775807)
    (rx : Row .u8 w a len cap x) (bx : IsB x) (rm : Row .u8 w c len' cap' m) (bm : IsB m) :
    Calls Try.prog 4 #[.int .i64 t, .slice a len cap, .slice c len' cap'] w fun e w' => e = .returned (.bool true) ∧ Below w.heap.size w w' := by
  have hmax : len ≤ maxLen := Nat.le_trans rx.hcap rx.hmax
  have hmax' : len' ≤ maxLen := Nat.le_trans rm.hcap rm.hmax
  have hmax2 := hmax'
  unfold maxLen at hmax2
  by_cases hs : len ≤ 40 ∧ len' ≤ 40
  case neg =>
    have hsm := small5_no hs
    go_enter Try.func4, Try.ntmps4
    go_wp2_with fail
    refine (small5_any _ _ _ _ _ _ _ hmax hmax').mono ?_
    rintro e w' ⟨rfl, rfl⟩
    rw [hsm]
    go_wp2_with fail
    go_ret
    exact ⟨rfl, Below.refl _ _⟩
  have hsm := small5_yes hs.1 hs.2
  obtain ⟨hs1, hs2⟩ := hs
  cases hmy : mayB t len (len' : Nat)
  · go_enter Try.func4, Try.ntmps4
    go_wp2_with fail
    refine (small5_any _ _ _ _ _ _ _ hmax hmax').mono ?_
    rintro e w' ⟨rfl, rfl⟩
    rw [hsm]
    go_wp2_with fail
    refine (hS.no t _ _ _ _ _ _ x m _ rx bx rm bm (by omega) (by omega) hmy t1 t2).mono ?_
    rintro e w1 ⟨a1, cp1, rfl, _, q1⟩
    rw [show ([] : List Nat).length = 0 from rfl]
    go_wp2_with fail
    refine (may_any t _ len _ (len' : Nat) _ hmax).mono ?_
    rintro e w' ⟨rfl, rfl⟩
    rw [hmy]
    go_wp2_with fail
    refine (awake5_any hB hE hD _).mono ?_
    rintro e w2 ⟨rfl, q2⟩
    replace q1 := btrans q1 q2
    go_wp2_with fail
    go_ret
    exact ⟨rfl, q1⟩
  · have hm := hmy
    unfold mayB at hm
    rw [decide_eq_true_iff] at hm
    obtain ⟨t, rfl⟩ := Int.eq_ofNat_of_zero_le (show 0 ≤ t by omega)
    have ht : t ≤ 8 := by omega
    have hl13 : 13 * t ≤ 8 * len' := by omega
    clear hm t1 t2
    have cS := hS.yes t a c len cap len' cap' x m
    have cR := refSums_any t a c len cap len' cap' x m
    have hsl : (sumsTo (wordL t x m) (2 * t)).length = 2 * t := length_sumsTo _ _
    generalize sumsTo (wordL t x m) (2 * t) = s at *
    have HSL : Hid (s.length = 2 * t) := hsl
    clear hsl
    go_enter Try.func4, Try.ntmps4
    go_wp2_with fail
    refine (small5_any _ _ _ _ _ _ _ hmax hmax').mono ?_
    rintro e w' ⟨rfl, rfl⟩
    rw [hsm]
    go_wp2_with fail
    refine (cS _ rx bx rm bm (by omega) (by omega) hmy).mono ?_
    rintro e w1 ⟨a1, cp1, rfl, row1, q1⟩
    replace rx := rx.below q1 (Nat.le_refl _)
    replace rm := rm.below q1 (Nat.le_refl _)
    go_wp2_with fail
    refine (may_any _ _ len _ (len' : Nat) _ hmax).mono ?_
    rintro e w' ⟨rfl, rfl⟩
    rw [hmy]
    go_wp2_with fail
    refine (awake5_any hB hE hD _).mono ?_
    rintro e w2 ⟨rfl, q2⟩
    replace rx := rx.below q2 (Nat.le_refl _)
    replace rm := rm.below q2 (Nat.le_refl _)
    replace row1 := row1.below q2 (Nat.le_refl _)
    replace q1 := btrans q1 q2
    clear q2
    go_wp2_with fail
    refine (cR _ ht rx bx rm bm hl13 (by omega) (by omega)).mono ?_
    rintro e w3 ⟨a3, cp3, rfl, row3, q2⟩
    replace row1 := row1.below q2 (Nat.le_refl _)
    replace q1 := btrans q1 q2
    clear q2
    go_wp2_with fail
    refine (ints_any _ _ _ _ _ _ (ints s) (ints s) _ row1 row3).mono ?_
    rintro e w4 ⟨rfl, q2⟩
    rw [show decide (ints s = ints s) = true from by simp]
    replace q1 := btrans q1 q2
    go_wp2_with fail
    go_ret
    exact ⟨rfl, q1⟩

set_option maxHeartbeats 3200000 in
set_option maxRecDepth 100000 in
theorem walk_bchApart (hB : HBitsC) (hE : HEncC) (hD : HDecC) (t : Int) (a c : Option Addr) (len cap len' cap' : Nat) (x m : List Int) (w : World) (t1 : -9223372036854775808 ≤ t) (t2 : t ≤ 9223372036854775807)
    (rx : Row .u8 w a len cap x) (bx : IsB x) (rm : Row .u8 w c len' cap' m) (bm : IsB m) :
    Calls Try.prog 8 #[.int .i64 t, .slice a len cap, .slice c len' cap'] w fun e w' => e = .returned (.bool true) ∧ Below w.heap.size w w' := by
  have hmax : len ≤ maxLen := Nat.le_trans rx.hcap rx.hmax
  have hmax' : len' ≤ maxLen := Nat.le_trans rm.hcap rm.hmax
  by_cases hs : len ≤ 40 ∧ len' ≤ 40
  case neg =>
    have hsm := small5_no hs
    go_enter Try.func8, Try.ntmps8
    go_wp2_with fail
    refine (small5_any _ _ _ _ _ _ _ hmax hmax').mono ?_
    rintro e w' ⟨rfl, rfl⟩
    rw [hsm]
    go_wp2_with fail
    go_ret
    exact ⟨rfl, Below.refl _ _⟩
  have hsm := small5_yes hs.1 hs.2
  obtain ⟨hs1, hs2⟩ := hs
  by_cases hg : len = 0 ∨ len ≠ len' ∨ t < 1 ∨ 8 < t
  · rcases (show len = 0 ∨ (len ≠ 0 ∧ len ≠ len') ∨ (len ≠ 0 ∧ len = len' ∧ t < 1) ∨ (len ≠ 0 ∧ len = len' ∧ 1 ≤ t ∧ 8 < t) by omega) with h | ⟨h1, h2⟩ | ⟨h1, h2, h3⟩ | ⟨h1, h2, h3, h4⟩
    · subst h
      clear hg
      go_enter Try.func8, Try.ntmps8
      go_wp2_with fail
      refine (small5_any _ _ _ _ _ _ _ hmax hmax').mono ?_
      rintro e w' ⟨rfl, rfl⟩
      rw [hsm]
      go_wp2_with fail
      go_ret
      exact ⟨rfl, Below.refl _ _⟩
    · have g1 : ((len : Int) == 0) = false := by simp; omega
      have g2 : ((len : Int) != (len' : Int)) = true := by simp; omega
      clear hg h1 h2
      go_enter Try.func8, Try.ntmps8
      go_wp2_with fail
      refine (small5_any _ _ _ _ _ _ _ hmax hmax').mono ?_
      rintro e w' ⟨rfl, rfl⟩
      rw [hsm]
      go_wp2_with fail
      go_ret
      exact ⟨rfl, Below.refl _ _⟩
    · subst h2
      have g1 : ((len : Int) == 0) = false := by simp; omega
      clear hg h1
      go_enter Try.func8, Try.ntmps8
      go_wp2_with fail
      refine (small5_any _ _ _ _ _ _ _ hmax hmax').mono ?_
      rintro e w' ⟨rfl, rfl⟩
      rw [hsm]
      go_wp2_with fail
      go_ret
      exact ⟨rfl, Below.refl _ _⟩
    · subst h2
      have g1 : ((len : Int) == 0) = false := by simp; omega
      clear hg h1
      go_enter Try.func8, Try.ntmps8
      go_wp2_with fail
      refine (small5_any _ _ _ _ _ _ _ hmax hmax').mono ?_
      rintro e w' ⟨rfl, rfl⟩
      rw [hsm]
      go_wp2_with fail
      go_ret
      exact ⟨rfl, Below.refl _ _⟩
  have hl0 : 1 ≤ len := by omega
  obtain rfl : len = len' := by omega
  obtain ⟨t, rfl⟩ := Int.eq_ofNat_of_zero_le (show 0 ≤ t by omega)
  have ht1 : 1 ≤ t := by omega
  have ht2 : t ≤ 8 := by omega
  clear hg t1 t2
  have g1 : ((len : Int) == 0) = false := by simp; omega
  have HLx : Hid (x.length = len) := rx.hlen
  have HLm : Hid (m.length = len) := rm.hlen
  have hcx := conv_row Try.underlying22 Try.underlying5 Try.underlying9 rx
  have hcm := conv_row Try.underlying22 Try.underlying5 Try.underlying9 rm
  by_cases hxm : x = m
  · subst hxm
    go_enter Try.func8, Try.ntmps8
    go_wp2_with fail
    refine (small5_any _ _ _ _ _ _ _ hmax hmax').mono ?_
    rintro e w' ⟨rfl, rfl⟩
    rw [hsm]
    go_wp2_with fail
    go_ret
    exact ⟨rfl, Below.refl _ _⟩
  have g3 : strOfNums x ≠ strOfNums m := fun e => hxm (strOfNums_inj bx bm e)
  obtain ⟨n, hn⟩ : ∃ n, n = (13 * t + 7) / 8 := ⟨_, rfl⟩
  have HN : Hid (n = (13 * t + 7) / 8) := hn
  have hn14 : n ≤ 14 := by omega
  have hn8 : 13 * t ≤ 8 * n := by omega
  have cSz := refSize_any t
  rw [← hn] at cSz
  clear hn
  have HAP : Hid (∀ z z', IsEnc t x z → IsEnc t m z' → 2 * t < distTo (wordL t x z) (wordL t m z') (13 * t + 8 * len)) := fun z z' hz hz' => by
    have l1 := length_wordL t x z
    have l2 := length_wordL t m z'
    rw [HLx.out] at l1
    rw [HLm.out] at l2
    rw [← l1]
    refine code_apart (is01_wordL _ _ _) (is01_wordL _ _ _) (by omega) (by omega) hz.cw hz'.cw fun e => hxm ?_
    exact (word_inj bx bm hz.isB hz'.isB (by rw [HLx.out, HLm.out]) (by rw [hz.len, hz'.len]) hz.above hz'.above e).1
  go_enter Try.func8, Try.ntmps8
  go_wp2_with fail
  refine (small5_any _ _ _ _ _ _ _ hmax hmax').mono ?_
  rintro e w' ⟨rfl, rfl⟩
  rw [hsm]
  go_wp2_with fail
  · go_ret
    exact ⟨rfl, Below.refl _ _⟩
  clear hcx hcm
  refine (hE.yes t _ _ _ x _ rx bx (by omega) ht1 ht2 hl0).mono ?_
  rintro e w1 ⟨z, hz, a1, cp1, rfl, r1, q1⟩
  have HZL : Hid (z.length = n) := by show _ = _; rw [hz.len, HN.out]
  have HZ : Hid (IsEnc t x z) := hz
  have bz := hz.isB
  clear hz
  rw [HZL.out] at r1 ⊢
  replace rx := rx.below q1 (Nat.le_refl _)
  replace rm := rm.below q1 (Nat.le_refl _)
  go_wp2_with fail
  refine (hE.yes t _ _ _ m _ rm bm (by omega) ht1 ht2 hl0).mono ?_
  rintro e w2 ⟨z', hz', a2, cp2, rfl, r2, qq⟩
  have HZL' : Hid (z'.length = n) := by show _ = _; rw [hz'.len, HN.out]
  have HD := HAP.out z z' HZ.out hz'
  have bz' := hz'.isB
  clear hz'
  rw [HZL'.out] at r2 ⊢
  replace rx := rx.below qq (Nat.le_refl _)
  replace rm := rm.below qq (Nat.le_refl _)
  replace r1 := r1.below qq (Nat.le_refl _)
  replace q1 := btrans q1 qq
  clear qq
  go_wp2_with fail
  refine (cSz _ ht2).mono ?_
  rintro e w' ⟨rfl, rfl⟩
  go_wp2_with fail
  refine (awake5_any hB hE hD _).mono ?_
  rintro e w3 ⟨rfl, qq⟩
  replace rx := rx.below qq (Nat.le_refl _)
  replace rm := rm.below qq (Nat.le_refl _)
  replace r1 := r1.below qq (Nat.le_refl _)
  replace r2 := r2.below qq (Nat.le_refl _)
  replace q1 := btrans q1 qq
  clear qq
  go_wp2_with fail
  refine (refWord_any t _ _ _ _ _ _ x z _ ht2 rx bx r1 bz hn8 (by omega) (by omega)).mono ?_
  rintro e w4 ⟨a4, cp4, rfl, r4, qq⟩
  replace rm := rm.below qq (Nat.le_refl _)
  replace r2 := r2.below qq (Nat.le_refl _)
  replace q1 := btrans q1 qq
  clear qq
  go_wp2_with fail
  refine (refWord_any t _ _ _ _ _ _ m z' _ ht2 rm bm r2 bz' hn8 (by omega) (by omega)).mono ?_
  rintro e w5 ⟨a5, cp5, rfl, r5, qq⟩
  replace r4 := r4.below qq (Nat.le_refl _)
  replace q1 := btrans q1 qq
  clear qq
  go_wp2_with fail
  refine (refApartW_any _ _ _ _ _ (wordL t x z) (wordL t m z') _ r4 r5 (by omega)).mono ?_
  rintro e w6 ⟨rfl, qq⟩
  replace q1 := btrans q1 qq
  clear qq
  generalize distTo (wordL t x z) (wordL t m z') (13 * t + 8 * len) = dd at *
  have hdd : 2 * (t : Int) < (dd : Int) := by omega
  go_wp2_with fail
  go_ret
  exact ⟨rfl, q1⟩

end Go.Proofs.Ytjiaomkjebbkpaa
