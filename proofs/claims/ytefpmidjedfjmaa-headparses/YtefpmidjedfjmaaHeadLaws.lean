/-
  Layer 9's laws: the walk of HeadPages; Parse by cases. (Written by tools/gen/head_laws.py.)
-/
import Derived.Test.YtefpmidjedfjmaaHeadAwake
import Derived.Laws.StructEq
namespace Go.Proofs.Ytefpmidjedfjmaa
open Go.RowKit
set_option linter.unusedVariables false
set_option maxRecDepth 8192

theorem eqInt9 (d : Nat) (a b : Int) (w : World) : (Op.equalIn (d + 1) 3 (.int .i64 a) (.int .i64 b)).run Try.prog w = .ok (a == b) w := run_equalIn_int w d 3 .i64 .i64 a b Try.underlying3
theorem headEqIn (a b c x y z : Int) (w : World) : (Op.equalIn 10000 25 (.agg #[.int .i64 a, .int .i64 b, .int .i64 c]) (.agg #[.int .i64 x, .int .i64 y, .int .i64 z])).run Try.prog w = .ok (a == x && (b == y && c == z)) w := by
  obtain ⟨fs, hfs⟩ : ∃ fs, Try.prog.underlying 25 = some (.struct fs) := ⟨_, Try.underlying25⟩
  have hf : Try.prog.fieldsOf 25 = fs := by unfold Program.fieldsOf; rw [hfs]
  rw [run_equalIn_agg (d := 9999) w _ _ _ (by rw [hf]; exact hfs) (by kernel_rfl), hf]
  rw [Try.underlying25] at hfs
  cases hfs
  cases h1 : (a == x) <;> cases h2 : (b == y) <;> cases h3 : (c == z) <;> simp [Op.eqFields, eqInt9, go_sem, h1, h2, h3]
theorem headEq (a b c x y z : Int) (w : World) : Sem.run Try.prog (binOp .eql 25 (.agg #[.int .i64 a, .int .i64 b, .int .i64 c]) (.agg #[.int .i64 x, .int .i64 y, .int .i64 z])) w = .ok (.bool (a == x && (b == y && c == z))) w := by
  rw [run_eql_struct, headEqIn]; rfl
section
variable {b p : Int} {s n : Nat} {f : Int} {R C : Nat}
theorem hParse_no (G : GMay b p s n f R C) (a : Option Addr) (cap : Nat) (z : List Int) (w : World) (hr : Row .u8 w a R cap z) (hz : IsB z) (h : readH C R z = false) :
    Calls Try.prog 17 #[.agg #[.int .i64 b, .int .i64 p, .int .i64 ((s : Nat)), .int .i64 ((n : Nat)), .int .i64 f], .slice a R cap] w fun e w' => e = .returned (.tuple #[.agg #[.int .i64 0, .int .i64 0, .int .i64 0], .int .i64 4]) ∧ Below w.heap.size w w' := by
  refine (hParse_any G a cap z w hr hz).mono ?_
  rintro e w' ⟨(⟨rfl, _⟩ | ⟨_, h2⟩), q⟩
  · exact ⟨rfl, q⟩
  · rw [h] at h2; cases h2
theorem hParse_yes (G : GMay b p s n f R C) (a : Option Addr) (cap : Nat) (z : List Int) (w : World) (hr : Row .u8 w a R cap z) (hz : IsB z) (h : readH C R z = true) :
    Calls Try.prog 17 #[.agg #[.int .i64 b, .int .i64 p, .int .i64 ((s : Nat)), .int .i64 ((n : Nat)), .int .i64 f], .slice a R cap] w fun e w' => e = .returned (.tuple #[.agg #[.int .i64 (numAt z 4), .int .i64 (numAt z 8), .int .i64 (numAt z 12)], .int .i64 0]) ∧ Below w.heap.size w w' := by
  refine (hParse_any G a cap z w hr hz).mono ?_
  rintro e w' ⟨(⟨_, h2⟩ | ⟨rfl, _⟩), q⟩
  · rw [h] at h2; cases h2
  · exact ⟨rfl, q⟩
theorem refParse9_no (G : GMay b p s n f R C) (a : Option Addr) (cap : Nat) (z : List Int) (w : World) (hr : Row .u8 w a R cap z) (hz : IsB z) (h : readH C R z = false) :
    Calls Try.prog 19 #[.agg #[.int .i64 b, .int .i64 p, .int .i64 ((s : Nat)), .int .i64 ((n : Nat)), .int .i64 f], .slice a R cap] w fun e w' => e = .returned (.tuple #[.agg #[.int .i64 0, .int .i64 0, .int .i64 0], .bool false]) ∧ Below w.heap.size w w' := by
  refine (refParse9_any G a cap z w hr hz).mono ?_
  rintro e w' ⟨(⟨rfl, _⟩ | ⟨_, h2⟩), q⟩
  · exact ⟨rfl, q⟩
  · rw [h] at h2; cases h2
theorem refParse9_yes (G : GMay b p s n f R C) (a : Option Addr) (cap : Nat) (z : List Int) (w : World) (hr : Row .u8 w a R cap z) (hz : IsB z) (h : readH C R z = true) :
    Calls Try.prog 19 #[.agg #[.int .i64 b, .int .i64 p, .int .i64 ((s : Nat)), .int .i64 ((n : Nat)), .int .i64 f], .slice a R cap] w fun e w' => e = .returned (.tuple #[.agg #[.int .i64 (numAt z 4), .int .i64 (numAt z 8), .int .i64 (numAt z 12)], .bool true]) ∧ Below w.heap.size w w' := by
  refine (refParse9_any G a cap z w hr hz).mono ?_
  rintro e w' ⟨(⟨_, h2⟩ | ⟨rfl, _⟩), q⟩
  · rw [h] at h2; cases h2
  · exact ⟨rfl, q⟩
end
set_option maxHeartbeats 6400000 in
set_option maxRecDepth 100000 in
theorem walk_headPages (b p s n f A B : Int) (w : World) : Calls Try.prog 7 #[.agg #[.int .i64 b, .int .i64 p, .int .i64 s, .int .i64 n, .int .i64 f], .int .i64 A, .int .i64 B] w fun e w' => e = .returned (.bool true) ∧ Below w.heap.size w w' := by
  cases hm : mayG b p s n f
  · go_enter Try.func7, Try.ntmps7
    go_wp2_with fail
    have gb := gbox_new w 23 b p s n f
    have q1 := below_one w (.cells #[.int .i64 b, .int .i64 p, .int .i64 s, .int .i64 n, .int .i64 f] 23)
    generalize w.alloc (.cells #[.int .i64 b, .int .i64 p, .int .i64 s, .int .i64 n, .int .i64 f] 23) = w0 at *
    generalize hgg : w.heap.size = g at gb
    refine (hPages_geo b p s n f A _ hm).mono ?_
    rintro e w1 ⟨rfl, qq⟩
    replace gb := gb.below qq (Nat.le_refl _)
    replace q1 := btrans q1 qq
    clear qq
    have gb_ := gb
    obtain ⟨_, c0, c1, c2, c3, c4⟩ := gb_
    go_wp2_with fail
    clear c0 c1 c2 c3 c4
    refine (hPages_geo b p s n f B _ hm).mono ?_
    rintro e w2 ⟨rfl, qq⟩
    replace gb := gb.below qq (Nat.le_refl _)
    replace q1 := btrans q1 qq
    clear qq
    have gb_ := gb
    obtain ⟨_, c0, c1, c2, c3, c4⟩ := gb_
    go_wp2_with fail
    clear c0 c1 c2 c3 c4
    refine (hCap_no b p s n f _ hm).mono ?_
    rintro e w3 ⟨rfl, qq⟩
    replace gb := gb.below qq (Nat.le_refl _)
    replace q1 := btrans q1 qq
    clear qq
    have gb_ := gb
    obtain ⟨_, c0, c1, c2, c3, c4⟩ := gb_
    go_wp2_with fail
    clear c0 c1 c2 c3 c4
    refine (awake9_any _).mono ?_
    rintro e w4 ⟨rfl, qq⟩
    replace gb := gb.below qq (Nat.le_refl _)
    replace q1 := btrans q1 qq
    clear qq
    have gb_ := gb
    obtain ⟨_, c0, c1, c2, c3, c4⟩ := gb_
    go_wp2_with fail
    go_ret
    exact ⟨rfl, q1⟩
  obtain ⟨s, n, R, C, rfl, rfl, G⟩ := gmay_of hm
  clear hm
  cases hA : withB A 0 (C : Int)
  · cases hB : withB B 0 (C : Int)
    · go_enter Try.func7, Try.ntmps7
      go_wp2_with fail
      have gb := gbox_new w 23 b p s n f
      have q1 := below_one w (.cells #[.int .i64 b, .int .i64 p, .int .i64 s, .int .i64 n, .int .i64 f] 23)
      generalize w.alloc (.cells #[.int .i64 b, .int .i64 p, .int .i64 s, .int .i64 n, .int .i64 f] 23) = w0 at *
      generalize hgg : w.heap.size = g at gb
      refine (hPages_no G A _ hA).mono ?_
      rintro e w1 ⟨rfl, qq⟩
      replace gb := gb.below qq (Nat.le_refl _)
      replace q1 := btrans q1 qq
      clear qq
      have gb_ := gb
      obtain ⟨_, c0, c1, c2, c3, c4⟩ := gb_
      go_wp2_with fail
      clear c0 c1 c2 c3 c4
      refine (hPages_no G B _ hB).mono ?_
      rintro e w2 ⟨rfl, qq⟩
      replace gb := gb.below qq (Nat.le_refl _)
      replace q1 := btrans q1 qq
      clear qq
      have gb_ := gb
      obtain ⟨_, c0, c1, c2, c3, c4⟩ := gb_
      go_wp2_with fail
      clear c0 c1 c2 c3 c4
      refine (hCap_yes G _).mono ?_
      rintro e w3 ⟨rfl, qq⟩
      replace gb := gb.below qq (Nat.le_refl _)
      replace q1 := btrans q1 qq
      clear qq
      have gb_ := gb
      obtain ⟨_, c0, c1, c2, c3, c4⟩ := gb_
      go_wp2_with fail
      clear c0 c1 c2 c3 c4
      refine (awake9_any _).mono ?_
      rintro e w4 ⟨rfl, qq⟩
      replace gb := gb.below qq (Nat.le_refl _)
      replace q1 := btrans q1 qq
      clear qq
      have gb_ := gb
      obtain ⟨_, c0, c1, c2, c3, c4⟩ := gb_
      go_wp2_with fail
      go_ret
      exact ⟨rfl, q1⟩
    · have hB2 := withB_yes hB
      obtain ⟨B, rfl⟩ := Int.eq_ofNat_of_zero_le hB2.1
      clear hB
      go_enter Try.func7, Try.ntmps7
      go_wp2_with fail
      have gb := gbox_new w 23 b p s n f
      have q1 := below_one w (.cells #[.int .i64 b, .int .i64 p, .int .i64 s, .int .i64 n, .int .i64 f] 23)
      generalize w.alloc (.cells #[.int .i64 b, .int .i64 p, .int .i64 s, .int .i64 n, .int .i64 f] 23) = w0 at *
      generalize hgg : w.heap.size = g at gb
      refine (hPages_no G A _ hA).mono ?_
      rintro e w1 ⟨rfl, qq⟩
      replace gb := gb.below qq (Nat.le_refl _)
      replace q1 := btrans q1 qq
      clear qq
      have gb_ := gb
      obtain ⟨_, c0, c1, c2, c3, c4⟩ := gb_
      go_wp2_with fail
      clear c0 c1 c2 c3 c4
      refine (hPages_yes G B _ (by omega)).mono ?_
      rintro e w2 ⟨rfl, qq⟩
      replace gb := gb.below qq (Nat.le_refl _)
      replace q1 := btrans q1 qq
      clear qq
      have gb_ := gb
      obtain ⟨_, c0, c1, c2, c3, c4⟩ := gb_
      go_wp2_with fail
      clear c0 c1 c2 c3 c4
      refine (hCap_yes G _).mono ?_
      rintro e w3 ⟨rfl, qq⟩
      replace gb := gb.below qq (Nat.le_refl _)
      replace q1 := btrans q1 qq
      clear qq
      have gb_ := gb
      obtain ⟨_, c0, c1, c2, c3, c4⟩ := gb_
      go_wp2_with fail
      clear c0 c1 c2 c3 c4
      refine (awake9_any _).mono ?_
      rintro e w4 ⟨rfl, qq⟩
      replace gb := gb.below qq (Nat.le_refl _)
      replace q1 := btrans q1 qq
      clear qq
      have gb_ := gb
      obtain ⟨_, c0, c1, c2, c3, c4⟩ := gb_
      go_wp2_with fail
      go_ret
      exact ⟨rfl, q1⟩
  have hA2 := withB_yes hA
  obtain ⟨A, rfl⟩ := Int.eq_ofNat_of_zero_le hA2.1
  clear hA
  cases hB : withB B 0 (C : Int)
  · go_enter Try.func7, Try.ntmps7
    go_wp2_with fail
    have gb := gbox_new w 23 b p s n f
    have q1 := below_one w (.cells #[.int .i64 b, .int .i64 p, .int .i64 s, .int .i64 n, .int .i64 f] 23)
    generalize w.alloc (.cells #[.int .i64 b, .int .i64 p, .int .i64 s, .int .i64 n, .int .i64 f] 23) = w0 at *
    generalize hgg : w.heap.size = g at gb
    refine (hPages_yes G A _ (by omega)).mono ?_
    rintro e w1 ⟨rfl, qq⟩
    replace gb := gb.below qq (Nat.le_refl _)
    replace q1 := btrans q1 qq
    clear qq
    have gb_ := gb
    obtain ⟨_, c0, c1, c2, c3, c4⟩ := gb_
    go_wp2_with fail
    clear c0 c1 c2 c3 c4
    refine (hPages_no G B _ hB).mono ?_
    rintro e w2 ⟨rfl, qq⟩
    replace gb := gb.below qq (Nat.le_refl _)
    replace q1 := btrans q1 qq
    clear qq
    have gb_ := gb
    obtain ⟨_, c0, c1, c2, c3, c4⟩ := gb_
    go_wp2_with fail
    clear c0 c1 c2 c3 c4
    refine (hCap_yes G _).mono ?_
    rintro e w3 ⟨rfl, qq⟩
    replace gb := gb.below qq (Nat.le_refl _)
    replace q1 := btrans q1 qq
    clear qq
    have gb_ := gb
    obtain ⟨_, c0, c1, c2, c3, c4⟩ := gb_
    go_wp2_with fail
    clear c0 c1 c2 c3 c4
    refine (awake9_any _).mono ?_
    rintro e w4 ⟨rfl, qq⟩
    replace gb := gb.below qq (Nat.le_refl _)
    replace q1 := btrans q1 qq
    clear qq
    have gb_ := gb
    obtain ⟨_, c0, c1, c2, c3, c4⟩ := gb_
    go_wp2_with fail
    go_ret
    exact ⟨rfl, q1⟩
  have hB2 := withB_yes hB
  obtain ⟨B, rfl⟩ := Int.eq_ofNat_of_zero_le hB2.1
  clear hB
  have h1 := fun w => hPages_yes G A w (by omega)
  have h2 := fun w => hPages_yes G B w (by omega)
  have h3 := fun w => hPages_yes G C w (Nat.le_refl _)
  have h4 := hCap_yes G
  have hR := G.hR1
  have hC := G.hC1
  have hp := G.hp
  have HZ : Hid (((pagesOf R C : Nat) : Int) = p - 1) := by
    show _ = _
    obtain ⟨P, hP⟩ := Int.eq_ofNat_of_zero_le (show 0 ≤ p - 1 by omega)
    have hc := G.hC
    rw [hP, ← Int.natCast_mul] at hc
    rw [hP, ← Int.ofNat.inj hc, pagesOf_mul (by omega)]
  have HSN : Hid ((s : Int) * (n : Int) = (R : Int)) := by show _ = _; rw [← Int.natCast_mul, G.hR]
  have hsn : s ≤ 8 ∧ n ≤ 512 := ⟨G.hs, G.hn⟩
  have hM : Hid (A ≤ B → pagesOf R A ≤ pagesOf R B) := pagesOf_mono
  have HX : Hid (A ≤ pagesOf R A * R) := pagesOf_room (by omega)
  have HY : Hid (0 < pagesOf R A → (pagesOf R A - 1) * R < A) := fun h => (pagesOf_lt (by omega)).1 (by omega)
  have HXB : Hid (pagesOf R A * R ≤ A + R) := by
    rcases Nat.eq_zero_or_pos (pagesOf R A) with h0 | h0
    · show _ ≤ _; rw [h0]; omega
    · have h1 := HY.out h0
      have h2 : pagesOf R A * R = (pagesOf R A - 1) * R + R := by rw [← Nat.add_one_mul]; congr 1; omega
      show _ ≤ _
      omega
  clear G
  generalize pagesOf R A = X at *
  generalize pagesOf R B = Y at *
  generalize pagesOf R C = Z at *
  go_enter Try.func7, Try.ntmps7
  go_wp2_with fail
  have gb := gbox_new w 23 b p s n f
  have q1 := below_one w (.cells #[.int .i64 b, .int .i64 p, .int .i64 s, .int .i64 n, .int .i64 f] 23)
  generalize w.alloc (.cells #[.int .i64 b, .int .i64 p, .int .i64 s, .int .i64 n, .int .i64 f] 23) = w0 at *
  generalize hgg : w.heap.size = g at gb
  refine (h1 _).mono ?_
  rintro e w1 ⟨rfl, qq⟩
  replace gb := gb.below qq (Nat.le_refl _)
  replace q1 := btrans q1 qq
  clear qq
  have gb_ := gb
  obtain ⟨_, c0, c1, c2, c3, c4⟩ := gb_
  go_wp2_with fail
  clear c0 c1 c2 c3 c4
  refine (h2 _).mono ?_
  rintro e w2 ⟨rfl, qq⟩
  replace gb := gb.below qq (Nat.le_refl _)
  replace q1 := btrans q1 qq
  clear qq
  have gb_ := gb
  obtain ⟨_, c0, c1, c2, c3, c4⟩ := gb_
  go_wp2_with fail
  clear c0 c1 c2 c3 c4
  refine (h4 _).mono ?_
  rintro e w3 ⟨rfl, qq⟩
  replace gb := gb.below qq (Nat.le_refl _)
  replace q1 := btrans q1 qq
  clear qq
  have gb_ := gb
  obtain ⟨_, c0, c1, c2, c3, c4⟩ := gb_
  go_wp2_with fail
  clear c0 c1 c2 c3 c4
  refine (h3 _).mono ?_
  rintro e w4 ⟨rfl, qq⟩
  replace gb := gb.below qq (Nat.le_refl _)
  replace q1 := btrans q1 qq
  clear qq
  have gb_ := gb
  obtain ⟨_, c0, c1, c2, c3, c4⟩ := gb_
  go_wp2_with fail
  clear c0 c1 c2 c3 c4
  refine (awake9_any _).mono ?_
  rintro e w5 ⟨rfl, qq⟩
  replace gb := gb.below qq (Nat.le_refl _)
  replace q1 := btrans q1 qq
  clear qq
  clear h1 h2 h3 h4
  have hw : wrap64 ((s : Int) * (n : Int)) = (R : Int) := by rw [HSN.out]; unfold wrap64; omega
  rw [hw, HZ.out]
  clear hw HSN HZ hsn
  have HX0 : Hid ((X : Int) * (R : Int) = ((X * R : Nat) : Int)) := (Int.natCast_mul X R).symm
  have hw1 : wrap64 ((X : Int) * (R : Int)) = ((X * R : Nat) : Int) := by have := HXB.out; rw [HX0.out]; unfold wrap64; omega
  have hx1 : (A : Int) ≤ ((X * R : Nat) : Int) := Int.ofNat_le.2 HX.out
  by_cases hX : X = 0
  · subst hX
    obtain rfl : A = 0 := by have := HX.out; omega
    clear HX HY HXB HX0 hw1 hx1 hM
    have hB3 : ¬ (B : Int) < 0 := by omega
    have hY3 : (0 : Int) ≤ (Y : Int) := by omega
    have gb_ := gb
    obtain ⟨_, c0, c1, c2, c3, c4⟩ := gb_
    go_wp2_with fail
    go_ret
    exact ⟨rfl, q1⟩
  · have hz : ((X : Int) == 0) = false := by simp; omega
    have hz2 : ¬ (X : Int) = 0 := by omega
    have hy := HY.out (by omega)
    have HX2 : Hid (((X : Int) - 1) * (R : Int) = (((X - 1) * R : Nat) : Int)) := by show _ = _; rw [Int.natCast_mul]; congr 1; omega
    have hw2 : wrap64 (((X : Int) - 1) * (R : Int)) = (((X - 1) * R : Nat) : Int) := by rw [HX2.out]; unfold wrap64; omega
    have hy2 : (((X - 1) * R : Nat) : Int) < (A : Int) := Int.ofNat_lt.2 hy
    generalize (X - 1) * R = X1R at *
    clear HX2 hy
    have hXb : X ≤ A + R := by have h1 := HXB.out; have h2 : X * 1 ≤ X * R := Nat.mul_le_mul_left X (by omega); omega
    generalize X * R = XR at *
    clear HX HY HXB HX0
    by_cases hab : B < A
    · have hab2 : (B : Int) < (A : Int) := Int.ofNat_lt.2 hab
      clear hX hM
      have gb_ := gb
      obtain ⟨_, c0, c1, c2, c3, c4⟩ := gb_
      go_wp2_with fail
      go_ret
      exact ⟨rfl, q1⟩
    · have hab2 : ¬ (B : Int) < (A : Int) := fun h => hab (Int.ofNat_lt.1 h)
      have hxy : (X : Int) ≤ (Y : Int) := Int.ofNat_le.2 (hM.out (by omega))
      clear hX hM
      have gb_ := gb
      obtain ⟨_, c0, c1, c2, c3, c4⟩ := gb_
      go_wp2_with fail
      go_ret
      exact ⟨rfl, q1⟩

end Go.Proofs.Ytefpmidjedfjmaa
