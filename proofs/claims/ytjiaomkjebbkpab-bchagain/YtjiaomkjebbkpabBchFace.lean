/-
  What the code of layer 5 (bch) must return, function by function (the face that the laws' walks lean on), and awake and small of the laws.
-/
import Derived.Test.YtjiaomkjebbkpabBchRef3
import Derived.Test.YtjiaomkjebbkpabBpolyFace
namespace Go.Proofs.Ytjiaomkjebbkpab
open Go.RowKit
set_option linter.unusedVariables false

/-- A call hands back the list r and the error number n. -/
def HandsI (w : World) (r : List Nat) (n : Int) (e : Ending) (w' : World) : Prop :=
  ∃ a cap, e = .returned (.tuple #[.slice a r.length cap, .int .i64 n]) ∧ Row .i64 w' a r.length cap (ints r) ∧ Below w.heap.size w w'
/-- A call hands back the bytes d and k, the number n and the error number f. -/
def Gives4 (w : World) (d k : List Int) (n : Nat) (f : Int) (e : Ending) (w' : World) : Prop :=
  ∃ a cap b cap', e = .returned (.tuple #[.slice a d.length cap, .slice b k.length cap', .int .i64 n, .int .i64 f]) ∧ Row .u8 w' a d.length cap d ∧ Row .u8 w' b k.length cap' k ∧ Below w.heap.size w w'

structure HBitsC : Prop where
  no : ∀ (t : Int) (w : World), t < 1 ∨ 8 < t → -9223372036854775808 ≤ t → t ≤ 9223372036854775807 → Calls Try.prog 19 #[.int .i64 t] w fun e w' => e = .returned (.tuple #[.int .i64 0, .int .i64 1]) ∧ Below w.heap.size w w'
  yes : ∀ (t : Nat) (w : World), 1 ≤ t → t ≤ 8 → Calls Try.prog 19 #[.int .i64 t] w fun e w' => e = .returned (.tuple #[.int .i64 (13 * t : Nat), .int .i64 0]) ∧ Below w.heap.size w w'
structure HEncC : Prop where
  no : ∀ (t : Int) (a : Option Addr) (len cap : Nat) (x : List Int) (w : World), Row .u8 w a len cap x → IsB x → len ≤ 100 → t < 1 ∨ 8 < t ∨ len = 0 → -9223372036854775808 ≤ t → t ≤ 9223372036854775807 →
    Calls Try.prog 7 #[.int .i64 t, .slice a len cap] w (GivesE w [] 1)
  yes : ∀ (t : Nat) (a : Option Addr) (len cap : Nat) (x : List Int) (w : World), Row .u8 w a len cap x → IsB x → len ≤ 100 → 1 ≤ t → t ≤ 8 → 1 ≤ len →
    Calls Try.prog 7 #[.int .i64 t, .slice a len cap] w fun e w' => ∃ z, IsEnc t x z ∧ GivesE w z 0 e w'
structure HSumsC : Prop where
  no : ∀ (t : Int) (a c : Option Addr) (len cap len' cap' : Nat) (x m : List Int) (w : World), Row .u8 w a len cap x → IsB x → Row .u8 w c len' cap' m → IsB m → len ≤ 100 → len' ≤ 100 → mayB t len (len' : Nat) = false → -9223372036854775808 ≤ t → t ≤ 9223372036854775807 →
    Calls Try.prog 8 #[.int .i64 t, .slice a len cap, .slice c len' cap'] w (HandsI w [] 1)
  yes : ∀ (t : Nat) (a c : Option Addr) (len cap len' cap' : Nat) (x m : List Int) (w : World), Row .u8 w a len cap x → IsB x → Row .u8 w c len' cap' m → IsB m → len ≤ 100 → len' ≤ 100 → mayB t len (len' : Nat) = true →
    Calls Try.prog 8 #[.int .i64 t, .slice a len cap, .slice c len' cap'] w (HandsI w (sumsTo (wordL t x m) (2 * t)) 0)
structure HDecC : Prop where
  no : ∀ (t : Int) (a c : Option Addr) (len cap len' cap' : Nat) (x m : List Int) (w : World), Row .u8 w a len cap x → IsB x → Row .u8 w c len' cap' m → IsB m → len ≤ 100 → len' ≤ 100 → mayB t len (len' : Nat) = false → -9223372036854775808 ≤ t → t ≤ 9223372036854775807 →
    Calls Try.prog 5 #[.int .i64 t, .slice a len cap, .slice c len' cap'] w (Gives4 w [] [] 0 1)
  yes : ∀ (t : Nat) (a c : Option Addr) (len cap len' cap' : Nat) (x m : List Int) (w : World), Row .u8 w a len cap x → IsB x → Row .u8 w c len' cap' m → IsB m → len ≤ 100 → len' ≤ 100 → mayB t len (len' : Nat) = true →
    Calls Try.prog 5 #[.int .i64 t, .slice a len cap, .slice c len' cap'] w fun e w' => (∃ d k n, IsDec t x m d k n ∧ Gives4 w d k n 0 e w') ∨ ((∀ d k n, ¬ IsDec t x m d k n) ∧ Gives4 w [] [] 0 50 e w')

theorem above_ex (i : Nat) (hi : 13 * 1 ≤ i) : bitI [27, 0] i = 0 := by
  rcases (show i = 13 ∨ i = 14 ∨ i = 15 ∨ 16 ≤ i by omega) with rfl | rfl | rfl | h
  · decide
  · decide
  · decide
  · exact bitI_past _ _ (by simpa using h)
theorem code_ex : code 1 (wordL 1 [1] [27, 0]) := fun i h1 h2 => by
  rcases (show i = 1 ∨ i = 2 by omega) with rfl | rfl
  · decide +kernel
  · decide +kernel
theorem enc_ex {z : List Int} (h : IsEnc 1 [1] z) : z = [27, 0] := enc_unique (by decide) h ⟨rfl, isB_all _ (by decide), above_ex, code_ex⟩
theorem dec_ex0 : IsDec 1 [3] [27, 0] [1] [27, 0] 1 := ⟨rfl, rfl, isB_all _ (by decide), isB_all _ (by decide), above_ex, code_ex, by decide +kernel, Nat.le_refl _⟩
theorem dec_ex {d k : List Int} {n : Nat} (h : IsDec 1 [3] [27, 0] d k n) : d = [1] ∧ k = [27, 0] ∧ n = 1 := dec_unique (by decide) h dec_ex0
theorem str_ex270 : strOfNums [27, 0] = ⟨#[27, 0]⟩ := by rfl
theorem str_ex1 : strOfNums [1] = ⟨#[1]⟩ := by rfl

def small5 (len len' : Nat) : Bool := decide (len ≤ 40 ∧ len' ≤ 40)
theorem small5_yes {n m : Nat} (h : n ≤ 40) (h' : m ≤ 40) : small5 n m = true := by unfold small5; simp; omega
theorem small5_no {n m : Nat} (h : ¬ (n ≤ 40 ∧ m ≤ 40)) : small5 n m = false := by unfold small5; rw [decide_eq_false_iff_not]; exact h
set_option maxHeartbeats 400000 in
theorem small5_any (a c : Option Addr) (len cap len' cap' : Nat) (w : World) (hl : len ≤ maxLen) (hl' : len' ≤ maxLen) :
    Calls Try.prog 4 #[.slice a len cap, .slice c len' cap'] w fun e w' => e = .returned (.bool (small5 len len')) ∧ w = w' := by
  unfold maxLen at hl hl'
  by_cases h0 : len ≤ 40
  · go_enter Try.func4, Try.ntmps4
    go_wp2
    go_ret
    exact ⟨ret_bool (by unfold small5; rw [decide_eq_decide]; omega), rfl⟩
  · go_enter Try.func4, Try.ntmps4
    go_wp2
    go_ret
    exact ⟨ret_bool (by unfold small5; symm; rw [decide_eq_false_iff_not]; omega), rfl⟩

set_option maxHeartbeats 1600000 in
set_option maxRecDepth 100000 in
theorem awake5_any (hB : HBitsC) (hE : HEncC) (hD : HDecC) (w : World) : Calls Try.prog 6 #[] w fun e w' => e = .returned (.bool true) ∧ Below w.heap.size w w' := by
  go_enter Try.func6, Try.ntmps6
  go_wp2_with fail
  have hr1 := row_new .u8 w 5 w.heap.size rfl [1] 1 rfl (by decide) #[.int .u8 1] rfl
  refine (hE.yes 1 _ _ _ [1] _ hr1 (isB_all _ (by decide)) (by decide) (by decide) (by decide) (by decide)).mono ?_
  clear hr1
  rintro e w1 ⟨z, hz, a1, cp1, rfl, row1, q1⟩
  obtain rfl := enc_ex hz
  clear hz
  rw [show ([27, 0] : List Int).length = 2 from rfl] at row1 ⊢
  replace q1 := btrans (below_one w _) q1
  go_wp2_with fail
  have hr1 := (row_new .u8 w1 5 w1.heap.size rfl [3] 1 rfl (by decide) #[.int .u8 3] rfl).below (below_one _ (Obj.cells #[.int .u8 27, .int .u8 0] 5)) (Nat.le_refl _)
  have hr2 := row_new .u8 (w1.alloc (Obj.cells #[.int .u8 3] 5)) 5 (w1.heap.size + 1) (by simp) [27, 0] 2 rfl (by decide) #[.int .u8 27, .int .u8 0] rfl
  refine (hD.yes 1 _ _ _ _ _ _ [3] [27, 0] _ hr1 (isB_all _ (by decide)) hr2 (isB_all _ (by decide)) (by decide) (by decide) (by decide)).mono ?_
  clear hr1 hr2
  rintro e w2 (⟨d, k, n, hd, a2, cp2, b2, cq2, rfl, row2, row3, q2⟩ | ⟨hno, _⟩)
  case inr => exact absurd dec_ex0 (hno _ _ _)
  obtain ⟨rfl, rfl, rfl⟩ := dec_ex hd
  clear hd
  rw [show ([27, 0] : List Int).length = 2 from rfl] at row3 ⊢
  rw [show ([1] : List Int).length = 1 from rfl] at row2 ⊢
  replace q2 := btrans (below_two w1 _ _) q2
  replace row1 := row1.below q2 (Nat.le_refl _)
  replace q1 := btrans q1 q2
  clear q2
  go_wp2_with fail
  refine (hB.yes 8 _ (by decide) (by decide)).mono ?_
  rintro e w3 ⟨rfl, q2⟩
  replace row1 := row1.below q2 (Nat.le_refl _)
  replace row2 := row2.below q2 (Nat.le_refl _)
  replace row3 := row3.below q2 (Nat.le_refl _)
  replace q1 := btrans q1 q2
  clear q2
  have hc1 := conv_row Try.underlying22 Try.underlying5 Try.underlying9 row1
  have hc2 := conv_row Try.underlying22 Try.underlying5 Try.underlying9 row2
  have hc3 := conv_row Try.underlying22 Try.underlying5 Try.underlying9 row3
  rw [str_ex270] at hc1 hc3
  rw [str_ex1] at hc2
  clear row1 row2 row3
  go_wp2_with fail
  go_ret
  exact ⟨rfl, q1⟩

end Go.Proofs.Ytjiaomkjebbkpab
