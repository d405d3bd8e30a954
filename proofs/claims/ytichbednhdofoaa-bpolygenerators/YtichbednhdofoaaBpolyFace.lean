/-
  What the code of layer 4 (bpoly) must return, function by function (the face that the laws' walks lean on), and awake and small of the laws.
-/
import Derived.Test.YtichbednhdofoaaBpolyRef2
import Derived.Test.YtichbednhdofoaaHeld
namespace Go.Proofs.Ytichbednhdofoaa
open Go.RowKit
set_option linter.unusedVariables false

/-- A call hands back the bytes z. -/
def Gives (w : World) (z : List Int) (e : Ending) (w' : World) : Prop :=
  ∃ a cap, e = .returned (.slice a z.length cap) ∧ Row .u8 w' a z.length cap z ∧ Below w.heap.size w w'
/-- A call hands back the bytes z and the error number n. -/
def GivesE (w : World) (z : List Int) (n : Int) (e : Ending) (w' : World) : Prop :=
  ∃ a cap, e = .returned (.tuple #[.slice a z.length cap, .int .i64 n]) ∧ Row .u8 w' a z.length cap z ∧ Below w.heap.size w w'

def BDegC : Prop := ∀ (a : Option Addr) (len cap : Nat) (z : List Int) (w : World), Row .u8 w a len cap z → IsB z → len ≤ 500 →
  Calls Try.prog 15 #[.slice a len cap] w fun e w' => e = .returned (.int .i64 (((norm (bts z)).length : Int) - 1)) ∧ Below w.heap.size w w'
def BAddC : Prop := ∀ (a c : Option Addr) (len cap len' cap' : Nat) (x y : List Int) (w : World), Row .u8 w a len cap x → Row .u8 w c len' cap' y → IsB x → IsB y → len ≤ 500 → len' ≤ 500 →
  Calls Try.prog 10 #[.slice a len cap, .slice c len' cap'] w (Gives w (nb (addL (bts x) (bts y))))
def BMulC : Prop := ∀ (a c : Option Addr) (len cap len' cap' : Nat) (x y : List Int) (w : World), Row .u8 w a len cap x → Row .u8 w c len' cap' y → IsB x → IsB y → len ≤ 500 → len' ≤ 500 →
  Calls Try.prog 11 #[.slice a len cap, .slice c len' cap'] w (Gives w (nb (mulL (bts x) (bts y))))
structure BModC : Prop where
  zero : ∀ (a c : Option Addr) (len cap len' cap' : Nat) (x y : List Int) (w : World), Row .u8 w a len cap x → Row .u8 w c len' cap' y → IsB x → IsB y → len ≤ 500 → len' ≤ 500 → norm (bts y) = [] →
    Calls Try.prog 12 #[.slice a len cap, .slice c len' cap'] w (GivesE w [] 20)
  yes : ∀ (a c : Option Addr) (len cap len' cap' : Nat) (x y : List Int) (w : World), Row .u8 w a len cap x → Row .u8 w c len' cap' y → IsB x → IsB y → len ≤ 500 → len' ≤ 500 → norm (bts y) ≠ [] →
    Calls Try.prog 12 #[.slice a len cap, .slice c len' cap'] w fun e w' => ∃ r, IsMod (bts x) (bts y) r ∧ GivesE w (nb r) 0 e w'
structure BValC : Prop where
  no : ∀ (a : Option Addr) (len cap : Nat) (z : List Int) (x : Int) (w : World), Row .u8 w a len cap z → IsB z → len ≤ 500 → isE x = false →
    Calls Try.prog 13 #[.slice a len cap, .int .i64 x] w fun e w' => e = .returned (.tuple #[.int .i64 0, .int .i64 1]) ∧ Below w.heap.size w w'
  yes : ∀ (a : Option Addr) (len cap : Nat) (z : List Int) (x : Nat) (w : World), Row .u8 w a len cap z → IsB z → len ≤ 500 → x < 8192 →
    Calls Try.prog 13 #[.slice a len cap, .int .i64 x] w fun e w' => e = .returned (.tuple #[.int .i64 (evl (bts z) x : Nat), .int .i64 0]) ∧ Below w.heap.size w w'
def BMinC : Prop := ∀ (n : Int) (w : World), -9223372036854775808 ≤ n → n ≤ 9223372036854775807 → Calls Try.prog 25 #[.int .i64 n] w (Gives w (pk (minp (gz 2 n))))
structure BGenC : Prop where
  no : ∀ (t : Int) (w : World), t < 1 ∨ 8 < t → -9223372036854775808 ≤ t → t ≤ 9223372036854775807 → Calls Try.prog 27 #[.int .i64 t] w (GivesE w [] 1)
  yes : ∀ (t : Nat) (w : World), 1 ≤ t → t ≤ 8 → Calls Try.prog 27 #[.int .i64 t] w (GivesE w (pk (genTo t)) 0)

theorem isB_all (z : List Int) (h : z.all (fun n => decide (0 ≤ n ∧ n ≤ 255)) = true) : IsB z := by
  intro n hn
  have := List.all_eq_true.1 h n hn
  simpa using this
theorem pow_two_ok (n : Int) : gz 2 n < 8192 ∧ gz 2 n ≠ 0 := ⟨gz_lt 2 n (by decide), gpow_ne_zero 2 _ (by decide) (by decide)⟩
theorem min_ok (n : Int) : IsMin (gz 2 n) (minp (gz 2 n)) := minp_is _ (pow_two_ok n).1 (pow_two_ok n).2
theorem bmul_ex : nb (mulL (bts [3]) (bts [3])) = [5] := by decide +kernel
theorem bmin_ex : pk (minp (gz 2 1)) = [27, 32] := by
  have e : gz 2 1 = 2 := by show gpow 2 1 = 2; decide +kernel
  rw [e, minp_two]
  decide +kernel
theorem bdeg_ex0 : norm (bts [0]) = [] := by decide +kernel
theorem bdeg_ex1 : (norm (bts [0, 1])).length = 9 := by decide +kernel
theorem gen_norm (t : Nat) : norm (bts (pk (genTo t))) = genTo t := by rw [norm_ext (bts_pk (is01_genTo t)), norm_genTo]
theorem bgen_ex : (norm (bts (pk (genTo 8)))).length = 105 := by rw [gen_norm, length_genTo 8 (by decide)]
theorem bgen_len (t : Nat) (h : t ≤ 8) : (pk (genTo t)).length ≤ 14 := by rw [length_pk, length_genTo t h]; omega
theorem str_ex5 : strOfNums [5] = ⟨#[5]⟩ := by rfl
theorem str_ex27 : strOfNums [27, 32] = ⟨#[27, 32]⟩ := by rfl
theorem nil_row (w : World) : Row .u8 w none 0 0 [] := ⟨rfl, Nat.le_refl _, Nat.zero_le _, fun _ => rfl, fun h => absurd h (by omega)⟩

def small4 (len len' : Nat) : Bool := decide (len ≤ 60 ∧ len' ≤ 60)
theorem small4_yes {n m : Nat} (h : n ≤ 60) (h' : m ≤ 60) : small4 n m = true := by unfold small4; simp; omega
theorem small4_no {n m : Nat} (h : ¬ (n ≤ 60 ∧ m ≤ 60)) : small4 n m = false := by unfold small4; rw [decide_eq_false_iff_not]; exact h
set_option maxHeartbeats 400000 in
theorem small4_any (a c : Option Addr) (len cap len' cap' : Nat) (w : World) (hl : len ≤ maxLen) (hl' : len' ≤ maxLen) :
    Calls Try.prog 9 #[.slice a len cap, .slice c len' cap'] w fun e w' => e = .returned (.bool (small4 len len')) ∧ w = w' := by
  unfold maxLen at hl hl'
  by_cases h0 : len ≤ 60
  · go_enter Try.func9, Try.ntmps9
    go_wp2
    go_ret
    exact ⟨ret_bool (by unfold small4; rw [decide_eq_decide]; omega), rfl⟩
  · go_enter Try.func9, Try.ntmps9
    go_wp2
    go_ret
    exact ⟨ret_bool (by unfold small4; symm; rw [decide_eq_false_iff_not]; omega), rfl⟩

set_option maxHeartbeats 1600000 in
set_option maxRecDepth 100000 in
theorem awake4_any (hD : BDegC) (hM : BMulC) (hO : BModC) (hN : BMinC) (hG : BGenC) (w : World) : Calls Try.prog 22 #[] w fun e w' => e = .returned (.bool true) ∧ Below w.heap.size w w' := by
  go_enter Try.func22, Try.ntmps22
  go_wp2_with fail
  have hr1 := (row_new .u8 w 5 w.heap.size rfl [1] 1 rfl (by decide) #[.int .u8 1] rfl).below (below_one _ (Obj.cells #[.int .u8 0] 5)) (Nat.le_refl _)
  have hr2 := row_new .u8 (w.alloc (Obj.cells #[.int .u8 1] 5)) 5 (w.heap.size + 1) (by simp) [0] 1 rfl (by decide) #[.int .u8 0] rfl
  refine (hO.zero _ _ _ _ _ _ [1] [0] _ hr1 hr2 (isB_all _ (by decide)) (isB_all _ (by decide)) (by decide) (by decide) bdeg_ex0).mono ?_
  clear hr1 hr2
  rintro e w1 ⟨a1, cp1, rfl, hrow1, q1⟩
  replace q1 := btrans (below_two w _ _) q1
  clear hrow1
  rw [show ([] : List Int).length = 0 from rfl]
  go_wp2_with fail
  refine (hG.yes 8 _ (by decide) (by decide)).mono ?_
  rintro e w2 ⟨a2, cp2, rfl, hrow2, q2⟩
  have hl2 := bgen_len 8 (by decide)
  replace q1 := btrans q1 q2
  clear q2
  have HB2 : Hid (IsB (pk (genTo 8))) := isB_pk (is01_genTo 8)
  have HG2 : Hid ((norm (bts (pk (genTo 8)))).length = 105) := bgen_ex
  generalize pk (genTo 8) = zg at *
  go_wp2_with fail
  have hr1 := row_new .u8 w2 5 w2.heap.size rfl [0] 1 rfl (by decide) #[.int .u8 0] rfl
  refine (hD _ _ _ [0] _ hr1 (isB_all _ (by decide)) (by decide)).mono ?_
  clear hr1
  rintro e w3 ⟨rfl, q2⟩
  rw [bdeg_ex0, show ((([] : List Nat).length : Nat) : Int) - 1 = -1 from rfl]
  replace q2 := btrans (below_one w2 _) q2
  replace hrow2 := hrow2.below q2 (Nat.le_refl _)
  replace q1 := btrans q1 q2
  clear q2
  go_wp2_with fail
  have hr1 := row_new .u8 w3 5 w3.heap.size rfl [0, 1] 2 rfl (by decide) #[.int .u8 0, .int .u8 1] rfl
  refine (hD _ _ _ [0, 1] _ hr1 (isB_all _ (by decide)) (by decide)).mono ?_
  clear hr1
  rintro e w4 ⟨rfl, q2⟩
  rw [bdeg_ex1, show ((9 : Nat) : Int) - 1 = 8 from rfl]
  replace q2 := btrans (below_one w3 _) q2
  replace hrow2 := hrow2.below q2 (Nat.le_refl _)
  replace q1 := btrans q1 q2
  clear q2
  go_wp2_with fail
  have hr1 := (row_new .u8 w4 5 w4.heap.size rfl [3] 1 rfl (by decide) #[.int .u8 3] rfl).below (below_one _ (Obj.cells #[.int .u8 3] 5)) (Nat.le_refl _)
  have hr2 := row_new .u8 (w4.alloc (Obj.cells #[.int .u8 3] 5)) 5 (w4.heap.size + 1) (by simp) [3] 1 rfl (by decide) #[.int .u8 3] rfl
  refine (hM _ _ _ _ _ _ [3] [3] _ hr1 hr2 (isB_all _ (by decide)) (isB_all _ (by decide)) (by decide) (by decide)).mono ?_
  clear hr1 hr2
  rintro e w5 ⟨a5, cp5, rfl, hrow5, q2⟩
  rw [bmul_ex] at hrow5 ⊢
  rw [show ([5] : List Int).length = 1 from rfl] at hrow5 ⊢
  have hcv := conv_row Try.underlying22 Try.underlying5 Try.underlying9 hrow5
  rw [str_ex5] at hcv
  replace q2 := btrans (below_two w4 _ _) q2
  replace hrow2 := hrow2.below q2 (Nat.le_refl _)
  replace q1 := btrans q1 q2
  clear q2 hrow5
  go_wp2_with fail
  clear hcv
  refine (hN 1 _ (by decide) (by decide)).mono ?_
  rintro e w6 ⟨a6, cp6, rfl, hrow6, q2⟩
  rw [bmin_ex] at hrow6 ⊢
  rw [show ([27, 32] : List Int).length = 2 from rfl] at hrow6 ⊢
  have hcv := conv_row Try.underlying22 Try.underlying5 Try.underlying9 hrow6
  rw [str_ex27] at hcv
  replace hrow2 := hrow2.below q2 (Nat.le_refl _)
  replace q1 := btrans q1 q2
  clear q2 hrow6
  go_wp2_with fail
  clear hcv
  refine (hD _ _ _ zg _ hrow2 HB2.out (by omega)).mono ?_
  rintro e w7 ⟨rfl, q2⟩
  rw [HG2.out, show ((105 : Nat) : Int) - 1 = 104 from rfl]
  replace q1 := btrans q1 q2
  go_wp2_with fail
  go_ret
  exact ⟨rfl, q1⟩

end Go.Proofs.Ytichbednhdofoaa
