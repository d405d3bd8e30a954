/-
  What the code of layer 3 (poly) must return, function by function (the face that the laws' walks lean on), and awake, add, mul, small of the laws.
-/
import Derived.Test.YtmkjgacimbfblaaPolyRefMul
import Derived.Test.YtmkjgacimbfblaaBits
namespace Go.Proofs.Ytmkjgacimbfblaa
open Go.RowKit
set_option linter.unusedVariables false

/-- A call hands back the list r and the error number n. -/
def Hands (w : World) (r : List Nat) (n : Int) (e : Ending) (w' : World) : Prop :=
  ∃ a cap, e = .returned (.tuple #[.slice a r.length cap, .int .i64 n]) ∧ Row .i64 w' a r.length cap (ints r) ∧ Below w.heap.size w w'

structure NormC : Prop where
  no : ∀ (a : Option Addr) (len cap : Nat) (zs : List Int) (w : World), Row .i64 w a len cap zs → len ≤ 10000 → allE zs = false → Calls Try.prog 10 #[.slice a len cap] w (Hands w [] 1)
  yes : ∀ (a : Option Addr) (len cap : Nat) (p : List Nat) (w : World), Row .i64 w a len cap (ints p) → len ≤ 10000 → IsP p → Calls Try.prog 10 #[.slice a len cap] w (Hands w (norm p) 0)
structure AddC : Prop where
  no : ∀ (a c : Option Addr) (len cap len' cap' : Nat) (zs ys : List Int) (w : World), Row .i64 w a len cap zs → Row .i64 w c len' cap' ys → len ≤ 10000 → len' ≤ 10000 → (allE zs && allE ys) = false → Calls Try.prog 11 #[.slice a len cap, .slice c len' cap'] w (Hands w [] 1)
  yes : ∀ (a c : Option Addr) (len cap len' cap' : Nat) (p q : List Nat) (w : World), Row .i64 w a len cap (ints p) → Row .i64 w c len' cap' (ints q) → len ≤ 10000 → len' ≤ 10000 → IsP p → IsP q → Calls Try.prog 11 #[.slice a len cap, .slice c len' cap'] w (Hands w (norm (addL p q)) 0)
structure PMulC : Prop where
  no : ∀ (a c : Option Addr) (len cap len' cap' : Nat) (zs ys : List Int) (w : World), Row .i64 w a len cap zs → Row .i64 w c len' cap' ys → len ≤ 10000 → len' ≤ 10000 → (allE zs && allE ys) = false → Calls Try.prog 12 #[.slice a len cap, .slice c len' cap'] w (Hands w [] 1)
  yes : ∀ (a c : Option Addr) (len cap len' cap' : Nat) (p q : List Nat) (w : World), Row .i64 w a len cap (ints p) → Row .i64 w c len' cap' (ints q) → len ≤ 10000 → len' ≤ 10000 → IsP p → IsP q → Calls Try.prog 12 #[.slice a len cap, .slice c len' cap'] w (Hands w (norm (mulL p q)) 0)
structure DeriveC : Prop where
  no : ∀ (a : Option Addr) (len cap : Nat) (zs : List Int) (w : World), Row .i64 w a len cap zs → len ≤ 10000 → allE zs = false → Calls Try.prog 13 #[.slice a len cap] w (Hands w [] 1)
  yes : ∀ (a : Option Addr) (len cap : Nat) (p : List Nat) (w : World), Row .i64 w a len cap (ints p) → len ≤ 10000 → IsP p → Calls Try.prog 13 #[.slice a len cap] w (Hands w (norm (derL p)) 0)
structure EvalC : Prop where
  no : ∀ (a : Option Addr) (len cap : Nat) (zs : List Int) (x : Int) (w : World), Row .i64 w a len cap zs → len ≤ 10000 → (allE zs && isE x) = false → Calls Try.prog 14 #[.slice a len cap, .int .i64 x] w fun e w' => e = .returned (.tuple #[.int .i64 0, .int .i64 1]) ∧ Below w.heap.size w w'
  yes : ∀ (a : Option Addr) (len cap : Nat) (p : List Nat) (x : Nat) (w : World), Row .i64 w a len cap (ints p) → len ≤ 10000 → IsP p → x < 8192 → Calls Try.prog 14 #[.slice a len cap, .int .i64 x] w fun e w' => e = .returned (.tuple #[.int .i64 (evl p x : Nat), .int .i64 0]) ∧ Below w.heap.size w w'
/-- Div hands back the lists r and s and the error number n. -/
def Hands2 (w : World) (r s : List Nat) (n : Int) (e : Ending) (w' : World) : Prop :=
  ∃ a cap c cap', e = .returned (.tuple #[.slice a r.length cap, .slice c s.length cap', .int .i64 n]) ∧ Row .i64 w' a r.length cap (ints r) ∧ Row .i64 w' c s.length cap' (ints s) ∧ Below w.heap.size w w'
/-- r is the quotient, s the rest, of p by q. -/
structure IsDiv (p q r s : List Nat) : Prop where
  hr : IsP r
  hs : IsP s
  nr : norm r = r
  ns : norm s = s
  back : Eqv (addL (mulL q r) s) p
  short : s.length < (norm q).length
structure DivC : Prop where
  no : ∀ (a c : Option Addr) (len cap len' cap' : Nat) (zs ys : List Int) (w : World), Row .i64 w a len cap zs → Row .i64 w c len' cap' ys → len ≤ 10000 → len' ≤ 10000 → (allE zs && allE ys) = false → Calls Try.prog 24 #[.slice a len cap, .slice c len' cap'] w (Hands2 w [] [] 1)
  zero : ∀ (a c : Option Addr) (len cap len' cap' : Nat) (p q : List Nat) (w : World), Row .i64 w a len cap (ints p) → Row .i64 w c len' cap' (ints q) → len ≤ 10000 → len' ≤ 10000 → IsP p → IsP q → norm q = [] → Calls Try.prog 24 #[.slice a len cap, .slice c len' cap'] w (Hands2 w [] [] 20)
  yes : ∀ (a c : Option Addr) (len cap len' cap' : Nat) (p q : List Nat) (w : World), Row .i64 w a len cap (ints p) → Row .i64 w c len' cap' (ints q) → len ≤ 10000 → len' ≤ 10000 → IsP p → IsP q → norm q ≠ [] →
    Calls Try.prog 24 #[.slice a len cap, .slice c len' cap'] w fun e w' => ∃ r s, IsDiv p q r s ∧ Hands2 w r s 0 e w'
theorem IsDiv.unique' {p q r s r' s' : List Nat} (hq : IsP q) (h1 : Eqv (addL (mulL q r) s) p) (h2 : Eqv (addL (mulL q r') s') p) (hr : IsP r) (hr' : IsP r') (ns : (norm s).length < (norm q).length) (ns' : (norm s').length < (norm q).length) : Eqv r r' ∧ Eqv s s' :=
  div_unique q r s r' s' hq hr hr' (h1.trans h2.symm) ns ns'

def small3 (len len' : Nat) : Bool := decide (len ≤ 60 ∧ len' ≤ 60)
theorem small3_yes {n m : Nat} (h : n ≤ 60) (h' : m ≤ 60) : small3 n m = true := by unfold small3; simp; omega
theorem small3_no {n m : Nat} (h : ¬ (n ≤ 60 ∧ m ≤ 60)) : small3 n m = false := by unfold small3; rw [decide_eq_false_iff_not]; exact h
set_option maxHeartbeats 400000 in
theorem small3_any (a c : Option Addr) (len cap len' cap' : Nat) (w : World) (hl : len ≤ maxLen) (hl' : len' ≤ maxLen) :
    Calls Try.prog 9 #[.slice a len cap, .slice c len' cap'] w fun e w' => e = .returned (.bool (small3 len len')) ∧ w = w' := by
  unfold maxLen at hl hl'
  by_cases h0 : len ≤ 60
  · go_enter Try.func9, Try.ntmps9
    go_wp2
    go_ret
    exact ⟨ret_bool (by unfold small3; rw [decide_eq_decide]; omega), rfl⟩
  · go_enter Try.func9, Try.ntmps9
    go_wp2
    go_ret
    exact ⟨ret_bool (by unfold small3; symm; rw [decide_eq_false_iff_not]; omega), rfl⟩

set_option maxHeartbeats 400000 in
theorem addp_any (hA : AddC) (a c : Option Addr) (len cap len' cap' : Nat) (p q : List Nat) (w : World) (h1 : Row .i64 w a len cap (ints p)) (h2 : Row .i64 w c len' cap' (ints q)) (l1 : len ≤ 10000) (l2 : len' ≤ 10000) (hp : IsP p) (hq : IsP q) :
    Calls Try.prog 25 #[.slice a len cap, .slice c len' cap'] w fun e w' => ∃ b cp, e = .returned (.slice b (norm (addL p q)).length cp) ∧ Row .i64 w' b (norm (addL p q)).length cp (ints (norm (addL p q))) ∧ Below w.heap.size w w' := by
  go_enter Try.func25, Try.ntmps25
  go_wp2_with fail
  refine (hA.yes _ _ _ _ _ _ p q _ h1 h2 l1 l2 hp hq).mono ?_
  rintro e w1 ⟨b, cp, rfl, hrow, q1⟩
  go_wp2_with fail
  go_ret
  exact ⟨_, _, rfl, hrow, q1⟩
set_option maxHeartbeats 400000 in
theorem mulp_any (hM : PMulC) (a c : Option Addr) (len cap len' cap' : Nat) (p q : List Nat) (w : World) (h1 : Row .i64 w a len cap (ints p)) (h2 : Row .i64 w c len' cap' (ints q)) (l1 : len ≤ 10000) (l2 : len' ≤ 10000) (hp : IsP p) (hq : IsP q) :
    Calls Try.prog 26 #[.slice a len cap, .slice c len' cap'] w fun e w' => ∃ b cp, e = .returned (.slice b (norm (mulL p q)).length cp) ∧ Row .i64 w' b (norm (mulL p q)).length cp (ints (norm (mulL p q))) ∧ Below w.heap.size w w' := by
  go_enter Try.func26, Try.ntmps26
  go_wp2_with fail
  refine (hM.yes _ _ _ _ _ _ p q _ h1 h2 l1 l2 hp hq).mono ?_
  rintro e w1 ⟨b, cp, rfl, hrow, q1⟩
  go_wp2_with fail
  go_ret
  exact ⟨_, _, rfl, hrow, q1⟩

theorem isP_all (z : List Nat) (h : z.all (fun n => decide (n < 8192)) = true) : IsP z := by
  intro n hn
  have := List.all_eq_true.1 h n hn
  simpa using this
theorem mul_ex : norm (mulL [1, 1] [1, 1]) = [1, 0, 1] := by decide +kernel
theorem div_ex {r s : List Nat} (h : IsDiv [1, 0, 1] [1, 1] r s) : r = [1, 1] ∧ s = [] := by
  have hu := IsDiv.unique' (p := [1, 0, 1]) (q := [1, 1]) (r' := [1, 1]) (s' := []) (isP_all _ (by decide)) h.back (fun i => by
    have e : norm (addL (mulL [1, 1] [1, 1]) []) = norm [1, 0, 1] := by decide +kernel
    exact norm_iff.1 e i) h.hr (isP_all _ (by decide)) (by rw [h.ns]; exact h.short) (by decide)
  constructor
  · rw [← h.nr, norm_ext hu.1]; decide
  · rw [← h.ns, norm_ext hu.2]; decide
theorem evl_ex : evl [1, 0, 1] 2 = 5 := by decide +kernel
theorem ints_lit (p : List Nat) : ints p = p.map fun n : Nat => (n : Int) := rfl

set_option maxHeartbeats 1600000 in
set_option maxRecDepth 100000 in
theorem awake_any (hM : PMulC) (hD : DivC) (hE : EvalC) (w : World) : Calls Try.prog 17 #[] w fun e w' => e = .returned (.bool true) ∧ Below w.heap.size w w' := by
  go_enter Try.func17, Try.ntmps17
  go_wp2_with fail
  have hr1 := (row_new .i64 w 3 w.heap.size rfl (ints [1, 1]) 2 rfl (by decide) #[.int .i64 1, .int .i64 1] rfl).below (below_one _ (Obj.cells #[.int .i64 1, .int .i64 1] 3)) (Nat.le_refl _)
  have hr2 := row_new .i64 (w.alloc (Obj.cells #[.int .i64 1, .int .i64 1] 3)) 3 (w.heap.size + 1) (by simp) (ints [1, 1]) 2 rfl (by decide) #[.int .i64 1, .int .i64 1] rfl
  refine (hM.yes _ _ _ _ _ _ [1, 1] [1, 1] _ hr1 hr2 (by decide) (by decide) (isP_all _ (by decide)) (isP_all _ (by decide))).mono ?_
  clear hr1 hr2
  rintro e w1 ⟨a1, cp1, rfl, hrow1, q1⟩
  rw [mul_ex] at hrow1 ⊢
  replace q1 := btrans (below_two w _ _) q1
  go_wp2_with fail
  have hr1 := (row_new .i64 w1 3 w1.heap.size rfl (ints [1, 0, 1]) 3 rfl (by decide) #[.int .i64 1, .int .i64 0, .int .i64 1] rfl).below (below_one _ (Obj.cells #[.int .i64 1, .int .i64 1] 3)) (Nat.le_refl _)
  have hr2 := row_new .i64 (w1.alloc (Obj.cells #[.int .i64 1, .int .i64 0, .int .i64 1] 3)) 3 (w1.heap.size + 1) (by simp) (ints [1, 1]) 2 rfl (by decide) #[.int .i64 1, .int .i64 1] rfl
  refine (hD.yes _ _ _ _ _ _ [1, 0, 1] [1, 1] _ hr1 hr2 (by decide) (by decide) (isP_all _ (by decide)) (isP_all _ (by decide)) (by decide)).mono ?_
  clear hr1 hr2
  rintro e w2 ⟨r, s, hdiv, a2, cp2, c2, cq2, rfl, hrow2, _, q2⟩
  obtain ⟨rfl, rfl⟩ := div_ex hdiv
  clear hdiv
  replace q2 := btrans (below_two w1 _ _) q2
  replace hrow1 := hrow1.below q2 (Nat.le_refl _)
  replace q1 := btrans q1 q2
  clear q2
  go_wp2_with fail
  have hr1 := row_new .i64 w2 3 w2.heap.size rfl (ints [1]) 1 rfl (by decide) #[.int .i64 1] rfl
  have hr2 : Row .i64 (w2.alloc (Obj.cells #[.int .i64 1] 3)) none 0 0 (ints []) := ⟨rfl, Nat.le_refl _, Nat.zero_le _, fun _ => rfl, fun h => absurd h (by omega)⟩
  refine (hD.zero _ _ _ _ _ _ [1] [] _ hr1 hr2 (by decide) (by decide) (isP_all _ (by decide)) (isP_all _ (by decide)) rfl).mono ?_
  clear hr1 hr2
  rintro e w3 ⟨a3, cp3, c3, cq3, rfl, _, _, q2⟩
  replace q2 := btrans (below_one w2 _) q2
  replace hrow1 := hrow1.below q2 (Nat.le_refl _)
  replace hrow2 := hrow2.below q2 (Nat.le_refl _)
  replace q1 := btrans q1 q2
  clear q2
  go_wp2_with fail
  have hr1 := row_new .i64 w3 3 w3.heap.size rfl (ints [1, 0, 1]) 3 rfl (by decide) #[.int .i64 1, .int .i64 0, .int .i64 1] rfl
  refine (hE.yes _ _ _ [1, 0, 1] 2 _ hr1 (by decide) (isP_all _ (by decide)) (by decide)).mono ?_
  clear hr1
  rintro e w4 ⟨rfl, q2⟩
  rw [evl_ex]
  replace q2 := btrans (below_one w3 _) q2
  replace hrow1 := hrow1.below q2 (Nat.le_refl _)
  replace hrow2 := hrow2.below q2 (Nat.le_refl _)
  replace q1 := btrans q1 q2
  clear q2
  go_wp2_with fail
  have hr1 : Row .i64 (w4.alloc (Obj.cells #[.int .i64 1, .int .i64 0, .int .i64 1] 3)) a1 3 cp1 (ints [1, 0, 1]) := hrow1.below (below_one _ _) (Nat.le_refl _)
  have hr2 := row_new .i64 w4 3 w4.heap.size rfl (ints [1, 0, 1]) 3 rfl (by decide) #[.int .i64 1, .int .i64 0, .int .i64 1] rfl
  refine (ints_any _ _ 3 _ 3 _ (ints [1, 0, 1]) (ints [1, 0, 1]) _ hr1 hr2).mono ?_
  clear hr1 hr2
  rintro e w5 ⟨rfl, q2⟩
  rw [show decide (ints [1, 0, 1] = ints [1, 0, 1]) = true from by simp]
  replace q2 := btrans (below_one w4 _) q2
  replace hrow2 := hrow2.below q2 (Nat.le_refl _)
  replace q1 := btrans q1 q2
  clear q2
  go_wp2_with fail
  have hr1 : Row .i64 (w5.alloc (Obj.cells #[.int .i64 1, .int .i64 1] 3)) a2 2 cp2 (ints [1, 1]) := hrow2.below (below_one _ _) (Nat.le_refl _)
  have hr2 := row_new .i64 w5 3 w5.heap.size rfl (ints [1, 1]) 2 rfl (by decide) #[.int .i64 1, .int .i64 1] rfl
  refine (ints_any _ _ 2 _ 2 _ (ints [1, 1]) (ints [1, 1]) _ hr1 hr2).mono ?_
  clear hr1 hr2
  rintro e w6 ⟨rfl, q2⟩
  rw [show decide (ints [1, 1] = ints [1, 1]) = true from by simp]
  replace q2 := btrans (below_one w5 _) q2
  replace q1 := btrans q1 q2
  clear q2 hrow1 hrow2
  go_wp2_with fail
  go_ret
  exact ⟨rfl, q1⟩

end Go.Proofs.Ytmkjgacimbfblaa
