/-
  Layer 15's laws: what they share: small, awake; how many bytes a number has.
-/
import Derived.Test.YtcibpnikaemhlaaNumCode6
namespace Go.Proofs.Ytcibpnikaemhlaa.N
open Go.RowKit
set_option linter.unusedVariables false
set_option maxRecDepth 8192

theorem nb_lt (v : Nat) : v < 256 ^ (nb v).length := by have := (dig_nb v).vL_lt; rwa [vL_nb] at this
theorem nb_len_le {x y : Nat} (h : x ≤ y) : (nb x).length ≤ (nb y).length := nb_len (Nat.lt_of_le_of_lt h (nb_lt y))
theorem nb_len_mul (x y : Nat) : (nb (x * y)).length ≤ (nb x).length + (nb y).length := nb_len (mul_lt (nb_lt x) (nb_lt y))
theorem nb_len_add (x y : Nat) : (nb (x + y)).length ≤ (nb x).length + (nb y).length + 1 := by
  apply nb_len
  have h1 : x < 256 ^ ((nb x).length + (nb y).length) := Nat.lt_of_lt_of_le (nb_lt x) (Nat.pow_le_pow_right (by decide) (by omega))
  have h2 : y < 256 ^ ((nb x).length + (nb y).length) := Nat.lt_of_lt_of_le (nb_lt y) (Nat.pow_le_pow_right (by decide) (by omega))
  rw [Nat.pow_succ]
  omega
theorem nb_len_mod (x y : Nat) : (nb (x % y)).length ≤ (nb x).length := nb_len_le (Nat.mod_le _ _)
theorem nb_len_sub (x y : Nat) : (nb (x - y)).length ≤ (nb x).length := nb_len_le (Nat.sub_le _ _)
theorem nb_len_vL {a : List Nat} (h : Dig a) : (nb (vL a)).length ≤ a.length := nb_len h.vL_lt
/-- Bytes that came in, as numbers. -/
theorem bytes_nat {zs : List Int} (h : ∀ n ∈ zs, 0 ≤ n ∧ n ≤ 255) : ∃ l : List Nat, zs = nI l ∧ Dig l := by
  refine ⟨zs.map Int.toNat, ?_, ?_⟩
  · unfold nI
    rw [List.map_map]
    have e : zs.map ((fun n : Nat => (n : Int)) ∘ Int.toNat) = zs.map id := by
      apply List.map_congr_left
      intro x hx
      have := h x hx
      simp
      omega
    rw [e, List.map_id]
  · intro x hx
    obtain ⟨y, hy, rfl⟩ := List.mem_map.1 hx
    have := h y hy
    omega
theorem nrm_of {l : List Nat} (h1 : l.all (fun n => decide (n < 256)) = true) (h2 : l.length = 0 ∨ dg l (l.length - 1) ≠ 0) : Nrm l :=
  ⟨fun x hx => by have := List.all_eq_true.1 h1 x hx; simpa using this, fun h => h2.elim (fun e => absurd e h) (fun e => e)⟩
theorem dig_all {l : List Nat} (h1 : l.all (fun n => decide (n < 256)) = true) : Dig l := fun x hx => by have := List.all_eq_true.1 h1 x hx; simpa using this
def small15 (len len' : Nat) : Bool := decide (len ≤ 120 ∧ len' ≤ 120)
theorem small15_yes {n m : Nat} (h : n ≤ 120) (h' : m ≤ 120) : small15 n m = true := by unfold small15; simp; omega
theorem small15_no {n m : Nat} (h : ¬ (n ≤ 120 ∧ m ≤ 120)) : small15 n m = false := by unfold small15; rw [decide_eq_false_iff_not]; exact h
set_option maxHeartbeats 400000 in
theorem small15_any (a c : Option Addr) (len cap len' cap' : Nat) (w : World) (hl : len ≤ maxLen) (hl' : len' ≤ maxLen) :
    Calls Try.prog 9 #[.slice a len cap, .slice c len' cap'] w fun e w' => e = .returned (.bool (small15 len len')) ∧ w = w' := by
  unfold maxLen at hl hl'
  by_cases h0 : len ≤ 120
  · go_enter Try.func9, Try.ntmps9
    go_wp2
    go_ret
    exact ⟨ret_bool (by unfold small15; rw [decide_eq_decide]; omega), rfl⟩
  · go_enter Try.func9, Try.ntmps9
    go_wp2
    go_ret
    exact ⟨ret_bool (by unfold small15; symm; rw [decide_eq_false_iff_not]; omega), rfl⟩
theorem aw_mod : nb (vL [10] % vL [3]) = [1] := nb_of (nrm_of (by decide) (by decide)) (by decide)
theorem aw_add : nb (vL [255] + vL [1]) = [0, 1] := nb_of (nrm_of (by decide) (by decide)) (by decide)
theorem aw_sub : nb (vL [0, 1] - vL [1]) = [255] := nb_of (nrm_of (by decide) (by decide)) (by decide)
theorem aw_cmp : cmpN (vL [1, 0]) (vL [1]) = 0 := by decide
set_option maxHeartbeats 1600000 in
theorem awake15_any (w : World) : Calls Try.prog 21 #[] w fun e w' => e = .returned (.bool true) ∧ Below w.heap.size w w' := by
  have lit1 : ∀ (w : World) (x : Nat), Row .u8 (w.alloc (Obj.cells #[.int .u8 (x : Int)] 5)) (some ⟨w.heap.size, 0, none⟩) 1 1 (nI [x]) := fun w x => row_new .u8 w 5 w.heap.size rfl [(x : Int)] 1 rfl (by decide) #[.int .u8 (x : Int)] rfl
  have lit2 : ∀ (w : World) (x y : Nat), Row .u8 (w.alloc (Obj.cells #[.int .u8 (x : Int), .int .u8 (y : Int)] 5)) (some ⟨w.heap.size, 0, none⟩) 2 2 (nI [x, y]) := fun w x y => row_new .u8 w 5 w.heap.size rfl [(x : Int), (y : Int)] 2 rfl (by decide) #[.int .u8 (x : Int), .int .u8 (y : Int)] rfl
  go_enter Try.func21, Try.ntmps21
  go_wp2_with fail
  have h1 := (lit1 w 10).below (below_one _ (Obj.cells #[.int .u8 ((3 : Nat) : Int)] 5)) (Nat.le_refl _)
  have h2 := lit1 (w.alloc (Obj.cells #[.int .u8 ((10 : Nat) : Int)] 5)) 3
  rw [show (w.alloc (Obj.cells #[.int .u8 ((10 : Nat) : Int)] 5)).heap.size = w.heap.size + 1 from by simp] at h2
  refine (mod_any [10] [3] _ _ 1 1 1 1 _ (dig_all (by decide)) (dig_all (by decide)) h1 h2 (by decide) (by decide) (by decide)).mono ?_
  rintro e w1 ⟨a1, c1, rfl, r1, q1⟩
  rw [aw_mod] at r1 ⊢
  rw [show ([1] : List Nat).length = 1 from rfl] at r1 ⊢
  replace q1 := btrans (below_two w _ _) q1
  clear h1 h2
  go_wp2_with fail
  have h1 := (lit1 w1 1).below (below_one _ (Obj.cells #[.int .u8 ((0 : Nat) : Int)] 5)) (Nat.le_refl _)
  have h2 := lit1 (w1.alloc (Obj.cells #[.int .u8 ((1 : Nat) : Int)] 5)) 0
  rw [show (w1.alloc (Obj.cells #[.int .u8 ((1 : Nat) : Int)] 5)).heap.size = w1.heap.size + 1 from by simp] at h2
  refine (mod_zero [1] [0] _ _ 1 1 1 1 _ (dig_all (by decide)) (dig_all (by decide)) h1 h2 (by decide) (by decide) (by decide)).mono ?_
  rintro e w2 ⟨a2, c2, rfl, r2, q2⟩
  rw [show ([] : List Nat).length = 0 from rfl]
  replace q2 := btrans (below_two w1 _ _) q2
  replace r1 := r1.below q2 (Nat.le_refl _)
  replace q1 := btrans q1 q2
  clear h1 h2 q2 r2
  go_wp2_with fail
  have h1 := (lit1 w2 255).below (below_one _ (Obj.cells #[.int .u8 ((1 : Nat) : Int)] 5)) (Nat.le_refl _)
  have h2 := lit1 (w2.alloc (Obj.cells #[.int .u8 ((255 : Nat) : Int)] 5)) 1
  rw [show (w2.alloc (Obj.cells #[.int .u8 ((255 : Nat) : Int)] 5)).heap.size = w2.heap.size + 1 from by simp] at h2
  refine (add_any [255] [1] _ _ 1 1 1 1 _ (dig_all (by decide)) (dig_all (by decide)) h1 h2 (by decide) (by decide)).mono ?_
  rintro e w3 ⟨a3, c3, rfl, r3, q3⟩
  rw [aw_add] at r3 ⊢
  rw [show ([0, 1] : List Nat).length = 2 from rfl] at r3 ⊢
  have hcv := conv_row Try.underlying22 Try.underlying5 Try.underlying9 r3
  rw [show strOfNums (nI [0, 1]) = ⟨#[0, 1]⟩ from rfl] at hcv
  replace q3 := btrans (below_two w2 _ _) q3
  replace r1 := r1.below q3 (Nat.le_refl _)
  replace q1 := btrans q1 q3
  clear h1 h2 q3 r3
  go_wp2_with fail
  have h1 := (lit2 w3 0 1).below (below_one _ (Obj.cells #[.int .u8 ((1 : Nat) : Int)] 5)) (Nat.le_refl _)
  have h2 := lit1 (w3.alloc (Obj.cells #[.int .u8 ((0 : Nat) : Int), .int .u8 ((1 : Nat) : Int)] 5)) 1
  rw [show (w3.alloc (Obj.cells #[.int .u8 ((0 : Nat) : Int), .int .u8 ((1 : Nat) : Int)] 5)).heap.size = w3.heap.size + 1 from by simp] at h2
  refine (sub_any [0, 1] [1] _ _ 2 2 1 1 _ (dig_all (by decide)) (dig_all (by decide)) h1 h2 (by decide) (by decide)).mono ?_
  rintro e w4 ⟨a4, c4, rfl, r4, q4⟩
  rw [aw_sub] at r4 ⊢
  rw [show ([255] : List Nat).length = 1 from rfl] at r4 ⊢
  clear hcv
  have hcv := conv_row Try.underlying22 Try.underlying5 Try.underlying9 r4
  rw [show strOfNums (nI [255]) = ⟨#[255]⟩ from rfl] at hcv
  replace q4 := btrans (below_two w3 _ _) q4
  replace r1 := r1.below q4 (Nat.le_refl _)
  replace q1 := btrans q1 q4
  clear h1 h2 q4 r4
  go_wp2_with fail
  have h1 := (lit2 w4 1 0).below (below_one _ (Obj.cells #[.int .u8 ((1 : Nat) : Int)] 5)) (Nat.le_refl _)
  have h2 := lit1 (w4.alloc (Obj.cells #[.int .u8 ((1 : Nat) : Int), .int .u8 ((0 : Nat) : Int)] 5)) 1
  rw [show (w4.alloc (Obj.cells #[.int .u8 ((1 : Nat) : Int), .int .u8 ((0 : Nat) : Int)] 5)).heap.size = w4.heap.size + 1 from by simp] at h2
  refine (cmp_any [1, 0] [1] _ _ 2 2 1 1 _ (dig_all (by decide)) (dig_all (by decide)) h1 h2 (by decide) (by decide)).mono ?_
  rintro e w5 ⟨rfl, q5⟩
  rw [aw_cmp]
  replace q5 := btrans (below_two w4 _ _) q5
  replace r1 := r1.below q5 (Nat.le_refl _)
  replace q1 := btrans q1 q5
  clear hcv
  have hcv := conv_row Try.underlying22 Try.underlying5 Try.underlying9 r1
  rw [show strOfNums (nI [1]) = ⟨#[1]⟩ from rfl] at hcv
  clear h1 h2 q5 r1
  go_wp2_with fail
  go_ret
  exact ⟨rfl, q1⟩
end Go.Proofs.Ytcibpnikaemhlaa.N
