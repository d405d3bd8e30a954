/-
  Layer 15's laws: the walk of NumsSquares. (Written by tools/gen/num_laws.py.)
-/
import Derived.Test.YtcibpnikaemhlaaNumFace
namespace Go.Proofs.Ytcibpnikaemhlaa.N
open Go.RowKit
set_option linter.unusedVariables false
set_option maxRecDepth 8192

theorem square_sum (a b : Nat) : a * a + b * b + (a * b + a * b) = (a + b) * (a + b) := by
  rw [Nat.add_mul, Nat.mul_add, Nat.mul_add, Nat.mul_comm b a]; omega
theorem sq_ge (a : Nat) : a ≤ a * a := by
  rcases Nat.eq_zero_or_pos a with rfl | h
  · decide
  · exact Nat.le_mul_of_pos_left _ h
theorem sq_one (a : Nat) : (cmpN (a * a) a == 0) = decide (cmpN a 1 ≤ 0) := by
  have h1 := cmp_le (a := a) (b := 1)
  have h2 : cmpN (a * a) a = 0 ↔ a ≤ 1 := by
    have h3 := sq_ge a
    constructor
    · intro h
      rcases Nat.lt_or_ge 1 a with h4 | h4
      · have h5 : a * 2 ≤ a * a := Nat.mul_le_mul_left _ h4
        unfold cmpN at h
        rw [if_neg (by omega), if_pos (by omega)] at h
        exact absurd h (by decide)
      · exact h4
    · intro h
      rcases (show a = 0 ∨ a = 1 by omega) with rfl | rfl <;> decide
  rw [Bool.eq_iff_iff]
  simp [h1, h2]
set_option maxHeartbeats 3200000 in
theorem walk_NumsSquares (a b : List Nat) (pa pb : Option Addr) (la ka lb kb : Nat) (w : World) (ra : Row .u8 w pa la ka (nI a)) (da : Dig a) (rb : Row .u8 w pb lb kb (nI b)) (db : Dig b) :
    Calls Try.prog 8 #[.slice pa la ka, .slice pb lb kb] w fun e w' => e = .returned (.bool true) ∧ Below w.heap.size w w' := by
  have hmaxa : la ≤ maxLen := Nat.le_trans ra.hcap ra.hmax
  have Hla : Hid (a.length = la) := by have := ra.hlen; rwa [nI_length] at this
  have hmaxb : lb ≤ maxLen := Nat.le_trans rb.hcap rb.hmax
  have Hlb : Hid (b.length = lb) := by have := rb.hlen; rwa [nI_length] at this
  by_cases hs : la ≤ 120 ∧ lb ≤ 120
  case neg =>
    have hsm := small15_no hs
    go_enter Try.func8, Try.ntmps8
    go_wp2_with fail
    refine (small15_any _ _ _ _ _ _ _ hmaxa hmaxb).mono ?_
    rintro e w' ⟨rfl, rfl⟩
    rw [hsm]
    go_wp2_with fail
    go_ret
    exact ⟨rfl, Below.refl _ _⟩
  have hsm := small15_yes hs.1 hs.2
  obtain ⟨hs1, hs2⟩ := hs
  have le1 : (nb (vL a + vL b)).length ≤ 241 := by
    have ha := nb_len_vL da; rw [Hla.out] at ha; have hb := nb_len_vL db; rw [Hlb.out] at hb; have h := nb_len_add (vL a) (vL b); omega
  have lz0 : (nb (vL a + vL b)).length ≤ 241 := by
    exact le1
  have dz0 := dig_nb (vL a + vL b)
  have c1 : ∀ (x y : Option Addr) (cx cy : Nat) (w : World), Row .u8 w x la cx (nI a) → Row .u8 w y lb cy (nI b) → Calls Try.prog 11 #[.slice x la cx, .slice y lb cy] w (Gives w (nb (vL a + vL b))) := fun x y cx cy w h1 h2 => by
    have := add_any a b x y la cx lb cy w da db h1 h2 (by omega) (by omega)
    have e : vL a + vL b = vL a + vL b := by first | rfl | exact (rfl)
    rwa [e] at this
  have le2 : (nb (vL a * vL b)).length ≤ 240 := by
    have ha := nb_len_vL da; rw [Hla.out] at ha; have hb := nb_len_vL db; rw [Hlb.out] at hb; have h := nb_len_mul (vL a) (vL b); omega
  have lz1 : (nb (vL a * vL b)).length ≤ 240 := by
    exact le2
  have dz1 := dig_nb (vL a * vL b)
  have c2 : ∀ (x y : Option Addr) (cx cy : Nat) (w : World), Row .u8 w x la cx (nI a) → Row .u8 w y lb cy (nI b) → Calls Try.prog 13 #[.slice x la cx, .slice y lb cy] w (Gives w (nb (vL a * vL b))) := fun x y cx cy w h1 h2 => by
    have := mul_any a b x y la cx lb cy w da db h1 h2 (by omega) (by omega)
    have e : vL a * vL b = vL a * vL b := by first | rfl | exact (rfl)
    rwa [e] at this
  have le3 : (nb (vL a * vL a)).length ≤ 240 := by
    have ha := nb_len_vL da; rw [Hla.out] at ha; have ha := nb_len_vL da; rw [Hla.out] at ha; have h := nb_len_mul (vL a) (vL a); omega
  have lz2 : (nb (vL a * vL a)).length ≤ 240 := by
    exact le3
  have dz2 := dig_nb (vL a * vL a)
  have c3 : ∀ (x y : Option Addr) (cx cy : Nat) (w : World), Row .u8 w x la cx (nI a) → Row .u8 w y la cy (nI a) → Calls Try.prog 13 #[.slice x la cx, .slice y la cy] w (Gives w (nb (vL a * vL a))) := fun x y cx cy w h1 h2 => by
    have := mul_any a a x y la cx la cy w da da h1 h2 (by omega) (by omega)
    have e : vL a * vL a = vL a * vL a := by first | rfl | exact (rfl)
    rwa [e] at this
  have le4 : (nb (vL b * vL b)).length ≤ 240 := by
    have hb := nb_len_vL db; rw [Hlb.out] at hb; have hb := nb_len_vL db; rw [Hlb.out] at hb; have h := nb_len_mul (vL b) (vL b); omega
  have lz3 : (nb (vL b * vL b)).length ≤ 240 := by
    exact le4
  have dz3 := dig_nb (vL b * vL b)
  have c4 : ∀ (x y : Option Addr) (cx cy : Nat) (w : World), Row .u8 w x lb cx (nI b) → Row .u8 w y lb cy (nI b) → Calls Try.prog 13 #[.slice x lb cx, .slice y lb cy] w (Gives w (nb (vL b * vL b))) := fun x y cx cy w h1 h2 => by
    have := mul_any b b x y lb cx lb cy w db db h1 h2 (by omega) (by omega)
    have e : vL b * vL b = vL b * vL b := by first | rfl | exact (rfl)
    rwa [e] at this
  have le5 : (nb ((vL a * vL a) + (vL b * vL b))).length ≤ 481 := by
    have h := nb_len_add (vL a * vL a) (vL b * vL b); omega
  have lz4 : (nb ((vL a * vL a) + (vL b * vL b))).length ≤ 481 := by
    exact le5
  have dz4 := dig_nb ((vL a * vL a) + (vL b * vL b))
  have c5 : ∀ (x y : Option Addr) (cx cy : Nat) (w : World), Row .u8 w x (nb (vL a * vL a)).length cx (nI (nb (vL a * vL a))) → Row .u8 w y (nb (vL b * vL b)).length cy (nI (nb (vL b * vL b))) → Calls Try.prog 11 #[.slice x (nb (vL a * vL a)).length cx, .slice y (nb (vL b * vL b)).length cy] w (Gives w (nb ((vL a * vL a) + (vL b * vL b)))) := fun x y cx cy w h1 h2 => by
    have := add_any (nb (vL a * vL a)) (nb (vL b * vL b)) x y ((nb (vL a * vL a)).length) cx ((nb (vL b * vL b)).length) cy w dz2 dz3 h1 h2 (by omega) (by omega)
    have e : vL (nb (vL a * vL a)) + vL (nb (vL b * vL b)) = (vL a * vL a) + (vL b * vL b) := by rw [vL_nb, vL_nb]
    rwa [e] at this
  have le6 : (nb ((vL a * vL b) + (vL a * vL b))).length ≤ 481 := by
    have h := nb_len_add (vL a * vL b) (vL a * vL b); omega
  have lz5 : (nb ((vL a * vL b) + (vL a * vL b))).length ≤ 481 := by
    exact le6
  have dz5 := dig_nb ((vL a * vL b) + (vL a * vL b))
  have c6 : ∀ (x y : Option Addr) (cx cy : Nat) (w : World), Row .u8 w x (nb (vL a * vL b)).length cx (nI (nb (vL a * vL b))) → Row .u8 w y (nb (vL a * vL b)).length cy (nI (nb (vL a * vL b))) → Calls Try.prog 11 #[.slice x (nb (vL a * vL b)).length cx, .slice y (nb (vL a * vL b)).length cy] w (Gives w (nb ((vL a * vL b) + (vL a * vL b)))) := fun x y cx cy w h1 h2 => by
    have := add_any (nb (vL a * vL b)) (nb (vL a * vL b)) x y ((nb (vL a * vL b)).length) cx ((nb (vL a * vL b)).length) cy w dz1 dz1 h1 h2 (by omega) (by omega)
    have e : vL (nb (vL a * vL b)) + vL (nb (vL a * vL b)) = (vL a * vL b) + (vL a * vL b) := by rw [vL_nb]
    rwa [e] at this
  have le7 : (nb (((vL a * vL a) + (vL b * vL b)) + ((vL a * vL b) + (vL a * vL b)))).length ≤ 963 := by
    have h := nb_len_add ((vL a * vL a) + (vL b * vL b)) ((vL a * vL b) + (vL a * vL b)); omega
  rw [show ((vL a * vL a) + (vL b * vL b)) + ((vL a * vL b) + (vL a * vL b)) = (vL a + vL b) * (vL a + vL b) from square_sum _ _] at le7
  have lz6 : (nb ((vL a + vL b) * (vL a + vL b))).length ≤ 963 := by
    exact le7
  have dz6 := dig_nb ((vL a + vL b) * (vL a + vL b))
  have c7 : ∀ (x y : Option Addr) (cx cy : Nat) (w : World), Row .u8 w x (nb ((vL a * vL a) + (vL b * vL b))).length cx (nI (nb ((vL a * vL a) + (vL b * vL b)))) → Row .u8 w y (nb ((vL a * vL b) + (vL a * vL b))).length cy (nI (nb ((vL a * vL b) + (vL a * vL b)))) → Calls Try.prog 11 #[.slice x (nb ((vL a * vL a) + (vL b * vL b))).length cx, .slice y (nb ((vL a * vL b) + (vL a * vL b))).length cy] w (Gives w (nb ((vL a + vL b) * (vL a + vL b)))) := fun x y cx cy w h1 h2 => by
    have := add_any (nb ((vL a * vL a) + (vL b * vL b))) (nb ((vL a * vL b) + (vL a * vL b))) x y ((nb ((vL a * vL a) + (vL b * vL b))).length) cx ((nb ((vL a * vL b) + (vL a * vL b))).length) cy w dz4 dz5 h1 h2 (by omega) (by omega)
    have e : vL (nb ((vL a * vL a) + (vL b * vL b))) + vL (nb ((vL a * vL b) + (vL a * vL b))) = (vL a + vL b) * (vL a + vL b) := by rw [vL_nb, vL_nb]; exact (square_sum _ _)
    rwa [e] at this
  have c8 : ∀ (x y : Option Addr) (cx cy : Nat) (w : World), Row .u8 w x la cx (nI a) → Row .u8 w y la cy (nI a) → Calls Try.prog 13 #[.slice x la cx, .slice y la cy] w (Gives w (nb (vL a * vL a))) := fun x y cx cy w h1 h2 => by
    have := mul_any a a x y la cx la cy w da da h1 h2 (by omega) (by omega)
    have e : vL a * vL a = vL a * vL a := by first | rfl | exact (rfl)
    rwa [e] at this
  have c9 : ∀ (x y : Option Addr) (cx cy : Nat) (w : World), Row .u8 w x (nb (vL a * vL a)).length cx (nI (nb (vL a * vL a))) → Row .u8 w y la cy (nI a) → Calls Try.prog 15 #[.slice x (nb (vL a * vL a)).length cx, .slice y la cy] w (fun e w' => e = .returned (.int .i64 (cmpN (vL a * vL a) (vL a))) ∧ Below w.heap.size w w') := fun x y cx cy w h1 h2 => by
    have := cmp_any (nb (vL a * vL a)) a x y ((nb (vL a * vL a)).length) cx la cy w dz2 da h1 h2 (by omega) (by omega)
    have e : cmpN (vL (nb (vL a * vL a))) (vL a) = cmpN (vL a * vL a) (vL a) := by rw [vL_nb]
    rwa [e] at this
  have c10 : ∀ (x y : Option Addr) (cx cy : Nat) (w : World), Row .u8 w x (nb (vL a + vL b)).length cx (nI (nb (vL a + vL b))) → Row .u8 w y (nb (vL a + vL b)).length cy (nI (nb (vL a + vL b))) → Calls Try.prog 13 #[.slice x (nb (vL a + vL b)).length cx, .slice y (nb (vL a + vL b)).length cy] w (Gives w (nb ((vL a + vL b) * (vL a + vL b)))) := fun x y cx cy w h1 h2 => by
    have := mul_any (nb (vL a + vL b)) (nb (vL a + vL b)) x y ((nb (vL a + vL b)).length) cx ((nb (vL a + vL b)).length) cy w dz0 dz0 h1 h2 (by omega) (by omega)
    have e : vL (nb (vL a + vL b)) * vL (nb (vL a + vL b)) = (vL a + vL b) * (vL a + vL b) := by rw [vL_nb]
    rwa [e] at this
  have co : ∀ (x y : Option Addr) (cx : Nat) (w : World), Row .u8 w x la cx (nI a) → Row .u8 w y 1 1 (nI [1]) → Calls Try.prog 15 #[.slice x la cx, .slice y 1 1] w (fun e w' => e = .returned (.int .i64 (cmpN (vL a) 1)) ∧ Below w.heap.size w w') := fun x y cx w h1 h2 => cmp_any a [1] x y la cx 1 1 w da (dig_all (by decide)) h1 h2 (by omega) (by omega)
  have hcc : 0 ≤ cmpN (vL a * vL a) (vL a) := cmp_ge.2 (sq_ge _)
  have hcl := cmp_bounds (vL a * vL a) (vL a)
  have hco := cmp_bounds (vL a) 1
  have hce : (cmpN (vL a * vL a) (vL a) == 0) = decide (cmpN (vL a) 1 ≤ 0) := sq_one _
  generalize cmpN (vL a * vL a) (vL a) = cc at *
  generalize cmpN (vL a) 1 = co1 at *
  generalize nb ((vL a * vL a) + (vL b * vL b)) = z4 at *
  generalize nb ((vL a * vL b) + (vL a * vL b)) = z5 at *
  generalize nb ((vL a + vL b) * (vL a + vL b)) = z6 at *
  generalize nb (vL a + vL b) = z0 at *
  generalize nb (vL a * vL b) = z1 at *
  generalize nb (vL a * vL a) = z2 at *
  generalize nb (vL b * vL b) = z3 at *
  go_enter Try.func8, Try.ntmps8
  go_wp2_with fail
  refine (small15_any _ _ _ _ _ _ _ hmaxa hmaxb).mono ?_
  rintro e w' ⟨rfl, rfl⟩
  rw [hsm]
  go_wp2_with fail
  refine (c1 _ _ _ _ _ ra rb).mono ?_
  rintro e w1 ⟨a1, cp1, rfl, rs, q1⟩
  replace ra := ra.below q1 (Nat.le_refl _)
  replace rb := rb.below q1 (Nat.le_refl _)
  go_wp2_with fail
  refine (c2 _ _ _ _ _ ra rb).mono ?_
  rintro e w2 ⟨a2, cp2, rfl, rm, qq⟩
  replace ra := ra.below qq (Nat.le_refl _)
  replace rb := rb.below qq (Nat.le_refl _)
  replace rs := rs.below qq (Nat.le_refl _)
  replace q1 := btrans q1 qq
  clear qq
  go_wp2_with fail
  refine (c3 _ _ _ _ _ ra ra).mono ?_
  rintro e w3 ⟨a3, cp3, rfl, ri, qq⟩
  replace ra := ra.below qq (Nat.le_refl _)
  replace rb := rb.below qq (Nat.le_refl _)
  replace rs := rs.below qq (Nat.le_refl _)
  replace rm := rm.below qq (Nat.le_refl _)
  replace q1 := btrans q1 qq
  clear qq
  go_wp2_with fail
  refine (c4 _ _ _ _ _ rb rb).mono ?_
  rintro e w4 ⟨a4, cp4, rfl, rj, qq⟩
  replace ra := ra.below qq (Nat.le_refl _)
  replace rb := rb.below qq (Nat.le_refl _)
  replace rs := rs.below qq (Nat.le_refl _)
  replace rm := rm.below qq (Nat.le_refl _)
  replace ri := ri.below qq (Nat.le_refl _)
  replace q1 := btrans q1 qq
  clear qq
  go_wp2_with fail
  refine (c5 _ _ _ _ _ ri rj).mono ?_
  rintro e w5 ⟨a5, cp5, rfl, ru, qq⟩
  replace ra := ra.below qq (Nat.le_refl _)
  replace rb := rb.below qq (Nat.le_refl _)
  replace rs := rs.below qq (Nat.le_refl _)
  replace rm := rm.below qq (Nat.le_refl _)
  replace ri := ri.below qq (Nat.le_refl _)
  replace rj := rj.below qq (Nat.le_refl _)
  replace q1 := btrans q1 qq
  clear qq
  go_wp2_with fail
  refine (c6 _ _ _ _ _ rm rm).mono ?_
  rintro e w6 ⟨a6, cp6, rfl, rv, qq⟩
  replace ra := ra.below qq (Nat.le_refl _)
  replace rb := rb.below qq (Nat.le_refl _)
  replace rs := rs.below qq (Nat.le_refl _)
  replace rm := rm.below qq (Nat.le_refl _)
  replace ri := ri.below qq (Nat.le_refl _)
  replace rj := rj.below qq (Nat.le_refl _)
  replace ru := ru.below qq (Nat.le_refl _)
  replace q1 := btrans q1 qq
  clear qq
  go_wp2_with fail
  refine (c7 _ _ _ _ _ ru rv).mono ?_
  rintro e w7 ⟨a7, cp7, rfl, rwant, qq⟩
  replace ra := ra.below qq (Nat.le_refl _)
  replace rb := rb.below qq (Nat.le_refl _)
  replace rs := rs.below qq (Nat.le_refl _)
  replace rm := rm.below qq (Nat.le_refl _)
  replace ri := ri.below qq (Nat.le_refl _)
  replace rj := rj.below qq (Nat.le_refl _)
  replace ru := ru.below qq (Nat.le_refl _)
  replace rv := rv.below qq (Nat.le_refl _)
  replace q1 := btrans q1 qq
  clear qq
  clear ri rj ru rv rm
  go_wp2_with fail
  refine (c8 _ _ _ _ _ ra ra).mono ?_
  rintro e w8 ⟨a8, cp8, rfl, rh, qq⟩
  replace ra := ra.below qq (Nat.le_refl _)
  replace rb := rb.below qq (Nat.le_refl _)
  replace rs := rs.below qq (Nat.le_refl _)
  replace rwant := rwant.below qq (Nat.le_refl _)
  replace q1 := btrans q1 qq
  clear qq
  go_wp2_with fail
  refine (c9 _ _ _ _ _ rh ra).mono ?_
  rintro e w9 ⟨rfl, qq⟩
  replace ra := ra.below qq (Nat.le_refl _)
  replace rb := rb.below qq (Nat.le_refl _)
  replace rs := rs.below qq (Nat.le_refl _)
  replace rwant := rwant.below qq (Nat.le_refl _)
  replace rh := rh.below qq (Nat.le_refl _)
  replace q1 := btrans q1 qq
  clear qq
  clear rh
  have rl := row_new .u8 w9 5 w9.heap.size rfl [(1 : Int)] 1 rfl (by decide) #[.int .u8 (1 : Int)] rfl
  have ql := below_one w9 (.cells #[.int .u8 (1 : Int)] 5)
  replace ra := ra.below ql (Nat.le_refl _)
  replace rb := rb.below ql (Nat.le_refl _)
  replace rs := rs.below ql (Nat.le_refl _)
  replace rwant := rwant.below ql (Nat.le_refl _)
  replace q1 := btrans q1 ql
  go_wp2_with fail
  refine (co _ _ _ _ ra rl).mono ?_
  rintro e w10 ⟨rfl, qq⟩
  replace ra := ra.below qq (Nat.le_refl _)
  replace rb := rb.below qq (Nat.le_refl _)
  replace rs := rs.below qq (Nat.le_refl _)
  replace rwant := rwant.below qq (Nat.le_refl _)
  replace q1 := btrans q1 qq
  clear qq
  clear rl ql
  go_wp2_with fail
  refine held_begin (by kernel_rfl) ?_
  refine held_call (i := 0) (fuel := 20) (by kernel_rfl) rfl (by rfl) (fun K hK => ?_)
  go_simp
  have qd := Since.drew w10
  replace ra := ra.below qd (Nat.le_refl _)
  replace rb := rb.below qd (Nat.le_refl _)
  replace rs := rs.below qd (Nat.le_refl _)
  replace rwant := rwant.below qd (Nat.le_refl _)
  replace q1 := btrans q1 qd
  clear qd
  refine (awake15_any _).mono ?_
  rintro e w11 ⟨rfl, qq0⟩
  refine hK _ _ (Since.trans (Since.drew _) qq0) ?_
  have qq : Since _ _ := qq0
  clear hK K qq0
  replace ra := ra.below qq (Nat.le_refl _)
  replace rb := rb.below qq (Nat.le_refl _)
  replace rs := rs.below qq (Nat.le_refl _)
  replace rwant := rwant.below qq (Nat.le_refl _)
  replace q1 := btrans q1 qq
  clear qq
  refine held_reads (rs := [1, 2, 3, 6, 7]) (fuel := 15) (by kernel_rfl) (fun c d v a w h => by cases d <;> exact h) (by kernel_rfl) (Since.refl _) (fun K hK => ?_)
  go_simp
  refine calm_move _ rfl (by rfl) rfl ?_
  go_simp
  refine calm_move _ rfl (by rfl) rfl ?_
  go_simp
  refine calm_move _ rfl (by rfl) rfl ?_
  go_simp
  refine calm_move _ rfl (by rfl) rfl ?_
  go_simp
  refine calm_do (.string (strOfNums (nI z6))) rfl (by rfl) (fun w' hw' => ?_) ?_
  · have hcc := conv_row Try.underlying22 Try.underlying5 Try.underlying9 (rwant.below hw' (Nat.le_refl _))
    go_simp
  go_simp
  refine calm_nil (hK.out _ ?_)
  clear hK K
  refine held_call (i := 4) (fuel := 14) (by kernel_rfl) rfl (by rfl) (fun K hK => ?_)
  go_simp
  refine (c10 _ _ _ _ _ rs rs).mono ?_
  rintro e w12 ⟨a10, cp10, rfl, rq, qq0⟩
  refine hK _ _ (Since.trans (Since.refl _) qq0) ?_
  have qq : Since _ _ := qq0
  clear hK K qq0
  replace ra := ra.below qq (Nat.le_refl _)
  replace rb := rb.below qq (Nat.le_refl _)
  replace rs := rs.below qq (Nat.le_refl _)
  replace rwant := rwant.below qq (Nat.le_refl _)
  replace q1 := btrans q1 qq
  clear qq
  refine held_reads (rs := [5, 8, 9, 10, 11, 12, 13, 14, 15, 16, 17, 18, 19, 20]) (fuel := 0) (by kernel_rfl) (fun c d v a w h => by cases d <;> exact h) (by kernel_rfl) (Since.refl _) (fun K hK => ?_)
  go_simp
  refine calm_do (.string (strOfNums (nI z6))) rfl (by rfl) (fun w' hw' => ?_) ?_
  · have hcc := conv_row Try.underlying22 Try.underlying5 Try.underlying9 (rq.below hw' (Nat.le_refl _))
    go_simp
  go_simp
  refine calm_do (.bool true) rfl (by rfl) (fun w' hw' => ?_) ?_
  · go_simp
  go_simp
  refine calm_do (.bool true) rfl (by rfl) (fun w' hw' => ?_) ?_
  · go_simp
  go_simp
  refine calm_move _ rfl (by rfl) rfl ?_
  go_simp
  refine calm_move _ rfl (by rfl) rfl ?_
  go_simp
  refine calm_do (.bool (cc == 0)) rfl (by rfl) (fun w' hw' => ?_) ?_
  · go_simp
  go_simp
  refine calm_move _ rfl (by rfl) rfl ?_
  go_simp
  refine calm_do (.bool true) rfl (by rfl) (fun w' hw' => ?_) ?_
  · go_simp
  go_simp
  refine calm_do (.bool true) rfl (by rfl) (fun w' hw' => ?_) ?_
  · go_simp
  go_simp
  refine calm_move _ rfl (by rfl) rfl ?_
  go_simp
  refine calm_move _ rfl (by rfl) rfl ?_
  go_simp
  refine calm_do (.bool true) rfl (by rfl) (fun w' hw' => ?_) ?_
  · go_simp
  go_simp
  refine calm_do (.bool true) rfl (by rfl) (fun w' hw' => ?_) ?_
  · go_simp
  go_simp
  refine calm_assign _ rfl (by rfl) rfl ?_
  go_simp
  refine calm_nil (hK.out _ ?_)
  clear hK K
  refine wpAnyH_done (by kernel_rfl) ?_ _
  go_wp2_with fail
  go_ret
  first | exact ⟨rfl, q1⟩ | exact ⟨ret_bool (by simp), q1⟩
end Go.Proofs.Ytcibpnikaemhlaa.N
