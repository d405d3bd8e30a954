/-
  Layer 15's laws: the walk of NumsRests. (Written by tools/gen/num_laws.py.)
-/
import Derived.Test.YtcibpnikaemhlaaNumFace
namespace Go.Proofs.Ytcibpnikaemhlaa.N
open Go.RowKit
set_option linter.unusedVariables false
set_option maxRecDepth 8192

set_option maxHeartbeats 3200000 in
theorem walk_NumsRests (a b m : List Nat) (pa pb pm : Option Addr) (la ka lb kb lm km : Nat) (w : World) (ra : Row .u8 w pa la ka (nI a)) (da : Dig a) (rb : Row .u8 w pb lb kb (nI b)) (db : Dig b) (rm : Row .u8 w pm lm km (nI m)) (dm : Dig m) :
    Calls Try.prog 5 #[.slice pa la ka, .slice pb lb kb, .slice pm lm km] w fun e w' => e = .returned (.bool true) ∧ Below w.heap.size w w' := by
  have hmaxa : la ≤ maxLen := Nat.le_trans ra.hcap ra.hmax
  have Hla : Hid (a.length = la) := by have := ra.hlen; rwa [nI_length] at this
  have hmaxb : lb ≤ maxLen := Nat.le_trans rb.hcap rb.hmax
  have Hlb : Hid (b.length = lb) := by have := rb.hlen; rwa [nI_length] at this
  have hmaxm : lm ≤ maxLen := Nat.le_trans rm.hcap rm.hmax
  have Hlm : Hid (m.length = lm) := by have := rm.hlen; rwa [nI_length] at this
  by_cases hs : la ≤ 120 ∧ lb ≤ 120
  case neg =>
    have hsm := small15_no hs
    go_enter Try.func5, Try.ntmps5
    go_wp2_with fail
    refine (small15_any _ _ _ _ _ _ _ hmaxa hmaxb).mono ?_
    rintro e w' ⟨rfl, rfl⟩
    rw [hsm]
    go_wp2_with fail
    go_ret
    exact ⟨rfl, Below.refl _ _⟩
  have hsm := small15_yes hs.1 hs.2
  obtain ⟨hs1, hs2⟩ := hs
  by_cases hs3 : lm ≤ 120
  case neg =>
    have hs3' : (120 : Int) < (lm : Int) := by omega
    have hs4 : lm ≤ 9223372036854775807 := by unfold maxLen at hmaxm; omega
    go_enter Try.func5, Try.ntmps5
    go_wp2_with fail
    refine (small15_any _ _ _ _ _ _ _ hmaxa hmaxb).mono ?_
    rintro e w' ⟨rfl, rfl⟩
    rw [hsm]
    go_wp2_with fail
    go_ret
    exact ⟨rfl, Below.refl _ _⟩
  have hs3' : (lm : Int) ≤ 120 := by omega
  by_cases hm : vL m = 0
  case pos =>
    have lz0 : (nb (0)).length ≤ 130 := by
      rw [nb_zero]; decide
    have dz0 := dig_nb (0)
    have c1 : ∀ (x : Option Addr) (cx : Nat) (w : World), Row .u8 w x lm cx (nI m) → Calls Try.prog 10 #[.slice x lm cx] w (Gives w (nb (0))) := fun x cx w h1 => by
      have := norm_any m dm x lm cx w h1 (by omega)
      have e : vL m = 0 := by first | rfl | exact (hm)
      rwa [e] at this
    have cz := fun w => mod_zero a m pa pm la ka lm km w da dm
    rw [nb_zero] at c1
    go_enter Try.func5, Try.ntmps5
    go_wp2_with fail
    refine (small15_any _ _ _ _ _ _ _ hmaxa hmaxb).mono ?_
    rintro e w' ⟨rfl, rfl⟩
    rw [hsm]
    go_wp2_with fail
    refine (cz _ ra rm (by omega) (by omega) hm).mono ?_
    rintro e w1 ⟨a9, cp9, rfl, r9, q1⟩
    replace ra := ra.below q1 (Nat.le_refl _)
    replace rb := rb.below q1 (Nat.le_refl _)
    replace rm := rm.below q1 (Nat.le_refl _)
    rw [show ([] : List Nat).length = 0 from rfl]
    go_wp2_with fail
    refine (awake15_any _).mono ?_
    rintro e w2 ⟨rfl, qq⟩
    replace ra := ra.below qq (Nat.le_refl _)
    replace rb := rb.below qq (Nat.le_refl _)
    replace rm := rm.below qq (Nat.le_refl _)
    replace q1 := btrans q1 qq
    clear qq
    go_wp2_with fail
    refine (c1 _ _ _ rm).mono ?_
    rintro e w3 ⟨a8, cp8, rfl, r8, qq⟩
    replace ra := ra.below qq (Nat.le_refl _)
    replace rb := rb.below qq (Nat.le_refl _)
    replace rm := rm.below qq (Nat.le_refl _)
    replace q1 := btrans q1 qq
    clear qq
    rw [show ([] : List Nat).length = 0 from rfl]
    go_wp2_with fail
    go_ret
    first | exact ⟨rfl, q1⟩ | exact ⟨ret_bool (by simp), q1⟩
  have hm0 : vL m ≠ 0 := hm
  have le1 : (nb (vL a % vL m)).length ≤ 120 := by
    have ha := nb_len_vL da; rw [Hla.out] at ha; have hm := nb_len_vL dm; rw [Hlm.out] at hm; have h := nb_len_mod (vL a) (vL m); omega
  have lz0 : (nb (vL a % vL m)).length ≤ 120 := by
    exact le1
  have dz0 := dig_nb (vL a % vL m)
  have c1 : ∀ (x y : Option Addr) (cx cy : Nat) (w : World), Row .u8 w x la cx (nI a) → Row .u8 w y lm cy (nI m) → Calls Try.prog 14 #[.slice x la cx, .slice y lm cy] w (GivesE w (nb (vL a % vL m)) 0) := fun x y cx cy w h1 h2 => by
    have := mod_any a m x y la cx lm cy w da dm h1 h2 (by omega) (by omega) hm0
    have e : vL a % vL m = vL a % vL m := by first | rfl | exact (rfl)
    rwa [e] at this
  have le2 : (nb (vL b % vL m)).length ≤ 120 := by
    have hb := nb_len_vL db; rw [Hlb.out] at hb; have hm := nb_len_vL dm; rw [Hlm.out] at hm; have h := nb_len_mod (vL b) (vL m); omega
  have lz1 : (nb (vL b % vL m)).length ≤ 120 := by
    exact le2
  have dz1 := dig_nb (vL b % vL m)
  have c2 : ∀ (x y : Option Addr) (cx cy : Nat) (w : World), Row .u8 w x lb cx (nI b) → Row .u8 w y lm cy (nI m) → Calls Try.prog 14 #[.slice x lb cx, .slice y lm cy] w (GivesE w (nb (vL b % vL m)) 0) := fun x y cx cy w h1 h2 => by
    have := mod_any b m x y lb cx lm cy w db dm h1 h2 (by omega) (by omega) hm0
    have e : vL b % vL m = vL b % vL m := by first | rfl | exact (rfl)
    rwa [e] at this
  have le3 : (nb (vL a + vL b)).length ≤ 241 := by
    have ha := nb_len_vL da; rw [Hla.out] at ha; have hb := nb_len_vL db; rw [Hlb.out] at hb; have h := nb_len_add (vL a) (vL b); omega
  have lz2 : (nb (vL a + vL b)).length ≤ 241 := by
    exact le3
  have dz2 := dig_nb (vL a + vL b)
  have c3 : ∀ (x y : Option Addr) (cx cy : Nat) (w : World), Row .u8 w x la cx (nI a) → Row .u8 w y lb cy (nI b) → Calls Try.prog 11 #[.slice x la cx, .slice y lb cy] w (Gives w (nb (vL a + vL b))) := fun x y cx cy w h1 h2 => by
    have := add_any a b x y la cx lb cy w da db h1 h2 (by omega) (by omega)
    have e : vL a + vL b = vL a + vL b := by first | rfl | exact (rfl)
    rwa [e] at this
  have le4 : (nb ((vL a + vL b) % vL m)).length ≤ 241 := by
    have hm := nb_len_vL dm; rw [Hlm.out] at hm; have h := nb_len_mod (vL a + vL b) (vL m); omega
  have lz3 : (nb ((vL a + vL b) % vL m)).length ≤ 241 := by
    exact le4
  have dz3 := dig_nb ((vL a + vL b) % vL m)
  have c4 : ∀ (x y : Option Addr) (cx cy : Nat) (w : World), Row .u8 w x (nb (vL a + vL b)).length cx (nI (nb (vL a + vL b))) → Row .u8 w y lm cy (nI m) → Calls Try.prog 14 #[.slice x (nb (vL a + vL b)).length cx, .slice y lm cy] w (GivesE w (nb ((vL a + vL b) % vL m)) 0) := fun x y cx cy w h1 h2 => by
    have := mod_any (nb (vL a + vL b)) m x y ((nb (vL a + vL b)).length) cx lm cy w dz2 dm h1 h2 (by omega) (by omega) hm0
    have e : vL (nb (vL a + vL b)) % vL m = (vL a + vL b) % vL m := by rw [vL_nb]
    rwa [e] at this
  have le5 : (nb ((vL a % vL m) + (vL b % vL m))).length ≤ 241 := by
    have h := nb_len_add (vL a % vL m) (vL b % vL m); omega
  have lz4 : (nb ((vL a % vL m) + (vL b % vL m))).length ≤ 241 := by
    exact le5
  have dz4 := dig_nb ((vL a % vL m) + (vL b % vL m))
  have c5 : ∀ (x y : Option Addr) (cx cy : Nat) (w : World), Row .u8 w x (nb (vL a % vL m)).length cx (nI (nb (vL a % vL m))) → Row .u8 w y (nb (vL b % vL m)).length cy (nI (nb (vL b % vL m))) → Calls Try.prog 11 #[.slice x (nb (vL a % vL m)).length cx, .slice y (nb (vL b % vL m)).length cy] w (Gives w (nb ((vL a % vL m) + (vL b % vL m)))) := fun x y cx cy w h1 h2 => by
    have := add_any (nb (vL a % vL m)) (nb (vL b % vL m)) x y ((nb (vL a % vL m)).length) cx ((nb (vL b % vL m)).length) cy w dz0 dz1 h1 h2 (by omega) (by omega)
    have e : vL (nb (vL a % vL m)) + vL (nb (vL b % vL m)) = (vL a % vL m) + (vL b % vL m) := by rw [vL_nb, vL_nb]
    rwa [e] at this
  have c6 : ∀ (x y : Option Addr) (cx cy : Nat) (w : World), Row .u8 w x (nb ((vL a % vL m) + (vL b % vL m))).length cx (nI (nb ((vL a % vL m) + (vL b % vL m)))) → Row .u8 w y lm cy (nI m) → Calls Try.prog 14 #[.slice x (nb ((vL a % vL m) + (vL b % vL m))).length cx, .slice y lm cy] w (GivesE w (nb ((vL a + vL b) % vL m)) 0) := fun x y cx cy w h1 h2 => by
    have := mod_any (nb ((vL a % vL m) + (vL b % vL m))) m x y ((nb ((vL a % vL m) + (vL b % vL m))).length) cx lm cy w dz4 dm h1 h2 (by omega) (by omega) hm0
    have e : vL (nb ((vL a % vL m) + (vL b % vL m))) % vL m = (vL a + vL b) % vL m := by rw [vL_nb]; exact ((Nat.add_mod _ _ _).symm)
    rwa [e] at this
  have le7 : (nb (vL a * vL b)).length ≤ 240 := by
    have ha := nb_len_vL da; rw [Hla.out] at ha; have hb := nb_len_vL db; rw [Hlb.out] at hb; have h := nb_len_mul (vL a) (vL b); omega
  have lz5 : (nb (vL a * vL b)).length ≤ 240 := by
    exact le7
  have dz5 := dig_nb (vL a * vL b)
  have c7 : ∀ (x y : Option Addr) (cx cy : Nat) (w : World), Row .u8 w x la cx (nI a) → Row .u8 w y lb cy (nI b) → Calls Try.prog 13 #[.slice x la cx, .slice y lb cy] w (Gives w (nb (vL a * vL b))) := fun x y cx cy w h1 h2 => by
    have := mul_any a b x y la cx lb cy w da db h1 h2 (by omega) (by omega)
    have e : vL a * vL b = vL a * vL b := by first | rfl | exact (rfl)
    rwa [e] at this
  have le8 : (nb ((vL a * vL b) % vL m)).length ≤ 240 := by
    have hm := nb_len_vL dm; rw [Hlm.out] at hm; have h := nb_len_mod (vL a * vL b) (vL m); omega
  have lz6 : (nb ((vL a * vL b) % vL m)).length ≤ 240 := by
    exact le8
  have dz6 := dig_nb ((vL a * vL b) % vL m)
  have c8 : ∀ (x y : Option Addr) (cx cy : Nat) (w : World), Row .u8 w x (nb (vL a * vL b)).length cx (nI (nb (vL a * vL b))) → Row .u8 w y lm cy (nI m) → Calls Try.prog 14 #[.slice x (nb (vL a * vL b)).length cx, .slice y lm cy] w (GivesE w (nb ((vL a * vL b) % vL m)) 0) := fun x y cx cy w h1 h2 => by
    have := mod_any (nb (vL a * vL b)) m x y ((nb (vL a * vL b)).length) cx lm cy w dz5 dm h1 h2 (by omega) (by omega) hm0
    have e : vL (nb (vL a * vL b)) % vL m = (vL a * vL b) % vL m := by rw [vL_nb]
    rwa [e] at this
  have le9 : (nb ((vL a % vL m) * (vL b % vL m))).length ≤ 240 := by
    have h := nb_len_mul (vL a % vL m) (vL b % vL m); omega
  have lz7 : (nb ((vL a % vL m) * (vL b % vL m))).length ≤ 240 := by
    exact le9
  have dz7 := dig_nb ((vL a % vL m) * (vL b % vL m))
  have c9 : ∀ (x y : Option Addr) (cx cy : Nat) (w : World), Row .u8 w x (nb (vL a % vL m)).length cx (nI (nb (vL a % vL m))) → Row .u8 w y (nb (vL b % vL m)).length cy (nI (nb (vL b % vL m))) → Calls Try.prog 13 #[.slice x (nb (vL a % vL m)).length cx, .slice y (nb (vL b % vL m)).length cy] w (Gives w (nb ((vL a % vL m) * (vL b % vL m)))) := fun x y cx cy w h1 h2 => by
    have := mul_any (nb (vL a % vL m)) (nb (vL b % vL m)) x y ((nb (vL a % vL m)).length) cx ((nb (vL b % vL m)).length) cy w dz0 dz1 h1 h2 (by omega) (by omega)
    have e : vL (nb (vL a % vL m)) * vL (nb (vL b % vL m)) = (vL a % vL m) * (vL b % vL m) := by rw [vL_nb, vL_nb]
    rwa [e] at this
  have c10 : ∀ (x y : Option Addr) (cx cy : Nat) (w : World), Row .u8 w x (nb ((vL a % vL m) * (vL b % vL m))).length cx (nI (nb ((vL a % vL m) * (vL b % vL m)))) → Row .u8 w y lm cy (nI m) → Calls Try.prog 14 #[.slice x (nb ((vL a % vL m) * (vL b % vL m))).length cx, .slice y lm cy] w (GivesE w (nb ((vL a * vL b) % vL m)) 0) := fun x y cx cy w h1 h2 => by
    have := mod_any (nb ((vL a % vL m) * (vL b % vL m))) m x y ((nb ((vL a % vL m) * (vL b % vL m))).length) cx lm cy w dz7 dm h1 h2 (by omega) (by omega) hm0
    have e : vL (nb ((vL a % vL m) * (vL b % vL m))) % vL m = (vL a * vL b) % vL m := by rw [vL_nb]; exact ((Nat.mul_mod _ _ _).symm)
    rwa [e] at this
  have le11 : (nb (vL a * vL m)).length ≤ 240 := by
    have ha := nb_len_vL da; rw [Hla.out] at ha; have hm := nb_len_vL dm; rw [Hlm.out] at hm; have h := nb_len_mul (vL a) (vL m); omega
  have lz8 : (nb (vL a * vL m)).length ≤ 240 := by
    exact le11
  have dz8 := dig_nb (vL a * vL m)
  have c11 : ∀ (x y : Option Addr) (cx cy : Nat) (w : World), Row .u8 w x la cx (nI a) → Row .u8 w y lm cy (nI m) → Calls Try.prog 13 #[.slice x la cx, .slice y lm cy] w (Gives w (nb (vL a * vL m))) := fun x y cx cy w h1 h2 => by
    have := mul_any a m x y la cx lm cy w da dm h1 h2 (by omega) (by omega)
    have e : vL a * vL m = vL a * vL m := by first | rfl | exact (rfl)
    rwa [e] at this
  have le12 : (nb ((vL a * vL m) % vL m)).length ≤ 240 := by
    have hm := nb_len_vL dm; rw [Hlm.out] at hm; have h := nb_len_mod (vL a * vL m) (vL m); omega
  rw [show (vL a * vL m) % vL m = 0 from Nat.mul_mod_left _ _] at le12
  have lz9 : (nb (0)).length ≤ 240 := by
    exact le12
  have dz9 := dig_nb (0)
  have c12 : ∀ (x y : Option Addr) (cx cy : Nat) (w : World), Row .u8 w x (nb (vL a * vL m)).length cx (nI (nb (vL a * vL m))) → Row .u8 w y lm cy (nI m) → Calls Try.prog 14 #[.slice x (nb (vL a * vL m)).length cx, .slice y lm cy] w (GivesE w (nb (0)) 0) := fun x y cx cy w h1 h2 => by
    have := mod_any (nb (vL a * vL m)) m x y ((nb (vL a * vL m)).length) cx lm cy w dz8 dm h1 h2 (by omega) (by omega) hm0
    have e : vL (nb (vL a * vL m)) % vL m = 0 := by rw [vL_nb]; exact (Nat.mul_mod_left _ _)
    rwa [e] at this
  have c13 : ∀ (x y : Option Addr) (cx cy : Nat) (w : World), Row .u8 w x (nb (vL a % vL m)).length cx (nI (nb (vL a % vL m))) → Row .u8 w y lm cy (nI m) → Calls Try.prog 15 #[.slice x (nb (vL a % vL m)).length cx, .slice y lm cy] w (fun e w' => e = .returned (.int .i64 (cmpN (vL a % vL m) (vL m))) ∧ Below w.heap.size w w') := fun x y cx cy w h1 h2 => by
    have := cmp_any (nb (vL a % vL m)) m x y ((nb (vL a % vL m)).length) cx lm cy w dz0 dm h1 h2 (by omega) (by omega)
    have e : cmpN (vL (nb (vL a % vL m))) (vL m) = cmpN (vL a % vL m) (vL m) := by rw [vL_nb]
    rwa [e] at this
  have hcc : cmpN (vL a % vL m) (vL m) = -1 := by
    unfold cmpN; rw [if_pos (Nat.mod_lt _ (Nat.pos_of_ne_zero hm0))]
  rw [hcc] at c13
  rw [nb_zero] at c12
  clear hcc lz9 dz9
  generalize nb ((vL a % vL m) + (vL b % vL m)) = z4 at *
  generalize nb ((vL a % vL m) * (vL b % vL m)) = z7 at *
  generalize nb ((vL a + vL b) % vL m) = z3 at *
  generalize nb ((vL a * vL b) % vL m) = z6 at *
  generalize nb (vL a % vL m) = z0 at *
  generalize nb (vL b % vL m) = z1 at *
  generalize nb (vL a + vL b) = z2 at *
  generalize nb (vL a * vL b) = z5 at *
  generalize nb (vL a * vL m) = z8 at *
  go_enter Try.func5, Try.ntmps5
  go_wp2_with fail
  refine (small15_any _ _ _ _ _ _ _ hmaxa hmaxb).mono ?_
  rintro e w' ⟨rfl, rfl⟩
  rw [hsm]
  go_wp2_with fail
  refine (c1 _ _ _ _ _ ra rm).mono ?_
  rintro e w1 ⟨a1, cp1, rfl, rx, q1⟩
  replace ra := ra.below q1 (Nat.le_refl _)
  replace rb := rb.below q1 (Nat.le_refl _)
  replace rm := rm.below q1 (Nat.le_refl _)
  go_wp2_with fail
  refine (c2 _ _ _ _ _ rb rm).mono ?_
  rintro e w2 ⟨a2, cp2, rfl, ry, qq⟩
  replace ra := ra.below qq (Nat.le_refl _)
  replace rb := rb.below qq (Nat.le_refl _)
  replace rm := rm.below qq (Nat.le_refl _)
  replace rx := rx.below qq (Nat.le_refl _)
  replace q1 := btrans q1 qq
  clear qq
  go_wp2_with fail
  refine (c3 _ _ _ _ _ ra rb).mono ?_
  rintro e w3 ⟨a3, cp3, rfl, ru, qq⟩
  replace ra := ra.below qq (Nat.le_refl _)
  replace rb := rb.below qq (Nat.le_refl _)
  replace rm := rm.below qq (Nat.le_refl _)
  replace rx := rx.below qq (Nat.le_refl _)
  replace ry := ry.below qq (Nat.le_refl _)
  replace q1 := btrans q1 qq
  clear qq
  go_wp2_with fail
  refine (c4 _ _ _ _ _ ru rm).mono ?_
  rintro e w4 ⟨a4, cp4, rfl, rs, qq⟩
  replace ra := ra.below qq (Nat.le_refl _)
  replace rb := rb.below qq (Nat.le_refl _)
  replace rm := rm.below qq (Nat.le_refl _)
  replace rx := rx.below qq (Nat.le_refl _)
  replace ry := ry.below qq (Nat.le_refl _)
  replace ru := ru.below qq (Nat.le_refl _)
  replace q1 := btrans q1 qq
  clear qq
  clear ru
  go_wp2_with fail
  refine (c5 _ _ _ _ _ rx ry).mono ?_
  rintro e w5 ⟨a5, cp5, rfl, rv, qq⟩
  replace ra := ra.below qq (Nat.le_refl _)
  replace rb := rb.below qq (Nat.le_refl _)
  replace rm := rm.below qq (Nat.le_refl _)
  replace rx := rx.below qq (Nat.le_refl _)
  replace ry := ry.below qq (Nat.le_refl _)
  replace rs := rs.below qq (Nat.le_refl _)
  replace q1 := btrans q1 qq
  clear qq
  go_wp2_with fail
  refine (c6 _ _ _ _ _ rv rm).mono ?_
  rintro e w6 ⟨a6, cp6, rfl, rt, qq⟩
  replace ra := ra.below qq (Nat.le_refl _)
  replace rb := rb.below qq (Nat.le_refl _)
  replace rm := rm.below qq (Nat.le_refl _)
  replace rx := rx.below qq (Nat.le_refl _)
  replace ry := ry.below qq (Nat.le_refl _)
  replace rs := rs.below qq (Nat.le_refl _)
  replace rv := rv.below qq (Nat.le_refl _)
  replace q1 := btrans q1 qq
  clear qq
  clear rv
  go_wp2_with fail
  refine (c7 _ _ _ _ _ ra rb).mono ?_
  rintro e w7 ⟨a7, cp7, rfl, ro, qq⟩
  replace ra := ra.below qq (Nat.le_refl _)
  replace rb := rb.below qq (Nat.le_refl _)
  replace rm := rm.below qq (Nat.le_refl _)
  replace rx := rx.below qq (Nat.le_refl _)
  replace ry := ry.below qq (Nat.le_refl _)
  replace rs := rs.below qq (Nat.le_refl _)
  replace rt := rt.below qq (Nat.le_refl _)
  replace q1 := btrans q1 qq
  clear qq
  go_wp2_with fail
  refine (c8 _ _ _ _ _ ro rm).mono ?_
  rintro e w8 ⟨a8, cp8, rfl, rp, qq⟩
  replace ra := ra.below qq (Nat.le_refl _)
  replace rb := rb.below qq (Nat.le_refl _)
  replace rm := rm.below qq (Nat.le_refl _)
  replace rx := rx.below qq (Nat.le_refl _)
  replace ry := ry.below qq (Nat.le_refl _)
  replace rs := rs.below qq (Nat.le_refl _)
  replace rt := rt.below qq (Nat.le_refl _)
  replace ro := ro.below qq (Nat.le_refl _)
  replace q1 := btrans q1 qq
  clear qq
  clear ro
  go_wp2_with fail
  refine (c9 _ _ _ _ _ rx ry).mono ?_
  rintro e w9 ⟨a9, cp9, rfl, rn, qq⟩
  replace ra := ra.below qq (Nat.le_refl _)
  replace rb := rb.below qq (Nat.le_refl _)
  replace rm := rm.below qq (Nat.le_refl _)
  replace rx := rx.below qq (Nat.le_refl _)
  replace ry := ry.below qq (Nat.le_refl _)
  replace rs := rs.below qq (Nat.le_refl _)
  replace rt := rt.below qq (Nat.le_refl _)
  replace rp := rp.below qq (Nat.le_refl _)
  replace q1 := btrans q1 qq
  clear qq
  go_wp2_with fail
  refine (c10 _ _ _ _ _ rn rm).mono ?_
  rintro e w10 ⟨a10, cp10, rfl, rq, qq⟩
  replace ra := ra.below qq (Nat.le_refl _)
  replace rb := rb.below qq (Nat.le_refl _)
  replace rm := rm.below qq (Nat.le_refl _)
  replace rx := rx.below qq (Nat.le_refl _)
  replace ry := ry.below qq (Nat.le_refl _)
  replace rs := rs.below qq (Nat.le_refl _)
  replace rt := rt.below qq (Nat.le_refl _)
  replace rp := rp.below qq (Nat.le_refl _)
  replace rn := rn.below qq (Nat.le_refl _)
  replace q1 := btrans q1 qq
  clear qq
  clear rn
  go_wp2_with fail
  refine (c11 _ _ _ _ _ ra rm).mono ?_
  rintro e w11 ⟨a11, cp11, rfl, ri, qq⟩
  replace ra := ra.below qq (Nat.le_refl _)
  replace rb := rb.below qq (Nat.le_refl _)
  replace rm := rm.below qq (Nat.le_refl _)
  replace rx := rx.below qq (Nat.le_refl _)
  replace ry := ry.below qq (Nat.le_refl _)
  replace rs := rs.below qq (Nat.le_refl _)
  replace rt := rt.below qq (Nat.le_refl _)
  replace rp := rp.below qq (Nat.le_refl _)
  replace rq := rq.below qq (Nat.le_refl _)
  replace q1 := btrans q1 qq
  clear qq
  go_wp2_with fail
  refine (c12 _ _ _ _ _ ri rm).mono ?_
  rintro e w12 ⟨a9, cp9, rfl, r9, qq⟩
  replace ra := ra.below qq (Nat.le_refl _)
  replace rb := rb.below qq (Nat.le_refl _)
  replace rm := rm.below qq (Nat.le_refl _)
  replace rx := rx.below qq (Nat.le_refl _)
  replace ry := ry.below qq (Nat.le_refl _)
  replace rs := rs.below qq (Nat.le_refl _)
  replace rt := rt.below qq (Nat.le_refl _)
  replace rp := rp.below qq (Nat.le_refl _)
  replace rq := rq.below qq (Nat.le_refl _)
  replace ri := ri.below qq (Nat.le_refl _)
  replace q1 := btrans q1 qq
  clear qq
  rw [show ([] : List Nat).length = 0 from rfl]
  clear r9
  clear ri
  go_wp2_with fail
  refine (awake15_any _).mono ?_
  rintro e w13 ⟨rfl, qq⟩
  replace ra := ra.below qq (Nat.le_refl _)
  replace rb := rb.below qq (Nat.le_refl _)
  replace rm := rm.below qq (Nat.le_refl _)
  replace rx := rx.below qq (Nat.le_refl _)
  replace ry := ry.below qq (Nat.le_refl _)
  replace rs := rs.below qq (Nat.le_refl _)
  replace rt := rt.below qq (Nat.le_refl _)
  replace rp := rp.below qq (Nat.le_refl _)
  replace rq := rq.below qq (Nat.le_refl _)
  replace q1 := btrans q1 qq
  clear qq
  go_wp2_with fail
  refine (c13 _ _ _ _ _ rx rm).mono ?_
  rintro e w14 ⟨rfl, qq⟩
  replace ra := ra.below qq (Nat.le_refl _)
  replace rb := rb.below qq (Nat.le_refl _)
  replace rm := rm.below qq (Nat.le_refl _)
  replace rx := rx.below qq (Nat.le_refl _)
  replace ry := ry.below qq (Nat.le_refl _)
  replace rs := rs.below qq (Nat.le_refl _)
  replace rt := rt.below qq (Nat.le_refl _)
  replace rp := rp.below qq (Nat.le_refl _)
  replace rq := rq.below qq (Nat.le_refl _)
  replace q1 := btrans q1 qq
  clear qq
  have hvrs := conv_row Try.underlying22 Try.underlying5 Try.underlying9 rs
  have hvrt := conv_row Try.underlying22 Try.underlying5 Try.underlying9 rt
  have hvrp := conv_row Try.underlying22 Try.underlying5 Try.underlying9 rp
  have hvrq := conv_row Try.underlying22 Try.underlying5 Try.underlying9 rq
  go_wp2_with fail
  go_ret
  first | exact ⟨rfl, q1⟩ | exact ⟨ret_bool (by simp), q1⟩
end Go.Proofs.Ytcibpnikaemhlaa.N
