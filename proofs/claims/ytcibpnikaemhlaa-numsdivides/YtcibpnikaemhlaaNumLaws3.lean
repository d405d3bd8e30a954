/-
  Layer 15's laws: the walk of NumsDivides. (Written by tools/gen/num_laws.py.)
-/
import Derived.Test.YtcibpnikaemhlaaNumFace
namespace Go.Proofs.Ytcibpnikaemhlaa.N
open Go.RowKit
set_option linter.unusedVariables false
set_option maxRecDepth 8192

theorem sub_rest (a m : Nat) : (a - a % m) % m = 0 := by
  have h := Nat.div_add_mod a m
  rw [show a - a % m = m * (a / m) from by omega]
  exact Nat.mul_mod_right _ _
set_option maxHeartbeats 3200000 in
theorem walk_NumsDivides (a m : List Nat) (pa pm : Option Addr) (la ka lm km : Nat) (w : World) (ra : Row .u8 w pa la ka (nI a)) (da : Dig a) (rm : Row .u8 w pm lm km (nI m)) (dm : Dig m) :
    Calls Try.prog 7 #[.slice pa la ka, .slice pm lm km] w fun e w' => e = .returned (.bool true) ∧ Below w.heap.size w w' := by
  have hmaxa : la ≤ maxLen := Nat.le_trans ra.hcap ra.hmax
  have Hla : Hid (a.length = la) := by have := ra.hlen; rwa [nI_length] at this
  have hmaxm : lm ≤ maxLen := Nat.le_trans rm.hcap rm.hmax
  have Hlm : Hid (m.length = lm) := by have := rm.hlen; rwa [nI_length] at this
  by_cases hs : la ≤ 120 ∧ lm ≤ 120
  case neg =>
    have hsm := small15_no hs
    go_enter Try.func7, Try.ntmps7
    go_wp2_with fail
    refine (small15_any _ _ _ _ _ _ _ hmaxa hmaxm).mono ?_
    rintro e w' ⟨rfl, rfl⟩
    rw [hsm]
    go_wp2_with fail
    go_ret
    exact ⟨rfl, Below.refl _ _⟩
  have hsm := small15_yes hs.1 hs.2
  obtain ⟨hs1, hs2⟩ := hs
  by_cases hm : vL m = 0
  case pos =>
    have cz := fun w => mod_zero a m pa pm la ka lm km w da dm
    go_enter Try.func7, Try.ntmps7
    go_wp2_with fail
    refine (small15_any _ _ _ _ _ _ _ hmaxa hmaxm).mono ?_
    rintro e w' ⟨rfl, rfl⟩
    rw [hsm]
    go_wp2_with fail
    refine (cz _ ra rm (by omega) (by omega) hm).mono ?_
    rintro e w1 ⟨a9, cp9, rfl, r9, q1⟩
    replace ra := ra.below q1 (Nat.le_refl _)
    replace rm := rm.below q1 (Nat.le_refl _)
    rw [show ([] : List Nat).length = 0 from rfl]
    go_wp2_with fail
    refine (awake15_any _).mono ?_
    rintro e w2 ⟨rfl, qq⟩
    replace ra := ra.below qq (Nat.le_refl _)
    replace rm := rm.below qq (Nat.le_refl _)
    replace q1 := btrans q1 qq
    clear qq
    go_wp2_with fail
    go_ret
    first | exact ⟨rfl, q1⟩ | exact ⟨ret_bool (by simp), q1⟩
  have hm0 : vL m ≠ 0 := hm
  have le1 : (nb (vL a % vL m)).length ≤ 120 := by
    have ha := nb_len_vL da; rw [Hla.out] at ha; have hm := nb_len_vL dm; rw [Hlm.out] at hm; have h := nb_len_mod (vL a) (vL m); omega
  have lz0 : (nb (vL a % vL m)).length ≤ 120 := by
    exact le1
  have dz0 := dig_nb (vL a % vL m)
  have c1 : ∀ (x y : Option Addr) (cx cy : Nat) (w : World), Row .u8 w x la cx (nI a) → Row .u8 w y lm cy (nI m) → Calls Try.prog 14 #[.slice x la cx, .slice y lm cy] w (GivesE w (nb (vL a % vL m)) 0) := fun x y cx cy w h1 h2 => by
    have := mod_any a m x y la cx lm cy w da dm h1 h2 (by omega) (by omega) hm0
    have e : vL a % vL m = vL a % vL m := by first | rfl | exact (rfl)
    rwa [e] at this
  have le2 : (nb (vL a - (vL a % vL m))).length ≤ 120 := by
    have ha := nb_len_vL da; rw [Hla.out] at ha; have h := nb_len_sub (vL a) (vL a % vL m); omega
  have lz1 : (nb (vL a - (vL a % vL m))).length ≤ 120 := by
    exact le2
  have dz1 := dig_nb (vL a - (vL a % vL m))
  have c2 : ∀ (x y : Option Addr) (cx cy : Nat) (w : World), Row .u8 w x la cx (nI a) → Row .u8 w y (nb (vL a % vL m)).length cy (nI (nb (vL a % vL m))) → Calls Try.prog 12 #[.slice x la cx, .slice y (nb (vL a % vL m)).length cy] w (Gives w (nb (vL a - (vL a % vL m)))) := fun x y cx cy w h1 h2 => by
    have := sub_any a (nb (vL a % vL m)) x y la cx ((nb (vL a % vL m)).length) cy w da dz0 h1 h2 (by omega) (by omega)
    have e : vL a - vL (nb (vL a % vL m)) = vL a - (vL a % vL m) := by rw [vL_nb]
    rwa [e] at this
  have le3 : (nb ((vL a - (vL a % vL m)) % vL m)).length ≤ 120 := by
    have hm := nb_len_vL dm; rw [Hlm.out] at hm; have h := nb_len_mod (vL a - (vL a % vL m)) (vL m); omega
  rw [show (vL a - (vL a % vL m)) % vL m = 0 from sub_rest _ _] at le3
  have lz2 : (nb (0)).length ≤ 120 := by
    exact le3
  have dz2 := dig_nb (0)
  have c3 : ∀ (x y : Option Addr) (cx cy : Nat) (w : World), Row .u8 w x (nb (vL a - (vL a % vL m))).length cx (nI (nb (vL a - (vL a % vL m)))) → Row .u8 w y lm cy (nI m) → Calls Try.prog 14 #[.slice x (nb (vL a - (vL a % vL m))).length cx, .slice y lm cy] w (GivesE w (nb (0)) 0) := fun x y cx cy w h1 h2 => by
    have := mod_any (nb (vL a - (vL a % vL m))) m x y ((nb (vL a - (vL a % vL m))).length) cx lm cy w dz1 dm h1 h2 (by omega) (by omega) hm0
    have e : vL (nb (vL a - (vL a % vL m))) % vL m = 0 := by rw [vL_nb]; exact (sub_rest _ _)
    rwa [e] at this
  have c4 : ∀ (x y : Option Addr) (cx cy : Nat) (w : World), Row .u8 w x (nb (vL a % vL m)).length cx (nI (nb (vL a % vL m))) → Row .u8 w y lm cy (nI m) → Calls Try.prog 14 #[.slice x (nb (vL a % vL m)).length cx, .slice y lm cy] w (GivesE w (nb (vL a % vL m)) 0) := fun x y cx cy w h1 h2 => by
    have := mod_any (nb (vL a % vL m)) m x y ((nb (vL a % vL m)).length) cx lm cy w dz0 dm h1 h2 (by omega) (by omega) hm0
    have e : vL (nb (vL a % vL m)) % vL m = vL a % vL m := by rw [vL_nb]; exact (Nat.mod_mod _ _)
    rwa [e] at this
  have c5 : ∀ (x y : Option Addr) (cx cy : Nat) (w : World), Row .u8 w x (nb (vL a % vL m)).length cx (nI (nb (vL a % vL m))) → Row .u8 w y la cy (nI a) → Calls Try.prog 15 #[.slice x (nb (vL a % vL m)).length cx, .slice y la cy] w (fun e w' => e = .returned (.int .i64 (cmpN (vL a % vL m) (vL a))) ∧ Below w.heap.size w w') := fun x y cx cy w h1 h2 => by
    have := cmp_any (nb (vL a % vL m)) a x y ((nb (vL a % vL m)).length) cx la cy w dz0 da h1 h2 (by omega) (by omega)
    have e : cmpN (vL (nb (vL a % vL m))) (vL a) = cmpN (vL a % vL m) (vL a) := by rw [vL_nb]
    rwa [e] at this
  have hcc : cmpN (vL a % vL m) (vL a) ≤ 0 := cmp_le.2 (Nat.mod_le _ _)
  have hcl := cmp_bounds (vL a % vL m) (vL a)
  generalize cmpN (vL a % vL m) (vL a) = cc at *
  rw [nb_zero] at c3
  clear lz2 dz2
  generalize nb (vL a - (vL a % vL m)) = z1 at *
  generalize nb (vL a % vL m) = z0 at *
  go_enter Try.func7, Try.ntmps7
  go_wp2_with fail
  refine (small15_any _ _ _ _ _ _ _ hmaxa hmaxm).mono ?_
  rintro e w' ⟨rfl, rfl⟩
  rw [hsm]
  go_wp2_with fail
  refine (c1 _ _ _ _ _ ra rm).mono ?_
  rintro e w1 ⟨a1, cp1, rfl, rx, q1⟩
  replace ra := ra.below q1 (Nat.le_refl _)
  replace rm := rm.below q1 (Nat.le_refl _)
  go_wp2_with fail
  refine (c2 _ _ _ _ _ ra rx).mono ?_
  rintro e w2 ⟨a2, cp2, rfl, ru, qq⟩
  replace ra := ra.below qq (Nat.le_refl _)
  replace rm := rm.below qq (Nat.le_refl _)
  replace rx := rx.below qq (Nat.le_refl _)
  replace q1 := btrans q1 qq
  clear qq
  go_wp2_with fail
  refine (c3 _ _ _ _ _ ru rm).mono ?_
  rintro e w3 ⟨a9, cp9, rfl, r9, qq⟩
  replace ra := ra.below qq (Nat.le_refl _)
  replace rm := rm.below qq (Nat.le_refl _)
  replace rx := rx.below qq (Nat.le_refl _)
  replace ru := ru.below qq (Nat.le_refl _)
  replace q1 := btrans q1 qq
  clear qq
  rw [show ([] : List Nat).length = 0 from rfl]
  clear r9
  clear ru
  go_wp2_with fail
  refine (c4 _ _ _ _ _ rx rm).mono ?_
  rintro e w4 ⟨a4, cp4, rfl, rz, qq⟩
  replace ra := ra.below qq (Nat.le_refl _)
  replace rm := rm.below qq (Nat.le_refl _)
  replace rx := rx.below qq (Nat.le_refl _)
  replace q1 := btrans q1 qq
  clear qq
  go_wp2_with fail
  refine (awake15_any _).mono ?_
  rintro e w5 ⟨rfl, qq⟩
  replace ra := ra.below qq (Nat.le_refl _)
  replace rm := rm.below qq (Nat.le_refl _)
  replace rx := rx.below qq (Nat.le_refl _)
  replace rz := rz.below qq (Nat.le_refl _)
  replace q1 := btrans q1 qq
  clear qq
  have hvrz := conv_row Try.underlying22 Try.underlying5 Try.underlying9 rz
  have hvrx := conv_row Try.underlying22 Try.underlying5 Try.underlying9 rx
  go_wp2_with fail
  refine (c5 _ _ _ _ _ rx ra).mono ?_
  rintro e w6 ⟨rfl, qq⟩
  replace ra := ra.below qq (Nat.le_refl _)
  replace rm := rm.below qq (Nat.le_refl _)
  replace rx := rx.below qq (Nat.le_refl _)
  replace rz := rz.below qq (Nat.le_refl _)
  replace q1 := btrans q1 qq
  clear qq
  clear hvrz hvrx
  go_wp2_with fail
  go_ret
  first | exact ⟨rfl, q1⟩ | exact ⟨ret_bool (by simp), q1⟩
end Go.Proofs.Ytcibpnikaemhlaa.N
