/-
  Layer 15's laws: the walk of NumsLaws. (Written by tools/gen/num_laws.py.)
-/
import Derived.Test.YtcibpnikaemhlaaNumFace
namespace Go.Proofs.Ytcibpnikaemhlaa.N
open Go.RowKit
set_option linter.unusedVariables false
set_option maxRecDepth 8192

set_option maxHeartbeats 3200000 in
theorem walk_NumsLaws (a b c : List Nat) (pa pb pc : Option Addr) (la ka lb kb lc kc : Nat) (w : World) (ra : Row .u8 w pa la ka (nI a)) (da : Dig a) (rb : Row .u8 w pb lb kb (nI b)) (db : Dig b) (rc : Row .u8 w pc lc kc (nI c)) (dc : Dig c) :
    Calls Try.prog 4 #[.slice pa la ka, .slice pb lb kb, .slice pc lc kc] w fun e w' => e = .returned (.bool true) ∧ Below w.heap.size w w' := by
  have hmaxa : la ≤ maxLen := Nat.le_trans ra.hcap ra.hmax
  have Hla : Hid (a.length = la) := by have := ra.hlen; rwa [nI_length] at this
  have hmaxb : lb ≤ maxLen := Nat.le_trans rb.hcap rb.hmax
  have Hlb : Hid (b.length = lb) := by have := rb.hlen; rwa [nI_length] at this
  have hmaxc : lc ≤ maxLen := Nat.le_trans rc.hcap rc.hmax
  have Hlc : Hid (c.length = lc) := by have := rc.hlen; rwa [nI_length] at this
  by_cases hs : la ≤ 120 ∧ lb ≤ 120
  case neg =>
    have hsm := small15_no hs
    go_enter Try.func4, Try.ntmps4
    go_wp2_with fail
    refine (small15_any _ _ _ _ _ _ _ hmaxa hmaxb).mono ?_
    rintro e w' ⟨rfl, rfl⟩
    rw [hsm]
    go_wp2_with fail
    go_ret
    exact ⟨rfl, Below.refl _ _⟩
  have hsm := small15_yes hs.1 hs.2
  obtain ⟨hs1, hs2⟩ := hs
  by_cases hs3 : lc ≤ 120
  case neg =>
    have hs3' : (120 : Int) < (lc : Int) := by omega
    have hs4 : lc ≤ 9223372036854775807 := by unfold maxLen at hmaxc; omega
    go_enter Try.func4, Try.ntmps4
    go_wp2_with fail
    refine (small15_any _ _ _ _ _ _ _ hmaxa hmaxb).mono ?_
    rintro e w' ⟨rfl, rfl⟩
    rw [hsm]
    go_wp2_with fail
    go_ret
    exact ⟨rfl, Below.refl _ _⟩
  have hs3' : (lc : Int) ≤ 120 := by omega
  have le1 : (nb (vL a + vL b)).length ≤ 241 := by
    have ha := nb_len_vL da; rw [Hla.out] at ha; have hb := nb_len_vL db; rw [Hlb.out] at hb; have h := nb_len_add (vL a) (vL b); omega
  have lz0 : (nb (vL a + vL b)).length ≤ 241 := by
    exact le1
  have dz0 := dig_nb (vL a + vL b)
  have c1 : ∀ (x y : Option Addr) (cx cy : Nat) (w : World), Row .u8 w x la cx (nI a) → Row .u8 w y lb cy (nI b) → Calls Try.prog 11 #[.slice x la cx, .slice y lb cy] w (Gives w (nb (vL a + vL b))) := fun x y cx cy w h1 h2 => by
    have := add_any a b x y la cx lb cy w da db h1 h2 (by omega) (by omega)
    have e : vL a + vL b = vL a + vL b := by first | rfl | exact (rfl)
    rwa [e] at this
  have le2 : (nb (vL a * vL b)).length ≤ 240 := by
    have ha := nb_len_vL da; rw [Hla.out] at ha; have hb := nb_len_vL db; rw [Hlb.out] at hb; have h := nb_len_mul (vL a) (vL b); omega
  have lz1 : (nb (vL a * vL b)).length ≤ 240 := by
    exact le2
  have dz1 := dig_nb (vL a * vL b)
  have c2 : ∀ (x y : Option Addr) (cx cy : Nat) (w : World), Row .u8 w x la cx (nI a) → Row .u8 w y lb cy (nI b) → Calls Try.prog 13 #[.slice x la cx, .slice y lb cy] w (Gives w (nb (vL a * vL b))) := fun x y cx cy w h1 h2 => by
    have := mul_any a b x y la cx lb cy w da db h1 h2 (by omega) (by omega)
    have e : vL a * vL b = vL a * vL b := by first | rfl | exact (rfl)
    rwa [e] at this
  have c3 : ∀ (x y : Option Addr) (cx cy : Nat) (w : World), Row .u8 w x lb cx (nI b) → Row .u8 w y la cy (nI a) → Calls Try.prog 11 #[.slice x lb cx, .slice y la cy] w (Gives w (nb (vL a + vL b))) := fun x y cx cy w h1 h2 => by
    have := add_any b a x y lb cx la cy w db da h1 h2 (by omega) (by omega)
    have e : vL b + vL a = vL a + vL b := by first | rfl | exact (Nat.add_comm _ _)
    rwa [e] at this
  have c4 : ∀ (x y : Option Addr) (cx cy : Nat) (w : World), Row .u8 w x lb cx (nI b) → Row .u8 w y la cy (nI a) → Calls Try.prog 13 #[.slice x lb cx, .slice y la cy] w (Gives w (nb (vL a * vL b))) := fun x y cx cy w h1 h2 => by
    have := mul_any b a x y lb cx la cy w db da h1 h2 (by omega) (by omega)
    have e : vL b * vL a = vL a * vL b := by first | rfl | exact (Nat.mul_comm _ _)
    rwa [e] at this
  have le5 : (nb ((vL a + vL b) + vL c)).length ≤ 362 := by
    have hc := nb_len_vL dc; rw [Hlc.out] at hc; have h := nb_len_add (vL a + vL b) (vL c); omega
  have lz2 : (nb ((vL a + vL b) + vL c)).length ≤ 362 := by
    exact le5
  have dz2 := dig_nb ((vL a + vL b) + vL c)
  have c5 : ∀ (x y : Option Addr) (cx cy : Nat) (w : World), Row .u8 w x (nb (vL a + vL b)).length cx (nI (nb (vL a + vL b))) → Row .u8 w y lc cy (nI c) → Calls Try.prog 11 #[.slice x (nb (vL a + vL b)).length cx, .slice y lc cy] w (Gives w (nb ((vL a + vL b) + vL c))) := fun x y cx cy w h1 h2 => by
    have := add_any (nb (vL a + vL b)) c x y ((nb (vL a + vL b)).length) cx lc cy w dz0 dc h1 h2 (by omega) (by omega)
    have e : vL (nb (vL a + vL b)) + vL c = (vL a + vL b) + vL c := by rw [vL_nb]
    rwa [e] at this
  have le6 : (nb (vL b + vL c)).length ≤ 241 := by
    have hb := nb_len_vL db; rw [Hlb.out] at hb; have hc := nb_len_vL dc; rw [Hlc.out] at hc; have h := nb_len_add (vL b) (vL c); omega
  have lz3 : (nb (vL b + vL c)).length ≤ 241 := by
    exact le6
  have dz3 := dig_nb (vL b + vL c)
  have c6 : ∀ (x y : Option Addr) (cx cy : Nat) (w : World), Row .u8 w x lb cx (nI b) → Row .u8 w y lc cy (nI c) → Calls Try.prog 11 #[.slice x lb cx, .slice y lc cy] w (Gives w (nb (vL b + vL c))) := fun x y cx cy w h1 h2 => by
    have := add_any b c x y lb cx lc cy w db dc h1 h2 (by omega) (by omega)
    have e : vL b + vL c = vL b + vL c := by first | rfl | exact (rfl)
    rwa [e] at this
  have c7 : ∀ (x y : Option Addr) (cx cy : Nat) (w : World), Row .u8 w x la cx (nI a) → Row .u8 w y (nb (vL b + vL c)).length cy (nI (nb (vL b + vL c))) → Calls Try.prog 11 #[.slice x la cx, .slice y (nb (vL b + vL c)).length cy] w (Gives w (nb ((vL a + vL b) + vL c))) := fun x y cx cy w h1 h2 => by
    have := add_any a (nb (vL b + vL c)) x y la cx ((nb (vL b + vL c)).length) cy w da dz3 h1 h2 (by omega) (by omega)
    have e : vL a + vL (nb (vL b + vL c)) = (vL a + vL b) + vL c := by rw [vL_nb]; exact ((Nat.add_assoc _ _ _).symm)
    rwa [e] at this
  have le8 : (nb ((vL a * vL b) * vL c)).length ≤ 360 := by
    have hc := nb_len_vL dc; rw [Hlc.out] at hc; have h := nb_len_mul (vL a * vL b) (vL c); omega
  have lz4 : (nb ((vL a * vL b) * vL c)).length ≤ 360 := by
    exact le8
  have dz4 := dig_nb ((vL a * vL b) * vL c)
  have c8 : ∀ (x y : Option Addr) (cx cy : Nat) (w : World), Row .u8 w x (nb (vL a * vL b)).length cx (nI (nb (vL a * vL b))) → Row .u8 w y lc cy (nI c) → Calls Try.prog 13 #[.slice x (nb (vL a * vL b)).length cx, .slice y lc cy] w (Gives w (nb ((vL a * vL b) * vL c))) := fun x y cx cy w h1 h2 => by
    have := mul_any (nb (vL a * vL b)) c x y ((nb (vL a * vL b)).length) cx lc cy w dz1 dc h1 h2 (by omega) (by omega)
    have e : vL (nb (vL a * vL b)) * vL c = (vL a * vL b) * vL c := by rw [vL_nb]
    rwa [e] at this
  have le9 : (nb (vL b * vL c)).length ≤ 240 := by
    have hb := nb_len_vL db; rw [Hlb.out] at hb; have hc := nb_len_vL dc; rw [Hlc.out] at hc; have h := nb_len_mul (vL b) (vL c); omega
  have lz5 : (nb (vL b * vL c)).length ≤ 240 := by
    exact le9
  have dz5 := dig_nb (vL b * vL c)
  have c9 : ∀ (x y : Option Addr) (cx cy : Nat) (w : World), Row .u8 w x lb cx (nI b) → Row .u8 w y lc cy (nI c) → Calls Try.prog 13 #[.slice x lb cx, .slice y lc cy] w (Gives w (nb (vL b * vL c))) := fun x y cx cy w h1 h2 => by
    have := mul_any b c x y lb cx lc cy w db dc h1 h2 (by omega) (by omega)
    have e : vL b * vL c = vL b * vL c := by first | rfl | exact (rfl)
    rwa [e] at this
  have c10 : ∀ (x y : Option Addr) (cx cy : Nat) (w : World), Row .u8 w x la cx (nI a) → Row .u8 w y (nb (vL b * vL c)).length cy (nI (nb (vL b * vL c))) → Calls Try.prog 13 #[.slice x la cx, .slice y (nb (vL b * vL c)).length cy] w (Gives w (nb ((vL a * vL b) * vL c))) := fun x y cx cy w h1 h2 => by
    have := mul_any a (nb (vL b * vL c)) x y la cx ((nb (vL b * vL c)).length) cy w da dz5 h1 h2 (by omega) (by omega)
    have e : vL a * vL (nb (vL b * vL c)) = (vL a * vL b) * vL c := by rw [vL_nb]; exact ((Nat.mul_assoc _ _ _).symm)
    rwa [e] at this
  have le11 : (nb ((vL a + vL b) * vL c)).length ≤ 361 := by
    have hc := nb_len_vL dc; rw [Hlc.out] at hc; have h := nb_len_mul (vL a + vL b) (vL c); omega
  have lz6 : (nb ((vL a + vL b) * vL c)).length ≤ 361 := by
    exact le11
  have dz6 := dig_nb ((vL a + vL b) * vL c)
  have c11 : ∀ (x y : Option Addr) (cx cy : Nat) (w : World), Row .u8 w x (nb (vL a + vL b)).length cx (nI (nb (vL a + vL b))) → Row .u8 w y lc cy (nI c) → Calls Try.prog 13 #[.slice x (nb (vL a + vL b)).length cx, .slice y lc cy] w (Gives w (nb ((vL a + vL b) * vL c))) := fun x y cx cy w h1 h2 => by
    have := mul_any (nb (vL a + vL b)) c x y ((nb (vL a + vL b)).length) cx lc cy w dz0 dc h1 h2 (by omega) (by omega)
    have e : vL (nb (vL a + vL b)) * vL c = (vL a + vL b) * vL c := by rw [vL_nb]
    rwa [e] at this
  have le12 : (nb (vL a * vL c)).length ≤ 240 := by
    have ha := nb_len_vL da; rw [Hla.out] at ha; have hc := nb_len_vL dc; rw [Hlc.out] at hc; have h := nb_len_mul (vL a) (vL c); omega
  have lz7 : (nb (vL a * vL c)).length ≤ 240 := by
    exact le12
  have dz7 := dig_nb (vL a * vL c)
  have c12 : ∀ (x y : Option Addr) (cx cy : Nat) (w : World), Row .u8 w x la cx (nI a) → Row .u8 w y lc cy (nI c) → Calls Try.prog 13 #[.slice x la cx, .slice y lc cy] w (Gives w (nb (vL a * vL c))) := fun x y cx cy w h1 h2 => by
    have := mul_any a c x y la cx lc cy w da dc h1 h2 (by omega) (by omega)
    have e : vL a * vL c = vL a * vL c := by first | rfl | exact (rfl)
    rwa [e] at this
  have c13 : ∀ (x y : Option Addr) (cx cy : Nat) (w : World), Row .u8 w x lb cx (nI b) → Row .u8 w y lc cy (nI c) → Calls Try.prog 13 #[.slice x lb cx, .slice y lc cy] w (Gives w (nb (vL b * vL c))) := fun x y cx cy w h1 h2 => by
    have := mul_any b c x y lb cx lc cy w db dc h1 h2 (by omega) (by omega)
    have e : vL b * vL c = vL b * vL c := by first | rfl | exact (rfl)
    rwa [e] at this
  have c14 : ∀ (x y : Option Addr) (cx cy : Nat) (w : World), Row .u8 w x (nb (vL a * vL c)).length cx (nI (nb (vL a * vL c))) → Row .u8 w y (nb (vL b * vL c)).length cy (nI (nb (vL b * vL c))) → Calls Try.prog 11 #[.slice x (nb (vL a * vL c)).length cx, .slice y (nb (vL b * vL c)).length cy] w (Gives w (nb ((vL a + vL b) * vL c))) := fun x y cx cy w h1 h2 => by
    have := add_any (nb (vL a * vL c)) (nb (vL b * vL c)) x y ((nb (vL a * vL c)).length) cx ((nb (vL b * vL c)).length) cy w dz7 dz5 h1 h2 (by omega) (by omega)
    have e : vL (nb (vL a * vL c)) + vL (nb (vL b * vL c)) = (vL a + vL b) * vL c := by rw [vL_nb, vL_nb]; exact ((Nat.add_mul _ _ _).symm)
    rwa [e] at this
  have lz8 : (nb (vL a)).length ≤ 130 := by
    have h := nb_len_vL da; rw [Hla.out] at h; omega
  have dz8 := dig_nb (vL a)
  have c15 : ∀ (x : Option Addr) (cx : Nat) (w : World), Row .u8 w x la cx (nI a) → Calls Try.prog 10 #[.slice x la cx] w (Gives w (nb (vL a))) := fun x cx w h1 => by
    have := norm_any a da x la cx w h1 (by omega)
    have e : vL a = vL a := by first | rfl | exact (rfl)
    rwa [e] at this
  have c16 : ∀ (x y : Option Addr) (cx cy : Nat) (w : World), Row .u8 w x (nb (vL a + vL b)).length cx (nI (nb (vL a + vL b))) → Row .u8 w y lb cy (nI b) → Calls Try.prog 12 #[.slice x (nb (vL a + vL b)).length cx, .slice y lb cy] w (Gives w (nb (vL a))) := fun x y cx cy w h1 h2 => by
    have := sub_any (nb (vL a + vL b)) b x y ((nb (vL a + vL b)).length) cx lb cy w dz0 db h1 h2 (by omega) (by omega)
    have e : vL (nb (vL a + vL b)) - vL b = vL a := by rw [vL_nb]; exact (Nat.add_sub_cancel _ _)
    rwa [e] at this
  have c17 : ∀ (x y : Option Addr) (cx cy : Nat) (w : World), Row .u8 w x (nb (vL a + vL b)).length cx (nI (nb (vL a + vL b))) → Row .u8 w y la cy (nI a) → Calls Try.prog 15 #[.slice x (nb (vL a + vL b)).length cx, .slice y la cy] w (fun e w' => e = .returned (.int .i64 (cmpN (vL a + vL b) (vL a))) ∧ Below w.heap.size w w') := fun x y cx cy w h1 h2 => by
    have := cmp_any (nb (vL a + vL b)) a x y ((nb (vL a + vL b)).length) cx la cy w dz0 da h1 h2 (by omega) (by omega)
    have e : cmpN (vL (nb (vL a + vL b))) (vL a) = cmpN (vL a + vL b) (vL a) := by rw [vL_nb]
    rwa [e] at this
  have hcc : 0 ≤ cmpN (vL a + vL b) (vL a) := cmp_ge.2 (by omega)
  have hcl := cmp_bounds (vL a + vL b) (vL a)
  generalize cmpN (vL a + vL b) (vL a) = cc at *
  generalize nb ((vL a + vL b) + vL c) = z2 at *
  generalize nb ((vL a * vL b) * vL c) = z4 at *
  generalize nb ((vL a + vL b) * vL c) = z6 at *
  generalize nb (vL a + vL b) = z0 at *
  generalize nb (vL a * vL b) = z1 at *
  generalize nb (vL b + vL c) = z3 at *
  generalize nb (vL b * vL c) = z5 at *
  generalize nb (vL a * vL c) = z7 at *
  generalize nb (vL a) = z8 at *
  go_enter Try.func4, Try.ntmps4
  go_wp2_with fail
  refine (small15_any _ _ _ _ _ _ _ hmaxa hmaxb).mono ?_
  rintro e w' ⟨rfl, rfl⟩
  rw [hsm]
  go_wp2_with fail
  refine (c1 _ _ _ _ _ ra rb).mono ?_
  rintro e w1 ⟨a1, cp1, rfl, rs, q1⟩
  replace ra := ra.below q1 (Nat.le_refl _)
  replace rb := rb.below q1 (Nat.le_refl _)
  replace rc := rc.below q1 (Nat.le_refl _)
  go_wp2_with fail
  refine (c2 _ _ _ _ _ ra rb).mono ?_
  rintro e w2 ⟨a2, cp2, rfl, rm, qq⟩
  replace ra := ra.below qq (Nat.le_refl _)
  replace rb := rb.below qq (Nat.le_refl _)
  replace rc := rc.below qq (Nat.le_refl _)
  replace rs := rs.below qq (Nat.le_refl _)
  replace q1 := btrans q1 qq
  clear qq
  go_wp2_with fail
  refine held_begin (by kernel_rfl) ?_
  refine held_call (i := 0) (fuel := 76) (by kernel_rfl) rfl (by rfl) (fun K hK => ?_)
  go_simp
  have qd := Since.drew w2
  replace ra := ra.below qd (Nat.le_refl _)
  replace rb := rb.below qd (Nat.le_refl _)
  replace rc := rc.below qd (Nat.le_refl _)
  replace rs := rs.below qd (Nat.le_refl _)
  replace rm := rm.below qd (Nat.le_refl _)
  replace q1 := btrans q1 qd
  clear qd
  refine (awake15_any _).mono ?_
  rintro e w3 ⟨rfl, qq0⟩
  refine hK _ _ (Since.trans (Since.drew _) qq0) ?_
  have qq : Since _ _ := qq0
  clear hK K qq0
  replace ra := ra.below qq (Nat.le_refl _)
  replace rb := rb.below qq (Nat.le_refl _)
  replace rc := rc.below qq (Nat.le_refl _)
  replace rs := rs.below qq (Nat.le_refl _)
  replace rm := rm.below qq (Nat.le_refl _)
  replace q1 := btrans q1 qq
  clear qq
  refine held_reads (rs := [1, 2, 3, 4, 5]) (fuel := 71) (by kernel_rfl) (fun c d v a w h => by cases d <;> exact h) (by kernel_rfl) (Since.refl _) (fun K hK => ?_)
  go_simp
  refine calm_move _ rfl (by rfl) rfl ?_
  go_simp
  refine calm_move _ rfl (by rfl) rfl ?_
  go_simp
  refine calm_do (.string (strOfNums (nI z0))) rfl (by rfl) (fun w' hw' => ?_) ?_
  · have hcc := conv_row Try.underlying22 Try.underlying5 Try.underlying9 (rs.below hw' (Nat.le_refl _))
    go_simp
  go_simp
  refine calm_move _ rfl (by rfl) rfl ?_
  go_simp
  refine calm_move _ rfl (by rfl) rfl ?_
  go_simp
  refine calm_nil (hK.out _ ?_)
  clear hK K
  refine held_call (i := 6) (fuel := 70) (by kernel_rfl) rfl (by rfl) (fun K hK => ?_)
  go_simp
  refine (c3 _ _ _ _ _ rb ra).mono ?_
  rintro e w4 ⟨a3, cp3, rfl, rt1, qq0⟩
  refine hK _ _ (Since.trans (Since.refl _) qq0) ?_
  have qq : Since _ _ := qq0
  clear hK K qq0
  replace ra := ra.below qq (Nat.le_refl _)
  replace rb := rb.below qq (Nat.le_refl _)
  replace rc := rc.below qq (Nat.le_refl _)
  replace rs := rs.below qq (Nat.le_refl _)
  replace rm := rm.below qq (Nat.le_refl _)
  replace q1 := btrans q1 qq
  clear qq
  refine held_reads (rs := [7, 8, 9, 10, 11, 12, 13, 14]) (fuel := 62) (by kernel_rfl) (fun c d v a w h => by cases d <;> exact h) (by kernel_rfl) (Since.refl _) (fun K hK => ?_)
  go_simp
  refine calm_do (.string (strOfNums (nI z0))) rfl (by rfl) (fun w' hw' => ?_) ?_
  · have hcc := conv_row Try.underlying22 Try.underlying5 Try.underlying9 (rt1.below hw' (Nat.le_refl _))
    go_simp
  go_simp
  refine calm_do (.bool true) rfl (by rfl) (fun w' hw' => ?_) ?_
  · go_simp
  go_simp
  refine calm_do (.bool true) rfl (by rfl) (fun w' hw' => ?_) ?_
  · go_simp
  go_simp
  refine calm_move _ rfl (by rfl) rfl ?_
  go_simp
  refine calm_move _ rfl (by rfl) rfl ?_
  go_simp
  refine calm_do (.string (strOfNums (nI z1))) rfl (by rfl) (fun w' hw' => ?_) ?_
  · have hcc := conv_row Try.underlying22 Try.underlying5 Try.underlying9 (rm.below hw' (Nat.le_refl _))
    go_simp
  go_simp
  refine calm_move _ rfl (by rfl) rfl ?_
  go_simp
  refine calm_move _ rfl (by rfl) rfl ?_
  go_simp
  refine calm_nil (hK.out _ ?_)
  clear hK K
  refine held_call (i := 15) (fuel := 61) (by kernel_rfl) rfl (by rfl) (fun K hK => ?_)
  go_simp
  refine (c4 _ _ _ _ _ rb ra).mono ?_
  rintro e w5 ⟨a4, cp4, rfl, rt2, qq0⟩
  refine hK _ _ (Since.trans (Since.refl _) qq0) ?_
  have qq : Since _ _ := qq0
  clear hK K qq0
  replace ra := ra.below qq (Nat.le_refl _)
  replace rb := rb.below qq (Nat.le_refl _)
  replace rc := rc.below qq (Nat.le_refl _)
  replace rs := rs.below qq (Nat.le_refl _)
  replace rm := rm.below qq (Nat.le_refl _)
  replace rt1 := rt1.below qq (Nat.le_refl _)
  replace q1 := btrans q1 qq
  clear qq
  clear rt1
  refine held_reads (rs := [16, 17, 18, 19, 20, 21, 24, 25, 26]) (fuel := 52) (by kernel_rfl) (fun c d v a w h => by cases d <;> exact h) (by kernel_rfl) (Since.refl _) (fun K hK => ?_)
  go_simp
  refine calm_do (.string (strOfNums (nI z1))) rfl (by rfl) (fun w' hw' => ?_) ?_
  · have hcc := conv_row Try.underlying22 Try.underlying5 Try.underlying9 (rt2.below hw' (Nat.le_refl _))
    go_simp
  go_simp
  refine calm_do (.bool true) rfl (by rfl) (fun w' hw' => ?_) ?_
  · go_simp
  go_simp
  refine calm_do (.bool true) rfl (by rfl) (fun w' hw' => ?_) ?_
  · go_simp
  go_simp
  refine calm_move _ rfl (by rfl) rfl ?_
  go_simp
  refine calm_move _ rfl (by rfl) rfl ?_
  go_simp
  refine calm_move _ rfl (by rfl) rfl ?_
  go_simp
  refine calm_move _ rfl (by rfl) rfl ?_
  go_simp
  refine calm_move _ rfl (by rfl) rfl ?_
  go_simp
  refine calm_move _ rfl (by rfl) rfl ?_
  go_simp
  refine calm_nil (hK.out _ ?_)
  clear hK K
  refine held_call (i := 22) (fuel := 51) (by kernel_rfl) rfl (by rfl) (fun K hK => ?_)
  go_simp
  refine (c5 _ _ _ _ _ rs rc).mono ?_
  rintro e w6 ⟨a5, cp5, rfl, rt3, qq0⟩
  refine hK _ _ (Since.trans (Since.refl _) qq0) ?_
  have qq : Since _ _ := qq0
  clear hK K qq0
  replace ra := ra.below qq (Nat.le_refl _)
  replace rb := rb.below qq (Nat.le_refl _)
  replace rc := rc.below qq (Nat.le_refl _)
  replace rs := rs.below qq (Nat.le_refl _)
  replace rm := rm.below qq (Nat.le_refl _)
  replace rt2 := rt2.below qq (Nat.le_refl _)
  replace q1 := btrans q1 qq
  clear qq
  clear rt2
  refine held_reads (rs := [23]) (fuel := 50) (by kernel_rfl) (fun c d v a w h => by cases d <;> exact h) (by kernel_rfl) (Since.refl _) (fun K hK => ?_)
  go_simp
  refine calm_do (.string (strOfNums (nI z2))) rfl (by rfl) (fun w' hw' => ?_) ?_
  · have hcc := conv_row Try.underlying22 Try.underlying5 Try.underlying9 (rt3.below hw' (Nat.le_refl _))
    go_simp
  go_simp
  refine calm_nil (hK.out _ ?_)
  clear hK K
  refine held_call (i := 27) (fuel := 49) (by kernel_rfl) rfl (by rfl) (fun K hK => ?_)
  go_simp
  refine (c6 _ _ _ _ _ rb rc).mono ?_
  rintro e w7 ⟨a6, cp6, rfl, rt4, qq0⟩
  refine hK _ _ (Since.trans (Since.refl _) qq0) ?_
  have qq : Since _ _ := qq0
  clear hK K qq0
  replace ra := ra.below qq (Nat.le_refl _)
  replace rb := rb.below qq (Nat.le_refl _)
  replace rc := rc.below qq (Nat.le_refl _)
  replace rs := rs.below qq (Nat.le_refl _)
  replace rm := rm.below qq (Nat.le_refl _)
  replace rt3 := rt3.below qq (Nat.le_refl _)
  replace q1 := btrans q1 qq
  clear qq
  refine held_call (i := 28) (fuel := 48) (by kernel_rfl) rfl (by rfl) (fun K hK => ?_)
  go_simp
  refine (c7 _ _ _ _ _ ra rt4).mono ?_
  rintro e w8 ⟨a7, cp7, rfl, rt5, qq0⟩
  refine hK _ _ (Since.trans (Since.refl _) qq0) ?_
  have qq : Since _ _ := qq0
  clear hK K qq0
  replace ra := ra.below qq (Nat.le_refl _)
  replace rb := rb.below qq (Nat.le_refl _)
  replace rc := rc.below qq (Nat.le_refl _)
  replace rs := rs.below qq (Nat.le_refl _)
  replace rm := rm.below qq (Nat.le_refl _)
  replace rt3 := rt3.below qq (Nat.le_refl _)
  replace rt4 := rt4.below qq (Nat.le_refl _)
  replace q1 := btrans q1 qq
  clear qq
  clear rt4
  refine held_reads (rs := [29, 30, 31, 32, 33, 34, 37, 38, 39]) (fuel := 39) (by kernel_rfl) (fun c d v a w h => by cases d <;> exact h) (by kernel_rfl) (Since.refl _) (fun K hK => ?_)
  go_simp
  refine calm_do (.string (strOfNums (nI z2))) rfl (by rfl) (fun w' hw' => ?_) ?_
  · have hcc := conv_row Try.underlying22 Try.underlying5 Try.underlying9 (rt5.below hw' (Nat.le_refl _))
    go_simp
  go_simp
  refine calm_do (.bool true) rfl (by rfl) (fun w' hw' => ?_) ?_
  · go_simp
  go_simp
  refine calm_do (.bool true) rfl (by rfl) (fun w' hw' => ?_) ?_
  · go_simp
  go_simp
  refine calm_move _ rfl (by rfl) rfl ?_
  go_simp
  refine calm_move _ rfl (by rfl) rfl ?_
  go_simp
  refine calm_move _ rfl (by rfl) rfl ?_
  go_simp
  refine calm_move _ rfl (by rfl) rfl ?_
  go_simp
  refine calm_move _ rfl (by rfl) rfl ?_
  go_simp
  refine calm_move _ rfl (by rfl) rfl ?_
  go_simp
  refine calm_nil (hK.out _ ?_)
  clear hK K
  refine held_call (i := 35) (fuel := 38) (by kernel_rfl) rfl (by rfl) (fun K hK => ?_)
  go_simp
  refine (c8 _ _ _ _ _ rm rc).mono ?_
  rintro e w9 ⟨a8, cp8, rfl, rt6, qq0⟩
  refine hK _ _ (Since.trans (Since.refl _) qq0) ?_
  have qq : Since _ _ := qq0
  clear hK K qq0
  replace ra := ra.below qq (Nat.le_refl _)
  replace rb := rb.below qq (Nat.le_refl _)
  replace rc := rc.below qq (Nat.le_refl _)
  replace rs := rs.below qq (Nat.le_refl _)
  replace rm := rm.below qq (Nat.le_refl _)
  replace rt3 := rt3.below qq (Nat.le_refl _)
  replace rt5 := rt5.below qq (Nat.le_refl _)
  replace q1 := btrans q1 qq
  clear qq
  clear rt3 rt5
  refine held_reads (rs := [36]) (fuel := 37) (by kernel_rfl) (fun c d v a w h => by cases d <;> exact h) (by kernel_rfl) (Since.refl _) (fun K hK => ?_)
  go_simp
  refine calm_do (.string (strOfNums (nI z4))) rfl (by rfl) (fun w' hw' => ?_) ?_
  · have hcc := conv_row Try.underlying22 Try.underlying5 Try.underlying9 (rt6.below hw' (Nat.le_refl _))
    go_simp
  go_simp
  refine calm_nil (hK.out _ ?_)
  clear hK K
  refine held_call (i := 40) (fuel := 36) (by kernel_rfl) rfl (by rfl) (fun K hK => ?_)
  go_simp
  refine (c9 _ _ _ _ _ rb rc).mono ?_
  rintro e w10 ⟨a9, cp9, rfl, rt7, qq0⟩
  refine hK _ _ (Since.trans (Since.refl _) qq0) ?_
  have qq : Since _ _ := qq0
  clear hK K qq0
  replace ra := ra.below qq (Nat.le_refl _)
  replace rb := rb.below qq (Nat.le_refl _)
  replace rc := rc.below qq (Nat.le_refl _)
  replace rs := rs.below qq (Nat.le_refl _)
  replace rm := rm.below qq (Nat.le_refl _)
  replace rt6 := rt6.below qq (Nat.le_refl _)
  replace q1 := btrans q1 qq
  clear qq
  refine held_call (i := 41) (fuel := 35) (by kernel_rfl) rfl (by rfl) (fun K hK => ?_)
  go_simp
  refine (c10 _ _ _ _ _ ra rt7).mono ?_
  rintro e w11 ⟨a10, cp10, rfl, rt8, qq0⟩
  refine hK _ _ (Since.trans (Since.refl _) qq0) ?_
  have qq : Since _ _ := qq0
  clear hK K qq0
  replace ra := ra.below qq (Nat.le_refl _)
  replace rb := rb.below qq (Nat.le_refl _)
  replace rc := rc.below qq (Nat.le_refl _)
  replace rs := rs.below qq (Nat.le_refl _)
  replace rm := rm.below qq (Nat.le_refl _)
  replace rt6 := rt6.below qq (Nat.le_refl _)
  replace rt7 := rt7.below qq (Nat.le_refl _)
  replace q1 := btrans q1 qq
  clear qq
  clear rt7
  refine held_reads (rs := [42, 43, 44, 45, 46, 47, 50, 51, 53, 54]) (fuel := 25) (by kernel_rfl) (fun c d v a w h => by cases d <;> exact h) (by kernel_rfl) (Since.refl _) (fun K hK => ?_)
  go_simp
  refine calm_do (.string (strOfNums (nI z4))) rfl (by rfl) (fun w' hw' => ?_) ?_
  · have hcc := conv_row Try.underlying22 Try.underlying5 Try.underlying9 (rt8.below hw' (Nat.le_refl _))
    go_simp
  go_simp
  refine calm_do (.bool true) rfl (by rfl) (fun w' hw' => ?_) ?_
  · go_simp
  go_simp
  refine calm_do (.bool true) rfl (by rfl) (fun w' hw' => ?_) ?_
  · go_simp
  go_simp
  refine calm_move _ rfl (by rfl) rfl ?_
  go_simp
  refine calm_move _ rfl (by rfl) rfl ?_
  go_simp
  refine calm_move _ rfl (by rfl) rfl ?_
  go_simp
  refine calm_move _ rfl (by rfl) rfl ?_
  go_simp
  refine calm_move _ rfl (by rfl) rfl ?_
  go_simp
  refine calm_move _ rfl (by rfl) rfl ?_
  go_simp
  refine calm_move _ rfl (by rfl) rfl ?_
  go_simp
  refine calm_nil (hK.out _ ?_)
  clear hK K
  refine held_call (i := 48) (fuel := 24) (by kernel_rfl) rfl (by rfl) (fun K hK => ?_)
  go_simp
  refine (c11 _ _ _ _ _ rs rc).mono ?_
  rintro e w12 ⟨a11, cp11, rfl, rt9, qq0⟩
  refine hK _ _ (Since.trans (Since.refl _) qq0) ?_
  have qq : Since _ _ := qq0
  clear hK K qq0
  replace ra := ra.below qq (Nat.le_refl _)
  replace rb := rb.below qq (Nat.le_refl _)
  replace rc := rc.below qq (Nat.le_refl _)
  replace rs := rs.below qq (Nat.le_refl _)
  replace rm := rm.below qq (Nat.le_refl _)
  replace rt6 := rt6.below qq (Nat.le_refl _)
  replace rt8 := rt8.below qq (Nat.le_refl _)
  replace q1 := btrans q1 qq
  clear qq
  clear rt6 rt8
  refine held_reads (rs := [49]) (fuel := 23) (by kernel_rfl) (fun c d v a w h => by cases d <;> exact h) (by kernel_rfl) (Since.refl _) (fun K hK => ?_)
  go_simp
  refine calm_do (.string (strOfNums (nI z6))) rfl (by rfl) (fun w' hw' => ?_) ?_
  · have hcc := conv_row Try.underlying22 Try.underlying5 Try.underlying9 (rt9.below hw' (Nat.le_refl _))
    go_simp
  go_simp
  refine calm_nil (hK.out _ ?_)
  clear hK K
  refine held_call (i := 52) (fuel := 22) (by kernel_rfl) rfl (by rfl) (fun K hK => ?_)
  go_simp
  refine (c12 _ _ _ _ _ ra rc).mono ?_
  rintro e w13 ⟨a12, cp12, rfl, rt10, qq0⟩
  refine hK _ _ (Since.trans (Since.refl _) qq0) ?_
  have qq : Since _ _ := qq0
  clear hK K qq0
  replace ra := ra.below qq (Nat.le_refl _)
  replace rb := rb.below qq (Nat.le_refl _)
  replace rc := rc.below qq (Nat.le_refl _)
  replace rs := rs.below qq (Nat.le_refl _)
  replace rm := rm.below qq (Nat.le_refl _)
  replace rt9 := rt9.below qq (Nat.le_refl _)
  replace q1 := btrans q1 qq
  clear qq
  refine held_call (i := 55) (fuel := 21) (by kernel_rfl) rfl (by rfl) (fun K hK => ?_)
  go_simp
  refine (c13 _ _ _ _ _ rb rc).mono ?_
  rintro e w14 ⟨a13, cp13, rfl, rt11, qq0⟩
  refine hK _ _ (Since.trans (Since.refl _) qq0) ?_
  have qq : Since _ _ := qq0
  clear hK K qq0
  replace ra := ra.below qq (Nat.le_refl _)
  replace rb := rb.below qq (Nat.le_refl _)
  replace rc := rc.below qq (Nat.le_refl _)
  replace rs := rs.below qq (Nat.le_refl _)
  replace rm := rm.below qq (Nat.le_refl _)
  replace rt9 := rt9.below qq (Nat.le_refl _)
  replace rt10 := rt10.below qq (Nat.le_refl _)
  replace q1 := btrans q1 qq
  clear qq
  refine held_call (i := 56) (fuel := 20) (by kernel_rfl) rfl (by rfl) (fun K hK => ?_)
  go_simp
  refine (c14 _ _ _ _ _ rt10 rt11).mono ?_
  rintro e w15 ⟨a14, cp14, rfl, rt12, qq0⟩
  refine hK _ _ (Since.trans (Since.refl _) qq0) ?_
  have qq : Since _ _ := qq0
  clear hK K qq0
  replace ra := ra.below qq (Nat.le_refl _)
  replace rb := rb.below qq (Nat.le_refl _)
  replace rc := rc.below qq (Nat.le_refl _)
  replace rs := rs.below qq (Nat.le_refl _)
  replace rm := rm.below qq (Nat.le_refl _)
  replace rt9 := rt9.below qq (Nat.le_refl _)
  replace rt10 := rt10.below qq (Nat.le_refl _)
  replace rt11 := rt11.below qq (Nat.le_refl _)
  replace q1 := btrans q1 qq
  clear qq
  clear rt10 rt11
  refine held_reads (rs := [57, 58, 59, 60, 61, 62, 65]) (fuel := 13) (by kernel_rfl) (fun c d v a w h => by cases d <;> exact h) (by kernel_rfl) (Since.refl _) (fun K hK => ?_)
  go_simp
  refine calm_do (.string (strOfNums (nI z6))) rfl (by rfl) (fun w' hw' => ?_) ?_
  · have hcc := conv_row Try.underlying22 Try.underlying5 Try.underlying9 (rt12.below hw' (Nat.le_refl _))
    go_simp
  go_simp
  refine calm_do (.bool true) rfl (by rfl) (fun w' hw' => ?_) ?_
  · go_simp
  go_simp
  refine calm_do (.bool true) rfl (by rfl) (fun w' hw' => ?_) ?_
  · go_simp
  go_simp
  refine calm_move _ rfl (by rfl) rfl ?_
  go_simp
  refine calm_move _ rfl (by rfl) rfl ?_
  go_simp
  refine calm_move _ rfl (by rfl) rfl ?_
  go_simp
  refine calm_move _ rfl (by rfl) rfl ?_
  go_simp
  refine calm_nil (hK.out _ ?_)
  clear hK K
  refine held_call (i := 63) (fuel := 12) (by kernel_rfl) rfl (by rfl) (fun K hK => ?_)
  go_simp
  refine (c16 _ _ _ _ _ rs rb).mono ?_
  rintro e w16 ⟨a16, cp16, rfl, rt13, qq0⟩
  refine hK _ _ (Since.trans (Since.refl _) qq0) ?_
  have qq : Since _ _ := qq0
  clear hK K qq0
  replace ra := ra.below qq (Nat.le_refl _)
  replace rb := rb.below qq (Nat.le_refl _)
  replace rc := rc.below qq (Nat.le_refl _)
  replace rs := rs.below qq (Nat.le_refl _)
  replace rm := rm.below qq (Nat.le_refl _)
  replace rt9 := rt9.below qq (Nat.le_refl _)
  replace rt12 := rt12.below qq (Nat.le_refl _)
  replace q1 := btrans q1 qq
  clear qq
  clear rt9 rt12
  refine held_reads (rs := [64]) (fuel := 11) (by kernel_rfl) (fun c d v a w h => by cases d <;> exact h) (by kernel_rfl) (Since.refl _) (fun K hK => ?_)
  go_simp
  refine calm_do (.string (strOfNums (nI z8))) rfl (by rfl) (fun w' hw' => ?_) ?_
  · have hcc := conv_row Try.underlying22 Try.underlying5 Try.underlying9 (rt13.below hw' (Nat.le_refl _))
    go_simp
  go_simp
  refine calm_nil (hK.out _ ?_)
  clear hK K
  refine held_call (i := 66) (fuel := 10) (by kernel_rfl) rfl (by rfl) (fun K hK => ?_)
  go_simp
  refine (c15 _ _ _ ra).mono ?_
  rintro e w17 ⟨a15, cp15, rfl, rt14, qq0⟩
  refine hK _ _ (Since.trans (Since.refl _) qq0) ?_
  have qq : Since _ _ := qq0
  clear hK K qq0
  replace ra := ra.below qq (Nat.le_refl _)
  replace rb := rb.below qq (Nat.le_refl _)
  replace rc := rc.below qq (Nat.le_refl _)
  replace rs := rs.below qq (Nat.le_refl _)
  replace rm := rm.below qq (Nat.le_refl _)
  replace rt13 := rt13.below qq (Nat.le_refl _)
  replace q1 := btrans q1 qq
  clear qq
  refine held_reads (rs := [67, 68, 69, 70, 71, 72]) (fuel := 4) (by kernel_rfl) (fun c d v a w h => by cases d <;> exact h) (by kernel_rfl) (Since.refl _) (fun K hK => ?_)
  go_simp
  refine calm_do (.string (strOfNums (nI z8))) rfl (by rfl) (fun w' hw' => ?_) ?_
  · have hcc := conv_row Try.underlying22 Try.underlying5 Try.underlying9 (rt14.below hw' (Nat.le_refl _))
    go_simp
  go_simp
  refine calm_do (.bool true) rfl (by rfl) (fun w' hw' => ?_) ?_
  · go_simp
  go_simp
  refine calm_do (.bool true) rfl (by rfl) (fun w' hw' => ?_) ?_
  · go_simp
  go_simp
  refine calm_move _ rfl (by rfl) rfl ?_
  go_simp
  refine calm_move _ rfl (by rfl) rfl ?_
  go_simp
  refine calm_move _ rfl (by rfl) rfl ?_
  go_simp
  refine calm_nil (hK.out _ ?_)
  clear hK K
  refine held_call (i := 73) (fuel := 3) (by kernel_rfl) rfl (by rfl) (fun K hK => ?_)
  go_simp
  refine (c17 _ _ _ _ _ rs ra).mono ?_
  rintro e w18 ⟨rfl, qq0⟩
  refine hK _ _ (Since.trans (Since.refl _) qq0) ?_
  have qq : Since _ _ := qq0
  clear hK K qq0
  replace ra := ra.below qq (Nat.le_refl _)
  replace rb := rb.below qq (Nat.le_refl _)
  replace rc := rc.below qq (Nat.le_refl _)
  replace rs := rs.below qq (Nat.le_refl _)
  replace rm := rm.below qq (Nat.le_refl _)
  replace rt13 := rt13.below qq (Nat.le_refl _)
  replace rt14 := rt14.below qq (Nat.le_refl _)
  replace q1 := btrans q1 qq
  clear qq
  refine held_reads (rs := [74, 75, 76]) (fuel := 0) (by kernel_rfl) (fun c d v a w h => by cases d <;> exact h) (by kernel_rfl) (Since.refl _) (fun K hK => ?_)
  go_simp
  refine calm_do (.bool true) rfl (by rfl) (fun w' hw' => ?_) ?_
  · go_simp
  go_simp
  refine calm_do (.bool true) rfl (by rfl) (fun w' hw' => ?_) ?_
  · go_simp
  go_simp
  refine calm_assign _ rfl (by rfl) rfl ?_
  go_simp
  refine calm_nil (hK.out _ ?_)
  clear hK K
  refine wpAnyH_done (by kernel_rfl) ?_ _
  go_wp2_with fail
  go_ret
  first | exact ⟨rfl, q1⟩ | exact ⟨ret_bool (by simp), q1⟩
end Go.Proofs.Ytcibpnikaemhlaa.N
