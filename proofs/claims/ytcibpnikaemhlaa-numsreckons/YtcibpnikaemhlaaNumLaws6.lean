/-
  Layer 15's laws: the walk of NumsReckons. (Written by tools/gen/num_laws.py.)
-/
import Derived.Test.YtcibpnikaemhlaaNumFace
import Derived.Test.YtcibpnikaemhlaaNumRef4
namespace Go.Proofs.Ytcibpnikaemhlaa.N
open Go.RowKit
set_option linter.unusedVariables false
set_option maxRecDepth 8192

set_option maxHeartbeats 3200000 in
theorem walk_NumsReckons (a b : List Nat) (pa pb : Option Addr) (la ka lb kb : Nat) (w : World) (ra : Row .u8 w pa la ka (nI a)) (da : Dig a) (rb : Row .u8 w pb lb kb (nI b)) (db : Dig b) :
    Calls Try.prog 3 #[.slice pa la ka, .slice pb lb kb] w fun e w' => e = .returned (.bool true) ∧ Below w.heap.size w w' := by
  have hmaxa : la ≤ maxLen := Nat.le_trans ra.hcap ra.hmax
  have Hla : Hid (a.length = la) := by have := ra.hlen; rwa [nI_length] at this
  have hmaxb : lb ≤ maxLen := Nat.le_trans rb.hcap rb.hmax
  have Hlb : Hid (b.length = lb) := by have := rb.hlen; rwa [nI_length] at this
  by_cases hs : la ≤ 120 ∧ lb ≤ 120
  case neg =>
    have hsm := small15_no hs
    go_enter Try.func3, Try.ntmps3
    go_wp2_with fail
    refine (small15_any _ _ _ _ _ _ _ hmaxa hmaxb).mono ?_
    rintro e w' ⟨rfl, rfl⟩
    rw [hsm]
    go_wp2_with fail
    go_ret
    exact ⟨rfl, Below.refl _ _⟩
  have hsm := small15_yes hs.1 hs.2
  obtain ⟨hs1, hs2⟩ := hs
  by_cases hm : vL b = 0
  case pos =>
    have lz0 : (nb (vL a)).length ≤ 130 := by
      have h := nb_len_vL da; rw [Hla.out] at h; omega
    have dz0 := dig_nb (vL a)
    have c1 : ∀ (x : Option Addr) (cx : Nat) (w : World), Row .u8 w x la cx (nI a) → Calls Try.prog 10 #[.slice x la cx] w (Gives w (nb (vL a))) := fun x cx w h1 => by
      have := norm_any a da x la cx w h1 (by omega)
      have e : vL a = vL a := by first | rfl | exact (rfl)
      rwa [e] at this
    have le2 : (nb (vL a + vL b)).length ≤ 241 := by
      have ha := nb_len_vL da; rw [Hla.out] at ha; have hb := nb_len_vL db; rw [Hlb.out] at hb; have h := nb_len_add (vL a) (vL b); omega
    have lz1 : (nb (vL a + vL b)).length ≤ 241 := by
      exact le2
    have dz1 := dig_nb (vL a + vL b)
    have c2 : ∀ (x y : Option Addr) (cx cy : Nat) (w : World), Row .u8 w x la cx (nI a) → Row .u8 w y lb cy (nI b) → Calls Try.prog 11 #[.slice x la cx, .slice y lb cy] w (Gives w (nb (vL a + vL b))) := fun x y cx cy w h1 h2 => by
      have := add_any a b x y la cx lb cy w da db h1 h2 (by omega) (by omega)
      have e : vL a + vL b = vL a + vL b := by first | rfl | exact (rfl)
      rwa [e] at this
    have le3 : (nb (vL a - vL b)).length ≤ 120 := by
      have ha := nb_len_vL da; rw [Hla.out] at ha; have hb := nb_len_vL db; rw [Hlb.out] at hb; have h := nb_len_sub (vL a) (vL b); omega
    have lz2 : (nb (vL a - vL b)).length ≤ 120 := by
      exact le3
    have dz2 := dig_nb (vL a - vL b)
    have c3 : ∀ (x y : Option Addr) (cx cy : Nat) (w : World), Row .u8 w x la cx (nI a) → Row .u8 w y lb cy (nI b) → Calls Try.prog 12 #[.slice x la cx, .slice y lb cy] w (Gives w (nb (vL a - vL b))) := fun x y cx cy w h1 h2 => by
      have := sub_any a b x y la cx lb cy w da db h1 h2 (by omega) (by omega)
      have e : vL a - vL b = vL a - vL b := by first | rfl | exact (rfl)
      rwa [e] at this
    have le4 : (nb (vL a * vL b)).length ≤ 240 := by
      have ha := nb_len_vL da; rw [Hla.out] at ha; have hb := nb_len_vL db; rw [Hlb.out] at hb; have h := nb_len_mul (vL a) (vL b); omega
    have lz3 : (nb (vL a * vL b)).length ≤ 240 := by
      exact le4
    have dz3 := dig_nb (vL a * vL b)
    have c4 : ∀ (x y : Option Addr) (cx cy : Nat) (w : World), Row .u8 w x la cx (nI a) → Row .u8 w y lb cy (nI b) → Calls Try.prog 13 #[.slice x la cx, .slice y lb cy] w (Gives w (nb (vL a * vL b))) := fun x y cx cy w h1 h2 => by
      have := mul_any a b x y la cx lb cy w da db h1 h2 (by omega) (by omega)
      have e : vL a * vL b = vL a * vL b := by first | rfl | exact (rfl)
      rwa [e] at this
    have c5 : ∀ (x y : Option Addr) (cx cy : Nat) (w : World), Row .u8 w x la cx (nI a) → Row .u8 w y lb cy (nI b) → Calls Try.prog 15 #[.slice x la cx, .slice y lb cy] w (fun e w' => e = .returned (.int .i64 (cmpN (vL a) (vL b))) ∧ Below w.heap.size w w') := fun x y cx cy w h1 h2 => by
      have := cmp_any a b x y la cx lb cy w da db h1 h2 (by omega) (by omega)
      have e : cmpN (vL a) (vL b) = cmpN (vL a) (vL b) := by first | rfl | exact (rfl)
      rwa [e] at this
    have c6 : ∀ (x y : Option Addr) (cx cy : Nat) (w : World), Row .u8 w x la cx (nI a) → Row .u8 w y lb cy (nI b) → Calls Try.prog 16 #[.slice x la cx, .slice y lb cy] w (fun e w' => e = .returned (.int .i64 (cmpN (vL a) (vL b))) ∧ w = w') := fun x y cx cy w h1 h2 => by
      have := refCmp15_any a b x y la cx lb cy w da db h1 h2 (by omega) (by omega)
      have e : cmpN (vL a) (vL b) = cmpN (vL a) (vL b) := by first | rfl | exact (rfl)
      rwa [e] at this
    have c7 : ∀ (x : Option Addr) (cx : Nat) (w : World), Row .u8 w x la cx (nI a) → Calls Try.prog 17 #[.slice x la cx] w (Gives w (nb (vL a))) := fun x cx w h1 => by
      have := refNorm15_any a da x la cx w h1 (by omega)
      have e : vL a = vL a := by first | rfl | exact (rfl)
      rwa [e] at this
    have c8 : ∀ (x y : Option Addr) (cx cy : Nat) (w : World), Row .u8 w x la cx (nI a) → Row .u8 w y lb cy (nI b) → Calls Try.prog 18 #[.slice x la cx, .slice y lb cy] w (Gives w (nb (vL a + vL b))) := fun x y cx cy w h1 h2 => by
      have := refAdd15_any a b x y la cx lb cy w da db h1 h2 (by omega) (by omega)
      have e : vL a + vL b = vL a + vL b := by first | rfl | exact (rfl)
      rwa [e] at this
    have c9 : ∀ (x y : Option Addr) (cx cy : Nat) (w : World), Row .u8 w x la cx (nI a) → Row .u8 w y lb cy (nI b) → Calls Try.prog 19 #[.slice x la cx, .slice y lb cy] w (Gives w (nb (vL a - vL b))) := fun x y cx cy w h1 h2 => by
      have := refSub15_any a b x y la cx lb cy w da db h1 h2 (by omega) (by omega)
      have e : vL a - vL b = vL a - vL b := by first | rfl | exact (rfl)
      rwa [e] at this
    have c10 : ∀ (x y : Option Addr) (cx cy : Nat) (w : World), Row .u8 w x la cx (nI a) → Row .u8 w y lb cy (nI b) → Calls Try.prog 20 #[.slice x la cx, .slice y lb cy] w (Gives w (nb (vL a * vL b))) := fun x y cx cy w h1 h2 => by
      have := refMul15_any a b x y la cx lb cy w da db h1 h2 (by omega) (by omega)
      have e : vL a * vL b = vL a * vL b := by first | rfl | exact (rfl)
      rwa [e] at this
    have lz4 : (nb (0)).length ≤ 130 := by
      rw [nb_zero]; decide
    have dz4 := dig_nb (0)
    have c11 : ∀ (x : Option Addr) (cx : Nat) (w : World), Row .u8 w x lb cx (nI b) → Calls Try.prog 17 #[.slice x lb cx] w (Gives w (nb (0))) := fun x cx w h1 => by
      have := refNorm15_any b db x lb cx w h1 (by omega)
      have e : vL b = 0 := by first | rfl | exact (hm)
      rwa [e] at this
    rw [nb_zero] at c11
    clear lz4 dz4
    have cz := fun w x cx => mod_zero a b x pb la cx lb kb w da db
    generalize nb (vL a + vL b) = z1 at *
    generalize nb (vL a - vL b) = z2 at *
    generalize nb (vL a * vL b) = z3 at *
    generalize nb (vL a) = z0 at *
    generalize cmpN (vL a) (vL b) = cc at *
    obtain ⟨i0, hi0, hz0, hz1, hz2⟩ := info_parts Try.info5
    go_enter Try.func3, Try.ntmps3
    go_wp2_with fail
    refine (small15_any _ _ _ _ _ _ _ hmaxa hmaxb).mono ?_
    rintro e w' ⟨rfl, rfl⟩
    rw [hsm]
    have hown0 := World.ownsRow_lit (base := w.heap.size) (e := 5) (size := 1) w #[] 0 (Nat.le_refl _) (Nat.zero_le _) rfl
    have qA := below_one w (.cells #[] 5)
    have rd := ra.below qA (Nat.le_refl _)
    go_wp2_with (at_builtin; refine wpList_append_row _ rfl _ _ 22 rfl w.heap.size 5 i0 (.int .u8 0) 1 Try.underlying22 hi0 hz0 hz1 hz2 rfl _ 0 [] rfl hown0 .u8 pa la ka _ rfl rd (by unfold maxLen; omega) (by omega) (by simp) ?_)
    intro v1 w1 own1 hg1
    have q1 : Below w.heap.size w w1 := qA.grown hg1 (by simp) (fun k hk => (hown0.lt k hk).1)
    try rw [List.nil_append, Nat.zero_add] at own1
    obtain ⟨ao, co, rfl, ro⟩ := row_of_owns own1
    replace ra := ra.below q1 (Nat.le_refl _)
    replace rb := rb.below q1 (Nat.le_refl _)
    clear own1 hg1 hown0 qA rd
    go_wp2_with fail
    refine (c1 _ _ _ ro).mono ?_
    rintro e w2 ⟨a1, cp1, rfl, rn, qq⟩
    replace ra := ra.below qq (Nat.le_refl _)
    replace rb := rb.below qq (Nat.le_refl _)
    replace ro := ro.below qq (Nat.le_refl _)
    replace q1 := btrans q1 qq
    clear qq
    go_wp2_with fail
    refine (c2 _ _ _ _ _ ro rb).mono ?_
    rintro e w3 ⟨a2, cp2, rfl, rs, qq⟩
    replace ra := ra.below qq (Nat.le_refl _)
    replace rb := rb.below qq (Nat.le_refl _)
    replace ro := ro.below qq (Nat.le_refl _)
    replace rn := rn.below qq (Nat.le_refl _)
    replace q1 := btrans q1 qq
    clear qq
    go_wp2_with fail
    refine (c3 _ _ _ _ _ ro rb).mono ?_
    rintro e w4 ⟨a3, cp3, rfl, rd, qq⟩
    replace ra := ra.below qq (Nat.le_refl _)
    replace rb := rb.below qq (Nat.le_refl _)
    replace ro := ro.below qq (Nat.le_refl _)
    replace rn := rn.below qq (Nat.le_refl _)
    replace rs := rs.below qq (Nat.le_refl _)
    replace q1 := btrans q1 qq
    clear qq
    go_wp2_with fail
    refine (c4 _ _ _ _ _ ro rb).mono ?_
    rintro e w5 ⟨a4, cp4, rfl, rm, qq⟩
    replace ra := ra.below qq (Nat.le_refl _)
    replace rb := rb.below qq (Nat.le_refl _)
    replace ro := ro.below qq (Nat.le_refl _)
    replace rn := rn.below qq (Nat.le_refl _)
    replace rs := rs.below qq (Nat.le_refl _)
    replace rd := rd.below qq (Nat.le_refl _)
    replace q1 := btrans q1 qq
    clear qq
    go_wp2_with fail
    refine (cz _ _ _ ro rb (by omega) (by omega) hm).mono ?_
    rintro e w6 ⟨a9, cp9, rfl, r9, qq⟩
    replace ra := ra.below qq (Nat.le_refl _)
    replace rb := rb.below qq (Nat.le_refl _)
    replace ro := ro.below qq (Nat.le_refl _)
    replace rn := rn.below qq (Nat.le_refl _)
    replace rs := rs.below qq (Nat.le_refl _)
    replace rd := rd.below qq (Nat.le_refl _)
    replace rm := rm.below qq (Nat.le_refl _)
    replace q1 := btrans q1 qq
    clear qq
    rw [show ([] : List Nat).length = 0 from rfl]
    clear r9
    go_wp2_with fail
    refine held_begin (by kernel_rfl) ?_
    refine held_reads (rs := [0, 1, 2, 3, 4, 5, 6, 7, 9, 10]) (fuel := 39) (by kernel_rfl) (fun c d v a w h => by cases d <;> exact h) (by kernel_rfl) (Since.drew _) (fun K hK => ?_)
    refine calm_move _ rfl (by rfl) rfl ?_
    go_simp
    refine calm_do (.string (strOfNums (nI a))) rfl (by rfl) (fun w' hw' => ?_) ?_
    · have hcc := conv_row Try.underlying22 Try.underlying5 Try.underlying9 (ro.below hw' (Nat.le_refl _))
      go_simp
    go_simp
    refine calm_move _ rfl (by rfl) rfl ?_
    go_simp
    refine calm_do (.string (strOfNums (nI a))) rfl (by rfl) (fun w' hw' => ?_) ?_
    · have hcc := conv_row Try.underlying22 Try.underlying5 Try.underlying9 (ra.below hw' (Nat.le_refl _))
      go_simp
    go_simp
    refine calm_do (.bool false) rfl (by rfl) (fun w' hw' => ?_) ?_
    · go_simp
    go_simp
    refine calm_move _ rfl (by rfl) rfl ?_
    go_simp
    refine calm_move _ rfl (by rfl) rfl ?_
    go_simp
    refine calm_move _ rfl (by rfl) rfl ?_
    go_simp
    refine calm_move _ rfl (by rfl) rfl ?_
    go_simp
    refine calm_move _ rfl (by rfl) rfl ?_
    go_simp
    refine calm_nil (hK.out _ ?_)
    clear hK K
    refine held_call (i := 8) (fuel := 38) (by kernel_rfl) rfl (by rfl) (fun K hK => ?_)
    go_simp
    have qd := Since.drew w6
    replace ra := ra.below qd (Nat.le_refl _)
    replace rb := rb.below qd (Nat.le_refl _)
    replace ro := ro.below qd (Nat.le_refl _)
    replace rn := rn.below qd (Nat.le_refl _)
    replace rs := rs.below qd (Nat.le_refl _)
    replace rd := rd.below qd (Nat.le_refl _)
    replace rm := rm.below qd (Nat.le_refl _)
    replace q1 := btrans q1 qd
    clear qd
    refine (c5 _ _ _ _ _ ro rb).mono ?_
    rintro e w7 ⟨rfl, qq0⟩
    refine hK _ _ (Since.trans (Since.drew _) qq0) ?_
    have qq : Since _ _ := qq0
    clear hK K qq0
    replace ra := ra.below qq (Nat.le_refl _)
    replace rb := rb.below qq (Nat.le_refl _)
    replace ro := ro.below qq (Nat.le_refl _)
    replace rn := rn.below qq (Nat.le_refl _)
    replace rs := rs.below qq (Nat.le_refl _)
    replace rd := rd.below qq (Nat.le_refl _)
    replace rm := rm.below qq (Nat.le_refl _)
    replace q1 := btrans q1 qq
    clear qq
    refine held_call (i := 11) (fuel := 37) (by kernel_rfl) rfl (by rfl) (fun K hK => ?_)
    go_simp
    refine (c6 _ _ _ _ _ ra rb).mono ?_
    rintro e w' ⟨rfl, rfl⟩
    refine hK _ _ (Since.refl _) ?_
    clear hK K
    refine held_reads (rs := [12, 13, 14, 15, 16, 17]) (fuel := 31) (by kernel_rfl) (fun c d v a w h => by cases d <;> exact h) (by kernel_rfl) (Since.refl _) (fun K hK => ?_)
    go_simp
    refine calm_do (.bool false) rfl (by rfl) (fun w' hw' => ?_) ?_
    · go_simp
    go_simp
    refine calm_do (.bool false) rfl (by rfl) (fun w' hw' => ?_) ?_
    · go_simp
    go_simp
    refine calm_move _ rfl (by rfl) rfl ?_
    go_simp
    refine calm_move _ rfl (by rfl) rfl ?_
    go_simp
    refine calm_do (.string (strOfNums (nI z0))) rfl (by rfl) (fun w' hw' => ?_) ?_
    · have hcc := conv_row Try.underlying22 Try.underlying5 Try.underlying9 (rn.below hw' (Nat.le_refl _))
      go_simp
    go_simp
    refine calm_move _ rfl (by rfl) rfl ?_
    go_simp
    refine calm_nil (hK.out _ ?_)
    clear hK K
    refine held_call (i := 18) (fuel := 30) (by kernel_rfl) rfl (by rfl) (fun K hK => ?_)
    go_simp
    refine (c7 _ _ _ ra).mono ?_
    rintro e w8 ⟨a7, cp7, rfl, rn2, qq0⟩
    refine hK _ _ (Since.trans (Since.refl _) qq0) ?_
    have qq : Since _ _ := qq0
    clear hK K qq0
    replace ra := ra.below qq (Nat.le_refl _)
    replace rb := rb.below qq (Nat.le_refl _)
    replace ro := ro.below qq (Nat.le_refl _)
    replace rn := rn.below qq (Nat.le_refl _)
    replace rs := rs.below qq (Nat.le_refl _)
    replace rd := rd.below qq (Nat.le_refl _)
    replace rm := rm.below qq (Nat.le_refl _)
    replace q1 := btrans q1 qq
    clear qq
    refine held_reads (rs := [19, 20, 21, 22, 23, 24, 25, 26]) (fuel := 22) (by kernel_rfl) (fun c d v a w h => by cases d <;> exact h) (by kernel_rfl) (Since.refl _) (fun K hK => ?_)
    go_simp
    refine calm_do (.string (strOfNums (nI z0))) rfl (by rfl) (fun w' hw' => ?_) ?_
    · have hcc := conv_row Try.underlying22 Try.underlying5 Try.underlying9 (rn2.below hw' (Nat.le_refl _))
      go_simp
    go_simp
    refine calm_do (.bool false) rfl (by rfl) (fun w' hw' => ?_) ?_
    · go_simp
    go_simp
    refine calm_do (.bool false) rfl (by rfl) (fun w' hw' => ?_) ?_
    · go_simp
    go_simp
    refine calm_move _ rfl (by rfl) rfl ?_
    go_simp
    refine calm_move _ rfl (by rfl) rfl ?_
    go_simp
    refine calm_do (.string (strOfNums (nI z1))) rfl (by rfl) (fun w' hw' => ?_) ?_
    · have hcc := conv_row Try.underlying22 Try.underlying5 Try.underlying9 (rs.below hw' (Nat.le_refl _))
      go_simp
    go_simp
    refine calm_move _ rfl (by rfl) rfl ?_
    go_simp
    refine calm_move _ rfl (by rfl) rfl ?_
    go_simp
    refine calm_nil (hK.out _ ?_)
    clear hK K
    refine held_call (i := 27) (fuel := 21) (by kernel_rfl) rfl (by rfl) (fun K hK => ?_)
    go_simp
    refine (c8 _ _ _ _ _ ra rb).mono ?_
    rintro e w9 ⟨a8, cp8, rfl, rs2, qq0⟩
    refine hK _ _ (Since.trans (Since.refl _) qq0) ?_
    have qq : Since _ _ := qq0
    clear hK K qq0
    replace ra := ra.below qq (Nat.le_refl _)
    replace rb := rb.below qq (Nat.le_refl _)
    replace ro := ro.below qq (Nat.le_refl _)
    replace rn := rn.below qq (Nat.le_refl _)
    replace rs := rs.below qq (Nat.le_refl _)
    replace rd := rd.below qq (Nat.le_refl _)
    replace rm := rm.below qq (Nat.le_refl _)
    replace rn2 := rn2.below qq (Nat.le_refl _)
    replace q1 := btrans q1 qq
    clear qq
    clear rn2
    refine held_reads (rs := [28, 29, 30, 31, 32, 33, 34, 35]) (fuel := 13) (by kernel_rfl) (fun c d v a w h => by cases d <;> exact h) (by kernel_rfl) (Since.refl _) (fun K hK => ?_)
    go_simp
    refine calm_do (.string (strOfNums (nI z1))) rfl (by rfl) (fun w' hw' => ?_) ?_
    · have hcc := conv_row Try.underlying22 Try.underlying5 Try.underlying9 (rs2.below hw' (Nat.le_refl _))
      go_simp
    go_simp
    refine calm_do (.bool false) rfl (by rfl) (fun w' hw' => ?_) ?_
    · go_simp
    go_simp
    refine calm_do (.bool false) rfl (by rfl) (fun w' hw' => ?_) ?_
    · go_simp
    go_simp
    refine calm_move _ rfl (by rfl) rfl ?_
    go_simp
    refine calm_move _ rfl (by rfl) rfl ?_
    go_simp
    refine calm_do (.string (strOfNums (nI z2))) rfl (by rfl) (fun w' hw' => ?_) ?_
    · have hcc := conv_row Try.underlying22 Try.underlying5 Try.underlying9 (rd.below hw' (Nat.le_refl _))
      go_simp
    go_simp
    refine calm_move _ rfl (by rfl) rfl ?_
    go_simp
    refine calm_move _ rfl (by rfl) rfl ?_
    go_simp
    refine calm_nil (hK.out _ ?_)
    clear hK K
    refine held_call (i := 36) (fuel := 12) (by kernel_rfl) rfl (by rfl) (fun K hK => ?_)
    go_simp
    refine (c9 _ _ _ _ _ ra rb).mono ?_
    rintro e w10 ⟨a9, cp9, rfl, rd2, qq0⟩
    refine hK _ _ (Since.trans (Since.refl _) qq0) ?_
    have qq : Since _ _ := qq0
    clear hK K qq0
    replace ra := ra.below qq (Nat.le_refl _)
    replace rb := rb.below qq (Nat.le_refl _)
    replace ro := ro.below qq (Nat.le_refl _)
    replace rn := rn.below qq (Nat.le_refl _)
    replace rs := rs.below qq (Nat.le_refl _)
    replace rd := rd.below qq (Nat.le_refl _)
    replace rm := rm.below qq (Nat.le_refl _)
    replace rs2 := rs2.below qq (Nat.le_refl _)
    replace q1 := btrans q1 qq
    clear qq
    clear rs2
    refine held_reads (rs := [37, 38, 39, 40, 41, 42, 43, 44]) (fuel := 4) (by kernel_rfl) (fun c d v a w h => by cases d <;> exact h) (by kernel_rfl) (Since.refl _) (fun K hK => ?_)
    go_simp
    refine calm_do (.string (strOfNums (nI z2))) rfl (by rfl) (fun w' hw' => ?_) ?_
    · have hcc := conv_row Try.underlying22 Try.underlying5 Try.underlying9 (rd2.below hw' (Nat.le_refl _))
      go_simp
    go_simp
    refine calm_do (.bool false) rfl (by rfl) (fun w' hw' => ?_) ?_
    · go_simp
    go_simp
    refine calm_do (.bool false) rfl (by rfl) (fun w' hw' => ?_) ?_
    · go_simp
    go_simp
    refine calm_move _ rfl (by rfl) rfl ?_
    go_simp
    refine calm_move _ rfl (by rfl) rfl ?_
    go_simp
    refine calm_do (.string (strOfNums (nI z3))) rfl (by rfl) (fun w' hw' => ?_) ?_
    · have hcc := conv_row Try.underlying22 Try.underlying5 Try.underlying9 (rm.below hw' (Nat.le_refl _))
      go_simp
    go_simp
    refine calm_move _ rfl (by rfl) rfl ?_
    go_simp
    refine calm_move _ rfl (by rfl) rfl ?_
    go_simp
    refine calm_nil (hK.out _ ?_)
    clear hK K
    refine held_call (i := 45) (fuel := 3) (by kernel_rfl) rfl (by rfl) (fun K hK => ?_)
    go_simp
    refine (c10 _ _ _ _ _ ra rb).mono ?_
    rintro e w11 ⟨a10, cp10, rfl, rm2, qq0⟩
    refine hK _ _ (Since.trans (Since.refl _) qq0) ?_
    have qq : Since _ _ := qq0
    clear hK K qq0
    replace ra := ra.below qq (Nat.le_refl _)
    replace rb := rb.below qq (Nat.le_refl _)
    replace ro := ro.below qq (Nat.le_refl _)
    replace rn := rn.below qq (Nat.le_refl _)
    replace rs := rs.below qq (Nat.le_refl _)
    replace rd := rd.below qq (Nat.le_refl _)
    replace rm := rm.below qq (Nat.le_refl _)
    replace rd2 := rd2.below qq (Nat.le_refl _)
    replace q1 := btrans q1 qq
    clear qq
    clear rd2
    refine held_reads (rs := [46, 47, 48]) (fuel := 0) (by kernel_rfl) (fun c d v a w h => by cases d <;> exact h) (by kernel_rfl) (Since.refl _) (fun K hK => ?_)
    go_simp
    refine calm_do (.string (strOfNums (nI z3))) rfl (by rfl) (fun w' hw' => ?_) ?_
    · have hcc := conv_row Try.underlying22 Try.underlying5 Try.underlying9 (rm2.below hw' (Nat.le_refl _))
      go_simp
    go_simp
    refine calm_do (.bool false) rfl (by rfl) (fun w' hw' => ?_) ?_
    · go_simp
    go_simp
    refine calm_do (.bool false) rfl (by rfl) (fun w' hw' => ?_) ?_
    · go_simp
    go_simp
    refine calm_nil (hK.out _ ?_)
    clear hK K
    refine wpAnyH_done (by kernel_rfl) ?_ _
    clear rm2 rn rs rd rm ro
    go_wp2_with fail
    refine (c11 _ _ _ rb).mono ?_
    rintro e w12 ⟨a8, cp8, rfl, r8, qq⟩
    replace ra := ra.below qq (Nat.le_refl _)
    replace rb := rb.below qq (Nat.le_refl _)
    replace q1 := btrans q1 qq
    clear qq
    rw [show ([] : List Nat).length = 0 from rfl]
    clear r8
    go_wp2_with fail
    refine (awake15_any _).mono ?_
    rintro e w13 ⟨rfl, qq⟩
    replace ra := ra.below qq (Nat.le_refl _)
    replace rb := rb.below qq (Nat.le_refl _)
    replace q1 := btrans q1 qq
    clear qq
    go_wp2_with fail
    go_ret
    first | exact ⟨rfl, q1⟩ | exact ⟨ret_bool (by simp), q1⟩
  have hm0 : vL b ≠ 0 := hm
  have lz0 : (nb (vL a)).length ≤ 130 := by
    have h := nb_len_vL da; rw [Hla.out] at h; omega
  have dz0 := dig_nb (vL a)
  have c1 : ∀ (x : Option Addr) (cx : Nat) (w : World), Row .u8 w x la cx (nI a) → Calls Try.prog 10 #[.slice x la cx] w (Gives w (nb (vL a))) := fun x cx w h1 => by
    have := norm_any a da x la cx w h1 (by omega)
    have e : vL a = vL a := by first | rfl | exact (rfl)
    rwa [e] at this
  have le2 : (nb (vL a + vL b)).length ≤ 241 := by
    have ha := nb_len_vL da; rw [Hla.out] at ha; have hb := nb_len_vL db; rw [Hlb.out] at hb; have h := nb_len_add (vL a) (vL b); omega
  have lz1 : (nb (vL a + vL b)).length ≤ 241 := by
    exact le2
  have dz1 := dig_nb (vL a + vL b)
  have c2 : ∀ (x y : Option Addr) (cx cy : Nat) (w : World), Row .u8 w x la cx (nI a) → Row .u8 w y lb cy (nI b) → Calls Try.prog 11 #[.slice x la cx, .slice y lb cy] w (Gives w (nb (vL a + vL b))) := fun x y cx cy w h1 h2 => by
    have := add_any a b x y la cx lb cy w da db h1 h2 (by omega) (by omega)
    have e : vL a + vL b = vL a + vL b := by first | rfl | exact (rfl)
    rwa [e] at this
  have le3 : (nb (vL a - vL b)).length ≤ 120 := by
    have ha := nb_len_vL da; rw [Hla.out] at ha; have hb := nb_len_vL db; rw [Hlb.out] at hb; have h := nb_len_sub (vL a) (vL b); omega
  have lz2 : (nb (vL a - vL b)).length ≤ 120 := by
    exact le3
  have dz2 := dig_nb (vL a - vL b)
  have c3 : ∀ (x y : Option Addr) (cx cy : Nat) (w : World), Row .u8 w x la cx (nI a) → Row .u8 w y lb cy (nI b) → Calls Try.prog 12 #[.slice x la cx, .slice y lb cy] w (Gives w (nb (vL a - vL b))) := fun x y cx cy w h1 h2 => by
    have := sub_any a b x y la cx lb cy w da db h1 h2 (by omega) (by omega)
    have e : vL a - vL b = vL a - vL b := by first | rfl | exact (rfl)
    rwa [e] at this
  have le4 : (nb (vL a * vL b)).length ≤ 240 := by
    have ha := nb_len_vL da; rw [Hla.out] at ha; have hb := nb_len_vL db; rw [Hlb.out] at hb; have h := nb_len_mul (vL a) (vL b); omega
  have lz3 : (nb (vL a * vL b)).length ≤ 240 := by
    exact le4
  have dz3 := dig_nb (vL a * vL b)
  have c4 : ∀ (x y : Option Addr) (cx cy : Nat) (w : World), Row .u8 w x la cx (nI a) → Row .u8 w y lb cy (nI b) → Calls Try.prog 13 #[.slice x la cx, .slice y lb cy] w (Gives w (nb (vL a * vL b))) := fun x y cx cy w h1 h2 => by
    have := mul_any a b x y la cx lb cy w da db h1 h2 (by omega) (by omega)
    have e : vL a * vL b = vL a * vL b := by first | rfl | exact (rfl)
    rwa [e] at this
  have c5 : ∀ (x y : Option Addr) (cx cy : Nat) (w : World), Row .u8 w x la cx (nI a) → Row .u8 w y lb cy (nI b) → Calls Try.prog 15 #[.slice x la cx, .slice y lb cy] w (fun e w' => e = .returned (.int .i64 (cmpN (vL a) (vL b))) ∧ Below w.heap.size w w') := fun x y cx cy w h1 h2 => by
    have := cmp_any a b x y la cx lb cy w da db h1 h2 (by omega) (by omega)
    have e : cmpN (vL a) (vL b) = cmpN (vL a) (vL b) := by first | rfl | exact (rfl)
    rwa [e] at this
  have c6 : ∀ (x y : Option Addr) (cx cy : Nat) (w : World), Row .u8 w x la cx (nI a) → Row .u8 w y lb cy (nI b) → Calls Try.prog 16 #[.slice x la cx, .slice y lb cy] w (fun e w' => e = .returned (.int .i64 (cmpN (vL a) (vL b))) ∧ w = w') := fun x y cx cy w h1 h2 => by
    have := refCmp15_any a b x y la cx lb cy w da db h1 h2 (by omega) (by omega)
    have e : cmpN (vL a) (vL b) = cmpN (vL a) (vL b) := by first | rfl | exact (rfl)
    rwa [e] at this
  have c7 : ∀ (x : Option Addr) (cx : Nat) (w : World), Row .u8 w x la cx (nI a) → Calls Try.prog 17 #[.slice x la cx] w (Gives w (nb (vL a))) := fun x cx w h1 => by
    have := refNorm15_any a da x la cx w h1 (by omega)
    have e : vL a = vL a := by first | rfl | exact (rfl)
    rwa [e] at this
  have c8 : ∀ (x y : Option Addr) (cx cy : Nat) (w : World), Row .u8 w x la cx (nI a) → Row .u8 w y lb cy (nI b) → Calls Try.prog 18 #[.slice x la cx, .slice y lb cy] w (Gives w (nb (vL a + vL b))) := fun x y cx cy w h1 h2 => by
    have := refAdd15_any a b x y la cx lb cy w da db h1 h2 (by omega) (by omega)
    have e : vL a + vL b = vL a + vL b := by first | rfl | exact (rfl)
    rwa [e] at this
  have c9 : ∀ (x y : Option Addr) (cx cy : Nat) (w : World), Row .u8 w x la cx (nI a) → Row .u8 w y lb cy (nI b) → Calls Try.prog 19 #[.slice x la cx, .slice y lb cy] w (Gives w (nb (vL a - vL b))) := fun x y cx cy w h1 h2 => by
    have := refSub15_any a b x y la cx lb cy w da db h1 h2 (by omega) (by omega)
    have e : vL a - vL b = vL a - vL b := by first | rfl | exact (rfl)
    rwa [e] at this
  have c10 : ∀ (x y : Option Addr) (cx cy : Nat) (w : World), Row .u8 w x la cx (nI a) → Row .u8 w y lb cy (nI b) → Calls Try.prog 20 #[.slice x la cx, .slice y lb cy] w (Gives w (nb (vL a * vL b))) := fun x y cx cy w h1 h2 => by
    have := refMul15_any a b x y la cx lb cy w da db h1 h2 (by omega) (by omega)
    have e : vL a * vL b = vL a * vL b := by first | rfl | exact (rfl)
    rwa [e] at this
  have le11 : (nb (vL a % vL b)).length ≤ 120 := by
    have ha := nb_len_vL da; rw [Hla.out] at ha; have hb := nb_len_vL db; rw [Hlb.out] at hb; have h := nb_len_mod (vL a) (vL b); omega
  have lz4 : (nb (vL a % vL b)).length ≤ 120 := by
    exact le11
  have dz4 := dig_nb (vL a % vL b)
  have c11 : ∀ (x y : Option Addr) (cx cy : Nat) (w : World), Row .u8 w x la cx (nI a) → Row .u8 w y lb cy (nI b) → Calls Try.prog 14 #[.slice x la cx, .slice y lb cy] w (GivesE w (nb (vL a % vL b)) 0) := fun x y cx cy w h1 h2 => by
    have := mod_any a b x y la cx lb cy w da db h1 h2 (by omega) (by omega) hm0
    have e : vL a % vL b = vL a % vL b := by first | rfl | exact (rfl)
    rwa [e] at this
  have c12 : ∀ (x y : Option Addr) (cx cy : Nat) (w : World), Row .u8 w x la cx (nI a) → Row .u8 w y lb cy (nI b) → Calls Try.prog 22 #[.slice x la cx, .slice y lb cy] w (Gives w (nb (vL a % vL b))) := fun x y cx cy w h1 h2 => by
    have := refMod15_any a b x y la cx lb cy w da db h1 h2 (by omega) (by omega) hm0
    have e : vL a % vL b = vL a % vL b := by first | rfl | exact (rfl)
    rwa [e] at this
  have lz5 : (nb (vL b)).length ≤ 130 := by
    have h := nb_len_vL db; rw [Hlb.out] at h; omega
  have dz5 := dig_nb (vL b)
  have c13 : ∀ (x : Option Addr) (cx : Nat) (w : World), Row .u8 w x lb cx (nI b) → Calls Try.prog 17 #[.slice x lb cx] w (Gives w (nb (vL b))) := fun x cx w h1 => by
    have := refNorm15_any b db x lb cx w h1 (by omega)
    have e : vL b = vL b := by first | rfl | exact (rfl)
    rwa [e] at this
  have hnl : ¬ (nb (vL b)).length = 0 := fun h => hm0 (nb_nil.1 h)
  generalize nb (vL a + vL b) = z1 at *
  generalize nb (vL a - vL b) = z2 at *
  generalize nb (vL a * vL b) = z3 at *
  generalize nb (vL a % vL b) = z4 at *
  generalize nb (vL a) = z0 at *
  generalize nb (vL b) = z5 at *
  have hnq : ((z5.length : Int) == 0) = false := by rw [beq_eq_false_iff_ne]; omega
  clear hnl
  generalize cmpN (vL a) (vL b) = cc at *
  obtain ⟨i0, hi0, hz0, hz1, hz2⟩ := info_parts Try.info5
  go_enter Try.func3, Try.ntmps3
  go_wp2_with fail
  refine (small15_any _ _ _ _ _ _ _ hmaxa hmaxb).mono ?_
  rintro e w' ⟨rfl, rfl⟩
  rw [hsm]
  have hown0 := World.ownsRow_lit (base := w.heap.size) (e := 5) (size := 1) w #[] 0 (Nat.le_refl _) (Nat.zero_le _) rfl
  have qA := below_one w (.cells #[] 5)
  have rd := ra.below qA (Nat.le_refl _)
  go_wp2_with (at_builtin; refine wpList_append_row _ rfl _ _ 22 rfl w.heap.size 5 i0 (.int .u8 0) 1 Try.underlying22 hi0 hz0 hz1 hz2 rfl _ 0 [] rfl hown0 .u8 pa la ka _ rfl rd (by unfold maxLen; omega) (by omega) (by simp) ?_)
  intro v1 w1 own1 hg1
  have q1 : Below w.heap.size w w1 := qA.grown hg1 (by simp) (fun k hk => (hown0.lt k hk).1)
  try rw [List.nil_append, Nat.zero_add] at own1
  obtain ⟨ao, co, rfl, ro⟩ := row_of_owns own1
  replace ra := ra.below q1 (Nat.le_refl _)
  replace rb := rb.below q1 (Nat.le_refl _)
  clear own1 hg1 hown0 qA rd
  go_wp2_with fail
  refine (c1 _ _ _ ro).mono ?_
  rintro e w2 ⟨a1, cp1, rfl, rn, qq⟩
  replace ra := ra.below qq (Nat.le_refl _)
  replace rb := rb.below qq (Nat.le_refl _)
  replace ro := ro.below qq (Nat.le_refl _)
  replace q1 := btrans q1 qq
  clear qq
  go_wp2_with fail
  refine (c2 _ _ _ _ _ ro rb).mono ?_
  rintro e w3 ⟨a2, cp2, rfl, rs, qq⟩
  replace ra := ra.below qq (Nat.le_refl _)
  replace rb := rb.below qq (Nat.le_refl _)
  replace ro := ro.below qq (Nat.le_refl _)
  replace rn := rn.below qq (Nat.le_refl _)
  replace q1 := btrans q1 qq
  clear qq
  go_wp2_with fail
  refine (c3 _ _ _ _ _ ro rb).mono ?_
  rintro e w4 ⟨a3, cp3, rfl, rd, qq⟩
  replace ra := ra.below qq (Nat.le_refl _)
  replace rb := rb.below qq (Nat.le_refl _)
  replace ro := ro.below qq (Nat.le_refl _)
  replace rn := rn.below qq (Nat.le_refl _)
  replace rs := rs.below qq (Nat.le_refl _)
  replace q1 := btrans q1 qq
  clear qq
  go_wp2_with fail
  refine (c4 _ _ _ _ _ ro rb).mono ?_
  rintro e w5 ⟨a4, cp4, rfl, rm, qq⟩
  replace ra := ra.below qq (Nat.le_refl _)
  replace rb := rb.below qq (Nat.le_refl _)
  replace ro := ro.below qq (Nat.le_refl _)
  replace rn := rn.below qq (Nat.le_refl _)
  replace rs := rs.below qq (Nat.le_refl _)
  replace rd := rd.below qq (Nat.le_refl _)
  replace q1 := btrans q1 qq
  clear qq
  go_wp2_with fail
  refine (c11 _ _ _ _ _ ro rb).mono ?_
  rintro e w6 ⟨a11, cp11, rfl, re, qq⟩
  replace ra := ra.below qq (Nat.le_refl _)
  replace rb := rb.below qq (Nat.le_refl _)
  replace ro := ro.below qq (Nat.le_refl _)
  replace rn := rn.below qq (Nat.le_refl _)
  replace rs := rs.below qq (Nat.le_refl _)
  replace rd := rd.below qq (Nat.le_refl _)
  replace rm := rm.below qq (Nat.le_refl _)
  replace q1 := btrans q1 qq
  clear qq
  go_wp2_with fail
  refine held_begin (by kernel_rfl) ?_
  refine held_reads (rs := [0, 1, 2, 3, 4, 5, 6, 7, 9, 10]) (fuel := 39) (by kernel_rfl) (fun c d v a w h => by cases d <;> exact h) (by kernel_rfl) (Since.drew _) (fun K hK => ?_)
  refine calm_move _ rfl (by rfl) rfl ?_
  go_simp
  refine calm_do (.string (strOfNums (nI a))) rfl (by rfl) (fun w' hw' => ?_) ?_
  · have hcc := conv_row Try.underlying22 Try.underlying5 Try.underlying9 (ro.below hw' (Nat.le_refl _))
    go_simp
  go_simp
  refine calm_move _ rfl (by rfl) rfl ?_
  go_simp
  refine calm_do (.string (strOfNums (nI a))) rfl (by rfl) (fun w' hw' => ?_) ?_
  · have hcc := conv_row Try.underlying22 Try.underlying5 Try.underlying9 (ra.below hw' (Nat.le_refl _))
    go_simp
  go_simp
  refine calm_do (.bool false) rfl (by rfl) (fun w' hw' => ?_) ?_
  · go_simp
  go_simp
  refine calm_move _ rfl (by rfl) rfl ?_
  go_simp
  refine calm_move _ rfl (by rfl) rfl ?_
  go_simp
  refine calm_move _ rfl (by rfl) rfl ?_
  go_simp
  refine calm_move _ rfl (by rfl) rfl ?_
  go_simp
  refine calm_move _ rfl (by rfl) rfl ?_
  go_simp
  refine calm_nil (hK.out _ ?_)
  clear hK K
  refine held_call (i := 8) (fuel := 38) (by kernel_rfl) rfl (by rfl) (fun K hK => ?_)
  go_simp
  have qd := Since.drew w6
  replace ra := ra.below qd (Nat.le_refl _)
  replace rb := rb.below qd (Nat.le_refl _)
  replace ro := ro.below qd (Nat.le_refl _)
  replace rn := rn.below qd (Nat.le_refl _)
  replace rs := rs.below qd (Nat.le_refl _)
  replace rd := rd.below qd (Nat.le_refl _)
  replace rm := rm.below qd (Nat.le_refl _)
  replace re := re.below qd (Nat.le_refl _)
  replace q1 := btrans q1 qd
  clear qd
  refine (c5 _ _ _ _ _ ro rb).mono ?_
  rintro e w7 ⟨rfl, qq0⟩
  refine hK _ _ (Since.trans (Since.drew _) qq0) ?_
  have qq : Since _ _ := qq0
  clear hK K qq0
  replace ra := ra.below qq (Nat.le_refl _)
  replace rb := rb.below qq (Nat.le_refl _)
  replace ro := ro.below qq (Nat.le_refl _)
  replace rn := rn.below qq (Nat.le_refl _)
  replace rs := rs.below qq (Nat.le_refl _)
  replace rd := rd.below qq (Nat.le_refl _)
  replace rm := rm.below qq (Nat.le_refl _)
  replace re := re.below qq (Nat.le_refl _)
  replace q1 := btrans q1 qq
  clear qq
  refine held_call (i := 11) (fuel := 37) (by kernel_rfl) rfl (by rfl) (fun K hK => ?_)
  go_simp
  refine (c6 _ _ _ _ _ ra rb).mono ?_
  rintro e w' ⟨rfl, rfl⟩
  refine hK _ _ (Since.refl _) ?_
  clear hK K
  refine held_reads (rs := [12, 13, 14, 15, 16, 17]) (fuel := 31) (by kernel_rfl) (fun c d v a w h => by cases d <;> exact h) (by kernel_rfl) (Since.refl _) (fun K hK => ?_)
  go_simp
  refine calm_do (.bool false) rfl (by rfl) (fun w' hw' => ?_) ?_
  · go_simp
  go_simp
  refine calm_do (.bool false) rfl (by rfl) (fun w' hw' => ?_) ?_
  · go_simp
  go_simp
  refine calm_move _ rfl (by rfl) rfl ?_
  go_simp
  refine calm_move _ rfl (by rfl) rfl ?_
  go_simp
  refine calm_do (.string (strOfNums (nI z0))) rfl (by rfl) (fun w' hw' => ?_) ?_
  · have hcc := conv_row Try.underlying22 Try.underlying5 Try.underlying9 (rn.below hw' (Nat.le_refl _))
    go_simp
  go_simp
  refine calm_move _ rfl (by rfl) rfl ?_
  go_simp
  refine calm_nil (hK.out _ ?_)
  clear hK K
  refine held_call (i := 18) (fuel := 30) (by kernel_rfl) rfl (by rfl) (fun K hK => ?_)
  go_simp
  refine (c7 _ _ _ ra).mono ?_
  rintro e w8 ⟨a7, cp7, rfl, rn2, qq0⟩
  refine hK _ _ (Since.trans (Since.refl _) qq0) ?_
  have qq : Since _ _ := qq0
  clear hK K qq0
  replace ra := ra.below qq (Nat.le_refl _)
  replace rb := rb.below qq (Nat.le_refl _)
  replace ro := ro.below qq (Nat.le_refl _)
  replace rn := rn.below qq (Nat.le_refl _)
  replace rs := rs.below qq (Nat.le_refl _)
  replace rd := rd.below qq (Nat.le_refl _)
  replace rm := rm.below qq (Nat.le_refl _)
  replace re := re.below qq (Nat.le_refl _)
  replace q1 := btrans q1 qq
  clear qq
  refine held_reads (rs := [19, 20, 21, 22, 23, 24, 25, 26]) (fuel := 22) (by kernel_rfl) (fun c d v a w h => by cases d <;> exact h) (by kernel_rfl) (Since.refl _) (fun K hK => ?_)
  go_simp
  refine calm_do (.string (strOfNums (nI z0))) rfl (by rfl) (fun w' hw' => ?_) ?_
  · have hcc := conv_row Try.underlying22 Try.underlying5 Try.underlying9 (rn2.below hw' (Nat.le_refl _))
    go_simp
  go_simp
  refine calm_do (.bool false) rfl (by rfl) (fun w' hw' => ?_) ?_
  · go_simp
  go_simp
  refine calm_do (.bool false) rfl (by rfl) (fun w' hw' => ?_) ?_
  · go_simp
  go_simp
  refine calm_move _ rfl (by rfl) rfl ?_
  go_simp
  refine calm_move _ rfl (by rfl) rfl ?_
  go_simp
  refine calm_do (.string (strOfNums (nI z1))) rfl (by rfl) (fun w' hw' => ?_) ?_
  · have hcc := conv_row Try.underlying22 Try.underlying5 Try.underlying9 (rs.below hw' (Nat.le_refl _))
    go_simp
  go_simp
  refine calm_move _ rfl (by rfl) rfl ?_
  go_simp
  refine calm_move _ rfl (by rfl) rfl ?_
  go_simp
  refine calm_nil (hK.out _ ?_)
  clear hK K
  refine held_call (i := 27) (fuel := 21) (by kernel_rfl) rfl (by rfl) (fun K hK => ?_)
  go_simp
  refine (c8 _ _ _ _ _ ra rb).mono ?_
  rintro e w9 ⟨a8, cp8, rfl, rs2, qq0⟩
  refine hK _ _ (Since.trans (Since.refl _) qq0) ?_
  have qq : Since _ _ := qq0
  clear hK K qq0
  replace ra := ra.below qq (Nat.le_refl _)
  replace rb := rb.below qq (Nat.le_refl _)
  replace ro := ro.below qq (Nat.le_refl _)
  replace rn := rn.below qq (Nat.le_refl _)
  replace rs := rs.below qq (Nat.le_refl _)
  replace rd := rd.below qq (Nat.le_refl _)
  replace rm := rm.below qq (Nat.le_refl _)
  replace re := re.below qq (Nat.le_refl _)
  replace rn2 := rn2.below qq (Nat.le_refl _)
  replace q1 := btrans q1 qq
  clear qq
  clear rn2
  refine held_reads (rs := [28, 29, 30, 31, 32, 33, 34, 35]) (fuel := 13) (by kernel_rfl) (fun c d v a w h => by cases d <;> exact h) (by kernel_rfl) (Since.refl _) (fun K hK => ?_)
  go_simp
  refine calm_do (.string (strOfNums (nI z1))) rfl (by rfl) (fun w' hw' => ?_) ?_
  · have hcc := conv_row Try.underlying22 Try.underlying5 Try.underlying9 (rs2.below hw' (Nat.le_refl _))
    go_simp
  go_simp
  refine calm_do (.bool false) rfl (by rfl) (fun w' hw' => ?_) ?_
  · go_simp
  go_simp
  refine calm_do (.bool false) rfl (by rfl) (fun w' hw' => ?_) ?_
  · go_simp
  go_simp
  refine calm_move _ rfl (by rfl) rfl ?_
  go_simp
  refine calm_move _ rfl (by rfl) rfl ?_
  go_simp
  refine calm_do (.string (strOfNums (nI z2))) rfl (by rfl) (fun w' hw' => ?_) ?_
  · have hcc := conv_row Try.underlying22 Try.underlying5 Try.underlying9 (rd.below hw' (Nat.le_refl _))
    go_simp
  go_simp
  refine calm_move _ rfl (by rfl) rfl ?_
  go_simp
  refine calm_move _ rfl (by rfl) rfl ?_
  go_simp
  refine calm_nil (hK.out _ ?_)
  clear hK K
  refine held_call (i := 36) (fuel := 12) (by kernel_rfl) rfl (by rfl) (fun K hK => ?_)
  go_simp
  refine (c9 _ _ _ _ _ ra rb).mono ?_
  rintro e w10 ⟨a9, cp9, rfl, rd2, qq0⟩
  refine hK _ _ (Since.trans (Since.refl _) qq0) ?_
  have qq : Since _ _ := qq0
  clear hK K qq0
  replace ra := ra.below qq (Nat.le_refl _)
  replace rb := rb.below qq (Nat.le_refl _)
  replace ro := ro.below qq (Nat.le_refl _)
  replace rn := rn.below qq (Nat.le_refl _)
  replace rs := rs.below qq (Nat.le_refl _)
  replace rd := rd.below qq (Nat.le_refl _)
  replace rm := rm.below qq (Nat.le_refl _)
  replace re := re.below qq (Nat.le_refl _)
  replace rs2 := rs2.below qq (Nat.le_refl _)
  replace q1 := btrans q1 qq
  clear qq
  clear rs2
  refine held_reads (rs := [37, 38, 39, 40, 41, 42, 43, 44]) (fuel := 4) (by kernel_rfl) (fun c d v a w h => by cases d <;> exact h) (by kernel_rfl) (Since.refl _) (fun K hK => ?_)
  go_simp
  refine calm_do (.string (strOfNums (nI z2))) rfl (by rfl) (fun w' hw' => ?_) ?_
  · have hcc := conv_row Try.underlying22 Try.underlying5 Try.underlying9 (rd2.below hw' (Nat.le_refl _))
    go_simp
  go_simp
  refine calm_do (.bool false) rfl (by rfl) (fun w' hw' => ?_) ?_
  · go_simp
  go_simp
  refine calm_do (.bool false) rfl (by rfl) (fun w' hw' => ?_) ?_
  · go_simp
  go_simp
  refine calm_move _ rfl (by rfl) rfl ?_
  go_simp
  refine calm_move _ rfl (by rfl) rfl ?_
  go_simp
  refine calm_do (.string (strOfNums (nI z3))) rfl (by rfl) (fun w' hw' => ?_) ?_
  · have hcc := conv_row Try.underlying22 Try.underlying5 Try.underlying9 (rm.below hw' (Nat.le_refl _))
    go_simp
  go_simp
  refine calm_move _ rfl (by rfl) rfl ?_
  go_simp
  refine calm_move _ rfl (by rfl) rfl ?_
  go_simp
  refine calm_nil (hK.out _ ?_)
  clear hK K
  refine held_call (i := 45) (fuel := 3) (by kernel_rfl) rfl (by rfl) (fun K hK => ?_)
  go_simp
  refine (c10 _ _ _ _ _ ra rb).mono ?_
  rintro e w11 ⟨a10, cp10, rfl, rm2, qq0⟩
  refine hK _ _ (Since.trans (Since.refl _) qq0) ?_
  have qq : Since _ _ := qq0
  clear hK K qq0
  replace ra := ra.below qq (Nat.le_refl _)
  replace rb := rb.below qq (Nat.le_refl _)
  replace ro := ro.below qq (Nat.le_refl _)
  replace rn := rn.below qq (Nat.le_refl _)
  replace rs := rs.below qq (Nat.le_refl _)
  replace rd := rd.below qq (Nat.le_refl _)
  replace rm := rm.below qq (Nat.le_refl _)
  replace re := re.below qq (Nat.le_refl _)
  replace rd2 := rd2.below qq (Nat.le_refl _)
  replace q1 := btrans q1 qq
  clear qq
  clear rd2
  refine held_reads (rs := [46, 47, 48]) (fuel := 0) (by kernel_rfl) (fun c d v a w h => by cases d <;> exact h) (by kernel_rfl) (Since.refl _) (fun K hK => ?_)
  go_simp
  refine calm_do (.string (strOfNums (nI z3))) rfl (by rfl) (fun w' hw' => ?_) ?_
  · have hcc := conv_row Try.underlying22 Try.underlying5 Try.underlying9 (rm2.below hw' (Nat.le_refl _))
    go_simp
  go_simp
  refine calm_do (.bool false) rfl (by rfl) (fun w' hw' => ?_) ?_
  · go_simp
  go_simp
  refine calm_do (.bool false) rfl (by rfl) (fun w' hw' => ?_) ?_
  · go_simp
  go_simp
  refine calm_nil (hK.out _ ?_)
  clear hK K
  refine wpAnyH_done (by kernel_rfl) ?_ _
  clear rm2 rn rs rd rm ro
  go_wp2_with fail
  refine (c13 _ _ _ rb).mono ?_
  rintro e w12 ⟨a13, cp13, rfl, rt0, qq⟩
  replace ra := ra.below qq (Nat.le_refl _)
  replace rb := rb.below qq (Nat.le_refl _)
  replace re := re.below qq (Nat.le_refl _)
  replace q1 := btrans q1 qq
  clear qq
  clear rt0
  go_wp2_with fail
  refine held_begin (by kernel_rfl) ?_
  refine held_call (i := 0) (fuel := 14) (by kernel_rfl) rfl (by rfl) (fun K hK => ?_)
  go_simp
  have qd := Since.drew w12
  replace ra := ra.below qd (Nat.le_refl _)
  replace rb := rb.below qd (Nat.le_refl _)
  replace re := re.below qd (Nat.le_refl _)
  replace q1 := btrans q1 qd
  clear qd
  refine (awake15_any _).mono ?_
  rintro e w13 ⟨rfl, qq0⟩
  refine hK _ _ (Since.trans (Since.drew _) qq0) ?_
  have qq : Since _ _ := qq0
  clear hK K qq0
  replace ra := ra.below qq (Nat.le_refl _)
  replace rb := rb.below qq (Nat.le_refl _)
  replace re := re.below qq (Nat.le_refl _)
  replace q1 := btrans q1 qq
  clear qq
  refine held_reads (rs := [1, 2, 3, 4, 5, 6, 7, 8, 9]) (fuel := 5) (by kernel_rfl) (fun c d v a w h => by cases d <;> exact h) (by kernel_rfl) (Since.refl _) (fun K hK => ?_)
  go_simp
  refine calm_move _ rfl (by rfl) rfl ?_
  go_simp
  refine calm_move _ rfl (by rfl) rfl ?_
  go_simp
  refine calm_do (.bool true) rfl (by rfl) (fun w' hw' => ?_) ?_
  · go_simp
  go_simp
  refine calm_do (.bool true) rfl (by rfl) (fun w' hw' => ?_) ?_
  · go_simp
  go_simp
  refine calm_move _ rfl (by rfl) rfl ?_
  go_simp
  refine calm_move _ rfl (by rfl) rfl ?_
  go_simp
  refine calm_do (.string (strOfNums (nI z4))) rfl (by rfl) (fun w' hw' => ?_) ?_
  · have hcc := conv_row Try.underlying22 Try.underlying5 Try.underlying9 (re.below hw' (Nat.le_refl _))
    go_simp
  go_simp
  refine calm_move _ rfl (by rfl) rfl ?_
  go_simp
  refine calm_move _ rfl (by rfl) rfl ?_
  go_simp
  refine calm_nil (hK.out _ ?_)
  clear hK K
  refine held_call (i := 10) (fuel := 4) (by kernel_rfl) rfl (by rfl) (fun K hK => ?_)
  go_simp
  refine (c12 _ _ _ _ _ ra rb).mono ?_
  rintro e w14 ⟨a12, cp12, rfl, re2, qq0⟩
  refine hK _ _ (Since.trans (Since.refl _) qq0) ?_
  have qq : Since _ _ := qq0
  clear hK K qq0
  replace ra := ra.below qq (Nat.le_refl _)
  replace rb := rb.below qq (Nat.le_refl _)
  replace re := re.below qq (Nat.le_refl _)
  replace q1 := btrans q1 qq
  clear qq
  refine held_reads (rs := [11, 12, 13, 14]) (fuel := 0) (by kernel_rfl) (fun c d v a w h => by cases d <;> exact h) (by kernel_rfl) (Since.refl _) (fun K hK => ?_)
  go_simp
  refine calm_do (.string (strOfNums (nI z4))) rfl (by rfl) (fun w' hw' => ?_) ?_
  · have hcc := conv_row Try.underlying22 Try.underlying5 Try.underlying9 (re2.below hw' (Nat.le_refl _))
    go_simp
  go_simp
  refine calm_do (.bool true) rfl (by rfl) (fun w' hw' => ?_) ?_
  · go_simp
  go_simp
  refine calm_do (.bool true) rfl (by rfl) (fun w' hw' => ?_) ?_
  · go_simp
  go_simp
  refine calm_assign _ rfl (by rfl) rfl ?_
  go_simp
  refine calm_nil (hK.out _ ?_)
  clear hK K
  refine wpAnyH_done (by kernel_rfl) ?_ _
  go_wp2_with fail
  go_ret
  first | exact ⟨rfl, q1⟩ | exact ⟨ret_bool (by simp), q1⟩
end Go.Proofs.Ytcibpnikaemhlaa.N
