/-
  The walks of layer 4's laws BpolyLeast, BpolyMinimal and BpolySums, out of the face of bpoly: each returns true; nothing old turns.
-/
import Derived.Test.YtichbednhdofoaaBpolyFace
namespace Go.Proofs.Ytichbednhdofoaa
open Go.RowKit
set_option linter.unusedVariables false

/-- Two bytes below 8192, not 0: no root but 1. -/
theorem least_two (b x : Nat) (h0 : b ≠ 0) (hb : b < 8192) (hx : x < 8192) (hx0 : x ≠ 0) (hx1 : x ≠ 1) : evl (bts [((b % 256 : Nat) : Int), ((b / 256 : Nat) : Int)]) x ≠ 0 := by
  intro hv
  have hz : IsB [((b % 256 : Nat) : Int), ((b / 256 : Nat) : Int)] := by
    intro n hn
    simp at hn
    omega
  have hn : norm (bts [((b % 256 : Nat) : Int), ((b / 256 : Nat) : Int)]) ≠ [] := by
    intro e
    have hc := (norm_nil_iff _).1 e
    have h1 : ((b % 256 : Nat) : Int) = 0 := byte_ext _ 0 (by omega) (by omega) (by decide) (by decide) fun k hk => by
      have := hc k
      have e2 := cf_bts_int [((b % 256 : Nat) : Int), ((b / 256 : Nat) : Int)] k
      rw [this] at e2
      unfold bitI at e2
      rw [show k / 8 = 0 from by omega, show k % 8 = k from by omega] at e2
      have e3 : bitAt ((b % 256 : Nat) : Int) k = 0 := e2.symm
      rw [e3]
      unfold bitAt
      simp
    have h2 : ((b / 256 : Nat) : Int) = 0 := byte_ext _ 0 (by omega) (by omega) (by decide) (by decide) fun k hk => by
      have := hc (8 + k)
      have e2 := cf_bts_int [((b % 256 : Nat) : Int), ((b / 256 : Nat) : Int)] (8 + k)
      rw [this] at e2
      unfold bitI at e2
      rw [show (8 + k) / 8 = 1 from by omega, show (8 + k) % 8 = k from by omega] at e2
      have e3 : bitAt ((b / 256 : Nat) : Int) k = 0 := e2.symm
      rw [e3]
      unfold bitAt
      simp
    omega
  have hle : (norm (bts [((b % 256 : Nat) : Int), ((b / 256 : Nat) : Int)])).length ≤ 13 := norm_len_le _ _ fun i hi => by
    rw [cf_bts]
    rcases (show i = 13 ∨ i = 14 ∨ i = 15 ∨ 16 ≤ i by omega) with rfl | rfl | rfl | h
    · show (bitAt ((b / 256 : Nat) : Int) 5).toNat = 0
      unfold bitAt
      omega
    · show (bitAt ((b / 256 : Nat) : Int) 6).toNat = 0
      unfold bitAt
      omega
    · show (bitAt ((b / 256 : Nat) : Int) 7).toNat = 0
      unfold bitAt
      omega
    · rw [bitI_past _ _ (by simpa using h)]; rfl
  have := least (is01_bts _) hn hx hx0 hx1 hv
  omega

set_option maxHeartbeats 1600000 in
set_option maxRecDepth 100000 in
theorem walk_bpolyLeast (hD : BDegC) (hM : BMulC) (hO : BModC) (hN : BMinC) (hG : BGenC) (hV : BValC) (n b : Int) (w : World) (n1 : -9223372036854775808 ≤ n) (n2 : n ≤ 9223372036854775807) :
    Calls Try.prog 6 #[.int .i64 n, .int .i64 b] w fun e w' => e = .returned (.bool true) ∧ Below w.heap.size w w' := by
  by_cases hb : 1 ≤ b ∧ b < 8192
  · obtain ⟨k, rfl⟩ := Int.eq_ofNat_of_zero_le (show 0 ≤ b by omega)
    have hk1 : 1 ≤ k := by omega
    have hk2 : k < 8192 := by omega
    clear hb
    have hx := pow_two_ok n
    have HX : Hid (gz 2 n ≠ 1 → evl (bts [((k % 256 : Nat) : Int), ((k / 256 : Nat) : Int)]) (gz 2 n) ≠ 0) := fun h1 => least_two k _ (by omega) hk2 hx.1 hx.2 h1
    have hx1 := hx.1
    clear hx
    have hk3 : ((k : Int) % 256) % 256 = ((k % 256 : Nat) : Int) := by omega
    have hk4 : ((k : Int) / 256) % 256 = ((k / 256 : Nat) : Int) := by omega
    have HK3 : Hid (((k : Int) % 256) % 256 = ((k % 256 : Nat) : Int)) := hk3
    have HK4 : Hid (((k : Int) / 256) % 256 = ((k / 256 : Nat) : Int)) := hk4
    have HK5 : Hid ((k : Int) % 256 = ((k % 256 : Nat) : Int)) := by show _ = _; omega
    have HK6 : Hid ((k : Int) / 256 = ((k / 256 : Nat) : Int)) := by show _ = _; omega
    clear hk3 hk4
    have hz : IsB [((k % 256 : Nat) : Int), ((k / 256 : Nat) : Int)] := by
      intro n hn
      simp at hn
      omega
    go_enter Try.func6, Try.ntmps6
    go_wp2_with fail
    refine (refExp_any n _ n1 n2).mono ?_
    rintro e w' ⟨rfl, rfl⟩
    generalize gz 2 n = x at *
    go_wp2_with fail
    first | rw [HK3.out] | rw [HK5.out] | skip
    first | rw [HK4.out] | rw [HK6.out] | skip
    have hr1 := row_new .u8 w 5 w.heap.size rfl [((k % 256 : Nat) : Int), ((k / 256 : Nat) : Int)] 2 rfl (by decide) #[.int .u8 ((k % 256 : Nat) : Int), .int .u8 ((k / 256 : Nat) : Int)] rfl
    refine (hV.yes _ _ _ _ x _ hr1 hz (by decide) hx1).mono ?_
    rintro e w1 ⟨rfl, q1⟩
    replace q1 := btrans (below_one w _) q1
    clear hr1
    have hv := HX.out
    clear HX
    generalize evl (bts [((k % 256 : Nat) : Int), ((k / 256 : Nat) : Int)]) x = v at *
    go_wp2_with fail
    refine (awake4_any hD hM hO hN hG _).mono ?_
    rintro e w2 ⟨rfl, q2⟩
    replace q1 := btrans q1 q2
    by_cases h1 : x = 1
    · have hq : ((x : Int) == 1) = true := by simp [h1]
      clear hv h1
      go_wp2_with fail
      go_ret
      exact ⟨rfl, q1⟩
    · have hq : ((x : Int) == 1) = false := by simp; omega
      have hv' := hv h1
      have hq2 : ((v : Int) != 0) = true := by simp; omega
      clear hv h1 hv'
      go_wp2_with fail
      go_ret
      exact ⟨rfl, q1⟩
  · by_cases h1 : b < 1
    · go_enter Try.func6, Try.ntmps6
      go_wp2_with fail
      go_ret
      exact ⟨rfl, Below.refl _ _⟩
    · have h2 : 8192 ≤ b := by omega
      have h3 : 1 ≤ b := by omega
      go_enter Try.func6, Try.ntmps6
      go_wp2_with fail
      go_ret
      exact ⟨rfl, Below.refl _ _⟩

theorem min_double (n : Int) : minp (gz 2 (2 * n.tmod 8191)) = minp (gz 2 n) := by
  have h := pow_two_ok n
  have e : gz 2 (2 * n.tmod 8191) = gmul (gz 2 n) (gz 2 n) := by
    rw [← gz_add 2 n n (by decide) (by decide)]
    apply gz_congr
    have := Int.tmod_add_mul_tdiv n 8191
    omega
  rw [e, minp_sq _ h.1 h.2]
theorem min_bytes (n : Int) : (pk (minp (gz 2 n))).length = (if gz 2 n = 1 then 1 else 2) := by
  rw [length_pk, (min_ok n).len]
  split <;> rfl
theorem min_deg (n : Int) : (norm (bts (pk (minp (gz 2 n))))).length = if gz 2 n = 1 then 2 else 14 := by
  rw [norm_ext (bts_pk (min_ok n).h01), (min_ok n).nm, (min_ok n).len]
theorem min_val (n : Int) : evl (bts (pk (minp (gz 2 n)))) (gz 2 n) = 0 := by
  rw [evl_eqv _ (bts_pk (min_ok n).h01), (min_ok n).val]
theorem row_bts {w : World} {base : Nat} {e : TypeId} {v : Value} {z : List Int} {len : Nat} (hz : z.length = len) (h : w.ownsRow base e 1 v (8 * len) ((bitsTo z (8 * len)).map (Value.int .i64))) :
    ∃ a cap, v = .slice a (8 * len) cap ∧ Row .i64 w a (8 * len) cap (ints (bts z)) := by
  rw [ints_bts, hz]
  exact row_of_owns h

set_option maxHeartbeats 3200000 in
set_option maxRecDepth 100000 in
theorem walk_bpolyMinimal (hD : BDegC) (hM : BMulC) (hO : BModC) (hN : BMinC) (hG : BGenC) (n : Int) (w : World) (n1 : -9223372036854775808 ≤ n) (n2 : n ≤ 9223372036854775807) :
    Calls Try.prog 5 #[.int .i64 n] w fun e w' => e = .returned (.bool true) ∧ Below w.heap.size w w' := by
  have HDB : Hid (minp (gz 2 (2 * n.tmod 8191)) = minp (gz 2 n)) := min_double n
  have HLN := min_bytes n
  have HDG := min_deg n
  have HVL : Hid (evl (bts (pk (minp (gz 2 n)))) (gz 2 n) = 0) := min_val n
  have hxl := (pow_two_ok n).1
  have hB := isB_pk (min_ok n).h01
  have h01 := is01_bts (pk (minp (gz 2 n)))
  have ht1 := Int.tmod_lt_of_pos n (show (0 : Int) < 8191 by decide)
  have ht2 := Int.lt_tmod_of_pos n (show (0 : Int) < 8191 by decide)
  have hp := hN n w n1 n2
  have hx := refExp_any n
  have hd : ∀ w', Calls Try.prog 25 #[.int .i64 (2 * n.tmod 8191)] w' (Gives w' (pk (minp (gz 2 n)))) := fun w' => by
    have := hN (2 * n.tmod 8191) w' (by omega) (by omega)
    rwa [HDB.out] at this
  clear HDB
  generalize pk (minp (gz 2 n)) = z at *
  generalize gz 2 n = x at *
  have HTM : Hid (0 ≤ n → n.tmod 8191 = n % 8191) := fun h => Int.tmod_eq_emod_of_nonneg h
  by_cases h1 : x = 1
  · rw [if_pos h1] at HLN HDG
    have HLZ : Hid (z.length = 1) := HLN
    have HDZ : Hid ((norm (bts z)).length = 2) := HDG
    clear HLN HDG
    have hq1 : ((x : Int) == 1) = true := by simp; omega
    clear h1
    go_enter Try.func5, Try.ntmps5
    go_wp2_with fail
    refine hp.mono ?_
    rintro e w1 ⟨a1, cp1, rfl, hrow1, q1⟩
    clear hp
    rw [HLZ.out] at hrow1 ⊢
    go_wp2_with fail
    refine (hx _ n1 n2).mono ?_
    rintro e w' ⟨rfl, rfl⟩
    go_wp2_with fail
    first
      | refine (hd _).mono ?_
      | (rw [← HTM.out (by omega)]; refine (hd _).mono ?_)
    rintro e w2 ⟨a2, cp2, rfl, hrow2, q2⟩
    rw [HLZ.out] at hrow2 ⊢
    replace hrow1 := hrow1.below q2 (Nat.le_refl _)
    replace q1 := btrans q1 q2
    clear q2
    go_wp2_with fail
    refine (awake4_any hD hM hO hN hG _).mono ?_
    rintro e w3 ⟨rfl, q2⟩
    replace hrow1 := hrow1.below q2 (Nat.le_refl _)
    replace hrow2 := hrow2.below q2 (Nat.le_refl _)
    replace q1 := btrans q1 q2
    clear q2
    go_wp2_with fail
    refine (all_any _ _ _ z _ hrow1 hB (by omega)).mono ?_
    rintro e w4 ⟨v4, rfl, hown4, q2⟩
    obtain ⟨a4, cp4, rfl, hrow4⟩ := row_bts HLZ.out hown4
    clear hown4
    replace hrow1 := hrow1.below q2 (Nat.le_refl _)
    replace hrow2 := hrow2.below q2 (Nat.le_refl _)
    replace q1 := btrans q1 q2
    clear q2
    go_wp2_with fail
    refine (refDeg_any _ _ _ (bts z) _ hrow4 (by omega)).mono ?_
    rintro e w' ⟨rfl, rfl⟩
    rw [HDZ.out]
    clear hrow4
    go_wp2_with fail
    refine (all_any _ _ _ z _ hrow1 hB (by omega)).mono ?_
    rintro e w5 ⟨v5, rfl, hown5, q2⟩
    obtain ⟨a5, cp5, rfl, hrow5⟩ := row_bts HLZ.out hown5
    clear hown5
    replace hrow1 := hrow1.below q2 (Nat.le_refl _)
    replace hrow2 := hrow2.below q2 (Nat.le_refl _)
    replace q1 := btrans q1 q2
    clear q2
    go_wp2_with fail
    refine (refVal_any _ _ _ (bts z) x _ hrow5 h01 hxl (by omega)).mono ?_
    rintro e w' ⟨rfl, rfl⟩
    rw [HVL.out]
    have hcv1 := conv_row Try.underlying22 Try.underlying5 Try.underlying9 hrow1
    have hcv2 := conv_row Try.underlying22 Try.underlying5 Try.underlying9 hrow2
    clear hrow1 hrow2 hrow5
    go_wp2_with fail
    go_ret
    exact ⟨rfl, q1⟩
  · rw [if_neg h1] at HLN HDG
    have HLZ : Hid (z.length = 2) := HLN
    have HDZ : Hid ((norm (bts z)).length = 14) := HDG
    clear HLN HDG
    have hq1 : ((x : Int) == 1) = false := by simp; omega
    clear h1
    go_enter Try.func5, Try.ntmps5
    go_wp2_with fail
    refine hp.mono ?_
    rintro e w1 ⟨a1, cp1, rfl, hrow1, q1⟩
    clear hp
    rw [HLZ.out] at hrow1 ⊢
    go_wp2_with fail
    refine (hx _ n1 n2).mono ?_
    rintro e w' ⟨rfl, rfl⟩
    go_wp2_with fail
    first
      | refine (hd _).mono ?_
      | (rw [← HTM.out (by omega)]; refine (hd _).mono ?_)
    rintro e w2 ⟨a2, cp2, rfl, hrow2, q2⟩
    rw [HLZ.out] at hrow2 ⊢
    replace hrow1 := hrow1.below q2 (Nat.le_refl _)
    replace q1 := btrans q1 q2
    clear q2
    go_wp2_with fail
    refine (awake4_any hD hM hO hN hG _).mono ?_
    rintro e w3 ⟨rfl, q2⟩
    replace hrow1 := hrow1.below q2 (Nat.le_refl _)
    replace hrow2 := hrow2.below q2 (Nat.le_refl _)
    replace q1 := btrans q1 q2
    clear q2
    go_wp2_with fail
    refine (all_any _ _ _ z _ hrow1 hB (by omega)).mono ?_
    rintro e w4 ⟨v4, rfl, hown4, q2⟩
    obtain ⟨a4, cp4, rfl, hrow4⟩ := row_bts HLZ.out hown4
    clear hown4
    replace hrow1 := hrow1.below q2 (Nat.le_refl _)
    replace hrow2 := hrow2.below q2 (Nat.le_refl _)
    replace q1 := btrans q1 q2
    clear q2
    go_wp2_with fail
    refine (refDeg_any _ _ _ (bts z) _ hrow4 (by omega)).mono ?_
    rintro e w' ⟨rfl, rfl⟩
    rw [HDZ.out]
    clear hrow4
    go_wp2_with fail
    refine (all_any _ _ _ z _ hrow1 hB (by omega)).mono ?_
    rintro e w5 ⟨v5, rfl, hown5, q2⟩
    obtain ⟨a5, cp5, rfl, hrow5⟩ := row_bts HLZ.out hown5
    clear hown5
    replace hrow1 := hrow1.below q2 (Nat.le_refl _)
    replace hrow2 := hrow2.below q2 (Nat.le_refl _)
    replace q1 := btrans q1 q2
    clear q2
    go_wp2_with fail
    refine (refVal_any _ _ _ (bts z) x _ hrow5 h01 hxl (by omega)).mono ?_
    rintro e w' ⟨rfl, rfl⟩
    rw [HVL.out]
    have hcv1 := conv_row Try.underlying22 Try.underlying5 Try.underlying9 hrow1
    have hcv2 := conv_row Try.underlying22 Try.underlying5 Try.underlying9 hrow2
    clear hrow1 hrow2 hrow5
    go_wp2_with fail
    go_ret
    exact ⟨rfl, q1⟩

end Go.Proofs.Ytichbednhdofoaa
