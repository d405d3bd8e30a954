/-
  Layer 13's laws: the walk of Sha256Constants.
-/
import Derived.Test.YtoijeefmddopbaaShaLaws
namespace Go.Proofs.Ytoijeefmddopbaa
open Go.RowKit
set_option linter.unusedVariables false
set_option maxRecDepth 8192

theorem walk_constants_no (n : Int) (w : World) (h : n < 0 ∨ 100 < n) : Calls Try.prog 3 #[.int .i64 n] w fun e w' => e = .returned (.bool true) ∧ Below w.heap.size w w' := by
  have hp := fun w => shaPrimes_no n w h
  rcases h with h | h
  all_goals
    go_enter Try.func3, Try.ntmps3
    go_wp2_with fail
    refine (hp _).mono ?_
    rintro e w' ⟨rfl, rfl⟩
    go_wp2_with fail
    refine (awake13_any _).mono ?_
    rintro e w1 ⟨rfl, q1⟩
    go_wp2_with fail
    go_ret
    exact ⟨rfl, q1⟩
set_option maxHeartbeats 3200000 in
theorem walk_constants_gen (K SS : List Nat) (hK : K.length = 64) (hS : SS.length = 8) (hKl : ∀ x ∈ K, x < 4294967296) (hSl : ∀ x ∈ SS, x < 4294967296)
    (cSt : ∀ w, Calls Try.prog 13 #[] w fun e w' => e = .returned (.agg ((nI SS).map (Value.int .u32)).toArray) ∧ Below w.heap.size w w')
    (cR : ∀ w, Calls Try.prog 14 #[] w fun e w' => e = .returned (.agg ((nI K).map (Value.int .u32)).toArray) ∧ Below w.heap.size w w')
    (dSt : ∀ w, Calls Try.prog 15 #[] w fun e w' => ∃ v, e = .returned v ∧ w'.ownsRow w.heap.size 3 1 v 8 ((nI SS).map (Value.int .i64)) ∧ Below w.heap.size w w')
    (dR : ∀ w, Calls Try.prog 16 #[] w fun e w' => ∃ v, e = .returned v ∧ w'.ownsRow w.heap.size 3 1 v 64 ((nI K).map (Value.int .i64)) ∧ Below w.heap.size w w')
    (n : Nat) (w : World) (hn : n ≤ 100) : Calls Try.prog 3 #[.int .i64 (n : Int)] w fun e w' => e = .returned (.bool true) ∧ Below w.heap.size w w' := by
  have HK : Hid ((nI K).length = 64) := by show _ = _; rw [nI_length, hK]
  have HS : Hid ((nI SS).length = 8) := by show _ = _; rw [nI_length, hS]
  have HKl : Hid (∀ x ∈ K, x < 4294967296) := hKl
  have HSl : Hid (∀ x ∈ SS, x < 4294967296) := hSl
  clear hK hS hKl hSl
  go_enter Try.func3, Try.ntmps3
  go_wp2_with fail
  refine (shaPrimes_yes n _ hn).mono ?_
  rintro e w1 ⟨v1, rfl, own1, q1⟩
  obtain ⟨a1, c1, rfl, r1⟩ := row_of_owns own1
  clear own1
  go_wp2_with fail
  refine (refPrimes_yes n _ hn).mono ?_
  rintro e w2 ⟨v2, rfl, own2, q2⟩
  obtain ⟨a2, c2, rfl, r2⟩ := row_of_owns own2
  clear own2
  replace r1 := r1.below q2 (Nat.le_refl _)
  replace q1 := btrans q1 q2
  clear q2
  go_wp2_with fail
  refine (ints_any a1 a2 n c1 n c2 _ _ _ r1 r2).mono ?_
  rintro e w3 ⟨rfl, q3⟩
  rw [decide_eq_true rfl]
  replace q1 := btrans q1 q3
  clear q3 r1 r2
  go_wp2_with fail
  refine (cSt _).mono ?_
  rintro e w4 ⟨rfl, q4⟩
  replace q1 := btrans q1 q4
  clear q4 cSt
  have s4 := q1.size
  have A5 := Arr.new w4 30 .u32 (nI (List.replicate 8 0)) _ rfl
  go_upto_region 7 with (refine wpList_storeA rfl 30 _ _ rfl w4.heap.size (nI SS) rfl rfl A5 Try.size30 (by decide +kernel) HS.out ?_)
  rw [show ∀ a : Act, a.put none undef = a from fun _ => rfl]
  replace A5 := A5.whole (nI SS)
  replace q1 := below_setRow (q1.alloc s4 (.cells ((nI (List.replicate 8 0)).map (Value.int .u32)).toArray 30)) s4 ((nI SS).map (Value.int .u32)).toArray
  change Code.wp _ _ _ _ ((w4.alloc (.cells ((nI (List.replicate 8 0)).map (Value.int .u32)).toArray 30)).setRow w4.heap.size ((nI SS).map (Value.int .u32)).toArray)
  generalize (w4.alloc (.cells ((nI (List.replicate 8 0)).map (Value.int .u32)).toArray 30)).setRow w4.heap.size ((nI SS).map (Value.int .u32)).toArray = w5 at *
  generalize w4.heap.size = g5 at *
  go_wp2_with fail
  refine (cR _).mono ?_
  rintro e w6 ⟨rfl, q6⟩
  replace A5 := A5.below q6 A5.lt
  replace q1 := btrans q1 q6
  clear q6 cR
  have s6 := q1.size
  have l5 := A5.lt
  have A6 := Arr.new w6 32 .u32 (nI (List.replicate 64 0)) _ rfl
  go_upto_region 8 with (refine wpList_storeA rfl 32 _ _ rfl w6.heap.size (nI K) rfl rfl A6 Try.size32 (by decide +kernel) HK.out ?_)
  rw [show ∀ a : Act, a.put none undef = a from fun _ => rfl]
  replace A6 := A6.whole (nI K)
  replace A5 := (A5.alloc (.cells ((nI (List.replicate 64 0)).map (Value.int .u32)).toArray 32)).whole_other ((nI K).map (Value.int .u32)).toArray (show g5 ≠ w6.heap.size by omega)
  replace q1 := below_setRow (q1.alloc s6 (.cells ((nI (List.replicate 64 0)).map (Value.int .u32)).toArray 32)) s6 ((nI K).map (Value.int .u32)).toArray
  change Code.wp _ _ _ _ ((w6.alloc (.cells ((nI (List.replicate 64 0)).map (Value.int .u32)).toArray 32)).setRow w6.heap.size ((nI K).map (Value.int .u32)).toArray)
  generalize (w6.alloc (.cells ((nI (List.replicate 64 0)).map (Value.int .u32)).toArray 32)).setRow w6.heap.size ((nI K).map (Value.int .u32)).toArray = w7 at *
  generalize w6.heap.size = g6 at *
  go_wp2_with fail
  refine (dSt _).mono ?_
  rintro e w8 ⟨v8, rfl, own8, q8⟩
  obtain ⟨a8, c8, rfl, r8⟩ := row_of_owns own8
  replace A5 := A5.below q8 A5.lt
  replace A6 := A6.below q8 A6.lt
  replace q1 := btrans q1 q8
  clear own8 q8 dSt
  go_wp2_with fail
  refine (dR _).mono ?_
  rintro e w9 ⟨v9, rfl, own9, q9⟩
  obtain ⟨a9, c9, rfl, r9⟩ := row_of_owns own9
  replace A5 := A5.below q9 A5.lt
  replace A6 := A6.below q9 A6.lt
  replace r8 := r8.below q9 (Nat.le_refl _)
  replace q1 := btrans q1 q9
  clear own9 q9 dR
  have HA5 : Hid (Arr w9 g5 30 .u32 (nI SS)) := A5
  have HA6 : Hid (Arr w9 g6 32 .u32 (nI K)) := A6
  clear A5 A6
  obtain ⟨b8, o8, rfl, _, hc8⟩ := r8.hcell (by decide)
  obtain ⟨b9, o9, rfl, _, hc9⟩ := r9.hcell (by decide)
  have H8 : Hid (∀ i, i < 8 → w9.cell? ⟨b8, o8 + i, none⟩ = some (.int .i64 ((nI SS)[i]?.getD 0))) := hc8
  have H9 : Hid (∀ i, i < 64 → w9.cell? ⟨b9, o9 + i, none⟩ = some (.int .i64 ((nI K)[i]?.getD 0))) := hc9
  clear hc8 hc9 r8 r9
  go_wp2
  go_loopw [9] (fun y wr => ∃ (i m : Nat), i ≤ 64 ∧ y = .int .i64 (i : Int) ∧ wr = w9.drewN m) (fun y _ => 64 - (intOf y).toNat)
  case atStart => exact ⟨0, 0, by omega, rfl, rfl⟩
  case round =>
    obtain ⟨i, m, hi, rfl, rfl⟩ := hrel
    by_cases h64 : i < 64
    · have cK := HA6.out.cell i (by rw [HK.out]; exact h64)
      have dK := H9.out i h64
      rw [nI_get] at cK dK
      have lK := getD_lt (by decide) HKl.out i
      generalize K[i]?.getD 0 = k at *
      have hkk : ((k : Int) != (k : Int)) = false := by simp
      by_cases h8 : i < 8
      · have cS := HA5.out.cell i (by rw [HS.out]; exact h8)
        have dS := H8.out i h8
        rw [nI_get] at cS dS
        have lS := getD_lt (by decide) HSl.out i
        generalize SS[i]?.getD 0 = s at *
        have hss : ((s : Int) != (s : Int)) = false := by simp
        have hi8 : (i : Int) < 8 := by omega
        have hi64 : (i : Int) < 64 := by omega
        go_wp2_with fail
        go_quiet (fail)
        go_wp2
        go_roundw
        case rel => exact ⟨i + 1, _, by omega, by go_num, by first | trivial | rfl | (rw [World.drewN_drewN])⟩
        case measure => simp [intOf]; omega
      · have hi8 : decide ((i : Int) < 8) = false := decide_eq_false (by omega)
        have hi64 : (i : Int) < 64 := by omega
        go_wp2_with fail
        go_quiet (fail)
        go_wp2
        go_roundw
        case rel => exact ⟨i + 1, _, by omega, by go_num, by first | trivial | rfl | (rw [World.drewN_drewN])⟩
        case measure => simp [intOf]; omega
    · obtain rfl : i = 64 := by omega
      go_wp2_with fail
      refine (awake13_any _).mono ?_
      rintro e wE ⟨rfl, qE⟩
      go_wp2
      go_ret
      exact ⟨rfl, btrans (belowN q1 m) qE⟩
theorem SL_lt : ∀ x ∈ SL, x < 4294967296 := by decide +kernel
theorem walk_Sha256Constants (n : Int) (w : World) : Calls Try.prog 3 #[.int .i64 n] w fun e w' => e = .returned (.bool true) ∧ Below w.heap.size w w' := by
  by_cases h : n < 0 ∨ 100 < n
  · exact walk_constants_no n w h
  · obtain ⟨m, rfl⟩ := Int.eq_ofNat_of_zero_le (show 0 ≤ n by omega)
    exact walk_constants_gen KL SL KL_length SL_length KL_lt SL_lt start_any rounds_any refStart13 refRounds13 m w (by omega)
end Go.Proofs.Ytoijeefmddopbaa
