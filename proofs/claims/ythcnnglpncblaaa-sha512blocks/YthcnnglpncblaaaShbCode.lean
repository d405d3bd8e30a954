/-
  The code of layer 14 (sha512), as it landed: step, square, squareTop, cubeTop, root, RotateLeft64, rotr.
-/
import Derived.Test.YthcnnglpncblaaaShbConst
import Derived.Test.YthcnnglpncblaaaShaCode2
import Derived.Laws.Externs
namespace Go.Proofs.Ythcnnglpncblaaa.B
open Go.RowKit
set_option linter.unusedVariables false
set_option maxRecDepth 8192

theorem ret_two {k1 k2 : IntKind} {a b c d : Int} (h1 : a = b) (h2 : c = d) : Ending.returned (.tuple #[.int k1 a, .int k2 c]) = .returned (.tuple #[.int k1 b, .int k2 d]) := by rw [h1, h2]
theorem ret_three {k1 k2 k3 : IntKind} {a b c d x y : Int} (h1 : a = b) (h2 : c = d) (h3 : x = y) : Ending.returned (.tuple #[.int k1 a, .int k2 c, .int k3 x]) = .returned (.tuple #[.int k1 b, .int k2 d, .int k3 y]) := by rw [h1, h2, h3]
theorem stLo_lt (x y s o : Nat) : stLo x y s o < 18446744073709551616 := Nat.mod_lt _ (by decide)
theorem stHi_le {x y s o : Nat} (hy : y < 18446744073709551616) (h : s + o < 18446744073709551616 + x) : stHi x y s o ≤ x := by
  unfold stHi
  have h1 : x * y ≤ x * 18446744073709551615 := Nat.mul_le_mul_left _ (by omega)
  omega
theorem stHi_le2 {x y s o : Nat} (hx : x < 18446744073709551616) (hs : s < 18446744073709551616) (ho : o < 18446744073709551616) : stHi x y s o ≤ y + 1 := by
  unfold stHi
  have h1 : x * y ≤ 18446744073709551615 * y := Nat.mul_le_mul_right _ (by omega)
  omega
theorem stHi_lt {x y s o : Nat} (hx : x < 18446744073709551616) (hy : y < 18446744073709551616) (hs : s < 18446744073709551616) (ho : o < 18446744073709551616) : stHi x y s o < 18446744073709551616 := by
  unfold stHi
  have h1 : x * y ≤ 18446744073709551615 * 18446744073709551615 := Nat.mul_le_mul (by omega) (by omega)
  generalize x * y = m at *
  omega
theorem sqT_le {u p : Nat} (hp : p < 18446744073709551616) : sqT u p ≤ u * u + 2 * u := by
  unfold sqT
  have h1 : p * p / 18446744073709551616 < 18446744073709551616 := by
    rw [Nat.div_lt_iff_lt_mul (by decide)]
    exact Nat.mul_lt_mul_of_lt_of_lt hp hp
  have := stHi_le (x := 2 * u) (y := p) (s := p * p / 18446744073709551616) (o := 0) hp (by omega)
  omega
theorem sqM_lt (u p : Nat) : sqM u p < 18446744073709551616 := stLo_lt _ _ _ _
theorem sqL_lt (p : Nat) : sqL p < 18446744073709551616 := Nat.mod_lt _ (by decide)
theorem add64_any (x y : Nat) (w : World) : (callFunc 42 #[.int .u64 (x : Int), .int .u64 (y : Int), .int .u64 0]).run Try.prog w =
    .ok (.value (.tuple #[.int .u64 (((x + y) % 18446744073709551616 : Nat) : Int), .int .u64 (((x + y) / 18446744073709551616 : Nat) : Int)])) w := by
  rw [run_callFunc_extern Try.func42 (by kernel_rfl) (by kernel_rfl) (by kernel_rfl) (e := add64Entry) (by kernel_rfl), run_add64 x y 0 (by omega) (by omega) (by decide) (by decide)]
  simp only [Result.andThen]
  congr 5 <;> omega
theorem step_parts (x y s o : Nat) (hx : x < 18446744073709551616) (hy : y < 18446744073709551616) (hs : s < 18446744073709551616) (ho : o < 18446744073709551616) (hi lo c1 c2 l1 l2 : Nat)
    (h1 : x * y / 18446744073709551616 = hi) (h2 : x * y % 18446744073709551616 = lo) (h3 : (lo + s) % 18446744073709551616 = l1) (h4 : (lo + s) / 18446744073709551616 = c1) (h5 : (l1 + o) % 18446744073709551616 = l2) (h6 : (l1 + o) / 18446744073709551616 = c2) :
    l2 = stLo x y s o ∧ hi + c1 + c2 = stHi x y s o ∧ hi + c1 + c2 < 18446744073709551616 := by
  have hxy : x * y ≤ 18446744073709551615 * 18446744073709551615 := Nat.mul_le_mul (by omega) (by omega)
  unfold stLo stHi
  generalize x * y = m at *
  omega
set_option maxHeartbeats 1600000 in
theorem step_any (x y s o : Nat) (w : World) (hx : x < 18446744073709551616) (hy : y < 18446744073709551616) (hs : s < 18446744073709551616) (ho : o < 18446744073709551616) :
    Calls Try.prog 34 #[.int .u64 (x : Int), .int .u64 (y : Int), .int .u64 (s : Int), .int .u64 (o : Int)] w fun e w' => e = .returned (.tuple #[.int .u64 ((stLo x y s o : Nat) : Int), .int .u64 ((stHi x y s o : Nat) : Int)]) ∧ w = w' := by
  obtain ⟨hi, h1⟩ : ∃ a, x * y / 18446744073709551616 = a := ⟨_, rfl⟩
  obtain ⟨lo, h2⟩ : ∃ a, x * y % 18446744073709551616 = a := ⟨_, rfl⟩
  obtain ⟨l1, h3⟩ : ∃ a, (lo + s) % 18446744073709551616 = a := ⟨_, rfl⟩
  obtain ⟨c1, h4⟩ : ∃ a, (lo + s) / 18446744073709551616 = a := ⟨_, rfl⟩
  obtain ⟨l2, h5⟩ : ∃ a, (l1 + o) % 18446744073709551616 = a := ⟨_, rfl⟩
  obtain ⟨c2, h6⟩ : ∃ a, (l1 + o) / 18446744073709551616 = a := ⟨_, rfl⟩
  obtain ⟨r1, r2, r3⟩ := step_parts x y s o hx hy hs ho hi lo c1 c2 l1 l2 h1 h2 h3 h4 h5 h6
  have hm := mul64_any x y hx hy w
  rw [h1, h2] at hm
  have a1 := fun w => add64_any lo s w
  rw [h3, h4] at a1
  have a2 := fun w => add64_any l1 o w
  rw [h5, h6] at a2
  have R1 : Hid (l2 = stLo x y s o) := r1
  have R2 : Hid (hi + c1 + c2 = stHi x y s o) := r2
  clear h1 h2 h3 h4 h5 h6 r1 r2
  go_enter Try.func34, Try.ntmps34
  go_wp2_with fail
  refine hm.mono ?_
  rintro e w' ⟨rfl, rfl⟩
  clear hm
  go_wp2_with (first | rw [a1 _] | rw [a2 _])
  go_ret2
  exact ⟨ret_two (by rw [R1.out]) (by rw [← R2.out]; go_num), rfl⟩
set_option maxHeartbeats 1600000 in
theorem square_any (u p : Nat) (w : World) (hu : u ≤ 30) (hp : p < 18446744073709551616) :
    Calls Try.prog 33 #[.int .u64 (u : Int), .int .u64 (p : Int)] w fun e w' => e = .returned (.tuple #[.int .u64 ((sqT u p : Nat) : Int), .int .u64 ((sqM u p : Nat) : Int), .int .u64 ((sqL p : Nat) : Int)]) ∧ w = w' := by
  have hpp : p * p / 18446744073709551616 < 18446744073709551616 := by
    rw [Nat.div_lt_iff_lt_mul (by decide)]
    exact Nat.mul_lt_mul_of_lt_of_lt hp hp
  have hm := mul64_any p p hp hp w
  have hst := fun w => step_any (2 * u) p (p * p / 18446744073709551616) 0 w (by omega) hp hpp (by decide)
  have hov := stHi_le (x := 2 * u) (y := p) (s := p * p / 18446744073709551616) (o := 0) hp (by omega)
  have huu : u * u ≤ 30 * 30 := Nat.mul_le_mul hu hu
  have HT : Hid (u * u + stHi (2 * u) p (p * p / 18446744073709551616) 0 = sqT u p) := rfl
  have HM : Hid (stLo (2 * u) p (p * p / 18446744073709551616) 0 = sqM u p) := rfl
  have HL : Hid (p * p % 18446744073709551616 = sqL p) := rfl
  generalize sqT u p = rT at *
  generalize sqM u p = rM at *
  generalize sqL p = rL at *
  generalize stHi (2 * u) p (p * p / 18446744073709551616) 0 = ov at *
  generalize stLo (2 * u) p (p * p / 18446744073709551616) 0 = mid at *
  generalize p * p / 18446744073709551616 = hi at *
  generalize p * p % 18446744073709551616 = lo at *
  obtain ⟨u2, h2⟩ : ∃ d, 2 * u = d := ⟨_, rfl⟩
  rw [h2] at hst hov
  have e2 : (2 : Int) * (u : Int) = (u2 : Int) := by omega
  have hu2 : u2 ≤ 60 := by omega
  have e3 : (u : Int) * (u : Int) = ((u * u : Nat) : Int) := (Int.natCast_mul u u).symm
  generalize u * u = uu at *
  clear h2
  go_enter Try.func33, Try.ntmps33
  go_wp2_with fail
  refine hm.mono ?_
  rintro e w' ⟨rfl, rfl⟩
  clear hm
  go_wp2_with fail
  refine (hst _).mono ?_
  rintro e w' ⟨rfl, rfl⟩
  clear hst
  go_wp2
  go_ret3
  exact ⟨ret_three (by rw [← HT.out]; go_num) (by rw [← HM.out]) (by rw [← HL.out]), rfl⟩
theorem squareTop_any (u p : Nat) (w : World) (hu : u ≤ 30) (hp : p < 18446744073709551616) :
    Calls Try.prog 24 #[.int .u64 (u : Int), .int .u64 (p : Int)] w fun e w' => e = .returned (.int .u64 ((sqT u p : Nat) : Int)) ∧ w = w' := by
  have h := square_any u p w hu hp
  generalize sqT u p = rT at *
  generalize sqM u p = rM at *
  generalize sqL p = rL at *
  go_enter Try.func24, Try.ntmps24
  go_wp2_with fail
  refine h.mono ?_
  rintro e w' ⟨rfl, rfl⟩
  go_wp2
  go_ret
  exact ⟨rfl, rfl⟩
set_option maxHeartbeats 1600000 in
theorem cubeTop_any (u p : Nat) (w : World) (hu : u ≤ 30) (hp : p < 18446744073709551616) :
    Calls Try.prog 21 #[.int .u64 (u : Int), .int .u64 (p : Int)] w fun e w' => e = .returned (.int .u64 ((cbT u p : Nat) : Int)) ∧ w = w' := by
  have hu64 : u < 18446744073709551616 := by omega
  have h := square_any u p w hu hp
  have huu : u * u ≤ 30 * 30 := Nat.mul_le_mul hu hu
  have bT : sqT u p ≤ 960 := by have := sqT_le (u := u) hp; omega
  have bM := sqM_lt u p
  have bL := sqL_lt p
  have bTu : sqT u p * u ≤ 960 * 30 := Nat.mul_le_mul bT hu
  have k1 := fun w => step_any (sqL p) p 0 0 w bL hp (by decide) (by decide)
  have b1 : cb1 u p < 18446744073709551616 := stHi_lt bL hp (by decide) (by decide)
  have k2 := fun w => step_any (sqM u p) p 0 (cb1 u p) w bM hp (by decide) b1
  have b2 : cb2 u p < 18446744073709551616 := stHi_lt bM hp (by decide) b1
  have k3 := fun w => step_any (sqT u p) p 0 (cb2 u p) w (by omega) hp (by decide) b2
  have b3 : cb3 u p ≤ sqT u p := stHi_le hp (by omega)
  have bF : cbF u p < 18446744073709551616 := stLo_lt _ _ _ _
  have bS : cbS u p < 18446744073709551616 := stLo_lt _ _ _ _
  have k4 := fun w => step_any (sqL p) u (cbF u p) 0 w bL hu64 bF (by decide)
  have b4 : cb4 u p < 18446744073709551616 := stHi_lt bL hu64 bF (by decide)
  have k5 := fun w => step_any (sqM u p) u (cbS u p) (cb4 u p) w bM hu64 bS b4
  have b5 : cb5 u p ≤ u + 1 := stHi_le2 bM bS b4
  have HC : Hid (cb3 u p + sqT u p * u + cb5 u p = cbT u p) := rfl
  rw [show stHi (sqL p) p 0 0 = cb1 u p from rfl] at k1
  rw [show stHi (sqM u p) p 0 (cb1 u p) = cb2 u p from rfl, show stLo (sqM u p) p 0 (cb1 u p) = cbF u p from rfl] at k2
  rw [show stHi (sqT u p) p 0 (cb2 u p) = cb3 u p from rfl, show stLo (sqT u p) p 0 (cb2 u p) = cbS u p from rfl] at k3
  rw [show stHi (sqL p) u (cbF u p) 0 = cb4 u p from rfl] at k4
  rw [show stHi (sqM u p) u (cbS u p) (cb4 u p) = cb5 u p from rfl] at k5
  generalize stLo (sqL p) p 0 0 = l1 at *
  generalize stLo (sqL p) u (cbF u p) 0 = l4 at *
  generalize stLo (sqM u p) u (cbS u p) (cb4 u p) = l5 at *
  generalize cbT u p = rC at *
  generalize cb1 u p = c1 at *
  generalize cb2 u p = c2 at *
  generalize cb3 u p = c3 at *
  generalize cb4 u p = c4 at *
  generalize cb5 u p = c5 at *
  generalize cbF u p = cF at *
  generalize cbS u p = cS at *
  generalize sqT u p = rT at *
  generalize sqM u p = rM at *
  generalize sqL p = rL at *
  have e3 : (rT : Int) * (u : Int) = ((rT * u : Nat) : Int) := (Int.natCast_mul rT u).symm
  generalize rT * u = ru at *
  clear huu
  go_enter Try.func21, Try.ntmps21
  go_wp2_with fail
  refine h.mono ?_
  rintro e w' ⟨rfl, rfl⟩
  clear h
  go_wp2_with fail
  refine (k1 _).mono ?_
  rintro e w' ⟨rfl, rfl⟩
  clear k1
  go_wp2_with fail
  refine (k2 _).mono ?_
  rintro e w' ⟨rfl, rfl⟩
  clear k2
  go_wp2_with fail
  refine (k3 _).mono ?_
  rintro e w' ⟨rfl, rfl⟩
  clear k3
  go_wp2_with fail
  refine (k4 _).mono ?_
  rintro e w' ⟨rfl, rfl⟩
  clear k4
  go_wp2_with fail
  refine (k5 _).mono ?_
  rintro e w' ⟨rfl, rfl⟩
  clear k5
  go_wp2
  go_ret
  exact ⟨ret_int (by rw [← HC.out]; go_num), rfl⟩
theorem half_bit63 (k : Nat) (hk : k < 64) : 9223372036854775808 / 2 ^ k = 2 ^ (63 - k) := by
  have : 9223372036854775808 = 2 ^ (63 - k) * 2 ^ k := by rw [← Nat.pow_add, show 63 - k + k = 63 from by omega]
  rw [this, Nat.mul_div_cancel _ (Nat.two_pow_pos k)]
set_option maxHeartbeats 1600000 in
theorem root_any (F : FuncId) (f : Nat → Nat → Nat) (lim u : Nat) (w : World) (hlim : lim < 18446744073709551616) (hf : ∀ (u p : Nat) w, u ≤ 30 → p < 18446744073709551616 → Calls Try.prog F #[.int .u64 (u : Int), .int .u64 (p : Int)] w fun e w' => e = .returned (.int .u64 ((f u p : Nat) : Int)) ∧ w = w')
    (hcall : ∀ args w, Sem.run Try.prog (callFunc F args) w = .ok (.enter F args) w) (hu : u ≤ 29) (hw : ∀ k, k < u → f (k + 1) 0 < lim) (hw2 : ¬ f (u + 1) 0 < lim) :
    Calls Try.prog 20 #[.int .u64 (lim : Int), .func (.func F) #[] #[]] w fun e w' => e = .returned (.int .u64 ((ptTo f u lim 64 : Nat) : Int)) ∧ w = w' := by
  have HW : Hid (∀ k, k < u → f (k + 1) 0 < lim) := hw
  have HW2 : Hid (¬ f (u + 1) 0 < lim) := hw2
  clear hw hw2
  go_enter Try.func20, Try.ntmps20
  go_wp2
  go_loop [5] (fun y => ∃ k : Nat, k ≤ u ∧ y = .int .u64 (k : Int)) (fun y => u - (intOf y).toNat)
  case atStart => exact ⟨0, Nat.zero_le _, rfl⟩
  case round =>
    obtain ⟨k, hk, rfl⟩ := hrel
    have hc := fun w => hf (k + 1) 0 w (by omega) (by decide)
    obtain ⟨k1, hk1⟩ : ∃ x, k + 1 = x := ⟨_, rfl⟩
    have HK1 : Hid (k + 1 = k1) := hk1
    rw [hk1] at hc
    have e1 : (k : Int) + 1 = (k1 : Int) := by omega
    have hk1b : k1 ≤ 30 := by omega
    by_cases hlt : k < u
    · have hfl : f k1 0 < lim := by rw [← hk1]; exact HW.out k hlt
      clear hk1
      generalize f k1 0 = fr at *
      go_wp2_with fail
      refine (hc _).mono ?_
      rintro e w2 ⟨rfl, rfl⟩
      clear hc
      go_wp2
      go_round
      case rel => exact ⟨k1, by have := HK1.out; omega, by go_num⟩
      case measure => simp [intOf]; omega
    · obtain rfl : k = u := by omega
      have hfl : ¬ f k1 0 < lim := by rw [← hk1]; exact HW2.out
      clear hk1
      generalize f k1 0 = fr at *
      go_wp2_with fail
      refine (hc _).mono ?_
      rintro e w2 ⟨rfl, rfl⟩
      clear hc e1 HW HW2
      go_wp2
      go_loop [6, 7] (fun r y => ∃ j : Nat, j ≤ 64 ∧ y = .int .u64 ((9223372036854775808 / 2 ^ j : Nat) : Int) ∧ r = .int .u64 ((ptTo f k lim j : Nat) : Int)) (fun _ y => (intOf y).toNat)
      case atStart => exact ⟨0, by omega, by simp, rfl⟩
      case round =>
        obtain ⟨j, hj, rfl, rfl⟩ := hrel
        have hlt := ptTo_lt f k lim j
        have hlt1 := ptTo_lt f k lim (j + 1)
        have HH : Hid (9223372036854775808 / 2 ^ (j + 1) = 9223372036854775808 / 2 ^ j / 2) := (div_step2 _ j).symm
        have hle : 9223372036854775808 / 2 ^ j ≤ 9223372036854775808 := Nat.div_le_self _ _
        by_cases h64 : j < 64
        · have hb := half_bit63 j h64
          have h1 : 0 < 2 ^ (63 - j) := Nat.two_pow_pos _
          have HF : Hid (ptTo f k lim (j + 1) = bif Nat.blt (f k (ptTo f k lim j ||| 2 ^ (63 - j))) lim then ptTo f k lim j ||| 2 ^ (63 - j) else ptTo f k lim j) := rfl
          rw [hb] at HH hle ⊢
          have hor : ptTo f k lim j ||| 2 ^ (63 - j) < 18446744073709551616 := Nat.or_lt_two_pow (n := 64) hlt (Nat.pow_lt_pow_right (by decide) (by omega))
          generalize ptTo f k lim j = r at *
          generalize 2 ^ (63 - j) = bit at *
          have eor : bits .or .u64 (r : Int) (bit : Int) = ((r ||| bit : Nat) : Int) := u64_or_nat r bit (by omega) (by omega)
          generalize r ||| bit = rb at *
          go_wp2_with fail
          refine (hf k rb _ (by omega) hor).mono ?_
          rintro e w2 ⟨rfl, rfl⟩
          have hblt : Nat.blt (f k rb) lim = decide (f k rb < lim) := by rw [Bool.eq_iff_iff, Nat.blt_eq, decide_eq_true_iff]
          rw [hblt] at HF
          generalize f k rb = fr2 at *
          clear hblt
          by_cases hfl2 : fr2 < lim
          · have hd : decide (fr2 < lim) = true := decide_eq_true hfl2
            rw [hd] at HF
            clear hd
            go_wp2
            go_round
            case rel => exact ⟨j + 1, by omega, by rw [HH.out]; go_num, by rw [HF.out]; rfl⟩
            case measure => simp [intOf]; omega
          · have hd : decide (fr2 < lim) = false := decide_eq_false hfl2
            rw [hd] at HF
            clear hd
            go_wp2
            go_round
            case rel => exact ⟨j + 1, by omega, by rw [HH.out]; go_num, by rw [HF.out]; rfl⟩
            case measure => simp [intOf]; omega
        · obtain rfl : j = 64 := by omega
          have hz : 9223372036854775808 / 2 ^ 64 = 0 := by decide
          rw [hz] at HH hle ⊢
          generalize hr0 : ptTo f k lim 64 = r at *
          have HR : Hid (ptTo f k lim 64 = r) := hr0
          clear hr0
          go_wp2
          go_ret
          exact ⟨ret_int (by rw [HR.out]), rfl⟩
theorem and63 (n : Nat) (h0 : 0 < n) (h1 : n < 64) : bits .and .u64 (IntKind.u64.wrap (-(n : Int))) 63 = ((64 - n : Nat) : Int) := by
  have e : IntKind.u64.wrap (-(n : Int)) = ((18446744073709551616 - n : Nat) : Int) := by rw [IntKind.wrap_u64]; omega
  rw [e]
  have h := bits_and_u64_nat (18446744073709551616 - n) 63 (by omega) (by omega)
  have e2 : (18446744073709551616 - n) &&& 63 = (18446744073709551616 - n) % 64 := Nat.and_two_pow_sub_one_eq_mod _ 6
  rw [e2] at h
  rw [show ((63 : Int)) = ((63 : Nat) : Int) from rfl, h]
  omega
theorem rotl_any (x n : Nat) (w : World) (hx : x < 18446744073709551616) (h0 : 0 < n) (h1 : n < 64) : Calls Try.prog 43 #[.int .u64 (x : Int), .int .i64 (-(n : Int))] w fun e w' => e = .returned (.int .u64 (rr x n : Nat)) ∧ w = w' := by
  have ha := and63 n h0 h1
  go_enter Try.func43, Try.ntmps43
  go_wp2
  have e1 : (x : Int) * 2 ^ (64 - n) % 18446744073709551616 = ((x * 2 ^ (64 - n) % 18446744073709551616 : Nat) : Int) := by simp
  have e2 : (x : Int) / 2 ^ (64 - (64 - n)) = ((x / 2 ^ n : Nat) : Int) := by rw [show 64 - (64 - n) = n from by omega]; simp
  go_ret
  exact ⟨ret_int (by rw [IntKind.wrap_u64, e1, e2, u64_or_nat _ _ (mlt _) (dlt hx), rr_or x n hx (by omega)]), rfl⟩
theorem rotr_any (x n : Nat) (w : World) (hx : x < 18446744073709551616) (h0 : 0 < n) (h1 : n < 64) : Calls Try.prog 38 #[.int .u64 (x : Int), .int .i64 (n : Int)] w fun e w' => e = .returned (.int .u64 (rr x n : Nat)) ∧ w = w' := by
  go_enter Try.func38, Try.ntmps38
  go_wp2_with fail
  refine (rotl_any x n _ hx h0 h1).mono ?_
  rintro e w' ⟨rfl, rfl⟩
  go_wp2
  go_ret
  exact ⟨rfl, rfl⟩
end Go.Proofs.Ythcnnglpncblaaa.B
