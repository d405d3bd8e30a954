/-
  The code of layer 20 (manifest), as it landed: within, allWithin, inOrder, mayBe.
-/
import Derived.Test.YtennmhenlhaliaaManBase
namespace Go.Proofs.Ytennmhenlhaliaa.N
open Go.RowKit
set_option linter.unusedVariables false
set_option maxRecDepth 8192

theorem within_any (n a b : Int) (w : World) : Calls Try.prog 29 #[.int .i64 n, .int .i64 a, .int .i64 b] w fun e w' => e = .returned (.bool (within n a b)) ∧ w = w' := by
  by_cases h : a ≤ n
  · go_enter Try.func29, Try.ntmps29
    go_wp2
    go_ret
    exact ⟨ret_bool (by unfold within; simp [h]), rfl⟩
  · go_enter Try.func29, Try.ntmps29
    go_wp2
    go_ret
    exact ⟨ret_bool (by unfold within; symm; rw [decide_eq_false_iff_not]; omega), rfl⟩
/-- All of a row's numbers may be. -/
def allB (z : List Int) : Bool := (List.range z.length).all fun i => in31 (z[i]?.getD 0)
theorem allB_four (a b c d : Int) : allB [a, b, c, d] = (in31 a && (in31 b && (in31 c && in31 d))) := by
  show (in31 a && (in31 b && (in31 c && (in31 d && true)))) = _
  rw [Bool.and_true]
theorem allB_no {z : List Int} {i : Nat} (hi : i < z.length) (h : in31 (z[i]?.getD 0) = false) : allB z = false := by
  cases hz : allB z
  · rfl
  · unfold allB at hz
    rw [List.all_eq_true.1 hz i (List.mem_range.2 hi)] at h
    cases h
theorem allB_yes {z : List Int} (h : ∀ i, i < z.length → in31 (z[i]?.getD 0) = true) : allB z = true := by
  unfold allB
  rw [List.all_eq_true]
  exact fun i hi => h i (List.mem_range.1 hi)
theorem allWithin_any {a : Option Addr} {n cap : Nat} {z : List Int} {w : World} (hr : Row .i64 w a n cap z) : Calls Try.prog 24 #[.slice a n cap] w fun e w' => e = .returned (.bool (allB z)) ∧ w = w' := by
  have hm := hr.hmax
  have hc := hr.hcap
  have HL : Hid (z.length = n) := hr.hlen
  unfold maxLen at hm
  go_enter Try.func24, Try.ntmps24
  go_wp2
  go_loop [7] (fun y => ∃ k : Nat, k ≤ n ∧ y = .int .i64 (k : Int) ∧ Hid (∀ i, i < k → in31 (z[i]?.getD 0) = true)) (fun y => n - (intOf y).toNat)
  case atStart => exact ⟨0, Nat.zero_le _, rfl, fun i hi => absurd hi (Nat.not_lt_zero _)⟩
  case round =>
    obtain ⟨k, hk, rfl, HK⟩ := hrel
    by_cases hlt : k < n
    · obtain ⟨b, off, rfl, hbs, hcell⟩ := hr.hcell (by omega)
      have c1 := hcell k hlt
      have HX : ∀ x, x = in31 (z[k]?.getD 0) → Hid (x = in31 (z[k]?.getD 0)) := fun _ h => h
      have hw := fun w => within_any (z[k]?.getD 0) 0 2147483647 w
      cases hx : within (z[k]?.getD 0) 0 2147483647
      · have HA : Hid (allB z = false) := allB_no (by rw [HL.out]; exact hlt) hx
        rw [hx] at hw
        clear hcell HX hx
        generalize z[k]?.getD 0 = x at *
        have hlt' : (k : Int) < (n : Int) := by omega
        go_wp2_with fail
        refine (hw _).mono ?_
        rintro e w' ⟨rfl, rfl⟩
        go_wp2_with fail
        go_ret
        exact ⟨ret_bool HA.out.symm, rfl⟩
      · have HN : Hid (∀ i, i < k + 1 → in31 (z[i]?.getD 0) = true) := fun i hi => by
          rcases Nat.lt_or_ge i k with h1 | h1
          · exact HK.out i h1
          · obtain rfl : i = k := by omega
            exact hx
        rw [hx] at hw
        clear hcell HX hx
        generalize z[k]?.getD 0 = x at *
        have hlt' : (k : Int) < (n : Int) := by omega
        go_wp2_with fail
        refine (hw _).mono ?_
        rintro e w' ⟨rfl, rfl⟩
        go_wp2_with fail
        go_round
        case rel => exact ⟨k + 1, by omega, by go_num, HN⟩
        case measure => simp [RowKit.intOf]; omega
    · obtain rfl : k = n := by omega
      have HA : Hid (allB z = true) := allB_yes (by rw [HL.out]; exact HK.out)
      go_wp2
      go_ret
      exact ⟨ret_bool HA.out.symm, rfl⟩
set_option maxHeartbeats 1600000 in
theorem inOrder_any {a : Option Addr} {n cap : Nat} {l : List Sg} {w : World} (hr : SegRow w a n cap l) (ho : ∀ s ∈ l, s.Ok) : Calls Try.prog 25 #[.slice a n cap] w fun e w' => e = .returned (.bool (okTo l n)) ∧ Below w.heap.size w w' := by
  have hm := hr.hmax
  have hc := hr.hcap
  unfold maxLen at hm
  go_enter Try.func25, Try.ntmps25
  go_wp2
  go_loopw [3, 8] (fun e i wr => ∃ k : Nat, k ≤ n ∧ i = .int .i64 (k : Int) ∧ e = .int .i64 (endAt l k) ∧ Hid (okTo l k = true) ∧ Below w.heap.size w wr) (fun _ i _ => n - (RowKit.intOf i).toNat)
  case atStart => exact ⟨0, Nat.zero_le _, rfl, rfl, okTo_zero l, Below.refl _ _⟩
  case round =>
    obtain ⟨k, hk, rfl, rfl, HO, q⟩ := hrel
    have hr' := hr.below q (Nat.le_refl _)
    have he := endAt_bd HO.out
    by_cases hlt : k < n
    · obtain ⟨b, off, rfl, hbs, hcell⟩ := hr'.hcell (by omega)
      have hx := hcell k hlt
      have hs := sgI_ok ho k
      have HS : Hid (okTo l (k + 1) = (within (sgI l k).size 0 1048576 && within (sgI l k).load (endAt l k) (2147483647 - (sgI l k).size))) := by
        show _ = _
        rw [okTo_succ, HO.out, Bool.true_and]
        rfl
      have HF : Hid (okTo l (k + 1) = false → okTo l n = false) := fun h => by
        rw [okTo_succ, HO.out, Bool.true_and] at h
        exact okTo_of_no h hlt
      have HE : Hid (endAt l (k + 1) = (sgI l k).load + (sgI l k).size) := rfl
      clear hcell hr'
      generalize sgI l k = s at *
      generalize endAt l k = en at *
      have hlt' : (k : Int) < (n : Int) := by omega
      have V0 := Vars.start wr
      go_wp2_with (first
        | (refine wpList_load_mid rfl 45 _ rfl b (off + k * 34) rfl (sC s) _ hx Try.underlying45 rfl (by rw [sC_len hs]; exact Try.szSg) ?_)
        | (refine wpList_allocV V0 5 45 rfl rfl rfl (sA sg0) zeroSg ?_; intro w1 g1 V1)
        | (refine wpList_storeV V1 0 rfl _ (.tmp 11) rfl rfl rfl (sA s) rfl rfl Try.szSg (sA_size sg0_ok) (sA_size hs) (sA_one s) ?_; intro w2 V2; have c0 := sg_c0 (V2.at 0 rfl); have c1 := sg_c1 (V2.at 0 rfl)))
      have q2 := btrans q V2.bel
      have hw1 := within_any s.size 0 1048576 w2
      cases h1 : within s.size 0 1048576
      · have HN : Hid (okTo l n = false) := HF.out (by rw [HS.out, h1]; rfl)
        rw [h1] at hw1
        refine hw1.mono ?_
        rintro e w' ⟨rfl, rfl⟩
        clear HS h1 HF HE
        go_wp2_with fail
        go_ret
        exact ⟨ret_bool HN.out.symm, q2⟩
      · rw [h1] at hw1
        have hb1 := within_yes h1
        refine hw1.mono ?_
        rintro e w' ⟨rfl, rfl⟩
        have hw2 := within_any s.load en (2147483647 - s.size) w2
        have HS2 : Hid (okTo l (k + 1) = within s.load en (2147483647 - s.size)) := by
          show _ = _
          rw [HS.out, h1, Bool.true_and]
        clear HS h1
        go_wp2_with fail
        cases h2 : within s.load en (2147483647 - s.size)
        · have HN : Hid (okTo l n = false) := HF.out (by rw [HS2.out, h2])
          rw [h2] at hw2
          refine hw2.mono ?_
          rintro e w' ⟨rfl, rfl⟩
          clear HS2 h2 HF HE
          go_wp2_with fail
          go_ret
          exact ⟨ret_bool HN.out.symm, q2⟩
        · have HN : Hid (okTo l (k + 1) = true) := by show _ = _; rw [HS2.out, h2]
          have hb2 := within_yes h2
          rw [h2] at hw2
          refine hw2.mono ?_
          rintro e w' ⟨rfl, rfl⟩
          clear HS2 h2 HF
          go_wp2_with fail
          go_roundw
          case rel => exact ⟨k + 1, by omega, by go_num, by rw [HE.out], HN, q2⟩
          case measure => simp [RowKit.intOf]; omega
    · obtain rfl : k = n := by omega
      go_wp2
      go_ret
      exact ⟨ret_bool HO.out.symm, q⟩
set_option maxHeartbeats 1600000 in
theorem mayBe_any {v s k e : Int} {a : Option Addr} {n cap : Nat} {l : List Sg} {w : World} (hr : SegRow w a n cap l) (ho : ∀ s ∈ l, s.Ok) : Calls Try.prog 16 #[.agg #[.int .i64 v, .int .i64 s, .int .i64 k, .int .i64 e, .slice a n cap]] w fun e' w' => e' = .returned (.bool (mayM ⟨v, s, k, e, l⟩)) ∧ Below w.heap.size w w' := by
  have hm := hr.hmax
  have hc := hr.hcap
  unfold maxLen at hm
  have HM : Hid (mayM ⟨v, s, k, e, l⟩ = ((in31 v && (in31 s && (in31 k && in31 e))) && (decide (n ≤ 8) && okTo l n))) := by
    show _ = _
    rw [← hr.hlen]
    rfl
  go_enter Try.func16, Try.ntmps16
  go_wp2_with fail
  have q0 := below_two w (.cells #[.int .i64 v, .int .i64 s, .int .i64 k, .int .i64 e, .slice a n cap] 24) (.cells #[.int .i64 v, .int .i64 s, .int .i64 k, .int .i64 e] 3)
  have hb := (Vars.start w).new 24 #[.int .i64 v, .int .i64 s, .int .i64 k, .int .i64 e, .slice a n cap] |>.call (below_one _ (.cells #[.int .i64 v, .int .i64 s, .int .i64 k, .int .i64 e] 3))
  have hg := hb.at 0 rfl
  clear hb
  have rn := row_new .i64 (w.alloc (.cells #[.int .i64 v, .int .i64 s, .int .i64 k, .int .i64 e, .slice a n cap] 24)) 3 (w.heap.size + 1) (by simp) [v, s, k, e] 4 rfl (by unfold maxLen; omega) #[.int .i64 v, .int .i64 s, .int .i64 k, .int .i64 e] rfl
  have hr1 := hr.below q0 (Nat.le_refl _)
  generalize (w.alloc (.cells #[.int .i64 v, .int .i64 s, .int .i64 k, .int .i64 e, .slice a n cap] 24)).alloc (.cells #[.int .i64 v, .int .i64 s, .int .i64 k, .int .i64 e] 3) = w1 at *
  have hw := allWithin_any rn
  rw [allB_four] at hw
  have c4 := man_c hg 4
  clear hr rn hg
  cases hA : (in31 v && (in31 s && (in31 k && in31 e)))
  · rw [hA] at hw HM
    have HF : Hid (mayM ⟨v, s, k, e, l⟩ = false) := by show _ = _; rw [HM.out, Bool.false_and]
    clear HM
    refine hw.mono ?_
    rintro e' w' ⟨rfl, rfl⟩
    go_wp2_with fail
    go_ret
    exact ⟨ret_bool HF.out.symm, q0⟩
  rw [hA] at hw HM
  have HM2 : Hid (mayM ⟨v, s, k, e, l⟩ = (decide (n ≤ 8) && okTo l n)) := by show _ = _; rw [HM.out, Bool.true_and]
  clear HM hA
  have ho := inOrder_any hr1 ho
  refine hw.mono ?_
  rintro e' w' ⟨rfl, rfl⟩
  clear hw
  by_cases h8 : n ≤ 8
  · have HM3 : Hid (mayM ⟨v, s, k, e, l⟩ = okTo l n) := by show _ = _; rw [HM2.out, decide_eq_true h8, Bool.true_and]
    clear HM2
    have h8' : (n : Int) ≤ 8 := by omega
    go_wp2_with fail
    refine ho.mono ?_
    rintro e' w' ⟨rfl, q1⟩
    clear ho
    have HQ : Hid (Below _ w w') := btrans q0 q1
    clear q0 q1
    generalize okTo l n = b at *
    go_wp2_with fail
    go_ret
    exact ⟨ret_bool HM3.out.symm, HQ.out⟩
  · have HF : Hid (mayM ⟨v, s, k, e, l⟩ = false) := by show _ = _; rw [HM2.out, decide_eq_false h8, Bool.false_and]
    have h8' : ¬ (n : Int) ≤ 8 := by omega
    clear HM2
    go_wp2_with fail
    go_ret
    exact ⟨ret_bool HF.out.symm, q0⟩
end Go.Proofs.Ytennmhenlhaliaa.N
