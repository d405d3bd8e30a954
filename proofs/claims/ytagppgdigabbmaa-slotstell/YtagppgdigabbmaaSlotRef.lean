/-
  The document's answer for layer 22 (casemateref22): May, Tried, Confirm, Install, Try.
-/
import Derived.Test.YtagppgdigabbmaaSlotCode4
namespace Go.Proofs.Ytagppgdigabbmaa.N
open Go.RowKit
set_option linter.unusedVariables false
set_option maxRecDepth 8192

set_option maxHeartbeats 1600000 in
theorem refMay22 (s : Sl) (w : World) : Calls Try.prog 18 #[.agg #[.int .i64 s.f, .int .i64 s.a.t, .bool s.a.g, .int .i64 s.b.t, .bool s.b.g]] w fun e w' => e = .returned (.bool (maySl s)) ∧ Below w.heap.size w w' := by
  have HA : Hid ((s.a.t < 0 ∨ 7 < s.a.t) → maySl s = false) := fun h' => by
    have : okSo s.a = false := decide_eq_false (by omega)
    simp [maySl, this]
  have HB : Hid ((s.b.t < 0 ∨ 7 < s.b.t) → maySl s = false) := fun h' => by
    have : okSo s.b = false := decide_eq_false (by omega)
    simp [maySl, this]
  have HD : Hid (0 ≤ s.a.t → s.a.t ≤ 7 → 0 ≤ s.b.t → s.b.t ≤ 7 → maySl s = is01 s.f) := fun h1 h2 h3 h4 => by
    have e1 : okSo s.a = true := decide_eq_true ⟨by omega, by omega⟩
    have e2 : okSo s.b = true := decide_eq_true ⟨by omega, by omega⟩
    simp [maySl, e1, e2]
  obtain ⟨f, ⟨t0, g0⟩, ⟨t1, g1⟩⟩ := s
  simp only at HA HB HD
  go_enter Try.func18, Try.ntmps18
  go_wp2_with fail
  refine wp_loop_rounds 3 ?_
  rw [rounds_succ]
  by_cases h2 : t0 < 0
  · go_wp2_with fail
    go_ret
    exact ⟨ret_bool (HA.out (.inl h2)).symm, below_one w _⟩
  by_cases h3 : 7 < t0
  · go_wp2_with fail
    go_ret
    exact ⟨ret_bool (HA.out (.inr h3)).symm, below_one w _⟩
  go_wp2_with fail
  rw [rounds_succ]
  by_cases h4 : t1 < 0
  · go_wp2_with fail
    go_ret
    exact ⟨ret_bool (HB.out (.inl h4)).symm, below_one w _⟩
  by_cases h5 : 7 < t1
  · go_wp2_with fail
    go_ret
    exact ⟨ret_bool (HB.out (.inr h5)).symm, below_one w _⟩
  go_wp2_with fail
  rw [rounds_succ]
  have HM : Hid (maySl ⟨f, ⟨t0, g0⟩, ⟨t1, g1⟩⟩ = is01 f) := HD.out (by omega) (by omega) (by omega) (by omega)
  by_cases h6 : f = 0
  · have HI : Hid (is01 f = true) := decide_eq_true (by omega)
    have h6' : (f == 0) = true := by simpa using h6
    clear h6
    go_wp2_with fail
    go_ret
    exact ⟨ret_bool (by rw [HM.out, HI.out]), below_one w _⟩
  by_cases h7 : f = 1
  · have HI : Hid (is01 f = true) := decide_eq_true (by omega)
    have h6' : (f == 0) = false := by simpa using h6
    have h7' : (f == 1) = true := by simpa using h7
    clear h6 h7
    go_wp2_with fail
    go_ret
    exact ⟨ret_bool (by rw [HM.out, HI.out]), below_one w _⟩
  · have HI : Hid (is01 f = false) := decide_eq_false (by omega)
    have h6' : (f == 0) = false := by simpa using h6
    have h7' : (f == 1) = false := by simpa using h7
    clear h6 h7
    go_wp2_with fail
    go_ret
    exact ⟨ret_bool (by rw [HM.out, HI.out]), below_one w _⟩
set_option maxHeartbeats 800000 in
theorem refTried22 (s : Sl) (i : Int) (hi : is01 i = true) (w : World) : Calls Try.prog 29 #[.agg #[.int .i64 s.f, .int .i64 s.a.t, .bool s.a.g, .int .i64 s.b.t, .bool s.b.g], .int .i64 i] w fun e w' => e = .returned (.bool (triedSo (s.two i))) ∧ Below w.heap.size w w' := by
  obtain ⟨f, ⟨t0, g0⟩, ⟨t1, g1⟩⟩ := s
  rcases is01_of hi with rfl | rfl
  · have HT : Hid (triedSo (Sl.two ⟨f, ⟨t0, g0⟩, ⟨t1, g1⟩⟩ 0) = (g0 || decide (0 < t0))) := rfl
    cases g0
    · by_cases h0 : 0 < t0
      · go_enter Try.func29, Try.ntmps29
        go_wp2
        go_ret
        exact ⟨ret_bool (by rw [HT.out]; simp [h0]), below_one w _⟩
      · go_enter Try.func29, Try.ntmps29
        go_wp2
        go_ret
        exact ⟨ret_bool (by rw [HT.out]; simp; omega), below_one w _⟩
    · go_enter Try.func29, Try.ntmps29
      go_wp2
      go_ret
      exact ⟨ret_bool (by rw [HT.out]; simp), below_one w _⟩
  · have HT : Hid (triedSo (Sl.two ⟨f, ⟨t0, g0⟩, ⟨t1, g1⟩⟩ 1) = (g1 || decide (0 < t1))) := rfl
    cases g1
    · by_cases h0 : 0 < t1
      · go_enter Try.func29, Try.ntmps29
        go_wp2
        go_ret
        exact ⟨ret_bool (by rw [HT.out]; simp [h0]), below_one w _⟩
      · go_enter Try.func29, Try.ntmps29
        go_wp2
        go_ret
        exact ⟨ret_bool (by rw [HT.out]; simp; omega), below_one w _⟩
    · go_enter Try.func29, Try.ntmps29
      go_wp2
      go_ret
      exact ⟨ret_bool (by rw [HT.out]; simp), below_one w _⟩
end Go.Proofs.Ytagppgdigabbmaa.N
