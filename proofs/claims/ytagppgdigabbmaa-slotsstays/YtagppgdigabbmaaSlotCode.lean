/-
  The code of layer 22 (slots): isSlot, mark, mayTry, with, Check.
-/
import Derived.Test.YtagppgdigabbmaaSlotPlain
import Derived.Test.YtagppgdigabbmaaManBase
import Derived.Test.YtagppgdigabbmaaRows
namespace Go.Proofs.Ytagppgdigabbmaa.N
open Go.RowKit
set_option linter.unusedVariables false
set_option maxRecDepth 8192

/-- Slots in a box. -/
structure SBox (w : World) (b : Nat) (s : Sl) : Prop where
  c0 : w.cell? ⟨b, 0, none⟩ = some (.int .i64 s.f)
  c1 : w.cell? ⟨b, 1, none⟩ = some (.int .i64 s.a.t)
  c2 : w.cell? ⟨b, 2, none⟩ = some (.bool s.a.g)
  c3 : w.cell? ⟨b, 3, none⟩ = some (.int .i64 s.b.t)
  c4 : w.cell? ⟨b, 4, none⟩ = some (.bool s.b.g)
theorem sbox_of {w : World} {g : Nat} {T : TypeId} {s : Sl} (h : w.heap[g]? = some (.cells #[.int .i64 s.f, .int .i64 s.a.t, .bool s.a.g, .int .i64 s.b.t, .bool s.b.g] T (0, 0))) : SBox w g s :=
  ⟨cell_of_row w g 0 _ T (0, 0) h, cell_of_row w g 1 _ T (0, 0) h, cell_of_row w g 2 _ T (0, 0) h, cell_of_row w g 3 _ T (0, 0) h, cell_of_row w g 4 _ T (0, 0) h⟩
theorem sbox_new (w : World) (s : Sl) (T : TypeId) : SBox (w.alloc (.cells #[.int .i64 s.f, .int .i64 s.a.t, .bool s.a.g, .int .i64 s.b.t, .bool s.b.g] T)) w.heap.size s := sbox_of (heap_alloc_last w _)
theorem SBox.below {w w' : World} {b B : Nat} {s : Sl} (h : SBox w b s) (q : Below B w w') (hb : b < B) : SBox w' b s := by
  obtain ⟨c0, c1, c2, c3, c4⟩ := h
  exact ⟨by rw [q.cell hb, c0], by rw [q.cell hb, c1], by rw [q.cell hb, c2], by rw [q.cell hb, c3], by rw [q.cell hb, c4]⟩
theorem isSlot_any (i : Int) (w : World) : Calls Try.prog 25 #[.int .i64 i] w fun e w' => e = .returned (.bool (is01 i)) ∧ w = w' := by
  by_cases h0 : 0 ≤ i
  · by_cases h2 : i < 2
    · have HI : Hid (is01 i = true) := decide_eq_true ⟨h0, h2⟩
      go_enter Try.func25, Try.ntmps25
      go_wp2
      go_ret
      exact ⟨ret_bool HI.out.symm, rfl⟩
    · have HI : Hid (is01 i = false) := decide_eq_false fun h => h2 h.2
      go_enter Try.func25, Try.ntmps25
      go_wp2
      go_ret
      exact ⟨ret_bool HI.out.symm, rfl⟩
  · have HI : Hid (is01 i = false) := decide_eq_false fun h => h0 h.1
    go_enter Try.func25, Try.ntmps25
    go_wp2
    go_ret
    exact ⟨ret_bool HI.out.symm, rfl⟩
theorem sMark_any (b : Bool) (w : World) : Calls Try.prog 31 #[.bool b] w fun e w' => e = .returned (.int .u8 (bitSo b)) ∧ w = w' := by
  cases b
  · go_enter Try.func31, Try.ntmps31
    go_wp2
    go_ret
    exact ⟨rfl, rfl⟩
  · go_enter Try.func31, Try.ntmps31
    go_wp2
    go_ret
    exact ⟨rfl, rfl⟩
theorem mayTry_any (o : So) (w : World) : Calls Try.prog 27 #[.agg #[.int .i64 o.t, .bool o.g]] w fun e w' => e = .returned (.bool (triedSo o)) ∧ Below w.heap.size w w' := by
  obtain ⟨t, g⟩ := o
  cases g
  · by_cases h0 : 0 < t
    · have HI : Hid (triedSo ⟨t, false⟩ = true) := by show _ = _; simp [triedSo, h0]
      go_enter Try.func27, Try.ntmps27
      go_wp2
      go_ret
      exact ⟨ret_bool HI.out.symm, below_one w _⟩
    · have HI : Hid (triedSo ⟨t, false⟩ = false) := by show _ = _; simp [triedSo, h0]
      go_enter Try.func27, Try.ntmps27
      go_wp2
      go_ret
      exact ⟨ret_bool HI.out.symm, below_one w _⟩
  · go_enter Try.func27, Try.ntmps27
    go_wp2
    go_ret
    exact ⟨ret_bool (by simp [triedSo]), below_one w _⟩
theorem sWith_any (s : Sl) (i : Int) (o : So) (hi : is01 i = true) (w : World) : Calls Try.prog 28 #[.agg #[.int .i64 s.a.t, .bool s.a.g, .int .i64 s.b.t, .bool s.b.g], .int .i64 i, .agg #[.int .i64 o.t, .bool o.g]] w
    fun e w' => e = .returned (.agg #[.int .i64 ((s.put i o).a.t), .bool ((s.put i o).a.g), .int .i64 ((s.put i o).b.t), .bool ((s.put i o).b.g)]) ∧ Below w.heap.size w w' := by
  obtain ⟨t, g⟩ := o
  rcases is01_of hi with rfl | rfl
  · go_enter Try.func28, Try.ntmps28
    go_wp2
    exact bodyPost_ret (v := .agg #[.int .i64 t, .bool g, .int .i64 s.b.t, .bool s.b.g]) (by simp [results, Try.results28, go_sem]) rfl ⟨rfl, below_three w _ _ _⟩
  · go_enter Try.func28, Try.ntmps28
    go_wp2
    exact bodyPost_ret (v := .agg #[.int .i64 s.a.t, .bool s.a.g, .int .i64 t, .bool g]) (by simp [results, Try.results28, go_sem]) rfl ⟨rfl, below_three w _ _ _⟩
theorem run_idx0 (t0 t1 : Int) (g0 g1 : Bool) (w : World) : Sem.run Try.prog (Instr.index 24 (.agg #[.int .i64 t0, .bool g0, .int .i64 t1, .bool g1]) (.int .i64 0)) w = .ok (.agg #[.int .i64 t0, .bool g0]) w := by kernel_rfl
theorem run_idx1 (t0 t1 : Int) (g0 g1 : Bool) (w : World) : Sem.run Try.prog (Instr.index 24 (.agg #[.int .i64 t0, .bool g0, .int .i64 t1, .bool g1]) (.int .i64 1)) w = .ok (.agg #[.int .i64 t1, .bool g1]) w := by kernel_rfl
theorem maySl_f {s : Sl} (h : is01 s.f = false) : maySl s = false := by simp [maySl, h]
set_option maxHeartbeats 800000 in
theorem sCheck_any (s : Sl) (w : World) : Calls Try.prog 8 #[.agg #[.int .i64 s.f, .int .i64 s.a.t, .bool s.a.g, .int .i64 s.b.t, .bool s.b.g]] w fun e w' => e = .returned (.int .i64 (cSl s)) ∧ Below w.heap.size w w' := by
  go_enter Try.func8, Try.ntmps8
  go_wp2_with fail
  refine (isSlot_any _ _).mono ?_
  rintro e w1 ⟨rfl, rfl⟩
  have HC : Hid (is01 s.f = false → cSl s = 1) := fun h => by simp [cSl, maySl, h]
  have HA : Hid (is01 s.f = true → (s.a.t < 0 ∨ 7 < s.a.t) → cSl s = 1) := fun h h' => by
    have : okSo s.a = false := decide_eq_false (by omega)
    simp [cSl, maySl, h, this]
  have HB : Hid (is01 s.f = true → (s.b.t < 0 ∨ 7 < s.b.t) → cSl s = 1) := fun h h' => by
    have : okSo s.b = false := decide_eq_false (by omega)
    simp [cSl, maySl, this]
  have HD : Hid (is01 s.f = true → 0 ≤ s.a.t → s.a.t ≤ 7 → 0 ≤ s.b.t → s.b.t ≤ 7 → cSl s = 0) := fun h h1 h2 h3 h4 => by
    have e1 : okSo s.a = true := decide_eq_true ⟨by omega, by omega⟩
    have e2 : okSo s.b = true := decide_eq_true ⟨by omega, by omega⟩
    simp [cSl, maySl, h, e1, e2]
  obtain ⟨f, ⟨t0, g0⟩, ⟨t1, g1⟩⟩ := s
  simp only at HC HA HB HD
  by_cases h1 : is01 f = true
  · go_wp2_with fail
    refine wp_loop_rounds 3 ?_
    rw [rounds_succ]
    go_wp2_with fail
    rw [run_idx0]
    by_cases h2 : t0 < 0
    · go_wp2_with fail
      go_ret
      exact ⟨ret_int (HA.out h1 (.inl h2)).symm, below_two w _ _⟩
    by_cases h3 : 7 < t0
    · go_wp2_with fail
      go_ret
      exact ⟨ret_int (HA.out h1 (.inr h3)).symm, below_two w _ _⟩
    go_wp2_with fail
    rw [rounds_succ]
    go_wp2_with fail
    rw [run_idx1]
    by_cases h4 : t1 < 0
    · go_wp2_with fail
      go_ret
      exact ⟨ret_int (HB.out h1 (.inl h4)).symm, below_three w _ _ _⟩
    by_cases h5 : 7 < t1
    · go_wp2_with fail
      go_ret
      exact ⟨ret_int (HB.out h1 (.inr h5)).symm, below_three w _ _ _⟩
    go_wp2_with fail
    rw [rounds_succ]
    go_wp2_with fail
    go_ret
    exact ⟨ret_int (HD.out h1 (by omega) (by omega) (by omega) (by omega)).symm, below_three w _ _ _⟩
  · have h1 : is01 f = false := by simpa using h1
    go_wp2_with fail
    go_ret
    exact ⟨ret_int (HC.out h1).symm, below_one w _⟩
end Go.Proofs.Ytagppgdigabbmaa.N
