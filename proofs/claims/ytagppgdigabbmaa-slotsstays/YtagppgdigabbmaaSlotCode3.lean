/-
  The code of layer 22 (slots): read.
-/
import Derived.Test.YtagppgdigabbmaaSlotCode
import Derived.Deep.CutRange
namespace Go.Proofs.Ytagppgdigabbmaa.N
open Go.RowKit
set_option linter.unusedVariables false
set_option maxRecDepth 8192

set_option maxHeartbeats 1600000 in
theorem sRead_any (x0 x1 x2 x3 f t0 g0 t1 g1 : Int) (hf : 0 ≤ f ∧ f ≤ 255) (h0 : 0 ≤ t0 ∧ t0 ≤ 255) (h1 : 0 ≤ t1 ∧ t1 ≤ 255) (w : World) : Calls Try.prog 30 #[.agg #[.int .u8 x0, .int .u8 x1, .int .u8 x2, .int .u8 x3, .int .u8 f, .int .u8 t0, .int .u8 g0, .int .u8 t1, .int .u8 g1]] w
    fun e w' => e = .returned (.agg #[.int .i64 f, .int .i64 t0, .bool ((g0 != 0)), .int .i64 t1, .bool ((g1 != 0))]) ∧ Below w.heap.size w w' := by
  have W6 : IntKind.i64.wrap 6 = 6 := by decide
  have W8 : IntKind.i64.wrap 8 = 8 := by decide
  go_enter Try.func30, Try.ntmps30
  go_wp2_with fail
  go_loopw [10] (fun y ws => (y = .int .i64 0 ∧ ws = ((w.alloc (.cells #[.int .u8 x0, .int .u8 x1, .int .u8 x2, .int .u8 x3, .int .u8 f, .int .u8 t0, .int .u8 g0, .int .u8 t1, .int .u8 g1] 50)).alloc (.cells #[.int .i64 0, .int .i64 0, .bool false, .int .i64 0, .bool false] 26)).alloc (.cells #[.int .i64 f, .int .i64 0, .bool false, .int .i64 0, .bool false] 26)) ∨
    (y = .int .i64 1 ∧ ws = (((w.alloc (.cells #[.int .u8 x0, .int .u8 x1, .int .u8 x2, .int .u8 x3, .int .u8 f, .int .u8 t0, .int .u8 g0, .int .u8 t1, .int .u8 g1] 50)).alloc (.cells #[.int .i64 0, .int .i64 0, .bool false, .int .i64 0, .bool false] 26)).alloc (.cells #[.int .i64 f, .int .i64 t0, .bool (g0 != 0), .int .i64 0, .bool false] 26)).drew) ∨
    (y = .int .i64 2 ∧ ws = (((w.alloc (.cells #[.int .u8 x0, .int .u8 x1, .int .u8 x2, .int .u8 x3, .int .u8 f, .int .u8 t0, .int .u8 g0, .int .u8 t1, .int .u8 g1] 50)).alloc (.cells #[.int .i64 0, .int .i64 0, .bool false, .int .i64 0, .bool false] 26)).alloc (.cells #[.int .i64 f, .int .i64 t0, .bool (g0 != 0), .int .i64 t1, .bool (g1 != 0)] 26)).drew.drew)) (fun y _ => 2 - (RowKit.intOf y).toNat)
  case atStart => exact .inl ⟨rfl, rfl⟩
  case round =>
    rcases hrel with ⟨rfl, rfl⟩ | ⟨rfl, rfl⟩ | ⟨rfl, rfl⟩
    · go_wp2_with fail
      go_region_with (go_at_call 31; refine (sMark_any _ _).mono ?_; rintro e w' ⟨rfl, rfl⟩)
      all_goals
        go_wp2_with fail
        go_roundw
        case rel => exact .inr (.inl (by first | exact ⟨rfl, rfl⟩ | exact ⟨trivial, rfl⟩))
        case measure => simp [RowKit.intOf]
    · go_wp2_with fail
      go_region_with (go_at_call 31; refine (sMark_any _ _).mono ?_; rintro e w' ⟨rfl, rfl⟩)
      all_goals
        go_wp2_with fail
        go_roundw
        case rel => exact .inr (.inr (by first | exact ⟨rfl, rfl⟩ | exact ⟨trivial, rfl⟩))
        case measure => simp [RowKit.intOf]
    · go_wp2_with fail
      exact bodyPost_ret (v := .agg #[.int .i64 f, .int .i64 t0, .bool ((g0 != 0)), .int .i64 t1, .bool ((g1 != 0))]) (by simp [results, Try.results30, go_sem]) rfl ⟨rfl, ((below_three w _ _ _).drew).drew⟩
theorem sRead_s (x0 x1 x2 x3 f t0 g0 t1 g1 : Int) (hf : 0 ≤ f ∧ f ≤ 255) (h0 : 0 ≤ t0 ∧ t0 ≤ 255) (h1 : 0 ≤ t1 ∧ t1 ≤ 255) (s : Sl) (hs : s = ⟨f, ⟨t0, g0 != 0⟩, ⟨t1, g1 != 0⟩⟩) (w : World) : Calls Try.prog 30 #[.agg #[.int .u8 x0, .int .u8 x1, .int .u8 x2, .int .u8 x3, .int .u8 f, .int .u8 t0, .int .u8 g0, .int .u8 t1, .int .u8 g1]] w
    fun e w' => e = .returned (.agg #[.int .i64 s.f, .int .i64 s.a.t, .bool s.a.g, .int .i64 s.b.t, .bool s.b.g]) ∧ Below w.heap.size w w' := by
  subst hs
  exact sRead_any x0 x1 x2 x3 f t0 g0 t1 g1 hf h0 h1 w
end Go.Proofs.Ytagppgdigabbmaa.N
