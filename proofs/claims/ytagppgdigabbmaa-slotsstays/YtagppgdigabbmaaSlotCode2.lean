/-
  The code of layer 22 (slots): lay.
-/
import Derived.Test.YtagppgdigabbmaaSlotCode
import Derived.Lib.BufferWrite
import Derived.Deep.CutRange
namespace Go.Proofs.Ytagppgdigabbmaa.N
open Go.RowKit
set_option linter.unusedVariables false
set_option maxRecDepth 8192

/-- Nine bytes. -/
def nine (a b c d e f g h i : Int) : Array Value := #[.int .u8 a, .int .u8 b, .int .u8 c, .int .u8 d, .int .u8 e, .int .u8 f, .int .u8 g, .int .u8 h, .int .u8 i]
theorem copy_slot (w : World) (g : Nat) (hg : g = w.heap.size) :
    Sem.run Try.prog (Builtin.copy_ #[29, 9] 3 #[.slice (some ⟨g, 0, none⟩) 9 9, .string ⟨#[115, 108, 111, 116]⟩]) (w.alloc (.cells #[.int .u8 0, .int .u8 0, .int .u8 0, .int .u8 0, .int .u8 0, .int .u8 0, .int .u8 0, .int .u8 0, .int .u8 0] 50)) =
      .ok (.int .i64 4) (w.alloc (.cells #[.int .u8 115, .int .u8 108, .int .u8 111, .int .u8 116, .int .u8 0, .int .u8 0, .int .u8 0, .int .u8 0, .int .u8 0] 50)) := by
  subst hg
  rw [Lib.run_copy_row_string _ 29 9 3 5 w.heap.size 0 9 9 ⟨#[115, 108, 111, 116]⟩ _ 50 Try.underlying29 (by kernel_rfl) (heap_alloc_last w _) (by decide) (by decide), World.setRow_alloc_new]
  rfl
set_option maxHeartbeats 1600000 in
theorem sLay_any (s : Sl) (w : World) (hm : maySl s = true) : Calls Try.prog 26 #[.agg #[.int .i64 s.f, .int .i64 s.a.t, .bool s.a.g, .int .i64 s.b.t, .bool s.b.g]] w fun e w' => e = .returned (.agg ((bytesSl s).map (Value.int .u8)).toArray) ∧ Below w.heap.size w w' := by
  have hb := maySl_of hm
  obtain ⟨f, ⟨t0, g0⟩, ⟨t1, g1⟩⟩ := s
  simp only at hb
  obtain ⟨hf, ha, hb⟩ := hb
  have HF : Hid (f % 256 = f) := by show _ = _; omega
  have HA : Hid (t0 % 256 = t0) := by show _ = _; omega
  have HB : Hid (t1 % 256 = t1) := by show _ = _; omega
  have W6 : IntKind.i64.wrap 6 = 6 := by decide
  have W8 : IntKind.i64.wrap 8 = 8 := by decide
  go_enter Try.func26, Try.ntmps26
  go_wp2_with fail
  rw [copy_slot _ _ (by simp)]
  go_wp2_with fail
  go_loopw [15] (fun y ws => (y = .int .i64 0 ∧ ws = ((w.alloc (.cells #[.int .i64 f, .int .i64 t0, .bool g0, .int .i64 t1, .bool g1] 26)).alloc (.cells #[.int .u8 0, .int .u8 0, .int .u8 0, .int .u8 0, .int .u8 0, .int .u8 0, .int .u8 0, .int .u8 0, .int .u8 0] 50)).alloc (.cells #[.int .u8 115, .int .u8 108, .int .u8 111, .int .u8 116, .int .u8 f, .int .u8 0, .int .u8 0, .int .u8 0, .int .u8 0] 50)) ∨ (y = .int .i64 1 ∧ ws = ((((w.alloc (.cells #[.int .i64 f, .int .i64 t0, .bool g0, .int .i64 t1, .bool g1] 26)).alloc (.cells #[.int .u8 0, .int .u8 0, .int .u8 0, .int .u8 0, .int .u8 0, .int .u8 0, .int .u8 0, .int .u8 0, .int .u8 0] 50)).alloc (.cells #[.int .u8 115, .int .u8 108, .int .u8 111, .int .u8 116, .int .u8 f, .int .u8 t0, .int .u8 (bitSo g0), .int .u8 0, .int .u8 0] 50)).alloc (.cells #[.int .i64 t0, .bool g0] 23)).drew) ∨
    (y = .int .i64 2 ∧ ws = ((((((w.alloc (.cells #[.int .i64 f, .int .i64 t0, .bool g0, .int .i64 t1, .bool g1] 26)).alloc (.cells #[.int .u8 0, .int .u8 0, .int .u8 0, .int .u8 0, .int .u8 0, .int .u8 0, .int .u8 0, .int .u8 0, .int .u8 0] 50)).alloc (.cells #[.int .u8 115, .int .u8 108, .int .u8 111, .int .u8 116, .int .u8 f, .int .u8 t0, .int .u8 (bitSo g0), .int .u8 t1, .int .u8 (bitSo g1)] 50)).alloc (.cells #[.int .i64 t0, .bool g0] 23)).drew).alloc (.cells #[.int .i64 t1, .bool g1] 23)).drew)) (fun y _ => 2 - (RowKit.intOf y).toNat)
  case atStart => exact .inl ⟨rfl, rfl⟩
  case round =>
    rcases hrel with ⟨rfl, rfl⟩ | ⟨rfl, rfl⟩ | ⟨rfl, rfl⟩
    · go_wp2_with fail
      rw [run_idx0]
      go_wp2_with fail
      go_region_with (go_at_call 31; refine (sMark_any _ _).mono ?_; rintro e w' ⟨rfl, rfl⟩)
      all_goals
        go_wp2_with fail
        go_roundw
        case rel => exact .inr (.inl (by first | exact ⟨rfl, rfl⟩ | exact ⟨rfl, trivial⟩ | exact ⟨trivial, rfl⟩))
        case measure => simp [RowKit.intOf]
    · go_wp2_with fail
      rw [run_idx1]
      go_wp2_with fail
      go_region_with (go_at_call 31; refine (sMark_any _ _).mono ?_; rintro e w' ⟨rfl, rfl⟩)
      all_goals
        go_wp2_with fail
        go_roundw
        case rel => exact .inr (.inr (by first | exact ⟨rfl, rfl⟩ | exact ⟨rfl, trivial⟩ | exact ⟨trivial, rfl⟩))
        case measure => simp [RowKit.intOf]
    · go_wp2_with fail
      exact bodyPost_ret (v := .agg (nine 115 108 111 116 f t0 (bitSo g0) t1 (bitSo g1))) (by simp [results, Try.results26, go_sem, nine]) rfl ⟨rfl, (((((below_three w _ _ _).alloc (by simp; omega) _).drew).alloc (by simp; omega) _).drew)⟩
end Go.Proofs.Ytagppgdigabbmaa.N
