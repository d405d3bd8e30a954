/-
  A walk of layer 7's law ChipNil.
-/
import Derived.Test.YtjagnpljhedfjaaChipAwake
namespace Go.Proofs.Ytjagnpljhedfjaa
open Go.RowKit Go.Maps
set_option linter.unusedVariables false
set_option maxRecDepth 8192

set_option maxHeartbeats 3200000 in
theorem walk_chipNil (x y : Int) (a : Option Addr) (len cap : Nat) (z : List Int) (w : World) (hr : Row .u8 w a len cap z) :
    Calls Try.prog 6 #[.int .i64 x, .int .i64 y, .slice a len cap] w fun e w' => e = .returned (.bool true) ∧ Below w.heap.size w w' := by
  go_enter Try.func6, Try.ntmps6
  go_wp2_with fail
  refine (chipOn_nil _).mono ?_
  rintro e w1 ⟨⟨r1, rfl⟩, rfl⟩
  go_wp2_with fail
  refine (chipOff_nil _).mono ?_
  rintro e w1 ⟨⟨r2, rfl⟩, rfl⟩
  go_wp2_with fail
  refine (chipArm_nil _ _ _).mono ?_
  rintro e w1 ⟨⟨r3, rfl⟩, rfl⟩
  go_wp2_with fail
  refine (chipWeak_nil _ _).mono ?_
  rintro e w1 ⟨⟨r4, rfl⟩, rfl⟩
  have q1 := below_one w (.cells #[.int .i64 y] 3)
  go_wp2_with fail
  generalize w.alloc (.cells #[.int .i64 y] 3) = w0 at *
  refine (chipFlip_nil _ _ _ _ _ _).mono ?_
  rintro e w1 ⟨⟨r5, rfl⟩, rfl⟩
  go_wp2_with fail
  refine (chipRead_nil _ _ _).mono ?_
  rintro e w1 ⟨rfl, rfl⟩
  go_wp2_with fail
  refine (awake7_any _).mono ?_
  rintro e w2 ⟨rfl, q2⟩
  replace q1 := btrans q1 q2
  clear q2
  go_wp2_with fail
  refine (chipProgram_nil _ _ _ _ _ _).mono ?_
  rintro e w1 ⟨rfl, rfl⟩
  go_wp2_with fail
  refine (chipErase_nil _ _).mono ?_
  rintro e w1 ⟨rfl, rfl⟩
  go_wp2_with fail
  refine (chipMark_nil _ _).mono ?_
  rintro e w1 ⟨rfl, rfl⟩
  go_wp2_with fail
  refine (chipBurn_nil _ _).mono ?_
  rintro e w1 ⟨rfl, rfl⟩
  go_wp2_with fail
  refine (chipForce_nil _ _ _ _ _ _).mono ?_
  rintro e w1 ⟨rfl, rfl⟩
  go_wp2_with fail
  refine (chipBad_nil _ _).mono ?_
  rintro e w1 ⟨rfl, rfl⟩
  go_wp2_with fail
  refine (chipFuse_nil _).mono ?_
  rintro e w1 ⟨rfl, rfl⟩
  go_wp2_with fail
  refine (chipUp_nil _).mono ?_
  rintro e w1 ⟨rfl, rfl⟩
  go_wp2_with fail
  refine (chipGeometry_nil _).mono ?_
  rintro e w3 ⟨rfl, q3⟩
  go_wp2_with fail
  go_ret
  exact ⟨rfl, btrans q1 q3⟩
end Go.Proofs.Ytjagnpljhedfjaa
