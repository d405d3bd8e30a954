/-
 Layer 19: the document's places in memory: structs of three numbers.
-/
import Derived.Test.YthangiocheodoaaGreatDoorEdRefPlain
import Derived.Test.YthangiocheodoaaGreatDoorEdBase
namespace Go.Proofs.YthangiocheodoaaGreatDoor.N
open Go.RowKit
set_option linter.unusedVariables false
set_option maxRecDepth 8192

theorem fill_t12 (y z : Nat) : Instr.fill (tPlaces[·]?) (tA 0 0 0) [(1, .agg (bA y)), (2, .agg (bA z))] = some (tA 0 y z) := by
 obtain ⟨c2, e2, s2, g2⟩ := fill_part (tPlaces[·]?) 1 32 32 (bA y) (tA 0 0 0) [(2, .agg (bA z))] rfl (bA_size y) (by rw [tA_size]; decide)
 obtain ⟨c3, e3, s3, g3⟩ := fill_part (tPlaces[·]?) 2 64 32 (bA z) c2 [] rfl (bA_size z) (by rw [s2, tA_size]; decide)
 rw [e2, e3, Instr.fill, Option.some_inj]
 apply Array.ext_getElem?
 intro k
 rw [g3 k, g2 k, tA_get, tA_get]
 by_cases h1 : k < 32
 ·simp [h1, show ¬ 64 ≤ k by omega, show ¬ 32 ≤ k by omega]
 ·by_cases h2 : k < 64
  ·simp [h1, h2, show ¬ 64 ≤ k by omega, show 32 ≤ k by omega]
  ·by_cases h3 : k < 96
   ·simp [h1, h2, show 64 ≤ k by omega, h3]
   ·simp [h1, h2, h3]
    rw [bA_past (by omega), bA_past (by omega)]
theorem t256 (a : Fp) : a.val < 2 ^ 256 := elt256 a.isLt
theorem Tryz.szPl : (Tryz.prog.info? 35).map (·.size) = some 96 := by kernel_rfl
theorem zeroPl (w : World) : (zeroValue 35).run Tryz.prog w = .ok (.agg (tA 0 0 0)) w := by rw [tA_zero]; kernel_rfl
theorem builtPl (parts : List (Nat × Value)) : Tryz.prog.built 35 parts = Instr.fill (tPlaces[·]?) (tA 0 0 0) parts := by rw [tA_zero]; kernel_rfl
theorem built_Pl (x y z : Nat) : Tryz.prog.built 35 [(0, .agg (bA x)), (1, .agg (bA y)), (2, .agg (bA z))] = some (tA x y z) := by rw [builtPl, fill_t]
theorem built_Pl12 (y z : Nat) : Tryz.prog.built 35 [(1, .agg (bA y)), (2, .agg (bA z))] = some (tA 0 y z) := by rw [builtPl, fill_t12]
end Go.Proofs.YthangiocheodoaaGreatDoor.N
