/-
  The code of layer 13 (sha256): Write.
-/
import Derived.Test.YthcnnglpncblaaaShaHash4
namespace Go.Proofs.Ythcnnglpncblaaa
open Go.RowKit
set_option linter.unusedVariables false
set_option maxRecDepth 8192

theorem exec_sliceAll {P : Program} {a : Act} {o : Oper} {w : World} (ty : TypeId) (x : Operand) (ho : o.op = .slice ty x none none none) (vx v : Value) (hx : a.eval x = vx) (hr : (Instr.sliceAt ty vx none none none).run P w = .ok v w) : (execOp a.eval o).run P w = .ok (.value v) w := by
  unfold execOp
  simp only [ho, hx, Option.map_none, Sem.run_bind, Sem.run_pure, Result.andThen_ok, hr]
theorem HashAt.row {w : World} {h : Nat} {d m : Int} {K s r : List Nat} {n : Nat} (H : HashAt w h d m K s r n) : Row .u8 w (some ⟨h, 75, none⟩) 64 64 (nI r) :=
  ⟨by rw [nI_length]; exact H.lr, Nat.le_refl _, by decide, by simp, fun _ => ⟨h, 75, rfl, H.lt, fun i hi => by
    have hl : i < (nI r).length := by rw [nI_length, H.lr]; exact hi
    apply H.rr i
    rw [List.getElem?_map, List.getElem?_eq_getElem hl]
    rfl⟩⟩
end Go.Proofs.Ythcnnglpncblaaa
