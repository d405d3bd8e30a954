/-
 Slices of bytes that a law makes, as variables.
-/
import Derived.Test.YthangiocheodoaaGreatDoorCurveFace
namespace Go.Proofs.YthangiocheodoaaGreatDoor.N
open Go.RowKit
set_option linter.unusedVariables false
set_option maxRecDepth 8192

section
variable {P : Program} {ops : Array Oper} {rest : List Oper} {o : Oper} {a : Act} {w w0 : World} {Q : Exit → Act → World → Prop} {K : Act → World → Prop} {l : List AV}
theorem wp_sliceV (V : Vars w0 w l) (d : Tmp) (t : TypeId) (n : Nat) (ps : List (Nat × Operand)) (hd : o.dst = some d) (ho : o.op = .buildSlice t n ps.toArray) (T : TypeId) (z : List Nat)
  (hb : ∀ w, (Instr.buildSlice t n (ps.map fun p => (p.1, a.eval p.2)).toArray).run P w = .ok (.slice (some ⟨w.heap.size, 0, none⟩) n n) (w.alloc (.cells (arr .u8 z) T)))
  (h : ∀ w' g, Vars w0 w' (⟨g, T, arr .u8 z⟩ :: l) → K (a.put (some d) (.slice (some ⟨g, 0, none⟩) n n)) w') : o.wp P a w K Q := by
 have hm : (ps.toArray.map fun (p : Nat × Operand) => match p with | (i, x) => (i, a.eval x)) = (ps.map fun p => (p.1, a.eval p.2)).toArray := by
  rw [List.map_toArray]
 unfold Oper.wp execOp
 simp only [ho, hm, hb, Sem.run_bind, Sem.run_pure, Result.andThen_ok]
 have := h _ _ (V.new T (arr .u8 z))
 rw [← hd] at this
 exact this
end
theorem row_made {w : World} {g : Nat} {T : TypeId} {z : List Nat} (h : w.heap[g]? = some (.cells (arr .u8 z) T (0, 0))) (hl : z.length ≤ 1000) : Row .u8 w (some ⟨g, 0, none⟩) z.length z.length (nI z) := by
 refine ⟨nI_length z, Nat.le_refl _, Nat.le_trans hl (by decide), fun e => (by cases e), fun _ => ⟨g, 0, rfl, (Array.getElem?_eq_some_iff.1 h).1, fun i hi => ?_⟩⟩
 rw [Nat.zero_add, arr_cell h i hi]
 unfold nI
 rw [List.getElem?_map]
 cases z[i]? <;> rfl
theorem made1 (n : Nat) (w : World) : (Instr.buildSlice 24 1 [(0, .int .u8 (n : Int))].toArray).run Tryz.prog w = .ok (.slice (some ⟨w.heap.size, 0, none⟩) 1 1) (w.alloc (.cells (arr .u8 [n]) 5)) := by kernel_rfl
end Go.Proofs.YthangiocheodoaaGreatDoor.N
