/-
  The code of layer 20 (manifest), as it landed: Bytes.
-/
import Derived.Test.YtjcfooiibgidhaaManCode2
namespace Go.Proofs.Ytjcfooiibgidhaa.N
open Go.RowKit
set_option linter.unusedVariables false
set_option maxRecDepth 8192

theorem run_sliceDig {P : Program} (t e : TypeId) (n : Nat) (hu : P.underlying t = some (.array n e)) (he : (P.info? e).map (·.size) = some 1) (b o : Nat) (h3 : 0 < n) (w : World) :
    (Instr.sliceAt t (.pointer (some ⟨b, o, none⟩)) none none none).run P w = .ok (.slice (some ⟨b, o, none⟩) n n) w := by
  have hal : P.arrayLen t = n := by simp [Program.arrayLen, hu]
  have hel : P.elem t = e := by simp [Program.elem, hu]
  obtain ⟨inf, hq, hs⟩ := Option.map_eq_some_iff.1 he
  rw [run_sliceAt_array_all w t ⟨b, o, none⟩ (by rw [hal, hel]; exact hu)]
  rw [hal, hel]
  simp [sizeOf, typeInfo, hq, hs, slicedAt, show ¬ n = 0 by omega, plain_add]
theorem Try.szU8 : (Try.prog.info? 5).map (·.size) = some 1 := by kernel_rfl
theorem exec_sliceDig {a : Act} {o : Oper} {w : World} (g k : Nat) (x : Operand) (ho : o.op = .slice 28 x none none none) (hx : a.eval x = .pointer (some ⟨g, k, none⟩)) :
    (execOp a.eval o).run Try.prog w = .ok (.value (.slice (some ⟨g, k, none⟩) 32 32)) w := by
  unfold execOp
  simp only [ho, hx, Option.map_none, run_sliceDig 28 5 32 Try.underlying28 Try.szU8 g k (by decide) w, Sem.run_bind, Sem.run_pure, Result.andThen_ok]
theorem sgs_take (l : List Sg) (k : Nat) (h : k < l.length) : (l.take (k + 1)).flatMap sgBytes = (l.take k).flatMap sgBytes ++ sgBytes (sgI l k) := by
  rw [List.take_add_one, List.getElem?_eq_getElem h, sgI_lt h, List.flatMap_append]
  simp only [Option.toList, List.flatMap_cons, List.flatMap_nil, List.append_nil]
theorem nums_two (x y : Int) : nums [x, y] = four x ++ four y := by simp [nums]
theorem own_new {w w' : World} {B g : Nat} {T : TypeId} {z : List Int} {k : IntKind} (h : w.heap[g]? = some (.cells (z.map (Value.int k)).toArray T (0, 0))) (hB : B ≤ g) {n : Nat} (hn : z.length = n) (hm : n ≤ 1000) :
    w.ownsRow B T 1 (.slice (some ⟨g, 0, none⟩) n n) n (z.map (Value.int k)) :=
  owns_of_heap h (by rw [List.length_map, hn]) hB (by unfold maxLen; omega)
end Go.Proofs.Ytjcfooiibgidhaa.N
