/-
  '==' and '!=' of arrays of integers that are the same; an operation that is wanted, by what it yields.
-/
import Derived.Test.YthcnnglpncblaaaShaCode6
import Derived.ChangeKeysEq
namespace Go.Proofs.Ythcnnglpncblaaa
open Go.RowKit
set_option linter.unusedVariables false
set_option maxRecDepth 8192

theorem items_same {P : Program} {e : TypeId} {k : IntKind} (he : P.underlying e = some (.int k)) (zs : List Int) (d : Nat) (w : World) : ∀ is : List Nat, (∀ i ∈ is, i < zs.length) →
    (Op.eqItems (d + 1) e 1 (zs.map (Value.int k)).toArray (zs.map (Value.int k)).toArray is).run P w = .ok true w
  | [], _ => by simp [Op.eqItems]
  | i :: is, h => by
    have hi : i < zs.length := h i (by simp)
    have px : (part e (zs.map (Value.int k)).toArray (i * 1)).run P w = .ok (.int k (zs.getD i 0)) w := by
      simp [part, isAgg, run_underlying he, List.getD, List.getElem?_eq_getElem hi]
    have pe : (Op.equalIn (d + 1) e (.int k (zs.getD i 0)) (.int k (zs.getD i 0))).run P w = .ok true w := by
      rw [run_equalIn_int w d e k k _ _ he]
      simp
    have ih := items_same he zs d w is (fun j hj => h j (by simp [hj]))
    simp only [Op.eqItems, Sem.run_bind, px, pe, Result.andThen_ok, Bool.not_true, Bool.false_eq_true, if_false]
    exact ih
theorem run_sameA {P : Program} {t e : TypeId} {n : Nat} {k : IntKind} (ht : P.underlying t = some (.array n e)) (he : P.underlying e = some (.int k)) (h1 : (P.info? e).map (·.size) = some 1) (zs : List Int) (hl : zs.length = n) (d : Nat) (w : World) :
    (Op.equalIn (d + 2) t (.agg (zs.map (Value.int k)).toArray) (.agg (zs.map (Value.int k)).toArray)).run P w = .ok true w := by
  obtain ⟨i, hi, hs⟩ := Option.map_eq_some_iff.1 h1
  have hc : P.cellsOf e = 1 := by simp [Program.cellsOf, hi, hs]
  rw [run_equalIn_array w (d + 1) _ _ ht hi, hc]
  exact items_same he zs d w _ (fun j hj => by rw [hl]; exact List.mem_range.1 hj)
theorem exec_eqlA {P : Program} {a : Act} {o : Oper} {w : World} (ty ty' : TypeId) (x y : Operand) (ho : o.op = .binOp .eql ty x y ty') {e : TypeId} {n : Nat} {k : IntKind} (zs : List Int) (hx : a.eval x = .agg (zs.map (Value.int k)).toArray) (hy : a.eval y = .agg (zs.map (Value.int k)).toArray)
    (hg : P.eqGuardType P.depth ty = false) (ht : P.underlying ty = some (.array n e)) (he : P.underlying e = some (.int k)) (h1 : (P.info? e).map (·.size) = some 1) (hl : zs.length = n) : (execOp a.eval o).run P w = .ok (.value (.bool true)) w := by
  unfold execOp
  simp only [ho, hx, hy, Sem.run_bind, Sem.run_pure, run_eqGuard_agg w .eql ty x y _ _ hg, Result.andThen_ok, run_eql_struct, run_sameA ht he h1 zs hl 9998 w]
theorem exec_neqA {P : Program} {a : Act} {o : Oper} {w : World} (ty ty' : TypeId) (x y : Operand) (ho : o.op = .binOp .neq ty x y ty') {e : TypeId} {n : Nat} {k : IntKind} (zs : List Int) (hx : a.eval x = .agg (zs.map (Value.int k)).toArray) (hy : a.eval y = .agg (zs.map (Value.int k)).toArray)
    (hg : P.eqGuardType P.depth ty = false) (ht : P.underlying ty = some (.array n e)) (he : P.underlying e = some (.int k)) (h1 : (P.info? e).map (·.size) = some 1) (hl : zs.length = n) : (execOp a.eval o).run P w = .ok (.value (.bool false)) w := by
  unfold execOp
  simp only [ho, hx, hy, Sem.run_bind, Sem.run_pure, run_eqGuard_agg w .neq ty x y _ _ hg, Result.andThen_ok, run_neq_struct, run_sameA ht he h1 zs hl 9998 w, Bool.not_true]
/-- An operation that is wanted, by what it yields. -/
theorem wpList_exec {P : Program} {ops : Array Oper} {Q : Exit → Act → World → Prop} {a : Act} {w : World} {rest : List Oper} {o : Oper} {v : Value}
    (hw : Region.wanted o (yielded ops a.tmps) = true) (hr : (execOp a.eval o).run P w = .ok (.value v) w) (h : wpList P ops Q rest (a.put o.dst v) w) : wpList P ops Q (o :: rest) a w :=
  BigFrame.wpList_want hw fun K hK => by
    unfold Oper.wp
    rw [hr]
    exact hK _ _ h
end Go.Proofs.Ythcnnglpncblaaa
