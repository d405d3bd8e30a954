/-
  The code of layer 13 (sha256): reckon, Once.Do, the count, New.
-/
import Derived.Test.YthcnnglpncblaaaShaHash2
namespace Go.Proofs.Ythcnnglpncblaaa
open Go.RowKit
set_option linter.unusedVariables false
set_option maxRecDepth 8192

theorem wpList_storeM {P : Program} {ops : Array Oper} {rest : List Oper} {o : Oper} {a : Act} {w : World} {Q : Exit → Act → World → Prop} (hgd : o.guard = none) (ty : TypeId) (x y : Operand) (ho : o.op = .store ty x y)
    (b p : Nat) {k : IntKind} (ys : List Int) (hx : a.eval x = .pointer (some ⟨b, p, none⟩)) (hy : a.eval y = .agg (ys.map (Value.int k)).toArray) {m : Nat} (ht : w.there b p m) (hi : (P.info? ty).map (·.size) = some m) (hl : ys.length = m)
    (h : wpList P ops Q rest (a.put o.dst undef) (w.setCells b p (ys.map (Value.int k)))) : wpList P ops Q (o :: rest) a w :=
  wpList_store_mid hgd ty x y ho b p _ hx hy (by simpa [hl] using ht) (by rw [hi]; simp [hl]) (ints_one k ys) (by simpa using h)
theorem wp_storeM {P : Program} {o : Oper} {a : Act} {w : World} {K : Act → World → Prop} {Q : Exit → Act → World → Prop} (ty : TypeId) (x y : Operand) (ho : o.op = .store ty x y)
    (b p : Nat) {k : IntKind} (ys : List Int) (hx : a.eval x = .pointer (some ⟨b, p, none⟩)) (hy : a.eval y = .agg (ys.map (Value.int k)).toArray) {m : Nat} (ht : w.there b p m) (hi : (P.info? ty).map (·.size) = some m) (hl : ys.length = m)
    (h : K (a.put o.dst undef) (w.setCells b p (ys.map (Value.int k)))) : o.wp P a w K Q :=
  wp_store_mid ty x y ho b p _ hx hy (by simpa [hl] using ht) (by rw [hi]; simp [hl]) (ints_one k ys) (by simpa using h)
theorem exec_loadM {P : Program} {a : Act} {o : Oper} {w : World} (ty : TypeId) (x : Operand) (ho : o.op = .load ty x) (b p : Nat) (hx : a.eval x = .pointer (some ⟨b, p, none⟩)) {k : IntKind} {zs : List Int} (hA : w.rangeAt b p (zs.map (Value.int k))) {n : Nat} {e : TypeId}
    (hu : P.underlying ty = some (.array n e)) {m : Nat} (hi : (P.info? ty).map (·.size) = some m) (hl : zs.length = m) : (execOp a.eval o).run P w = .ok (.value (.agg (zs.map (Value.int k)).toArray)) w := by
  unfold execOp
  simp only [ho, hx, Instr.loadAt, Instr.sureAddr, Sem.run_bind, Sem.run_pure, Result.andThen_ok, run_loadVar_mid w b p ty _ _ hA hu rfl (show (P.info? ty).map (·.size) = some (zs.map (Value.int k)).length by rw [hi]; simp [hl])]
theorem wpList_loadM {P : Program} {ops : Array Oper} {rest : List Oper} {o : Oper} {a : Act} {w : World} {Q : Exit → Act → World → Prop} (hgd : o.guard = none) (ty : TypeId) (x : Operand) (ho : o.op = .load ty x)
    (b p : Nat) (hx : a.eval x = .pointer (some ⟨b, p, none⟩)) {k : IntKind} {zs : List Int} (hA : w.rangeAt b p (zs.map (Value.int k))) {n : Nat} {e : TypeId} (hu : P.underlying ty = some (.array n e)) {m : Nat} (hi : (P.info? ty).map (·.size) = some m) (hl : zs.length = m)
    (h : wpList P ops Q rest (a.put o.dst (.agg (zs.map (Value.int k)).toArray)) w) : wpList P ops Q (o :: rest) a w :=
  wpList_load_mid hgd ty x ho b p hx _ _ hA hu rfl (by rw [hi]; simp [hl]) h

end Go.Proofs.Ythcnnglpncblaaa
