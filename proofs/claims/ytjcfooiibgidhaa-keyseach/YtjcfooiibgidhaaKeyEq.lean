/-
  Layer 21: '==' of 32 bytes that are the same; a ring's rows in worlds that come of one.
-/
import Derived.Test.YtjcfooiibgidhaaKeyRef
namespace Go.Proofs.Ytjcfooiibgidhaa.N
open Go.RowKit
set_option linter.unusedVariables false
set_option maxRecDepth 8192

theorem exec_eqlD {a : Act} {o : Oper} {w : World} (ty' : TypeId) {d : List Int} (hl : d.length = 32) (hb : IsB d) (x y : Operand) (ho : o.op = .binOp .eql 28 x y ty') (hx : a.eval x = .agg (dA d)) (hy : a.eval y = .agg (dA d)) : (execOp a.eval o).run Try.prog w = .ok (.value (.bool true)) w :=
  exec_eqlV 28 ty' x y ho (d.map Int.toNat) (d.map Int.toNat) true (decide_eq_true rfl) (by rw [hx, dA_arr hb]) (by rw [hy, dA_arr hb]) (by kernel_rfl) Try.underlying28 Try.underlying5 Try.szU8k (by rw [List.length_map, hl]) (by rw [List.length_map, hl])
theorem exec_neqD {a : Act} {o : Oper} {w : World} (ty' : TypeId) {d : List Int} (hl : d.length = 32) (hb : IsB d) (x y : Operand) (ho : o.op = .binOp .neq 28 x y ty') (hx : a.eval x = .agg (dA d)) (hy : a.eval y = .agg (dA d)) : (execOp a.eval o).run Try.prog w = .ok (.value (.bool false)) w :=
  exec_neqV 28 ty' x y ho (d.map Int.toNat) (d.map Int.toNat) false (decide_eq_true rfl) (by rw [hx, dA_arr hb]) (by rw [hy, dA_arr hb]) (by kernel_rfl) Try.underlying28 Try.underlying5 Try.szU8k (by rw [List.length_map, hl]) (by rw [List.length_map, hl])
theorem exec_loadD {a : Act} {o : Oper} {w : World} {d : List Int} (hl : d.length = 32) (x : Operand) (ho : o.op = .load 28 x) (b off : Nat) (hx : a.eval x = .pointer (some ⟨b, off, none⟩)) (hc : w.rangeAt b off (dC d)) : (execOp a.eval o).run Try.prog w = .ok (.value (.agg (dA d))) w := by
  unfold execOp
  simp only [ho, hx, Instr.loadAt, Instr.sureAddr, Sem.run_bind, Sem.run_pure, Result.andThen_ok, run_loadVar_mid w b off 28 (dC d) _ hc Try.underlying28 rfl (by rw [dC_len hl]; exact Try.szDg)]
  rfl
theorem zero_ok : zero32.length = 32 ∧ IsB zero32 := ⟨ky0_ok.len, ky0_ok.byt⟩
end Go.Proofs.Ytjcfooiibgidhaa.N
