/-
  Layer 22: two slots that are the same, compared.
-/
import Derived.Test.YtagppgdigabbmaaSlotCode4
namespace Go.Proofs.Ytagppgdigabbmaa.N
open Go.RowKit
set_option linter.unusedVariables false
set_option maxRecDepth 8192

theorem eqFields_two {P : Program} {D : Nat} {X : Array Value} {x y : Value} {f g : Field} {w : World} (hf : f.name ≠ "_") (hg : g.name ≠ "_") (p0 : (part f.type X f.offset).run P w = .ok x w) (p1 : (part g.type X g.offset).run P w = .ok y w)
    (e0 : (Op.equalIn D f.type x x).run P w = .ok true w) (e1 : (Op.equalIn D g.type y y).run P w = .ok true w) : (Op.eqFields D X X [f, g]).run P w = .ok true w := by
  simp [Op.eqFields, hf, hg, p0, p1, e0, e1]
theorem exec_loadH {P : Program} {a : Act} {o : Oper} {w : World} {T : TypeId} {X : Array Value} (x : Operand) (ho : o.op = .load T x) (g : Nat) (hx : a.eval x = .pointer (some ⟨g, 0, none⟩)) (hg : w.heap[g]? = some (.cells X T (0, 0)))
    {d : TypeDesc} (hu : P.underlying T = some d) (hd : d.isRow = true) {n : Nat} (hn : (P.info? T).map (·.size) = some n) (hX : X.size = n) : (execOp a.eval o).run P w = .ok (.value (.agg X)) w := by
  unfold execOp
  simp only [ho, hx, Instr.loadAt, Instr.sureAddr, Sem.run_bind, Sem.run_pure, Result.andThen_ok, run_loadVar_row w g T T X (0, 0) d hg hu (by cases d <;> first | rfl | exact hd) (by rw [hn, hX])]
theorem eqI22 (d : Nat) (x : Int) (w : World) : (Op.equalIn (d + 1) 3 (.int .i64 x) (.int .i64 x)).run Try.prog w = .ok true w := by
  rw [run_equalIn_int (d := d) w 3 .i64 .i64 _ _ Try.underlying3]
  simp
theorem eqB22 (d : Nat) (x : Bool) (w : World) : (Op.equalIn (d + 1) 4 (.bool x) (.bool x)).run Try.prog w = .ok true w := by
  simp [Op.equalIn, run_underlying Try.underlying4]
theorem run_equalSo (d : Nat) (t : Int) (g : Bool) (w : World) : (Op.equalIn (d + 2) 23 (.agg #[.int .i64 t, .bool g]) (.agg #[.int .i64 t, .bool g])).run Try.prog w = .ok true w := by
  obtain ⟨fs, hfs⟩ : ∃ fs, Try.prog.underlying 23 = some (.struct fs) := ⟨_, Try.underlying23⟩
  have hf : Try.prog.fieldsOf 23 = fs := by unfold Program.fieldsOf; rw [hfs]
  rw [run_equalIn_agg (d := d + 1) w _ _ _ (by rw [hf]; exact hfs) (by kernel_rfl), hf]
  rw [Try.underlying23] at hfs
  cases hfs
  exact eqFields_two (by decide) (by decide) (by simp [part, isAgg, run_underlying Try.underlying3]; rfl) (by simp [part, isAgg, run_underlying Try.underlying4]; rfl) (eqI22 d _ w) (eqB22 d _ w)
theorem run_equalTwo (d : Nat) (t u : Int) (g h : Bool) (w : World) : (Op.equalIn (d + 3) 24 (.agg #[.int .i64 t, .bool g, .int .i64 u, .bool h]) (.agg #[.int .i64 t, .bool g, .int .i64 u, .bool h])).run Try.prog w = .ok true w := by
  obtain ⟨i, hi, hs⟩ := Option.map_eq_some_iff.1 (show (Try.prog.info? 23).map (·.size) = some 2 by kernel_rfl)
  have hc : Try.prog.cellsOf 23 = 2 := by simp [Program.cellsOf, hi, hs]
  have p0 : (part 23 #[.int .i64 t, .bool g, .int .i64 u, .bool h] 0).run Try.prog w = .ok (.agg #[.int .i64 t, .bool g]) w := by simp [part, isAgg, run_underlying Try.underlying23, sizeOf, typeInfo, hi, hs]
  have p1 : (part 23 #[.int .i64 t, .bool g, .int .i64 u, .bool h] 2).run Try.prog w = .ok (.agg #[.int .i64 u, .bool h]) w := by simp [part, isAgg, run_underlying Try.underlying23, sizeOf, typeInfo, hi, hs]
  rw [run_equalIn_array w (d + 2) _ _ Try.underlying24 hi, hc, show List.range 2 = [0, 1] from rfl]
  simp [Op.eqItems, p0, p1, run_equalSo]
theorem run_equalSl (s : Sl) (w : World) : (Op.equalIn 10000 26 (.agg #[.int .i64 s.f, .int .i64 s.a.t, .bool s.a.g, .int .i64 s.b.t, .bool s.b.g]) (.agg #[.int .i64 s.f, .int .i64 s.a.t, .bool s.a.g, .int .i64 s.b.t, .bool s.b.g])).run Try.prog w = .ok true w := by
  obtain ⟨fs, hfs⟩ : ∃ fs, Try.prog.underlying 26 = some (.struct fs) := ⟨_, Try.underlying26⟩
  have hf : Try.prog.fieldsOf 26 = fs := by unfold Program.fieldsOf; rw [hfs]
  obtain ⟨i, hi, hs⟩ := Option.map_eq_some_iff.1 (show (Try.prog.info? 24).map (·.size) = some 4 by kernel_rfl)
  rw [run_equalIn_agg (d := 9999) w _ _ _ (by rw [hf]; exact hfs) (by kernel_rfl), hf]
  rw [Try.underlying26] at hfs
  cases hfs
  exact eqFields_two (x := .int .i64 s.f) (y := .agg #[.int .i64 s.a.t, .bool s.a.g, .int .i64 s.b.t, .bool s.b.g]) (by decide) (by decide) (by simp [part, isAgg, run_underlying Try.underlying3]) (by simp [part, isAgg, run_underlying Try.underlying24, sizeOf, typeInfo, hi, hs]) (eqI22 9998 _ w) (run_equalTwo 9996 _ _ _ _ w)
theorem exec_neqSl {a : Act} {o : Oper} {w : World} {T' : TypeId} (s : Sl) (u v : Operand) (ho : o.op = .binOp .neq 26 u v T') (hu : a.eval u = .agg #[.int .i64 s.f, .int .i64 s.a.t, .bool s.a.g, .int .i64 s.b.t, .bool s.b.g]) (hv : a.eval v = .agg #[.int .i64 s.f, .int .i64 s.a.t, .bool s.a.g, .int .i64 s.b.t, .bool s.b.g]) : (execOp a.eval o).run Try.prog w = .ok (.value (.bool false)) w := by
  unfold execOp
  simp only [ho, hu, hv, Sem.run_bind, Sem.run_pure, run_eqGuard_agg w .neq _ u v _ _ (show Try.prog.eqGuardType Try.prog.depth 26 = false by kernel_rfl), Result.andThen_ok, run_neq_struct, run_equalSl s w, Bool.not_true]
theorem exec_eqlSl {a : Act} {o : Oper} {w : World} {T' : TypeId} (s : Sl) (u v : Operand) (ho : o.op = .binOp .eql 26 u v T') (hu : a.eval u = .agg #[.int .i64 s.f, .int .i64 s.a.t, .bool s.a.g, .int .i64 s.b.t, .bool s.b.g]) (hv : a.eval v = .agg #[.int .i64 s.f, .int .i64 s.a.t, .bool s.a.g, .int .i64 s.b.t, .bool s.b.g]) : (execOp a.eval o).run Try.prog w = .ok (.value (.bool true)) w := by
  unfold execOp
  simp only [ho, hu, hv, Sem.run_bind, Sem.run_pure, run_eqGuard_agg w .eql _ u v _ _ (show Try.prog.eqGuardType Try.prog.depth 26 = false by kernel_rfl), Result.andThen_ok, run_eql_struct, run_equalSl s w]
end Go.Proofs.Ytagppgdigabbmaa.N
