/-
  The code of layer 13 (sha256): mix.
-/
import Derived.Test.YthcnnglpncblaaaShaCode3
namespace Go.Proofs.Ythcnnglpncblaaa
open Go.RowKit
set_option linter.unusedVariables false
set_option maxRecDepth 8192

/-- A state whose first k words were added. -/
def plusTo (s q : S8) (k : Nat) : List Nat := (s.plus q).list.take k ++ s.list.drop k
theorem list8 (s : S8) : s.list.length = 8 := rfl
theorem not32 (e : Nat) (h : e < 4294967296) : 4294967295 ^^^ e = 4294967295 - e := by
  have h1 : (~~~(BitVec.ofNat 32 e)).toNat = 4294967295 - e := by
    rw [BitVec.toNat_not, BitVec.toNat_ofNat]
    omega
  rw [← h1, ← BitVec.allOnes_xor, BitVec.toNat_xor, BitVec.toNat_allOnes, BitVec.toNat_ofNat, Nat.mod_eq_of_lt (show e < 2 ^ 32 from h)]
/-- 'a[i]' of an array of words by value. -/
theorem run_indexA {P : Program} {w : World} (ty e : TypeId) (m : Nat) (cs : Array Value) (k ek : IntKind) (i : Nat) (z : Int) (hu : P.underlying ty = some (.array m e)) (hue : P.underlying e = some (.int ek)) (he : (P.info? e).map (·.size) = some 1) (hi : i < m) (hv : cs[i]? = some (.int ek z)) :
    (Instr.index ty (.agg cs) (.int k (i : Int))).run P w = .ok (.int ek z) w := by
  have h1 : (0 : Int) ≤ (i : Int) ∧ (i : Int) < (m : Int) := by omega
  obtain ⟨inf, hq, hs⟩ := Option.map_eq_some_iff.1 he
  simp [Instr.index, asIntOf, run_underlying hu, run_underlying hue, sizeOf, typeInfo, hq, hs, h1, part, isAgg, hv, go_sem]
  omega
theorem wpList_indexA {P : Program} {ops : Array Oper} {rest : List Oper} {o : Oper} {a : Act} {w : World} {Q : Exit → Act → World → Prop} (hgd : o.guard = none) (ty : TypeId) (x y : Operand) (ho : o.op = .index ty x y)
    (cs : Array Value) (k : IntKind) (i : Nat) (hx : a.eval x = .agg cs) (hy : a.eval y = .int k (i : Int)) {e : TypeId} {m : Nat} {ek : IntKind} {z : Int} (hu : P.underlying ty = some (.array m e)) (hue : P.underlying e = some (.int ek)) (he : (P.info? e).map (·.size) = some 1) (hi : i < m) (hv : cs[i]? = some (.int ek z))
    (h : wpList P ops Q rest (a.put o.dst (.int ek z)) w) : wpList P ops Q (o :: rest) a w :=
  wpList_plain hgd fun _ hK => by
    unfold Oper.wp execOp
    simp only [ho, hx, hy, Sem.run_bind, Sem.run_pure, Result.andThen_ok, run_indexA ty e m cs k ek i z hu hue he hi hv]
    exact hK _ _ h
end Go.Proofs.Ythcnnglpncblaaa
