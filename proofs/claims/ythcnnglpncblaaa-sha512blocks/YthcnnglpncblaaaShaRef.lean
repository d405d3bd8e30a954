/-
  Layer 13's reference (casemateref13): power, shr, rotr, xor, and, not, three, digits, Times, Greater, above, frac give what the plain functions give; nothing old turns.
-/
import Derived.Test.YthcnnglpncblaaaShaCode
import Derived.Test.YthcnnglpncblaaaShaBig
namespace Go.Proofs.Ythcnnglpncblaaa
open Go.RowKit
set_option linter.unusedVariables false
set_option maxRecDepth 8192

theorem quietW {P : Program} {f : FuncId} {args : Array Value} {w : World} {n : Nat} {v : Value}
    (h : Calls P f args (w.drewN n) fun e w' => e = .returned v ∧ w.drewN n = w') : Calls P f args (w.drewN n) fun e w'' => e = .returned v ∧ ∃ m, w'' = w.drewN m :=
  h.mono fun _ _ ⟨he, hm⟩ => ⟨he, n, hm.symm⟩

end Go.Proofs.Ythcnnglpncblaaa
